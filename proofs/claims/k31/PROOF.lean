import PyProof.Rows.All
import Wide.All
import OpenK.AllK
import PySem.Challenge.RW_handsapart_k31_whole_names_in_use
open PySem.W (Frag)
open Option (bind_eq_some_iff map_eq_some_iff)
set_option Elab.async false
set_option linter.all false
set_option maxRecDepth 100000
set_option maxHeartbeats 4000000
theorem dK{p:Prop}(h:p:=by decide +kernel):p:=h
section
namespace L2
open PySem PySem.Spec PyProof.Rows
noncomputable abbrev Key:=Sum Int Str
noncomputable def IA:Key->Value->Bool
 | .inl k,v=>Value.isInt k v
 | .inr x,v=>Value.isStrOf x v
noncomputable def YZ(w:World):Key->Int
 | .inl k=>hashInt k
 | .inr x=>hashStr w x
theorem Bo:∀{k:Key} {v:Value},IA k v=true->(∃i t,k=Sum.inl i/\v=Value.int i t)\/(∃x t,k=Sum.inr x/\v=Value.str x t)
 | .inl i,v,h=>by
  obtain⟨t,e⟩:=Value.isInt_shape (k:=i) (v:=v) h;exact .inl ⟨i,t,rfl,e⟩
 | .inr x,v,h=>by
  obtain⟨t,e⟩:=Value.isStrOf_shape (x:=x) (v:=v) h;exact .inr ⟨x,t,rfl,e⟩
theorem OT(i:Int)(t:Tok):IA (.inl i) (.int i t)=true:=by simp[IA,Value.isInt]
theorem OU(x:Str)(t:Tok):IA (.inr x) (.str x t)=true:=by simp[IA,Value.isStrOf]
theorem VV(a b:Int):decide ((Sum.inl a:Key)=Sum.inl b)=(a==b):=by
 by_cases e:a=b
 .subst e; simp
 .have h:¬(Sum.inl a:Key)=Sum.inl b:=fun q=>e (Sum.inl.inj q)
  rw[decide_eq_false h];exact(beq_eq_false_iff_ne.mpr e).symm
theorem VY(a b:Str):decide ((Sum.inr a:Key)=Sum.inr b)=decide (a=b):=by
 by_cases e:a=b
 .subst e; simp
 .have h:¬(Sum.inr a:Key)=Sum.inr b:=fun q=>e (Sum.inr.inj q)
  rw[decide_eq_false h,decide_eq_false e]
theorem VW(a:Int)(b:Str):decide ((Sum.inl a:Key)=Sum.inr b)=false:=decide_eq_false (fun q=>nomatch q)
theorem VX(a:Str)(b:Int):decide ((Sum.inr a:Key)=Sum.inl b)=false:=decide_eq_false (fun q=>nomatch q)
noncomputable def B6(prog:Program)(w:World):PySem.KeyKind prog w Key where
 is:=IA
 hash:=YZ w
 inj:=fun v a b ha hb=>by
  rcases Bo ha with ⟨i,t,rfl,rfl⟩|⟨x,t,rfl,rfl⟩
  .rcases Bo hb with ⟨j,u,rfl,e⟩|⟨y,u,rfl,e⟩
   .injection e with e1 _; rw[e1]
   .exact nomatch e
  .rcases Bo hb with ⟨j,u,rfl,e⟩|⟨y,u,rfl,e⟩
   .exact nomatch e
   .injection e with e1 _; rw[e1]
 byValue:=fun k v h=>by
  rcases Bo h with ⟨i,t,rfl,rfl⟩|⟨x,t,rfl,rfl⟩<;>rfl
 pyHash:=fun hv h=>by
  rcases Bo hv with ⟨i,t,rfl,rfl⟩|⟨x,t,rfl,rfl⟩
  .exact wpAny_pyHash_int h
  .exact wpAny_pyHash_str h
 eqBool:=fun hu hv h=>by
  rcases Bo hu with ⟨i,t,rfl,rfl⟩|⟨x,t,rfl,rfl⟩
  .rcases Bo hv with ⟨j,u,rfl,rfl⟩|⟨y,u,rfl,rfl⟩
   .rw[VV] at h; exact wpAny_eqBool_int h
   .rw[VW] at h; exact SeqAt.EqAt.int_str i t y u _ _ _ _ h
  .rcases Bo hv with ⟨j,u,rfl,rfl⟩|⟨y,u,rfl,rfl⟩
   .rw[VX] at h; exact SeqAt.EqAt.str_int x t j u _ _ _ _ h
   .rw[VY] at h; exact wpAny_eqBool_str h
 «strs»:=fun k x t v h=>by
  rcases Bo h with ⟨i,u,rfl,e⟩|⟨y,u,rfl,e⟩
  .exact nomatch e
  .injection e with e1 _
   subst e1;cases v<;>rfl
theorem LH(prog:Program)(w:World)(i:Int)(t:Tok):(B6 prog w).is (.inl i) (.int i t)=true:=OT i t
theorem LJ(prog:Program)(w:World)(x:Str)(t:Tok):(B6 prog w).is (.inr x) (.str x t)=true:=OU x t
end L2
namespace L2
open PySem PySem.Spec PyProof.Rows
inductive V where
 | non|bl (b:Bool)|int (i:Int)|str (x:Str)|byt (b:Array UInt8)|flt (b:UInt64)|ref (a:Addr)|ty (n:String)
 deriving DecidableEq
noncomputable def RelV:V->Value->Prop
 | .non,u=>u=Value.none
 | .bl b,u=>u=Value.bool b
 | .int i,u=>∃t,u=Value.int i t
 | .str x,u=>∃t,u=Value.str x t
 | .byt b,u=>∃t,u=Value.bytes b t
 | .flt b,u=>∃t,u=Value.float b t
 | .ref a,u=>u=Value.ref a
 | .ty n,u=>u=Value.type n
noncomputable abbrev Vals:List V->List Value->Prop:=Paired RelV
theorem Vals.length{xs:List V}{us:List Value}(r:Vals xs us):xs.length=us.length:=Paired.length r
theorem Vals.get:∀{xs:List V} {us:List Value} {i:Nat} {x:V},Vals xs us->xs[i]? = some x->∃u,us[i]? = some u/\RelV x u
 | _,_,_,_,.nil,e=>by simp at e
 | _,_,0,_,.cons r _,e=>by simp at e; subst e; exact⟨_,rfl,r⟩
 | _,_,i+1,x,.cons _ t,e=>by
  obtain⟨u,h1,h2⟩:=Vals.get (i:=i) (x:=x) t (by simpa using e);exact⟨u,by simpa using h1,h2⟩
theorem Vals.set{x:V}{u:Value}(r:RelV x u):∀{xs:List V} {us:List Value} (i:Nat),Vals xs us->Vals (xs.set i x) (us.set i u)
 | _,_,_,.nil=>.nil
 | _,_,0,.cons _ t=>.cons r t
 | _,_,i+1,.cons q t=>.cons q (Vals.set r i t)
theorem Vals.append{xs ys:List V}{us ws:List Value}(h:Vals xs us)(s:Vals ys ws):Vals (xs++ys) (us++ws):=by
 induction h with
 | nil=>exact s
 | cons r t ih=>exact .cons r ih
noncomputable def Ii:Option V->Option Value->Prop
 | some v,some u=>RelV v u
 | none,none=>True
 | _,_=>False
noncomputable def KV{κ:Type}:List (κ×V)->List (κ×Value)->Prop:=Paired fun(p : κ×V) (q : κ×Value)=>p.1=q.1/\RelV p.2 q.2
noncomputable def kV:Key->V
 | .inl i=>.int i
 | .inr x=>.str x
inductive D where
 | non|bl (b:Bool)|int (i:Int)|str (x:Str)|lst (ds:List D)|tup (ds:List D)
mutual
noncomputable def eqS:D->D->Bool
 | .non,.non=>true
 | .bl a,.bl b=>a==b
 | .int a,.int b=>a==b
 | .str a,.str b=>a==b
 | .lst xs,.lst ys=>MF xs ys
 | .tup xs,.tup ys=>MF xs ys
 | _,_=>false
noncomputable def MF:List D->List D->Bool
 | [],[]=>true
 | x::xs,y::ys=>eqS x y&&MF xs ys
 | _,_=>false
end
mutual
theorem Ll:∀d,eqS d d=true
 | .non=>rfl
 | .bl a=>by show(a==a)=true; exact beq_self_eq_true a
 | .int a=>by show(a==a)=true; exact beq_self_eq_true a
 | .str a=>by show(a==a)=true; exact beq_self_eq_true a
 | .lst xs=>Hv xs
 | .tup xs=>Hv xs
theorem Hv:∀ds,MF ds ds=true
 | []=>rfl
 | d::ds=>by show(eqS d d&&MF ds ds)=true; rw[Ll d,Hv ds]; rfl
end
mutual
theorem PU:∀(d e:D),eqS d e=true->d=e
 | .non,e,h=>by cases e<;>first|rfl|exact nomatch h
 | .bl a,e,h=>by
  cases e with
  | bl b=>rw[eq_of_beq (show(a==b)=true from h)]
  | _=>exact nomatch h
 | .int a,e,h=>by
  cases e with
  | int b=>rw[eq_of_beq (show(a==b)=true from h)]
  | _=>exact nomatch h
 | .str a,e,h=>by
  cases e with
  | str b=>rw[eq_of_beq (show(a==b)=true from h)]
  | _=>exact nomatch h
 | .lst xs,e,h=>by
  cases e with
  | lst ys=>rw[Ko xs ys h]
  | _=>exact nomatch h
 | .tup xs,e,h=>by
  cases e with
  | tup ys=>rw[Ko xs ys h]
  | _=>exact nomatch h
theorem Ko:∀(xs ys:List D),MF xs ys=true->xs=ys
 | [],ys,h=>by cases ys with|nil=>rfl|cons _ _=>exact nomatch h
 | x::xs,ys,h=>by
  cases ys with
  | nil=>exact nomatch h
  | cons y ys =>
   have h':(eqS x y&&MF xs ys)=true:=h;rw[Bool.and_eq_true] at h';rw[PU x y h'.1,Ko xs ys h'.2]
end
noncomputable instance:DecidableEq D:=fun a b=>decidable_of_iff (eqS a b=true) ⟨PU a b,fun e=>e ▸ Ll a⟩
mutual
noncomputable def Dv(w:World):D->Int
 | .int i=>hashInt i
 | .str x=>hashStr w x
 | .tup ds=>reduceHash (Builtin.Tuple.tupleHashOf (Hx w ds))
 | .non=>0xFCA86420
 | .bl _=>0
 | .lst _=>0
noncomputable def Hx(w:World):List D->List Int
 | []=>[]
 | d::ds=>Dv w d::Hx w ds
end
inductive HO where
 /-- a list -/
 | lst (xs:List V)
 /-- a tuple (never changes) -/
 | tup (xs:List V)
 /-- a dict whose keys are ints and texts; one whose keys are tuples of ints and texts (the empty one is both) -/
 | dK (kvs:List (Key×V))|dT (kvs:List (D×V))
 /-- a set of ints: its members,its size -/
 | set (S:Int->Bool) (n:Nat)
 /-- an instance of the class at C,its dict at dx,its attributes -/
 | ins (C dx:Addr) (fs:List (Str×V))
 /-- the dict of the instance at x -/
 | own (x:Addr)
 /-- the dict of an exception -/
 | xd (fs:List (Str×V))
 /-- a bound method,f of x -/
 | met (f x:Addr)
 /-- a range object lo,lo+1,.. below hi -/
 | rng (lo hi:Int)
 /-- a thing that is known to the object (the script; a dict while a loop walks it): read,never written while it is so -/
 | frz (o:Obj) (u:HO)
 /-- a code object's table -/
 | tbl (ps:Array Value)
 /-- any other thing,by what is true of its one object (a def of one's own: SetO a S n:=HO.ext fun h=>..) -/
 | ext (φ : Heap->Prop)
noncomputable abbrev Hp:=Addr->Option HO
noncomputable def upd(H:Hp)(a:Addr)(o:HO):Hp:=fun b=>if b=a then some o else H b
theorem AE{H:Hp}{a:Addr}{o:HO}:upd H a o a=some o:=by unfold upd; rw[if_pos rfl]
theorem AF{H:Hp}{a b:Addr}{o:HO}(h:b≠a):upd H a o b=H b:=by unfold upd; rw[if_neg h]
theorem X6{H:Hp}{a b:Addr}{o u:HO}(h:H a=some o)(h':H b=some u)(d:o≠u):a≠b:=by
 intro e; subst e; rw[h] at h'; exact d (Option.some.inj h')
theorem CT{H:Hp}{a b:Addr}{o:HO}(h:H a=some o)(h':H b=none):a≠b:=by
 intro e; subst e; rw[h] at h'; cases h'
inductive Sh:Nat->D->Prop where
 | non {n:Nat}:Sh n .non
 | bl {n:Nat} (b:Bool):Sh n (.bl b)
 | int {n:Nat} (i:Int):Sh n (.int i)
 | str {n:Nat} (x:Str):Sh n (.str x)
 | lst {n:Nat} {ds:List D} (h:∀d∈ds,Sh n d):Sh (n+1) (.lst ds)
 | tup {n:Nat} {ds:List D} (h:∀d∈ds,Sh n d):Sh (n+1) (.tup ds)
inductive KR (H:Hp):V->D->Prop where
 | non:KR H .non .non
 | int (i:Int):KR H (.int i) (.int i)
 | str (x:Str) (hx:x.length<=sizeLine):KR H (.str x) (.str x)
 | tup {a:Addr} {vs:List V} {ds:List D} (h:H a=some (.tup vs)) (hz:vs.length<=sizeLine) (hl:vs.length=ds.length) (hr:∀(i:Nat) v d,vs[i]? = some v->ds[i]? = some d->KR H v d):KR H (.ref a) (.tup ds)
theorem KR.mono{H H':Hp}(t:∀b xs,H b=some (.tup xs)->H' b=some (.tup xs)){v:V}{d:D}(r:KR H v d):KR H' v d:=by
 induction r with
 | non=>exact .non
 | int i=>exact .int i
 | str x hx=>exact .str x hx
 | tup h hz hl _ ih=>exact .tup (t _ _ h) hz hl ih
noncomputable def HS(w:World)(x:D×Value×Value):DictEntry:=⟨Dv w x.1,x.2.1,x.2.2⟩
noncomputable abbrev A8:Str := "law"
noncomputable abbrev Ib:Str := "law.<locals>.<lambda>"
noncomputable def XN(H:Hp)(h:Heap)(a:Addr)(ps:Array Value):Prop:=∃qs:Array Value,h.get? a=some { cls:=.none,data:=.fields qs }/\TriplesOk qs.toList /\
 ∀pos c,codeAmong pos qs.toList=some c->∃c' oc vs t q,c=.ref c'/\H c'=some (.own a)/\h.get? c'=some oc/\oc.data=.fields vs/\vs[1]? = some (.str q t)/\ps[0]? = some (.str q 0)
noncomputable def OA(K:Frag)(H:Hp):Prop:=∀c P,PySem.W.tabIn K A8=some (c,P)->∃ps,H P=some (.tbl ps)/\ps[0]? = some (.str Ib 0)
section
variable(P:Program)(w:World)
noncomputable def Bg(H:Hp)(h:Heap)(a:Addr):HO->Prop
 | .lst xs=>xs.length<=sizeLine/\∃(its:List Value) (n:Nat),Vals xs its/\h.get? a=some { cls:=.type "list",data:=.seq its.toArray n }
 | .tup xs=>xs.length<=sizeLine/\∃its:List Value,Vals xs its/\IsTup h a its.toArray
 | .dK kvs=>kvs.length<=sizeLine/\(a==sysModules)=false/\∃vs,KV kvs vs/\h.DictOf (B6 P w) a vs
 | .dT kvs=>kvs.length<=sizeLine/\(a==sysModules)=false/\∃xs:List (D×Value×Value),
   Paired (fun(p:D×V) (q:D×Value×Value)=>p.1=q.1/\(Sh 8 p.1/\∃y,KR H y p.1/\RelV y q.2.1)/\RelV p.2 q.2.2) kvs xs /\
   ∃o es ep,h.get? a=some o/\o.ExactDict/\o.data=.dict es ep/\es.toList=xs.map (HS w)/\(xs.map (·.1)).Nodup
 | .set S n=>h.SetOf (intKind P w) a S n
 | .ins C dx fs=>H dx=some (.own a)/\fs.length<=1000/\dx≠a/\h.get? a=some (PySem.W.instObj C dx) /\
   ∃mA,h.Ns1 dx mA/\(∀f,Ii (fs.lookup f) (mA f))/\PySem.Within mA (fs.map (·.1))
 | .own _=>∃o,h.get? a=some o
 | .xd fs=>∃mA,h.Ns1 a mA/\∀f,Ii (fs.lookup f) (mA f)
 | .rng lo hi=>∃t u v,h.get? a=some { cls:=.type "range",data:=.fields #[.int lo t,.int hi u,.int 1 v] }
 | .frz o u=>h.get? a=some o/\Bg H h a u
 | .tbl ps=>XN H h a ps
 | .met f x=>h.get? a=some (PySem.W.methodObj (.ref f) (.ref x))
 | .ext φ=>φ h/\(∃o,h.get? a=some o)/\∀h1 h2:Heap,φ h1->(∀o,h1.get? a=some o->h2.get? a=some o) -> φ h2
noncomputable def HOk(H:Hp)(h:Heap):Prop:=∀a o,H a=some o->Bg P w H h a o
end
section
variable{P:Program}{w:World}{H H':Hp}{h h':Heap}{a:Addr}{o:HO}
theorem Bg.lt(x:Bg P w H h a o):a<h.objs.size:=by
 cases o with
 | lst xs=>obtain⟨_,_,_,_,e⟩:=x; exact Heap.lt_size e
 | tup xs=>obtain⟨_,_,_,p⟩:=x; exact p.lt
 | dK kvs=>obtain⟨_,_,_,_,o,_,_,e,_⟩:=x; exact Heap.lt_size e
 | dT kvs=>obtain⟨_,_,_,_,o,_,_,e,_⟩:=x; exact Heap.lt_size e
 | set S n=>obtain⟨o,_,_,_,e,_⟩:=x; exact Heap.lt_size e
 | ins C dx fs=>obtain⟨_,_,_,e,_⟩:=x; exact Heap.lt_size e
 | own y=>obtain⟨_,e⟩:=x; exact Heap.lt_size e
 | xd fs=>obtain⟨_,⟨_,_,_,e,_⟩,_⟩:=x; exact Heap.lt_size e
 | rng lo hi=>obtain⟨_,_,_,e⟩:=x; exact Heap.lt_size e
 | frz ob u=>obtain⟨e,_⟩:=x; exact Heap.lt_size e
 | tbl ps=>obtain⟨_,e,_⟩:=x; exact Heap.lt_size e
 | met f y=>exact Heap.lt_size (show h.get? a=some _ from x)
 | ext φ=>obtain⟨_,⟨_,e⟩,_⟩:=x; exact Heap.lt_size e
theorem Paired.mapP{α β:Type}{F G:α -> β -> Prop}{l₁:List α}{l₂:List β}(h:Paired F l₁ l₂)(f:∀a b,F a b->G a b):Paired G l₁ l₂:=by
 induction h with
 | nil=>exact .nil
 | cons r t ih=>exact .cons (f _ _ r) ih
theorem Bg.stay(x:Bg P w H h a o)(k:∀b u,(b=a\/H b=some (.own a))->h.get? b=some u->h'.get? b=some u)(ho:∀b,H b=some (.own a)->H' b=some (.own a))(ht:∀b xs,H b=some (.tup xs)->H' b=some (.tup xs)):Bg P w H' h' a o:=by
 induction o with
 | lst xs=>obtain⟨z,its,n,r,e⟩:=x; exact⟨z,its,n,r,k _ _ (.inl rfl) e⟩
 | tup xs=>obtain⟨z,its,r,ob,e,c⟩:=x; exact⟨z,its,r,ob,k _ _ (.inl rfl) e,c⟩
 | dK kvs=>obtain⟨z,y,vs,r,ob,es,ep,e,c⟩:=x; exact⟨z,y,vs,r,ob,es,ep,k _ _ (.inl rfl) e,c⟩
 | dT kvs =>
  obtain⟨z,y,xs,r,ob,es,ep,e,c⟩:=x;exact⟨z,y,xs,Paired.mapP r fun p q z=>⟨z.1,⟨z.2.1.1,z.2.1.2.imp fun y yy=>⟨yy.1.mono ht,yy.2⟩⟩,z.2.2⟩,ob,es,ep,k _ _ (.inl rfl) e,c⟩
 | set S n=>obtain⟨ob,es,ep,t,e,c⟩:=x; exact⟨ob,es,ep,t,k _ _ (.inl rfl) e,c⟩
 | ins C dx fs =>
  obtain⟨d,z,ne,e,mA,⟨od,es,ep,e2,c⟩,r⟩:=x;exact⟨ho _ d,z,ne,k _ _ (.inl rfl) e,mA,⟨od,es,ep,k _ _ (.inr d) e2,c⟩,r⟩
 | own y=>obtain⟨ob,e⟩:=x; exact⟨ob,k _ _ (.inl rfl) e⟩
 | xd fs=>obtain⟨mA,⟨od,es,ep,e,c⟩,r⟩:=x; exact⟨mA,⟨od,es,ep,k _ _ (.inl rfl) e,c⟩,r⟩
 | rng lo hi=>obtain⟨t,u,v,e⟩:=x; exact⟨t,u,v,k _ _ (.inl rfl) e⟩
 | frz ob u ih=>obtain⟨e,q⟩:=x; exact⟨k _ _ (.inl rfl) e,ih q⟩
 | tbl ps =>
  obtain⟨qs,e,tr,f⟩:=x;refine⟨qs,k _ _ (.inl rfl) e,tr,fun pos c hc=>?_⟩;obtain⟨c',oc,vs,t,q,e1,e2,e3,e4⟩:=f pos c hc;exact⟨c',oc,vs,t,q,e1,ho _ e2,k _ _ (.inr e2) e3,e4⟩
 | met f y =>
  have e:h.get? a=some (PySem.W.methodObj (.ref f) (.ref y)):=x;show h'.get? a=some (PySem.W.methodObj (.ref f) (.ref y));exact k a _ (.inl rfl) e
 | ext φ=>obtain⟨p,⟨o,e⟩,st⟩:=x; exact⟨st _ _ p fun o q=>k _ _ (.inl rfl) q,⟨o,k _ _ (.inl rfl) e⟩,st⟩
theorem HOk.lt(x:HOk P w H h)(e:H a=some o):a<h.objs.size:=(x a o e).lt
theorem HOk.fresh(x:HOk P w H h)(e:h.objs.size<=a):H a=none:=by
 cases q:H a with
 | none=>rfl
 | some u=>exact absurd (Nat.lt_of_lt_of_le (x.lt q) e) (Nat.lt_irrefl _)
theorem HOk.kept(x:HOk P w H h)(k:∀b u,h.get? b=some u->h'.get? b=some u):HOk P w H h':=fun a o e =>
 (x a o e).stay (fun b u _ q=>k b u q) (fun _ q=>q) fun _ _ q=>q
theorem HOk.laid(x:HOk P w H h)(k:∀b u,h.get? b=some u->h'.get? b=some u)(hp:h.objs.size<=a)(new:Bg P w (upd H a o) h' a o):HOk P w (upd H a o) h':=fun b u e=>by
 have hn:=x.fresh hp;by_cases hb:b=a
 .subst hb; rw[AE] at e; cases e; exact new
 .rw[AF hb] at e
  exact(x b u e).stay (fun c v _ q=>k c v q) (fun c q=>by rw[AF (CT q hn)]; exact q) fun c xs q=>by rw[AF (CT q hn)]; exact q
end
noncomputable def Rd(H:Hp)(a:Addr)(u:HO):Prop:=H a=some u\/∃o,H a=some (.frz o u)
theorem Rd.ok{P:Program}{w:World}{H:Hp}{h:Heap}{a:Addr}{u:HO}(r:Rd H a u)(x:HOk P w H h):Bg P w H h a u:=by
 rcases r with r|⟨o,r⟩
 .exact x a u r
 .obtain⟨_,q⟩:=x a _ r
  exact q
noncomputable def Mut:Option HO->Prop
 | some (.lst _)=>True
 | some (.dK _)=>True
 | some (.dT _)=>True
 | some (.set _ _)=>True
 | some (.ins _ _ _)=>True
 | some (.ext _)=>True
 | _=>False
section
variable{P:Program}{w:World}{H:Hp}{h h':Heap}{x e:Addr}{o':HO}
theorem HOk.write(ok:HOk P w H h)(mu:Mut (H x))(he:e=x\/H e=some (.own x))(k:∀b u,b≠e->h.get? b=some u->h'.get? b=some u)(heo:∃u,h'.get? e=some u)(new:Bg P w (upd H x o') h' x o'):HOk P w (upd H x o') h':=fun b u q=>by
 have nown:∀c y,H c=some (.own y)->c≠x:=fun c y r z=>by subst z; rw[r] at mu; exact mu
 have ntup:∀c xs,H c=some (.tup xs)->c≠x:=fun c xs r z=>by subst z; rw[r] at mu; exact mu
 by_cases hb:b=x
 .subst hb; rw[AE] at q; cases q; exact new
 .rw[AF hb] at q
  by_cases hbe:b=e
  .have q':H b=some (.own x):=by
    rcases he with z|z
    .exact absurd (hbe.trans z) hb
    .rw[hbe]; exact z
   rw[q] at q'; cases q';obtain⟨v,hv⟩:=heo;exact⟨v,by rw[hbe]; exact hv⟩
  .refine(ok b u q).stay (fun c v hc r=>k c v ?_ r) (fun c r=>by rw[AF (nown c b r)]; exact r) fun c xs r=>by rw[AF (ntup c xs r)]; exact r
   rcases hc with rfl|hc
   .exact hbe
   .rintro rfl
    rcases he with z|z
    .exact nown c b hc z
    .rw[hc] at z; cases z; exact hb rfl
end
structure Un (fs ex:List Addr) (H H':Hp) (h h':Heap):Prop where
 keep:∀b o,h.get? b=some o->H b=none->b∉fs->b∉ex->h'.get? b=some o
 slot:∀b o,h.get? b=some o->H b=none->b∈fs->b∉ex->∃sl,h'.get? b=some { o with slots:=sl }
 free:∀b o,h.get? b=some o->H b=none->b∉ex->H' b=none
 there:∀b o,h.get? b=some o->b∉ex->∃o',h'.get? b=some o'
 tups:∀b xs,H b=some (.tup xs)->H' b=some (.tup xs)
 frzs:∀b o u,H b=some (.frz o u)->H' b=some (.frz o u)
 tbls:∀b ps,H b=some (.tbl ps)->∃more,H' b=some (.tbl (ps++more))
section
variable{fs fs' ex ex':List Addr}{H H1 H2:Hp}{h h1 h2 h':Heap}{a x e:Addr}{o:HO}
theorem Un.any(u:Un fs ex H H1 h h1){b:Addr}{ob:Obj}(q:h.get? b=some ob)(n:H b=none)(hx:b∉ex):∃sl,h1.get? b=some { ob with slots:=sl }:=by
 by_cases hb:b∈fs
 .exact u.slot b ob q n hb hx
 .exact⟨ob.slots,u.keep b ob q n hb hx⟩
theorem Un.kept(k:∀b u,h.get? b=some u->h'.get? b=some u):Un fs ex H H h h':=
 ⟨fun b ob q _ _ _=>k b ob q,fun b ob q _ _ _=>⟨ob.slots,k b ob q⟩,fun _ _ _ n _=>n,fun b ob q _=>⟨ob,k b ob q⟩,fun _ _ q=>q,fun _ _ _ q=>q,fun _ ps q=>⟨#[],by rw[q]; simp⟩⟩
theorem Un.refl:Un fs ex H H h h:=Un.kept fun _ _ q=>q
theorem Un.laid(k:∀b u,h.get? b=some u->h'.get? b=some u)(hp:h.objs.size<=a)(hn:H a=none):Un fs ex H (upd H a o) h h' where
 keep:=fun b u q _ _ _=>k b u q
 slot:=fun b u q _ _ _=>⟨u.slots,k b u q⟩
 free:=fun b u q n _=>by rw[AF (Nat.ne_of_lt (Nat.lt_of_lt_of_le (Heap.lt_size q) hp))]; exact n
 there:=fun b u q _=>⟨u,k b u q⟩
 tups:=fun b xs q=>by rw[AF (CT q hn)]; exact q
 frzs:=fun b u xs q=>by rw[AF (CT q hn)]; exact q
 tbls:=fun b ps q=>⟨#[],by rw[AF (CT q hn),q]; simp⟩
theorem Un.write(mu:Mut (H x))(he:e=x\/H e=some (.own x))(k:∀b u,b≠e->h.get? b=some u->h'.get? b=some u)(heo:∃u,h'.get? e=some u):Un fs ex H (upd H x o) h h':=by
 have hx:∀b,H b=none->b≠x:=fun b n z=>by subst z; rw[n] at mu; exact mu
 have hb:∀b,H b=none->b≠e:=fun b n z=>by
  subst z;rcases he with r|r
  .exact hx b n r
  .rw[n] at r; cases r
 have hm:∀b u,H b=some u->¬Mut (some u)->b≠x:=fun b u q nm z=>by subst z; rw[q] at mu; exact nm mu
 refine⟨fun b u q n _ _=>k b u (hb b n) q,fun b u q n _ _=>⟨u.slots,k b u (hb b n) q⟩,fun b u q n _=>by rw[AF (hx b n)]; exact n,fun b u q _=>?_,
  fun b xs q=>by rw[AF (hm b _ q fun z=>z)]; exact q,fun b u xs q=>by rw[AF (hm b _ q fun z=>z)]; exact q,fun b ps q=>⟨#[],by rw[AF (hm b _ q fun z=>z),q]; simp⟩⟩
 by_cases hbe:b=e
 .subst hbe; exact heo
 .exact⟨u,k b u hbe q⟩
end
noncomputable def trk(h:Heap)(H:Hp):List Addr:=(List.range h.objs.size).filter fun a=>(H a).isSome
noncomputable def Jw(h:Heap)(H:Hp):Heap:=PySem.W.hideAll h (trk h H)
theorem OM(h:Heap)(H:Hp):(Jw h H).objs.size=h.objs.size:=PySem.W.hideAll_size _ _
theorem Qa{h:Heap}{H:Hp}{b:Addr}{o:Obj}(e:h.get? b=some o)(n:H b=none):(Jw h H).get? b=some o:=
 PySem.W.hideAll_get _ e fun hm=>by
  have q:(H b).isSome=true:=(List.mem_filter.mp hm).2;rw[n] at q; simp at q
theorem Tj{h:Heap}{H:Hp}{b:Addr}{o:Obj}(e:(Jw h H).get? b=some o):h.get? b=some o/\H b=none:=by
 have e':h.get? b=some o:=PySem.W.of_hideAll (trk h H) e;refine⟨e',?_⟩;cases q:H b with
 | none=>rfl
 | some x =>
  have hm:b∈trk h H:=List.mem_filter.mpr ⟨List.mem_range.mpr (Heap.lt_size e'),by simp[q]⟩;have z:(Jw h H).get? b=none:=PySem.W.hideAll_none (trk h H) hm;rw[z] at e; cases e
noncomputable def Sn(g h:Heap)(L:Addr):List (Addr×Obj):=(List.range h.objs.size).filterMap fun a=>if a=L\/(g.get? a).isSome=true then none else (h.get? a).map fun o=>(a,o)
noncomputable def rest(g h:Heap)(L d:Addr):List (Addr×Obj):=(Sn g h L).filter fun p=>decide (p.1≠d)
end L2
namespace L2
open PySem PySem.Spec PyProof.Rows
structure Mod (K:Frag) (mg:Str->Option Value) (base:Heap):Prop where
 kin:K.In base
 glob:base.Ns mainGlobals mg
 blt:∃mb,base.Ns builtinsNs mb/\∀x:Str,x ≠ "__name__" -> mb x=bootBuiltins x
 nolimit:base.NoLimit
 bmain:∃bm ob,mg "__builtins__" = some (.ref bm)/\bm≠builtinsNs/\base.get? bm=some ob/\ob.cls=.type "module" /\ ob.dict=some builtinsNs/\ob.data=.plain
structure Cx where
 prog:Program
 w:World
 K:Frag
 mg:Str->Option Value
 base:Heap
 A:Around
 N:List Str
 s₀:Shared
 H₀:Hp
 env:Env
 outer:List Env
 stack:List Env
 ex:List Addr
 fn:Str->Bool
 calm:Bool
 pn:List (Addr×Obj)
 xe:Value->Shared->Prop
noncomputable def frs(l:List Env):List Addr:=l.filterMap (·.frame)
noncomputable abbrev Cx.fs(X:Cx):List Addr:=frs X.outer
noncomputable def Vis(sc:Scope)(x:Str):Prop:=sc.names.lookup x=some .local\/sc.names.lookup x=some .cell\/sc.names.lookup x=some .free
noncomputable def Loc(sc:Scope)(x:Str):Prop:=sc.names.lookup x=some .local\/sc.names.lookup x=some .cell
noncomputable def Look(env:Env)(h:Heap)(m:Str->Option Value)(x:Str)(u:Value):Prop:=
 (env.kindOf x=some .local/\m x=some u)\/((env.kindOf x=some .cell\/env.kindOf x=some .free)/\∃c,env.cells.lookup x=some c/\h.IsCell c (some u))
structure Cx.Ok (X:Cx):Prop where
 mod:Mod X.K X.mg X.base
 kind:X.env.scope.kind=.function
 glob:X.env.globals=mainGlobals
 blt:X.env.builtins=builtinsNs
 above:X.s₀.heap.objs.size<=X.env.locals
 inj:∀x y c,X.env.cells.lookup x=some c->X.env.cells.lookup y=some c->x=y
 has:∀x,(X.env.kindOf x=some .cell\/X.env.kindOf x=some .free)->∃c,X.env.cells.lookup x=some c
 cab:∀x c,X.fn x=true->X.env.cells.lookup x=some c->X.s₀.heap.objs.size<=c
 hd:X.calm=true->X.A.handled=none
 frames:X.A.frames=some X.stack
 stk:X.stack=X.outer\/(X.stack=X.env::X.outer/\X.env.frame=some X.env.locals)
 exf:∀b∈X.ex,b≠X.env.locals/\∀x c,X.env.cells.lookup x=some c->c≠b
 bs:∀b o,X.base.get? b=some o->X.s₀.heap.get? b=some o/\X.H₀ b=none
 bsz:X.base.objs.size<=X.s₀.heap.objs.size
 noex:∀b o,X.base.get? b=some o->b∉X.ex
 exfs:∀b∈X.ex,b∉X.fs
 funs:X.s₀.heap.FunFrames X.base X.outer
 frf:∀b∈X.fs,X.H₀ b=none
 tb:OA X.K X.H₀
structure Inv (X:Cx) (pins:List (Addr×Obj)) (U:List (Option V)) (H:Hp) (s:Shared):Prop where
 ok:X.Ok
 os:s.os=X.s₀.os
 bare:AllBare s.gens
 base:Un X.fs X.ex X.H₀ H X.s₀.heap s.heap
 loc:∃m,s.heap.Ns X.env.locals m/\∀(i:Nat) (x:Str) (v:V),X.N[i]? = some x -> U[i]? = some (some v)->Vis X.env.scope x->∃u,RelV v u/\Look X.env s.heap m x u
 cell:∀x c,X.env.cells.lookup x=some c->∃v,s.heap.IsCell c v
 free:H X.env.locals=none
 freeC:∀x c,X.env.cells.lookup x=some c->H c=none
 pin:∀p∈X.pn++pins,s.heap.get? p.1=some p.2/\H p.1=none/\p.1≠X.env.locals/\p.1∉X.fs/\∀v,p.2.data≠.cell v
 hok:HOk X.prog X.w H s.heap
 len : U.length=X.N.length
section
variable{X:Cx}{pins:List (Addr×Obj)}{U:List (Option V)}{H H':Hp}{s:Shared}{h':Heap}
theorem Cx.Ok.nofr(ok:X.Ok){b:Addr}{o:Obj}(e:X.base.get? b=some o):b∉X.fs:=fun hb=>by
 have:=(ok.funs.mem hb).1;rw[e] at this; cases this
theorem OA.grow{K:Frag}{H H':Hp}(x:OA K H)(h:∀b ps,H b=some (.tbl ps)->∃more,H' b=some (.tbl (ps++more))):OA K H':=fun c P e=>by
 obtain⟨ps,e1,e2⟩:=x c P e;obtain⟨more,e3⟩:=h P ps e1;refine⟨ps++more,e3,?_⟩;have hl:0<ps.size:=by
  cases hs:ps[0]? with
  | none=>rw[hs] at e2; cases e2
  | some v=>exact(Array.getElem?_eq_some_iff.mp hs).1
 rw[Array.getElem?_append_left hl];exact e2
theorem Inv.tabs(I:Inv X pins U H s):OA X.K H:=I.ok.tb.grow I.base.tbls
theorem Inv.bs(I:Inv X pins U H s):∀b o,X.base.get? b=some o->s.heap.get? b=some o/\H b=none:=fun b o e =>
 ⟨I.base.keep b o (I.ok.bs b o e).1 (I.ok.bs b o e).2 (I.ok.nofr e) (I.ok.noex b o e),I.base.free b o (I.ok.bs b o e).1 (I.ok.bs b o e).2 (I.ok.noex b o e)⟩
theorem Inv.bk(I:Inv X pins U H s):∀b o,X.base.get? b=some o->s.heap.get? b=some o:=fun b o e=>(I.bs b o e).1
theorem Inv.mod(I:Inv X pins U H s):Mod X.K X.mg X.base:=I.ok.mod
theorem Inv.kIn(I:Inv X pins U H s):X.K.In s.heap:=I.ok.mod.kin.keeps I.bk
theorem Inv.lt(I:Inv X pins U H s):X.env.locals<s.heap.objs.size:=let⟨_,hn,_⟩:=I.loc; hn.lt
theorem Inv.sz(I:Inv X pins U H s):X.s₀.heap.objs.size<=s.heap.objs.size:=Nat.le_trans I.ok.above (Nat.le_of_lt I.lt)
theorem Inv.nofs(I:Inv X pins U H s){a:Addr}(h:s.heap.objs.size<=a):a∉X.fs:=fun hb=>by
 obtain⟨_,o,ho,_⟩:=I.ok.funs.mem hb;exact absurd (Nat.lt_of_lt_of_le (Heap.lt_size ho) (Nat.le_trans I.sz h)) (Nat.lt_irrefl _)
theorem Inv.cne(I:Inv X pins U H s):∀x c,X.env.cells.lookup x=some c->c≠X.env.locals:=fun x c e z=>by
 obtain⟨v,o,ho,hd⟩:=I.cell x c e;obtain⟨m,⟨o',es,ep,ho',hd',_⟩,_⟩:=I.loc;rw[z,ho'] at ho; cases ho; rw[hd'] at hd; cases hd
theorem Inv.funs(I:Inv X pins U H s):s.heap.FunFrames X.base X.outer:=by
 have all:∀(l:List Env),(∀b∈frs l,b∈X.fs)->X.s₀.heap.FunFrames X.base l->s.heap.FunFrames X.base l:=by
  intro l;induction l with
  | nil=>intro _ _; trivial
  | cons env r ih =>
   intro hs hl;obtain⟨hk,⟨L,o,hf,hn,ho,hd⟩,hr⟩:=hl;have hL:L∈X.fs:=hs L (by unfold frs; rw[List.filterMap_cons,hf]; exact List.mem_cons_self);obtain⟨sl,e⟩:=I.base.slot L o ho (I.ok.frf L hL) hL fun z=>I.ok.exfs L z hL;exact⟨hk,⟨L,_,hf,hn,e,hd⟩,ih (fun b hb=>hs b (by unfold frs; rw[List.filterMap_cons,hf]; exact List.mem_cons_of_mem _ hb)) hr⟩
 exact all X.outer (fun _ hb=>hb) I.ok.funs
theorem Inv.stack(I:Inv X pins U H s):s.heap.FunFrames X.base X.stack:=by
 rcases I.ok.stk with e|⟨e,hf⟩
 .rw[e]; exact I.funs
 .rw[e]
  obtain⟨m,hn,_⟩:=I.loc;refine .cons (by rw[I.ok.kind]; decide) hf hn ?_ I.funs;exact Heap.get?_none_of_le (Nat.le_trans I.ok.bsz I.ok.above)
theorem Inv.stkSub(I:Inv X pins U H s):∀b∈frs X.stack,b∈X.env.locals::X.fs:=fun b hb=>by
 rcases I.ok.stk with e|⟨e,hf⟩
 .rw[e] at hb; exact List.mem_cons_of_mem _ hb
 .rw[e] at hb
  unfold frs at hb;rw[List.filterMap_cons,hf] at hb;exact hb
theorem Inv.stkFree(I:Inv X pins U H s):∀b∈frs X.stack,H b=none:=fun b hb=>by
 rcases List.mem_cons.mp (I.stkSub b hb) with e|hb
 .rw[e]; exact I.free
 .obtain⟨_,o,ho,_⟩:=I.ok.funs.mem hb
  exact I.base.free b o ho (I.ok.frf b hb) fun z=>I.ok.exfs b z hb
theorem Inv.step{g':Array GenState}{t':Nat}{d':Drawn}{ch:List Addr}(I:Inv X pins U H s)(hch:∀b∈ch,(b∈X.ex\/X.s₀.heap.objs.size<=b)/\b≠X.env.locals/\(∀x c,X.env.cells.lookup x=some c->c≠b)/\∀p∈X.pn++pins,p.1≠b)(keep:∀b o,b≠X.env.locals->b∉X.fs->b∉ch->s.heap.get? b=some o->H b=none->h'.get? b=some o)(slot:∀b o,b≠X.env.locals->b∈X.fs->b∉ch->s.heap.get? b=some o->H b=none->∃sl,h'.get? b=some { o with slots:=sl })(free:∀b o,b∉ch->s.heap.get? b=some o->H b=none->H' b=none)(there:∀b o,b∉ch->s.heap.get? b=some o->∃o',h'.get? b=some o')(tups:∀b xs,H b=some (.tup xs)->H' b=some (.tup xs))(frzs:∀b o u,H b=some (.frz o u)->H' b=some (.frz o u))(tbls:∀b ps,H b=some (.tbl ps)->∃more,H' b=some (.tbl (ps++more)))(ns:∀m,s.heap.Ns X.env.locals m->h'.Ns X.env.locals m)(hok:HOk X.prog X.w H' h')(hg:AllBare g'):
  Inv X pins U H' { s with heap:=h',gens:=g',drawn:=d',toks:=t' }:=by
 have neL:∀b o,X.s₀.heap.get? b=some o->b≠X.env.locals:=fun b o e=>Nat.ne_of_lt (Nat.lt_of_lt_of_le (Heap.lt_size e) I.ok.above);have neC:∀b o,X.s₀.heap.get? b=some o->b∉X.ex->b∉ch:=fun b o e hx hb=>by
  rcases(hch b hb).1 with z|z
  .exact hx z
  .exact absurd (Nat.lt_of_lt_of_le (Heap.lt_size e) z) (Nat.lt_irrefl _)
 have cellK:∀x c,X.env.cells.lookup x=some c->∀v,s.heap.IsCell c v->h'.IsCell c v:=fun x c e v ⟨o,ho,hd⟩=>by
  have nch:c∉ch:=fun z=>(hch c z).2.2.1 x c e rfl;by_cases hc:c∈X.fs
  .obtain⟨sl,q⟩:=slot c o (I.cne x c e) hc nch ho (I.freeC x c e)
   exact⟨_,q,hd⟩
  .exact⟨o,keep c o (I.cne x c e) hc nch ho (I.freeC x c e),hd⟩
 refine⟨I.ok,I.os,hg,⟨fun b o e n hb hx=>?_,fun b o e n hb hx=>?_,fun b o e n hx=>?_,fun b o e hx=>?_,fun b xs e=>tups b xs (I.base.tups b xs e),fun b o xs e=>frzs b o xs (I.base.frzs b o xs e),fun b ps e=>?_⟩,?_,fun x c e=>?_,?_,fun x c e=>?_,fun p hp=>?_,hok,I.len⟩
 .exact keep b o (neL b o e) hb (neC b o e hx) (I.base.keep b o e n hb hx) (I.base.free b o e n hx)
 .obtain⟨sl,e1⟩:=I.base.slot b o e n hb hx
  obtain⟨sl',e2⟩:=slot b _ (neL b o e) hb (neC b o e hx) e1 (I.base.free b o e n hx);exact⟨sl',e2⟩
 .obtain⟨o',e1⟩:=I.base.there b o e hx
  exact free b o' (neC b o e hx) e1 (I.base.free b o e n hx)
 .obtain⟨o',e1⟩:=I.base.there b o e hx
  exact there b o' (neC b o e hx) e1
 .obtain⟨m1,e1⟩:=I.base.tbls b ps e
  obtain⟨m2,e2⟩:=tbls b _ e1;exact⟨m1++m2,by rw[e2,Array.append_assoc]⟩
 .obtain⟨m,hn,hl⟩:=I.loc
  refine⟨m,ns m hn,fun i x v e1 e2 e3=>?_⟩;obtain⟨u,r,l⟩:=hl i x v e1 e2 e3;refine⟨u,r,?_⟩;rcases l with l|⟨k,c,e,z⟩
  .exact .inl l
  .exact .inr ⟨k,c,e,cellK x c e _ z⟩
 .obtain⟨v,z⟩:=I.cell x c e
  exact⟨v,cellK x c e v z⟩
 .obtain⟨m,⟨o,_,_,ho,_⟩,_⟩:=I.loc
  exact free _ o (fun z=>(hch _ z).2.1 rfl) ho I.free
 .obtain⟨v,o,ho,hd⟩:=I.cell x c e
  exact free c o (fun z=>(hch c z).2.2.1 x c e rfl) ho (I.freeC x c e)
 .obtain⟨e,n,ne,nf,d⟩:=I.pin p hp
  have nch:p.1∉ch:=fun z=>(hch p.1 z).2.2.2 p hp rfl;exact⟨keep p.1 p.2 ne nf nch e n,free p.1 p.2 nch e n,ne,nf,d⟩
theorem Inv.un{t':Nat}(I:Inv X pins U H s)(u:Un X.fs [] H H' s.heap h')(hok:HOk X.prog X.w H' h'):Inv X pins U H' { s with heap:=h',toks:=t' }:=by
 obtain⟨m,⟨o,es,ep,ho,r⟩,_⟩:=id I.loc;obtain⟨sl,hL⟩:=u.any ho I.free (by simp);exact I.step (g':=s.gens) (d':=s.drawn) (ch:=[]) (fun _ z=>nomatch z) (fun b o _ hb _ e n=>u.keep b o e n hb (by simp)) (fun b o _ hb _ e n=>u.slot b o e n hb (by simp)) (fun b o _ e n=>u.free b o e n (by simp)) (fun b o _ e=>u.there b o e (by simp)) u.tups u.frzs u.tbls (fun m' hm=>by
  obtain⟨o',es',ep',ho',r'⟩:=hm;rw[ho] at ho'; cases ho';exact⟨_,es',ep',hL,r'⟩) hok I.bare
theorem Inv.call{g':Array GenState}{t':Nat}{d':Drawn}{ch:List Addr}(I:Inv X pins U H s)(u:Un (frs X.stack) ch H H' s.heap h')(hok:HOk X.prog X.w H' h')(hg:AllBare g')(hch:∀b∈ch,(b∈X.ex\/X.s₀.heap.objs.size<=b)/\b≠X.env.locals/\(∀x c,X.env.cells.lookup x=some c->c≠b)/\∀p∈X.pn++pins,p.1≠b):
  Inv X pins U H' { s with heap:=h',gens:=g',drawn:=d',toks:=t' }:=by
 obtain⟨m,⟨o,es,ep,ho,r⟩,_⟩:=id I.loc;obtain⟨sl,hL⟩:=u.any ho I.free fun z=>(hch _ z).2.1 rfl;exact I.step (ch:=ch) hch (fun b o hL hb hc e n=>u.keep b o e n (fun z=>(List.mem_cons.mp (I.stkSub b z)).elim hL hb) hc) (fun b o _ _ hc e n=>u.any e n hc) (fun b o hc e n=>u.free b o e n hc) (fun b o hc e=>u.there b o e hc) u.tups u.frzs u.tbls (fun m' hm=>by
  obtain⟨o',es',ep',ho',r'⟩:=hm;rw[ho] at ho'; cases ho';exact⟨_,es',ep',hL,r'⟩) hok hg
theorem Inv.turned{t':Nat}{it:Addr}(I:Inv X pins U H s)(k:∀b o,b≠it->s.heap.get? b=some o->h'.get? b=some o)(hn:H it=none)(hL:it≠X.env.locals)(h1:it∈X.ex\/X.s₀.heap.objs.size<=it)(h2:∀x c,X.env.cells.lookup x=some c->c≠it)(h3:∀p∈X.pn++pins,p.1≠it):Inv X pins U H { s with heap:=h',toks:=t' }:=by
 have nit:∀b u,H b=some u->b≠it:=fun b u e z=>by rw[z,hn] at e; cases e
 refine I.step (g':=s.gens) (d':=s.drawn) (ch:=[it]) (fun b hb=>?_) (fun b o _ _ hc e _=>k b o (fun z=>hc (by simp[z])) e) (fun b o _ _ hc e _=>⟨o.slots,k b o (fun z=>hc (by simp[z])) e⟩) (fun _ _ _ _ n=>n)
  (fun b o hc e=>⟨o,k b o (fun z=>hc (by simp[z])) e⟩) (fun _ _ e=>e) (fun _ _ _ e=>e) (fun b ps e=>⟨#[],by rw[e]; simp⟩) (fun m hm=>?_) (fun b u e=>?_) I.bare
 .have e:b=it:=by simpa using hb
  subst e;exact⟨h1,hL,h2,h3⟩
 .obtain⟨o,es,ep,ho,r⟩:=hm
  exact⟨o,es,ep,k _ o (Ne.symm hL) ho,r⟩
 .refine(I.hok b u e).stay (fun c v hc q=>k c v ?_ q) (fun _ q=>q) fun _ _ q=>q
  rcases hc with z|z
  .rw[z]; exact nit b u e
  .exact nit c _ z
theorem Inv.tok(I:Inv X pins U H s)(t:Nat):Inv X pins U H { s with toks:=t }:=I.un (h':=s.heap) (t':=t) Un.refl I.hok
theorem Inv.kept{t':Nat}(I:Inv X pins U H s)(k:∀b u,s.heap.get? b=some u->h'.get? b=some u):Inv X pins U H { s with heap:=h',toks:=t' }:=I.un (Un.kept k) (I.hok.kept k)
theorem Inv.laid{a:Addr}{o:HO}{t':Nat}(I:Inv X pins U H s)(k:∀b u,s.heap.get? b=some u->h'.get? b=some u)(hp:s.heap.objs.size<=a)(new:Bg X.prog X.w (upd H a o) h' a o):
  Inv X pins U (upd H a o) { s with heap:=h',toks:=t' }:=I.un (Un.laid k hp (I.hok.fresh hp)) (I.hok.laid k hp new)
theorem Inv.write{x e:Addr}{o:HO}{t':Nat}(I:Inv X pins U H s)(mu:Mut (H x))(he:e=x\/H e=some (.own x))(k:∀b u,b≠e->s.heap.get? b=some u->h'.get? b=some u)(heo:∃u,h'.get? e=some u)(new:Bg X.prog X.w (upd H x o) h' x o):Inv X pins U (upd H x o) { s with heap:=h',toks:=t' }:=I.un (Un.write mu he k heo) (I.hok.write mu he k heo new)
theorem Inv.pins_of{pins':List (Addr×Obj)}(I:Inv X pins U H s)(h:∀p∈pins',s.heap.get? p.1=some p.2/\H p.1=none/\p.1≠X.env.locals/\p.1∉X.fs/\∀v,p.2.data≠.cell v):Inv X pins' U H s:=
 ⟨I.ok,I.os,I.bare,I.base,I.loc,I.cell,I.free,I.freeC,fun p hp=>(List.mem_append.mp hp).elim (fun z=>I.pin p (List.mem_append_left _ z)) (h p),I.hok,I.len⟩
theorem LP{N:List Str}(hN:N.Nodup){i j:Nat}{x:Str}(a:N[i]? = some x)(b:N[j]? = some x):i=j:=by
 obtain⟨h1,e1⟩:=List.getElem?_eq_some_iff.mp a;obtain⟨h2,e2⟩:=List.getElem?_eq_some_iff.mp b;exact(List.getElem_inj hN).mp (e1.trans e2.symm)
theorem Pk{M:Model}{A:Around}{E:Value->Shared->Prop}{i:Nat}{x:Str}{v:V}{u:Value}{Q:Unit->Shared->Prop}(I:Inv X pins U H s)(hN:X.N.Nodup)(hi:X.N[i]? = some x)(hx:Loc X.env.scope x)(r:RelV v u)(h:∀s',Inv X pins (U.set i (some v)) H s'->(∃a,Heap.SameBut a s.heap s'.heap/\(a=X.env.locals\/X.env.cells.lookup x=some a))->Q () s')(hf:X.fn x=true\/X.env.scope.names.lookup x=some .local:=by first|exact .inl rfl|exact .inr rfl|assumption):wpAny M A (storeName X.env x u) Q E s:=by
 obtain⟨m,hn,hl⟩:=id I.loc;have hcls:(X.env.scope.kind==.class || (X.env.scope.kind==.module&&X.env.locals != X.env.globals))=false:=by rw[I.ok.kind]; rfl
 have hiσ:i<U.length:=by rw[I.len]; exact(List.getElem?_eq_some_iff.mp hi).1
 have cne:=I.cne;have tracked:∀{a:Addr} {h':Heap},(∃o,s.heap.get? a=some o/\H a=none)->Heap.SameBut a s.heap h'->HOk X.prog X.w H h':=fun {a h'} ha hs b ob e=>by
  obtain⟨_,_,hfree⟩:=ha;refine(I.hok b ob e).stay (fun c w' hc q=>(hs.2 c ?_).trans q) (fun _ q=>q) fun _ _ q=>q;rintro rfl;rcases hc with rfl|hc
  .rw[hfree] at e; cases e
  .rw[hfree] at hc; cases hc
 rcases hx with hk|hk
 .refine wpAny_storeName_local hk hn (fun h' hn' hs=>?_) hcls
  obtain⟨oL,_,_,hoL,_⟩:=id hn;refine h _ ⟨I.ok,I.os,I.bare,⟨fun b o e n hb hx=>?_,fun b o e n hb hx=>?_,I.base.free,fun b o e hx=>?_,I.base.tups,I.base.frzs,I.base.tbls⟩,⟨_,hn',fun j y v' e1 e2 e3=>?_⟩,fun y c e=>?_,I.free,I.freeC,fun p hp=>?_,tracked ⟨oL,hoL,I.free⟩ hs,by simpa using I.len⟩ ⟨_,hs,.inl rfl⟩
  .exact(hs.2 b (Nat.ne_of_lt (Nat.lt_of_lt_of_le (Heap.lt_size e) I.ok.above))).trans (I.base.keep b o e n hb hx)
  .obtain⟨sl,e1⟩:=I.base.slot b o e n hb hx
   exact⟨sl,(hs.2 b (Nat.ne_of_lt (Nat.lt_of_lt_of_le (Heap.lt_size e) I.ok.above))).trans e1⟩
  .obtain⟨o',e1⟩:=I.base.there b o e hx
   exact⟨o',(hs.2 b (Nat.ne_of_lt (Nat.lt_of_lt_of_le (Heap.lt_size e) I.ok.above))).trans e1⟩
  .by_cases hj:j=i
   .subst hj
    rw[hi] at e1; cases e1;rw[List.getElem?_set_self hiσ] at e2;cases e2;exact⟨u,r,.inl ⟨hk,by simp⟩⟩
   .rw[List.getElem?_set_ne (Ne.symm hj)] at e2
    obtain⟨u',r',q⟩:=hl j y v' e1 e2 e3;refine⟨u',r',?_⟩;rcases q with ⟨k,e⟩|⟨k,c,e,z⟩
    .refine .inl ⟨k,?_⟩
     have:y≠x:=fun e=>hj (LP hN e1 (e ▸ hi));simp[this,e]
    .exact .inr ⟨k,c,e,z.sameBut hs (cne y c e)⟩
  .obtain⟨w',z⟩:=I.cell y c e
   exact⟨w',z.sameBut hs (cne y c e)⟩
  .obtain⟨e,n,ne,nf,d⟩:=I.pin p hp
   exact⟨(hs.2 p.1 ne).trans e,n,ne,nf,d⟩
 .have hfn:X.fn x=true:=by
   rcases hf with z|z
   .exact z
   .rw[z] at hk; cases hk
  obtain⟨c,hc⟩:=I.ok.has x (.inl hk);obtain⟨w',z⟩:=I.cell x c hc;refine wpAny_storeName_cell I.ok.kind hk hc z (fun h' hc' hs=>?_);obtain⟨oc,hoc,hocd⟩:=id z;refine h { s with heap:=h' } ⟨I.ok,I.os,I.bare,⟨fun b o e n hb hx=>?_,fun b o e n hb hx=>?_,I.base.free,fun b o e hx=>?_,I.base.tups,I.base.frzs,I.base.tbls⟩,⟨m,hn.sameBut hs (Ne.symm (cne x c hc)),fun j y v' e1 e2 e3=>?_⟩,fun y c' e=>?_,I.free,I.freeC,fun p hp=>?_,tracked ⟨oc,hoc,I.freeC x c hc⟩ hs,by simpa using I.len⟩ ⟨c,hs,.inr hc⟩
  .exact(hs.2 b (Nat.ne_of_lt (Nat.lt_of_lt_of_le (Heap.lt_size e) (I.ok.cab x c hfn hc)))).trans (I.base.keep b o e n hb hx)
  .obtain⟨sl,e1⟩:=I.base.slot b o e n hb hx
   exact⟨sl,(hs.2 b (Nat.ne_of_lt (Nat.lt_of_lt_of_le (Heap.lt_size e) (I.ok.cab x c hfn hc)))).trans e1⟩
  .obtain⟨o',e1⟩:=I.base.there b o e hx
   exact⟨o',(hs.2 b (Nat.ne_of_lt (Nat.lt_of_lt_of_le (Heap.lt_size e) (I.ok.cab x c hfn hc)))).trans e1⟩
  .by_cases hj:j=i
   .subst hj
    rw[hi] at e1; cases e1;rw[List.getElem?_set_self hiσ] at e2;cases e2;exact⟨u,r,.inr ⟨.inl hk,c,hc,hc'⟩⟩
   .rw[List.getElem?_set_ne (Ne.symm hj)] at e2
    obtain⟨u',r',q⟩:=hl j y v' e1 e2 e3;refine⟨u',r',?_⟩;rcases q with q|⟨k,c',e,z'⟩
    .exact .inl q
    .refine .inr ⟨k,c',e,z'.sameBut hs ?_⟩
     rintro rfl;exact hj (LP hN e1 (I.ok.inj _ _ _ e hc ▸ hi))
  .by_cases hcc:c'=c
   .subst hcc; exact⟨_,hc'⟩
   .obtain⟨w2,z2⟩:=I.cell y c' e
    exact⟨w2,z2.sameBut hs hcc⟩
  .obtain⟨e,n,ne,nf,d⟩:=I.pin p hp
   refine⟨(hs.2 p.1 ?_).trans e,n,ne,nf,d⟩;intro q;rw[q,hoc] at e;have q':oc=p.2:=Option.some.inj e;exact d w' (by rw[<- q']; exact hocd)
theorem EL{M:Model}{A:Around}{E:Value->Shared->Prop}{i:Nat}{x:Str}{v:V}{u:Value}{Q:Unit->Shared->Prop}(I:Inv X pins U H s)(hN:X.N.Nodup)(hi:X.N[i]? = some x)(hx:Loc X.env.scope x)(r:RelV v u)(h:∀s',Inv X pins (U.set i (some v)) H s'->Q () s')(hf:X.fn x=true\/X.env.scope.names.lookup x=some .local:=by first|exact .inl rfl|exact .inr rfl|assumption):wpAny M A (storeName X.env x u) Q E s:=
 Pk I hN hi hx r (fun s' I' _=>h s' I') hf
theorem Inv.call'{s':Shared}{ch:List Addr}(I:Inv X pins U H s)(ho:s'.os=s.os)(u:Un (frs X.stack) ch H H' s.heap s'.heap)(hok:HOk X.prog X.w H' s'.heap)(hg:AllBare s'.gens)(hch:∀b∈ch,(b∈X.ex\/X.s₀.heap.objs.size<=b)/\b≠X.env.locals/\(∀x c,X.env.cells.lookup x=some c->c≠b)/\∀p∈X.pn++pins,p.1≠b):Inv X pins U H' s':=by
 obtain⟨h',g',d',t',o'⟩:=s';have e:o'=s.os:=ho;subst e;exact I.call (g':=g') (t':=t') (d':=d') u hok hg hch
end
noncomputable abbrev XK:=Value->Option Addr->Hp->Prop
noncomputable abbrev St:=List (Option V)
noncomputable abbrev VK:=V->Hp->Prop
noncomputable abbrev TE:=St->Hp->VK->Prop
noncomputable abbrev TT:=St->Hp->(Bool->Hp->Prop)->Prop
noncomputable abbrev TA:=St->Hp->(List V->Hp->Prop)->Prop
structure Ends where
 nx:St->Hp->Prop
 rt:VK
 bk:St->Hp->Prop:=fun _ _=>False
 ct:St->Hp->Prop:=fun _ _=>False
noncomputable abbrev TS:=Ends->St->Hp->Prop
noncomputable def EP(X:Cx)(pins:List (Addr×Obj))(U:St)(Q:VK)(u:Value)(s':Shared):Prop:=∃v H',Inv X pins U H' s'/\RelV v u/\Q v H'
noncomputable def TP(X:Cx)(pins:List (Addr×Obj))(U:St)(Q:Bool->Hp->Prop)(b:Bool)(s':Shared):Prop:=∃H',Inv X pins U H' s'/\Q b H'
noncomputable def AP(X:Cx)(pins:List (Addr×Obj))(U:St)(Q:List V->Hp->Prop)(us:List Value)(s':Shared):Prop:=∃vs H',Inv X pins U H' s'/\Vals vs us/\Q vs H'
noncomputable def SP(X:Cx)(pins:List (Addr×Obj))(D:Ends)(f:Flow)(s':Shared):Prop:=
 match f with
 | .next=>∃σ' H',Inv X pins σ' H' s'/\D.nx σ' H'
 | .brk=>∃σ' H',Inv X pins σ' H' s'/\D.bk σ' H'
 | .cont=>∃σ' H',Inv X pins σ' H' s'/\D.ct σ' H'
 | .ret u=>∃v σ' H',Inv X pins σ' H' s'/\RelV v u/\D.rt v H'
noncomputable def PE(X:Cx)(e:Expr)(t:TE):Prop:=
 ∀(pins:List (Addr×Obj)) (s:Shared) (U:St) (H:Hp) (Q:VK),Inv X pins U H s->t U H Q->wpAny (model X.prog X.w) X.A (eval e X.env) (EP X pins U Q) X.xe s
noncomputable def PT(X:Cx)(e:Expr)(t:TT):Prop:=
 ∀(pins:List (Addr×Obj)) (s:Shared) (U:St) (H:Hp) (Q:Bool->Hp->Prop),Inv X pins U H s->t U H Q->wpAny (model X.prog X.w) X.A (isTrue e X.env (eval e X.env)) (TP X pins U Q) X.xe s
noncomputable def PW(X:Cx)(e:Expr)(t:TT):Prop:=
 ∀(whole:Sem Value) (pins:List (Addr×Obj)) (s:Shared) (U:St) (H:Hp) (Q:Bool->Hp->Prop),Inv X pins U H s->t U H Q->wpAny (model X.prog X.w) X.A (isTrue e X.env whole) (TP X pins U Q) X.xe s
theorem PW.pt{X:Cx}{e:Expr}{t:TT}(h:PW X e t):PT X e t:=h _
noncomputable def PA(X:Cx)(es:List Expr)(t:TA):Prop:=
 ∀(pos:Pos) (pins:List (Addr×Obj)) (s:Shared) (U:St) (H:Hp) (Q:List V->Hp->Prop),Inv X pins U H s->t U H Q->wpAny (model X.prog X.w) X.A (spliced (backTo pos (starEach es X.env))) (AP X pins U Q) X.xe s
noncomputable def PS(X:Cx)(st:Stmt)(t:TS):Prop:=
 ∀(pins:List (Addr×Obj)) (s:Shared) (U:St) (H:Hp) (D:Ends),Inv X pins U H s->t D U H->wpAny (model X.prog X.w) X.A (exec st X.env) (SP X pins D) X.xe s
noncomputable def PSs(X:Cx)(st:List Stmt)(t:TS):Prop:=
 ∀(pins:List (Addr×Obj)) (s:Shared) (U:St) (H:Hp) (D:Ends),Inv X pins U H s->t D U H->wpAny (model X.prog X.w) X.A (execs st X.env) (SP X pins D) X.xe s
theorem thn{α:Type}{t:Sem α}{Q Q':α -> Shared->Prop}{M:Model}{A:Around}{E:Value->Shared->Prop}{s:Shared}(h:wpAny M A t Q E s)(hQ:∀a s,Q a s->Q' a s):wpAny M A t Q' E s:=wpAny_mono h hQ fun _ _ x=>x
end L2
namespace L2
open PySem PySem.Spec PyProof.Rows
section
variable{X:Cx}
noncomputable def Pl(i:Nat):TE:=fun U H Q=>∃v,U[i]? = some (some v)/\Q v H
noncomputable def tC(v:V):TE:=fun _ H Q=>Q v H
theorem Jb{i:Nat}{x:Str}{pos:Pos}(hN:X.N[i]? = some x)(hv:Vis X.env.scope x)(hd:(x==("__debug__" : Str))=false:=by decide)(hcd:(x==("__classdict__" : Str))=false:=by decide):PE X (.Name x pos) (Pl i):=by
 intro pins s U H Q I h;obtain⟨v,e,h⟩:=h;obtain⟨m,hn,hl⟩:=I.loc;obtain⟨u,r,l⟩:=hl i x v hN e hv;have fin:EP X pins U Q u s:=⟨v,H,I,r,h⟩;rcases l with ⟨hk,hm⟩|⟨hk,c,hc,hcell⟩
 .exact wpAny_Name (wpAny_loadName_local I.ok.kind hk hn hm fin) hd
 .rcases hk with hk|hk
  .exact wpAny_Name (wpAny_loadName_cell I.ok.kind hk hc hcell fin) hd
  .exact wpAny_Name (wpAny_loadName_free I.ok.kind hk hc hcell fin hcd) hd
theorem Wu{i j pos}:PE X (.Constant (.int i) j pos) (tC (.int i)):=fun _ _ _ H _ I h=>wpAny_Constant_int ⟨.int i,H,I.tok _,⟨_,rfl⟩,h⟩
theorem Ye{b j pos}:PE X (.Constant (.bool b) j pos) (tC (.bl b)):=fun _ _ _ H _ I h=>Constant_bool ⟨.bl b,H,I,rfl,h⟩
theorem WD{j pos}:PE X (.Constant .none j pos) (tC .non):=fun _ _ _ H _ I h=>Constant_none ⟨.non,H,I,rfl,h⟩
theorem WH{x j pos}:PE X (.Constant (.str x) j pos) (tC (.str x)):=fun _ _ _ H _ I h=>Calls.Constant_str ⟨.str x,H,I.tok _,⟨_,rfl⟩,h⟩
noncomputable def Gl(X:Cx)(x:Str):Prop:=X.env.kindOf x=some .globalImplicit
theorem N9{E:Value->Shared->Prop}{pins:List (Addr×Obj)}{s:Shared}{U:St}{H:Hp}{x:Str}{u:Value}{pos:Pos}{Q:Value->Shared->Prop}(I:Inv X pins U H s)(hg:Gl X x)(hm:X.mg x=some u)(h:Q u s)(hd:(x==("__debug__" : Str))=false:=by decide):wpAny (model X.prog X.w) X.A (eval (.Name x pos) X.env) Q E s:=
 Calls.Name_function_global I.ok.kind hg (Calls.loadGlobal_global (by rw[I.ok.glob]; exact I.mod.glob.keeps I.bk) hm h) hd
theorem Gx{E:Value->Shared->Prop}{pins:List (Addr×Obj)}{s:Shared}{U:St}{H:Hp}{x:Str}{u:Value}{pos:Pos}{Q:Value->Shared->Prop}(I:Inv X pins U H s)(hg:Gl X x)(hm:X.mg x=none)(hv:bootBuiltins x=some u)(h:Q u s)(hn:x ≠ "__name__" := by decide)(hd:(x==("__debug__" : Str))=false:=by decide):wpAny (model X.prog X.w) X.A (eval (.Name x pos) X.env) Q E s:=by
 obtain⟨mb,h1,h2⟩:=I.mod.blt;exact Calls.Name_function_global I.ok.kind hg (Calls.loadGlobal_builtin (by rw[I.ok.glob]; exact I.mod.glob.keeps I.bk) hm (by rw[I.ok.blt]; exact h1.keeps I.bk) ((h2 x hn).trans hv) h) hd
theorem Tz{x:Str}{v:V}{u:Value}{pos:Pos}(hg:Gl X x)(hm:X.mg x=some u)(r:RelV v u)(hd:(x==("__debug__" : Str))=false:=by decide):PE X (.Name x pos) (tC v):=
 fun _ _ _ H _ I h=>N9 I hg hm ⟨v,H,I,r,h⟩ hd
theorem Hc{x:Str}{v:V}{u:Value}{pos:Pos}(hg:Gl X x)(hm:X.mg x=none)(hv:bootBuiltins x=some u)(r:RelV v u)(hn:x ≠ "__name__" := by decide)(hd:(x==("__debug__" : Str))=false:=by decide):PE X (.Name x pos) (tC v):=
 fun _ _ _ H _ I h=>Gx I hg hm hv ⟨v,H,I,r,h⟩ hn hd
variable{a b:Expr}{ta tb:TE}{pos:Pos}
noncomputable def PC(X:Cx)(op:CmpOp)(a b:Expr)(t:TE):Prop:=
 ∀(pins:List (Addr×Obj)) (s:Shared) (U:St) (H:Hp) (Q:VK),Inv X pins U H s->t U H Q ->
  wpAny (model X.prog X.w) X.A (eval a X.env) (fun v s₁=>wpAny (model X.prog X.w) X.A (eval b X.env) (fun u s₂=>wpAny (model X.prog X.w) X.A (compareOp op v u) (EP X pins U Q) X.xe s₂) X.xe s₁) X.xe s
noncomputable def tB(t:TE):TT:=fun U H Q=>t U H fun x H1=>∃c,x=.bl c/\Q c H1
theorem WR{op:CmpOp}{t:TE}(h:PC X op a b t)(h1:behindInMarks op b=false:=by first|exact nobehind _ (by decide) (by decide)|rfl):PT X (.Compare a [op] [b] pos) (tB t):=by
 intro pins s U H Q I hw;refine wpAny_isTrue_Compare1 (thn (h pins s U H _ I hw) fun v s1 h1=>thn h1 fun u s2 h2=>thn h2 fun c s3 yy=>?_) h1;obtain⟨x,H1,I1,r1,q1⟩:=yy;obtain⟨d,rfl,q⟩:=q1;cases r1;exact wpAny_truthy_bool ⟨H1,I1,q⟩
theorem WT{e:Expr}{t:TE}(h:PE X e t)(he:∀whole,isTrue e X.env whole=(do let v <- whole; standAt e.pos; holding [v] (truthy v)):=by intro _; rfl):PT X e (tB t):=by
 intro pins s U H Q I hw;refine isTrue_plain (thn (h pins s U H _ I hw) fun v s1 ⟨x,H1,I1,r1,q1⟩=>?_) (he _);obtain⟨d,rfl,q⟩:=q1;cases r1;exact wpAny_truthy_bool ⟨H1,I1,q⟩
variable{tA tB':TT}{rest:List Expr}
noncomputable def tOr(t u:TT):TT:=fun U H Q=>t U H fun c H1=>if c=true then Q true H1 else u U H1 Q
noncomputable def Y8(t:TT):TT:=fun U H Q=>t U H fun c H1=>Q (!c) H1
theorem WX(ha:PT X a tA):PW X (.BoolOp .Or [a] pos) tA:=by
 intro wh pins s U H Q I h;refine isTrue_or (thn (ha pins s U H Q I h) fun c s1 e=>?_);cases c with
 | false=>exact isTrue_or_nil e
 | true=>exact e
theorem Yk(ha:PT X a tA)(hb:PW X (.BoolOp .Or (b::rest) pos) tB'):PW X (.BoolOp .Or (a::b::rest) pos) (tOr tA tB'):=by
 intro wh pins s U H Q I h;refine isTrue_or (thn (ha pins s U H _ I h) fun c s1 yy=>?_);obtain⟨H1,I1,q1⟩:=yy;cases c with
 | true=>exact⟨H1,I1,q1⟩
 | false=>exact hb wh pins s1 U H1 Q I1 q1
theorem WS(ha:PT X a tA):PT X (.UnaryOp .Not a pos) (Y8 tA):=by
 intro pins s U H Q I h;exact isTrue_not (ha pins s U H (fun c H1=>Q (!c) H1) I h)
noncomputable def YD(ta tb:TE):TE:=fun U H Q=>ta U H fun x H1=>∃c,x=.bl c/\if c=true then tb U H1 Q else Q (.bl false) H1
noncomputable def YI(ta:TE):TE:=fun U H Q=>ta U H fun x H1=>∃c,x=.bl c/\Q (.bl (!c)) H1
theorem WG{op}{t:TE}(h:PE X a t):PE X (.BoolOp op [a] pos) t:=fun pins s U H Q I hw=>BoolOp_one (h pins s U H Q I hw)
theorem Ws(ha:PE X a ta)(hb:PE X (.BoolOp .And (b::rest) pos) tb):PE X (.BoolOp .And (a::b::rest) pos) (YD ta tb):=by
 intro pins s U H Q I h;refine BoolOp_and (thn (ha pins s U H _ I h) fun v s1 yy=>?_);obtain⟨x,H1,I1,r1,q1⟩:=yy;obtain⟨c,rfl,q1⟩:=q1;cases r1;refine wpAny_truthy_bool ?_;cases c with
 | true=>exact hb pins s1 U H1 Q I1 q1
 | false=>exact⟨.bl false,H1,I1,rfl,q1⟩
theorem WE(ha:PE X a ta):PE X (.UnaryOp .Not a pos) (YI ta):=by
 intro pins s U H Q I h;refine UnaryOp_ (thn (ha pins s U H _ I h) fun v s1 yy=>?_);obtain⟨x,H1,I1,r1,q1⟩:=yy;obtain⟨c,rfl,q1⟩:=q1;cases r1;exact not_of (wpAny_truthy_bool ⟨.bl (!c),H1,I1,rfl,q1⟩)
noncomputable def tIf(t:TT)(ta tb:TE):TE:=fun U H Q=>t U H fun c H1=>if c=true then ta U H1 Q else tb U H1 Q
theorem Rk{c:Expr}(hc:PT X c tA)(ha:PE X a ta)(hb:PE X b tb):PE X (.IfExp c a b pos) (tIf tA ta tb):=by
 intro pins s U H Q I h;refine wpAny_IfExp (thn (hc pins s U H _ I h) fun d s1 yy=>?_);obtain⟨H1,I1,q1⟩:=yy;cases d with
 | true=>exact ha pins s1 U H1 Q I1 q1
 | false=>exact hb pins s1 U H1 Q I1 q1
end
end L2
namespace L2
open PySem PySem.Spec PyProof.Rows
noncomputable def SqL(K:Frag)(H:Hp)(a:Addr)(xs:List V):Prop:=
 Rd H a (.lst xs) \/
  ∃(o:Obj) (its:Array Value) (n:Nat),K.lookup a=some o/\o.cls=.type "list" /\ o.dict=none/\o.data=.seq its n/\its.size<=sizeLine/\Vals xs its.toList
noncomputable def SqT(K:Frag)(H:Hp)(a:Addr)(xs:List V):Prop:=
 Rd H a (.tup xs) \/
  ∃(o:Obj) (its:Array Value) (n:Nat),K.lookup a=some o/\o.cls=.type "tuple" /\ o.data=.seq its n/\its.size<=sizeLine/\Vals xs its.toList
noncomputable def YS:Value->Option V
 | .none=>some .non
 | .bool b=>some (.bl b)
 | .int i _=>some (.int i)
 | .str x _=>some (.str x)
 | .bytes b _=>some (.byt b)
 | .float b _=>some (.flt b)
 | .ref a=>some (.ref a)
 | .type n=>some (.ty n)
 | _=>none
theorem RelV.abs{x:V}{u:Value}(r:RelV x u):YS u=some x:=by
 cases x with
 | non=>cases r; rfl
 | bl _=>cases r; rfl
 | int _=>obtain⟨t,rfl⟩:=r; rfl
 | str _=>obtain⟨t,rfl⟩:=r; rfl
 | byt _=>obtain⟨t,rfl⟩:=r; rfl
 | flt _=>obtain⟨t,rfl⟩:=r; rfl
 | ref _=>cases r; rfl
 | ty _=>cases r; rfl
theorem RelV.inj{x y:V}{u:Value}(r:RelV x u)(q:RelV y u):x=y:=Option.some.inj (r.abs.symm.trans q.abs)
theorem Vals.inj{xs ys:List V}{us:List Value}(h:Vals xs us):Vals ys us->xs=ys:=by
 induction h generalizing ys with
 | nil=>intro q; cases q; rfl
 | cons r t ih =>
  intro q;cases q with
  | cons r' t'=>rw[r.inj r',ih t']
section
variable{X:Cx}{pins:List (Addr×Obj)}{U:St}{H:Hp}{s:Shared}{a:Addr}{xs ys:List V}
theorem Inv.list(I:Inv X pins U H s)(h:SqL X.K H a xs):∃its:List Value,Vals xs its/\PlainL s.heap a its.toArray/\xs.length<=sizeLine:=by
 rcases h with h|⟨o,its,n,hk,hc,hd,hs,hz,r⟩
 .obtain⟨z,its,n,r,e⟩:=h.ok I.hok
  exact⟨its,r,⟨_,n,e,rfl,rfl,rfl⟩,z⟩
 .refine⟨its.toList,r,⟨o,n,I.kIn a o hk,hc,hd,by simpa using hs⟩,?_⟩
  have e:=r.length;simp only[Array.length_toList] at e;lia
theorem Inv.tuple(I:Inv X pins U H s)(h:SqT X.K H a xs):∃its:List Value,Vals xs its/\IsTup s.heap a its.toArray/\xs.length<=sizeLine:=by
 rcases h with h|⟨o,its,n,hk,hc,hs,hz,r⟩
 .obtain⟨z,its,r,p⟩:=h.ok I.hok
  exact⟨its,r,p,z⟩
 .refine⟨its.toList,r,⟨o,I.kIn a o hk,hc,n,by simpa using hs⟩,?_⟩
  have e:=r.length;simp only[Array.length_toList] at e;lia
theorem Inv.list_inj(I:Inv X pins U H s)(h:SqL X.K H a xs)(h':SqL X.K H a ys):xs=ys:=by
 obtain⟨its,r,⟨o,n,e,_,_,d⟩,_⟩:=I.list h;obtain⟨its',r',⟨o',n',e',_,_,d'⟩,_⟩:=I.list h';rw[e] at e'; cases e';rw[d] at d';injection d' with d1 _;have:its=its':=by simpa using congrArg Array.toList d1
 subst this;exact r.inj r'
theorem Inv.tuple_inj(I:Inv X pins U H s)(h:SqT X.K H a xs)(h':SqT X.K H a ys):xs=ys:=by
 obtain⟨its,r,⟨o,e,_,n,d⟩,_⟩:=I.tuple h;obtain⟨its',r',⟨o',e',_,n',d'⟩,_⟩:=I.tuple h';rw[e] at e'; cases e';rw[d] at d';injection d' with d1 _;have:its=its':=by simpa using congrArg Array.toList d1
 subst this;exact r.inj r'
end
noncomputable abbrev Cx.wish(X:Cx)(E:Value->Shared->Prop):Cx:={ X with xe:=E }
noncomputable abbrev Cx.nox(X:Cx):Cx:=X.wish fun _ _=>False
theorem Cx.Ok.wish{X:Cx}(ok:X.Ok)(E:Value->Shared->Prop):(X.wish E).Ok:=
 ⟨ok.mod,ok.kind,ok.glob,ok.blt,ok.above,ok.inj,ok.has,ok.cab,ok.hd,ok.frames,ok.stk,ok.exf,ok.bs,ok.bsz,ok.noex,ok.exfs,ok.funs,ok.frf,ok.tb⟩
theorem Cx.Ok.unwish{X:Cx}{E:Value->Shared->Prop}(ok:(X.wish E).Ok):X.Ok:=
 ⟨ok.mod,ok.kind,ok.glob,ok.blt,ok.above,ok.inj,ok.has,ok.cab,ok.hd,ok.frames,ok.stk,ok.exf,ok.bs,ok.bsz,ok.noex,ok.exfs,ok.funs,ok.frf,ok.tb⟩
section
variable{X:Cx}{pins:List (Addr×Obj)}{U:St}{H:Hp}{s:Shared}{E:Value->Shared->Prop}
theorem Inv.wish(I:Inv X pins U H s)(E:Value->Shared->Prop):Inv (X.wish E) pins U H s:=⟨I.ok.wish E,I.os,I.bare,I.base,I.loc,I.cell,I.free,I.freeC,I.pin,I.hok,I.len⟩
theorem Inv.unwish(I:Inv (X.wish E) pins U H s):Inv X pins U H s:=⟨I.ok.unwish,I.os,I.bare,I.base,I.loc,I.cell,I.free,I.freeC,I.pin,I.hok,I.len⟩
theorem SP.unwish{D:Ends}{f:Flow}{s':Shared}(h:SP (X.wish E) pins D f s'):SP X pins D f s':=by
 cases f with
 | next=>obtain⟨σ',H',I,q⟩:=h; exact⟨σ',H',I.unwish,q⟩
 | brk=>obtain⟨σ',H',I,q⟩:=h; exact⟨σ',H',I.unwish,q⟩
 | cont=>obtain⟨σ',H',I,q⟩:=h; exact⟨σ',H',I.unwish,q⟩
 | ret u=>obtain⟨v,σ',H',I,r,q⟩:=h; exact⟨v,σ',H',I.unwish,r,q⟩
theorem PSs.nox{st:List Stmt}{t:TS}(h:PSs X.nox st t):PSs X st t:=fun pins s U H D I hw =>
 wpAny_mono (h pins s U H D (I.wish _) hw) (fun _ _ q=>q.unwish) fun _ _ z=>False.elim z
end
section
variable{X:Cx}{st:Stmt}{rest:List Stmt}{t u:TS}{e:Expr}{te:TE}{pos:Pos}
noncomputable def Vb:TS:=fun D U H=>D.nx U H
noncomputable def YM(t u:TS):TS:=fun D U H=>t { D with nx:=u D } U H
theorem TL:PSs X [] Vb:=fun _ _ U H _ I h=>wpAny_execs_nil ⟨U,H,I,h⟩
theorem Ru(h1:PS X st t)(h2:PSs X rest u):PSs X (st::rest) (YM t u):=by
 intro pins s U H D I h;refine wpAny_execs_cons (thn (h1 pins s U H { D with nx:=u D } I h) fun f s1 q=>?_);cases f with
 | next =>
  obtain⟨σ',H',I',q⟩:=q;exact h2 pins s1 σ' H' D I' q
 | ret v=>exact q
 | brk=>exact q
 | cont=>exact q
theorem TM(h1:PS X st t):PSs X [st] t:=by
 intro pins s U H D I h;refine wpAny_execs_cons (thn (h1 pins s U H D I h) fun f s1 q=>?_);cases f with
 | next=>exact wpAny_execs_nil q
 | ret v=>exact q
 | brk=>exact q
 | cont=>exact q
theorem Inv.quiet{pins:List (Addr×Obj)}{U:St}{H:Hp}{s:Shared}(I:Inv X pins U H s):interactive X.env=false:=by simp[interactive,I.ok.kind]
noncomputable def RX(te:TE):TS:=fun D U H=>te U H fun _ H1=>D.nx U H1
theorem Oj(he:PE X e te)(hs:swapsWith e none pos.line X.env=pure false:=by rfl):PS X (.Expr e pos) (RX te):=by
 intro pins s U H D I h;exact wpAny_Expr_any (thn (he pins s U H _ I h) fun v s1 ⟨x,H1,I1,r1,q1⟩=>⟨U,H1,I1,q1⟩) I.quiet hs
noncomputable def YK(te:TE):TS:=fun D U H=>te U H D.rt
theorem WO(he:PE X e te):PS X (.Return (some e) pos) (YK te):=by
 intro pins s U H D I h;exact wpAny_Return_some (thn (he pins s U H _ I h) fun v s1 ⟨x,H1,I1,r1,q1⟩=>⟨x,U,H1,I1,r1,q1⟩)
noncomputable def YG(c:TT)(t u:TS):TS:=fun D U H=>c U H fun b H1=>if b=true then t D U H1 else u D U H1
theorem Yj{c:Expr}{a b:List Stmt}{tc:TT}(hc:PT X c tc)(ha:PSs X a t)(hb:PSs X b u):PS X (.If c a b pos) (YG tc t u):=by
 intro pins s U H D I h;refine wpAny_If (thn (hc pins s U H _ I h) fun d s1 yy=>?_);obtain⟨H1,I1,q1⟩:=yy;cases d with
 | true=>exact ha pins s1 U H1 D I1 q1
 | false=>exact hb pins s1 U H1 D I1 q1
end
noncomputable abbrev TG:=V->St->Hp->(St->Hp->Prop)->Prop
noncomputable abbrev TGs:=List V->St->Hp->(St->Hp->Prop)->Prop
noncomputable def PG(X:Cx)(target:Expr)(t:TG):Prop:=
 ∀(pins:List (Addr×Obj)) (s:Shared) (U:St) (H:Hp) (v:V) (u:Value) (Q:St->Hp->Prop),Inv X pins U H s->RelV v u->t v U H Q ->
  wpAny (model X.prog X.w) X.A (assign target X.env u) (fun _ s'=>∃σ' H',Inv X pins σ' H' s'/\Q σ' H') X.xe s
noncomputable def PGs(X:Cx)(ts:List Expr)(t:TGs):Prop:=
 ∀(pins:List (Addr×Obj)) (s:Shared) (U:St) (H:Hp) (vs:List V) (us:List Value) (Q:St->Hp->Prop),Inv X pins U H s->Vals vs us->t vs U H Q ->
  wpAny (model X.prog X.w) X.A (assignInOrder ((assignEach ts X.env).map (·.2)) us) (fun _ s'=>∃σ' H',Inv X pins σ' H' s'/\Q σ' H') X.xe s
noncomputable abbrev Vh:=V->V->V->Hp->(Hp->Prop)->Prop
noncomputable def XH(X:Cx)(t:Vh):Prop:=
 ∀(pins:List (Addr×Obj)) (s:Shared) (U:St) (H:Hp) (o i v:V) (ov iv u:Value) (Q:Hp->Prop),Inv X pins U H s->RelV o ov->RelV i iv->RelV v u->t o i v H Q ->
  wpAny (model X.prog X.w) X.A (setItem ov iv u) (fun _ s'=>∃H',Inv X pins U H' s'/\Q H') X.xe s
noncomputable abbrev TIp:=V->V->Hp->VK->Prop
noncomputable def PIp(X:Cx)(op:Operator)(t:TIp):Prop:=
 ∀(pins:List (Addr×Obj)) (s:Shared) (U:St) (H:Hp) (x y:V) (v u:Value) (Q:VK),Inv X pins U H s->RelV x v->RelV y u->t x y H Q ->
  wpAny (model X.prog X.w) X.A (inplaceOp op v u) (EP X pins U Q) X.xe s
section
variable{X:Cx}{pos:Pos}
noncomputable def G1(i:Nat):TG:=fun v U H Q=>Q (U.set i (some v)) H
theorem Ie{i:Nat}{x:Str}(hN:X.N.Nodup)(hi:X.N[i]? = some x)(hx:Loc X.env.scope x)(hf:X.fn x=true\/X.env.scope.names.lookup x=some .local:=by first|exact .inl rfl|exact .inr rfl|assumption):PG X (.Name x pos) (G1 i):=by
 intro pins s U H v u Q I r h;exact wpAny_assign_Name (EL I hN hi hx r (fun s' I'=>⟨_,H,I',h⟩) hf)
noncomputable def XZ:TGs:=fun vs U H Q=>vs=[]/\Q U H
noncomputable def UN(t:TG)(u:TGs):TGs:=fun vs U H Q=>∃v r,vs=v::r/\t v U H fun σ' H'=>u r σ' H' Q
theorem Og:PGs X [] XZ:=by
 intro pins s U H vs us Q I r h;obtain⟨e,h⟩:=h;subst e;cases r;exact assignInOrder_nil ⟨U,H,I,h⟩
theorem Jc{e:Expr}{es:List Expr}{t:TG}{u:TGs}(h1:PG X e t)(h2:PGs X es u)(hs:(assignEach (e::es) X.env).map (·.2)=assign e X.env::(assignEach es X.env).map (·.2):=by rfl):PGs X (e::es) (UN t u):=by
 intro pins s U H vs us Q I r h;obtain⟨v,vr,e1,h⟩:=h;subst e1;cases r with
 | cons r rr =>
  rw[hs];refine assignInOrder_cons (thn (h1 pins s U H _ _ _ I r h) fun _ s1 yy=>?_);obtain⟨σ1,H1,I1,q1⟩:=yy;exact h2 pins s1 σ1 H1 _ _ Q I1 rr q1
noncomputable def VA(K:Frag)(n:Nat)(t:TGs):TG:=fun v U H Q=>∃a xs,v=.ref a/\SqT K H a xs/\xs.length=n/\t xs U H Q
theorem Rn{es:List Expr}{k:Nat}{t:TGs}{n:Nat}(hc:X.calm=true)(h:PGs X es t)(hn:(assignEach es X.env).length=n:=by rfl)(hst:(assignEach es X.env).findIdx? (·.1)=none:=by rfl):PG X (.Tuple es k pos) (VA X.K n t):=by
 intro pins s U H v u Q I r hw;obtain⟨a,xs,e1,hq,hl,hw⟩:=hw;subst e1;cases r;obtain⟨its,rv,ht,hz⟩:=I.tuple hq;refine assign_Tuple_tuple (I.ok.hd hc) ht (by simp[hn,<- hl,rv.length]) hst fun h' hx=>?_;have I1:Inv X pins U H { s with heap:=h' }:=I.kept (t':=s.toks) fun b o e=>hx b o (Nat.ne_of_lt (Heap.lt_size e)) e;exact h pins _ U H xs _ Q I1 (by simpa using rv) hw
noncomputable def X0(to ti:TE)(t:Vh):TG:=fun v U H Q=>to U H fun o H1=>ti U H1 fun i H2=>t o i v H2 fun H3=>Q U H3
theorem WJ{o i:Expr}{to ti:TE}{t:Vh}(ho:PE X o to)(hi:PE X i ti)(hs:XH X t)(ha:∀v,assign (.Subscript o i pos) X.env v=(do
   let ov <- holding [v] (eval o X.env)
   let iv <- holding [v,ov] (eval i X.env)
   standAt pos
   holding [v,ov,iv] (setItem ov iv v)
   release [v,ov,iv] []):=by intro _; rfl):PG X (.Subscript o i pos) (X0 to ti t):=by
 intro pins s U H v u Q I r h;rw[ha];refine wpAny_bind (wpAny_holding (thn (ho pins s U H _ I h) fun ov s1 yy=>?_));obtain⟨x,H1,I1,r1,q1⟩:=yy;refine wpAny_bind (wpAny_holding (thn (hi pins s1 U H1 _ I1 q1) fun iv s2 yy=>?_));obtain⟨y,H2,I2,r2,q2⟩:=yy;refine wpAny_bind (wpAny_standAt (wpAny_bind (wpAny_holding (thn (hs pins s2 U H2 x y v ov iv u _ I2 r1 r2 r q2) fun _ s3 yy=>?_))));obtain⟨H3,I3,q3⟩:=yy;exact wpAny_release ⟨U,H3,I3,q3⟩
noncomputable def NF(te:TE)(g:TG):TS:=fun D U H=>te U H fun x H1=>g x U H1 D.nx
theorem Rr{tg e:Expr}{te:TE}{g:TG}(he:PE X e te)(hg:PG X tg g)(hs:swapsWithSole [tg] e pos.line X.env=pure false:=by rfl)(hw:swappedStores [tg] e X.env=pure none:=by rfl)(h1:(assignEach [tg] X.env).map (·.2)=[assign tg X.env]:=by rfl):PS X (.Assign [tg] e pos) (NF te g):=by
 intro pins s U H D I h;refine wpAny_Assign_stores (thn (he pins s U H _ I h) fun v s1 yy=>?_) hs hw;obtain⟨x,H1,I1,r1,q1⟩:=yy;rw[h1];exact thn (hg pins s1 U H1 x v _ I1 r1 q1) fun _ s2 q=>q
theorem WQ{i:Nat}{x:Str}{e:Expr}{te:TE}{pos':Pos}(hN:X.N.Nodup)(hi:X.N[i]? = some x)(hx:Loc X.env.scope x)(he:PE X e te)(hs:swapsWith e (some (.Name x pos')) pos.line X.env=pure false:=by rfl)(hf:X.fn x=true\/X.env.scope.names.lookup x=some .local:=by first|exact .inl rfl|exact .inr rfl|assumption):
  PS X (.Assign [.Name x pos'] e pos) (NF te (G1 i)):=by
 intro pins s U H D I h;refine wpAny_Assign_Name (thn (he pins s U H _ I h) fun v s1 yy=>?_) hs;obtain⟨y,H1,I1,r1,q1⟩:=yy;exact EL I1 hN hi hx r1 (fun s2 I2=>⟨_,H1,I2,q1⟩) hf
noncomputable def Y6(i:Nat)(te:TE)(ti:TIp):TS:=fun D U H=>∃x,U[i]? = some (some x)/\te U H fun y H1=>ti x y H1 fun z H2=>D.nx (U.set i (some z)) H2
theorem WM{i:Nat}{x:Str}{e:Expr}{te:TE}{op:Operator}{ti:TIp}{pos':Pos}(hN:X.N.Nodup)(hi:X.N[i]? = some x)(hx:Loc X.env.scope x)(he:PE X e te)(ho:PIp X op ti)(hf:X.fn x=true\/X.env.scope.names.lookup x=some .local:=by first|exact .inl rfl|exact .inr rfl|assumption):
  PS X (.AugAssign (.Name x pos') op e pos) (Y6 i te ti):=by
 intro pins s U H D I h;obtain⟨v,e1,h⟩:=h;obtain⟨m,hn,hl⟩:=I.loc;have vis:Vis X.env.scope x:=by rcases hx with k|k; exact .inl k; exact .inr (.inl k)
 obtain⟨u,r,l⟩:=hl i x v hi e1 vis;refine wpAny_AugAssign_Name ?_;have go:wpAny (model X.prog X.w) X.A (eval e X.env) (fun w s₂=>wpAny (model X.prog X.w) X.A (inplaceOp op u w) (fun r s₃=>wpAny (model X.prog X.w) X.A (storeName X.env x r) (fun _=>SP X pins D .next) X.xe s₃) X.xe s₂) X.xe s:=by
  refine thn (he pins s U H _ I h) fun w s1 yy=>?_;obtain⟨y,H1,I1,r1,q1⟩:=yy;refine thn (ho pins s1 U H1 v y u w _ I1 r r1 q1) fun z s2 yy=>?_;obtain⟨zv,H2,I2,r2,q2⟩:=yy;exact EL I2 hN hi hx r2 (fun s3 I3=>⟨_,H2,I3,q2⟩) hf
 rcases l with ⟨hk,hm⟩|⟨hk,c,hc,hcell⟩
 .exact wpAny_loadName_local I.ok.kind hk hn hm go
 .rcases hk with hk|hk
  .exact wpAny_loadName_cell I.ok.kind hk hc hcell go
  .rcases hx with k|k
   .have:X.env.scope.names.lookup x=some .free:=hk
    rw[k] at this; cases this
   .have:X.env.scope.names.lookup x=some .free:=hk
    rw[k] at this; cases this
noncomputable def ipI(f:Int->Int->Int):TIp:=fun x y H Q=>∃i j,x=.int i/\y=.int j/\Q (.int (f i j)) H
theorem VF:PIp X .Add (ipI fun i j=>i+j):=by
 intro pins s U H x y v u Q I r1 r2 h;obtain⟨i,j,e1,e2,q⟩:=h;subst e1; subst e2;obtain⟨t,rfl⟩:=r1;obtain⟨t',rfl⟩:=r2;exact iadd_int ⟨.int _,H,I.tok _,⟨_,rfl⟩,q⟩
end
section
variable{X:Cx}{pos:Pos}
noncomputable def R5(c:TT)(tb:TS):TS:=fun D U H=>∃W:Nat->St->Hp->Prop,(∃m,W m U H)/\∀m U H,W m U H ->
 c U H fun b H1=>if b=true then ∃N:St->Hp->Prop,(∀σ' H',N σ' H'->∃m',m'<m/\W m' σ' H')/\tb { D with nx:=N,ct:=N,bk:=D.nx } U H1 else D.nx U H1
theorem Rt{c:Expr}{body:List Stmt}{tc:TT}{tb:TS}(hp:PassesOwn (model X.prog X.w) X.A X.env X.xe)(hc:PT X c tc)(hb:PSs X body tb):PS X (.While c body [] pos) (R5 tc tb):=by
 intro pins s U H D I h;obtain⟨W,⟨m0,w0⟩,turn⟩:=h;refine wpAny_While (codeAny_whileLoop (fun n s'=>∃σ' H',Inv X pins σ' H' s'/\W n σ' H') ?_ m0 ⟨U,H,I,w0⟩);rintro n s1 ⟨σ1,H1,I1,w1⟩;refine wpAny_passesOwn hp (thn (hc pins s1 σ1 H1 _ I1 (turn n σ1 H1 w1)) fun b s2 yy=>?_);obtain⟨H2,I2,q2⟩:=yy;cases b with
 | true =>
  obtain⟨N,hN,q2⟩:=q2;rw[if_pos rfl];refine wpAny_passesOwn hp (thn (hb pins s2 σ1 H2 _ I2 q2) fun f s3 q3=>?_);cases f with
  | next =>
   obtain⟨σ3,H3,I3,n3⟩:=q3;obtain⟨m',hm,w3⟩:=hN σ3 H3 n3;exact⟨m',hm,σ3,H3,I3,w3⟩
  | cont =>
   obtain⟨σ3,H3,I3,n3⟩:=q3;obtain⟨m',hm,w3⟩:=hN σ3 H3 n3;exact⟨m',hm,σ3,H3,I3,w3⟩
  | brk=>exact q3
  | ret v=>exact q3
 | false =>
  rw[if_neg Bool.false_ne_true];exact wpAny_execs_nil ⟨σ1,H2,I2,q2⟩
end
structure It where
 go:Nat->Hp->Prop
 yld:Nat->Hp->V->Hp->Prop
 stop:Nat->Hp->Prop
noncomputable def FC(X:Cx)(pins:List (Addr×Obj))(H:Hp)(b:Addr):Prop:=
 H b=none/\b≠X.env.locals/\b∉X.fs/\(b∈X.ex\/X.s₀.heap.objs.size<=b)/\(∀x c,X.env.cells.lookup x=some c->c≠b)/\∀p∈X.pn++pins,p.1≠b
theorem Inv.fpOk{X:Cx}{pins:List (Addr×Obj)}{U:St}{H H':Hp}{s:Shared}{b:Addr}(I:Inv X pins U H s)(hb:s.heap.objs.size<=b)(hn:H' b=none):FC X pins H' b:=by
 refine⟨hn,Nat.ne_of_gt (Nat.lt_of_lt_of_le I.lt hb),I.nofs hb,.inr (Nat.le_trans I.sz hb),fun x c e z=>?_,fun p hp z=>?_⟩
 .obtain⟨v,q⟩:=I.cell x c e
  exact absurd (Nat.lt_of_lt_of_le q.lt (by rw[z]; exact hb)) (Nat.lt_irrefl _)
 .exact absurd (Nat.lt_of_lt_of_le (Heap.lt_size (I.pin p hp).1) (by rw[z]; exact hb)) (Nat.lt_irrefl _)
structure Turn (P:Program) (w:World) (K:Frag) (tg:Expr) (J:It) (fp:List Addr) (it:Addr) (tn:Nat->Heap->Prop):Prop where
 mem:it∈fp
 obj:∀i h,tn i h->∀b∈fp,∃o,h.get? b=some o/\∀v,o.data≠.cell v
 keep:∀i h h',tn i h->(∀b∈fp,∀o,h.get? b=some o->h'.get? b=some o)->tn i h'
 item:∀(X:Cx),X.prog=P->X.w=w->X.K=K->X.calm=true->∀(i:Nat) (pins:List (Addr×Obj)) (s:Shared) (U:St) (H:Hp) (E:Value->Shared->Prop),Inv X pins U H s->(∀b∈fp,FC X pins H b)->tn i s.heap->J.go i H ->
  wpAny (model P w) X.A (pyNext (.ref it)) (fun r s1=>∃u,r=some u /\
   wpAny (model P w) X.A (letOwnedTupleGo tg (.ref it) u) (fun _ s2=>∃x H',Inv X pins U H' s2/\RelV x u/\J.yld i H x H'/\tn (i+1) s2.heap/\∀b∈fp,H' b=none) E s1) E s
 done:∀(X:Cx),X.prog=P->X.w=w->X.K=K->X.calm=true->∀(i:Nat) (pins:List (Addr×Obj)) (s:Shared) (U:St) (H:Hp) (E:Value->Shared->Prop),Inv X pins U H s->(∀b∈fp,FC X pins H b)->tn i s.heap->J.stop i H ->
  wpAny (model P w) X.A (pyNext (.ref it)) (fun r s1=>r=none/\Inv X pins U H s1) E s
 self:∀(A:Around) (i:Nat) (s:Shared) (Q:Value->Shared->Prop) (E:Value->Shared->Prop),tn i s.heap->Q (.ref it) s->wpAny (model P w) A (pyIter (.ref it)) Q E s
noncomputable abbrev TI:=St->Hp->(It->Hp->Prop)->Prop
noncomputable def PIE(X:Cx)(pins:List (Addr×Obj))(U:St)(tg:Expr)(R:It->Hp->Prop)(itv:Value)(s2:Shared):Prop:=
 ∃(it:Addr) (fp:List Addr) (tn:Nat->Heap->Prop) (J:It) (H':Hp),itv=.ref it/\Inv X pins U H' s2/\Turn X.prog X.w X.K tg J fp it tn/\tn 0 s2.heap/\(∀b∈fp,FC X pins H' b)/\R J H'
noncomputable def PI(X:Cx)(tg iter:Expr)(wi:TI):Prop:=
 ∀(pins:List (Addr×Obj)) (s:Shared) (U:St) (H:Hp) (R:It->Hp->Prop),Inv X pins U H s->wi U H R ->
  wpAny (model X.prog X.w) X.A (eval iter X.env) (fun v s1=>wpAny (model X.prog X.w) X.A (pyIter v) (PIE X pins U tg R) X.xe s1) X.xe s
theorem N0{M:Model}{A:Around}{E:Value->Shared->Prop}{s:Shared}{tg:Expr}{it:Addr}{u:Value}{o:Obj}{n:String}{vs:Array Value}{Q:Unit->Shared->Prop}(ho:s.heap.get? it=some o)(hc:o.cls=.type n)(hd:o.data=.fields vs)(hn:["enumerate","zip","dict_itemiterator","dict_reverseitemiterator","odict_iterator","itertools.zip_longest","itertools.pairwise"].contains n=false)(hQ:Q () s):wpAny M A (letOwnedTupleGo tg (.ref it) u) Q E s:=by
 unfold letOwnedTupleGo;cases tg<;>first
  | exact wpAny_pure hQ
  | (cases u<;>first
    | exact wpAny_pure hQ
    | (refine wpAny_bind (wpAny_load ho ?_)
       rw[hc,hd];show wpAny M A (if (["enumerate","zip","dict_itemiterator","dict_reverseitemiterator","odict_iterator","itertools.zip_longest","itertools.pairwise"].contains n&&vs[0]? == some (rawInt _))=true then _ else _) Q E s;rw[if_neg (by intro h; rw[hn,Bool.false_and] at h; cases h)];exact wpAny_pure hQ))
noncomputable def Itl(K:Frag)(a:Addr):It:=
 ⟨fun i H=>∃xs x,SqL K H a xs/\xs[i]? = some x,fun i H x H'=>H'=H/\∀xs,SqL K H a xs->xs[i]? = some x,fun i H=>∃xs,SqL K H a xs/\xs.length<=i⟩
noncomputable def Itt(K:Frag)(a:Addr):It:=
 ⟨fun i H=>∃xs x,SqT K H a xs/\xs[i]? = some x,fun i H x H'=>H'=H/\∀xs,SqT K H a xs->xs[i]? = some x,fun i H=>∃xs,SqT K H a xs/\xs.length<=i⟩
noncomputable def Itr(lo:Int)(n:Nat):It:=⟨fun i _=>i<n,fun i H x H'=>H'=H/\x=.int (lo+i),fun i _=>n<=i⟩
theorem Pn{P:Program}{w:World}{K:Frag}{tg:Expr}(a it:Addr):Turn P w K tg (Itl K a) [it] it (fun i h=>h.IsListIter it a i) where
 mem:=by simp
 obj:=fun i h st b hb=>by
  have e:b=it:=by simpa using hb
  subst e;obtain⟨o,e,c,d⟩:=st;exact⟨o,e,fun v z=>by rw[d] at z; cases z⟩
 keep:=fun i h h' st k=>st.at fun o e=>k it (by simp) o e
 item:=by
  intro X hP hw hK hc i pins s U H E I hf st hg;subst hP hw hK;obtain⟨xs,x,hq,hx⟩:=hg;obtain⟨its,rv,p,hz⟩:=I.list hq;obtain⟨u,hu,ru⟩:=rv.get hx;obtain⟨f0,f1,f2,f3,f4,f5⟩:=hf it (by simp);refine wpAny_pyNext_list_item st p.isList (x:=u) (by simpa using hu) fun h' st' sb=>?_;have I1:Inv X pins U H { s with heap:=h' }:=I.turned (t':=s.toks) (fun b o hb e=>(sb.2 b hb).trans e) f0 f1 f3 f4 f5;obtain⟨o,e,c,d⟩:=id st';exact⟨u,rfl,N0 (s:={ s with heap:=h' }) e c d (by decide) ⟨x,H,I1,ru,⟨rfl,fun ys hy=>by rw[I.list_inj hy hq]; exact hx⟩,st',fun b hb=>(hf b hb).1⟩⟩
 done:=by
  intro X hP hw hK hc i pins s U H E I hf st hg;subst hP hw hK;obtain⟨xs,hq,hx⟩:=hg;obtain⟨its,rv,p,hz⟩:=I.list hq;obtain⟨f0,f1,f2,f3,f4,f5⟩:=hf it (by simp);have hl:=rv.length;exact wpAny_pyNext_list_end (I.ok.hd hc) st p.isList (by simp; lia) fun h' eb=>⟨rfl,I.turned (t':=s.toks) (fun b o hb e=>eb b o hb e) f0 f1 f3 f4 f5⟩
 self:=fun _ _ _ _ _ st h=>wpAny_pyIter_listiter st h
theorem NK{P:Program}{w:World}{K:Frag}{tg:Expr}(a it:Addr):Turn P w K tg (Itt K a) [it] it (fun i h=>h.IsTupleIter it a i) where
 mem:=by simp
 obj:=fun i h st b hb=>by
  have e:b=it:=by simpa using hb
  subst e;obtain⟨o,e,c,d⟩:=st;exact⟨o,e,fun v z=>by rw[d] at z; cases z⟩
 keep:=fun i h h' st k=>st.at fun o e=>k it (by simp) o e
 item:=by
  intro X hP hw hK hc i pins s U H E I hf st hg;subst hP hw hK;obtain⟨xs,x,hq,hx⟩:=hg;obtain⟨its,rv,p,hz⟩:=I.tuple hq;obtain⟨u,hu,ru⟩:=rv.get hx;obtain⟨f0,f1,f2,f3,f4,f5⟩:=hf it (by simp);refine wpAny_pyNext_tuple_item st (show s.heap.IsTuple a its.toArray from p) (x:=u) (by simpa using hu) fun h' st' sb=>?_;have I1:Inv X pins U H { s with heap:=h' }:=I.turned (t':=s.toks) (fun b o hb e=>(sb.2 b hb).trans e) f0 f1 f3 f4 f5;obtain⟨o,e,c,d⟩:=id st';exact⟨u,rfl,N0 (s:={ s with heap:=h' }) e c d (by decide) ⟨x,H,I1,ru,⟨rfl,fun ys hy=>by rw[I.tuple_inj hy hq]; exact hx⟩,st',fun b hb=>(hf b hb).1⟩⟩
 done:=by
  intro X hP hw hK hc i pins s U H E I hf st hg;subst hP hw hK;obtain⟨xs,hq,hx⟩:=hg;obtain⟨its,rv,p,hz⟩:=I.tuple hq;obtain⟨f0,f1,f2,f3,f4,f5⟩:=hf it (by simp);have hl:=rv.length;exact wpAny_pyNext_tuple_end (I.ok.hd hc) st (show s.heap.IsTuple a its.toArray from p) (by simp; lia) fun h' eb=>⟨rfl,I.turned (t':=s.toks) (fun b o hb e=>eb b o hb e) f0 f1 f3 f4 f5⟩
 self:=fun _ _ _ _ _ st h=>wpAny_pyIter_tupleiter st h
theorem NJ{P:Program}{w:World}{K:Frag}{tg:Expr}(it:Addr)(lo:Int)(n:Nat):Turn P w K tg (Itr lo n) [it] it (fun i h=>IsRangeIter h it (lo+(i:Nat)*1) ((n:Int)-(i:Nat)) 1) where
 mem:=by simp
 obj:=fun i h st b hb=>by
  have e:b=it:=by simpa using hb
  subst e;exact⟨_,st,fun v z=>by
   have z':Data.fields _=Data.cell v:=z;cases z'⟩
 keep:=fun i h h' st k=>k it (by simp) _ st
 item:=by
  intro X hP hw hK hc i pins s U H E I hf st hg;subst hP hw hK;obtain⟨f0,f1,f2,f3,f4,f5⟩:=hf it (by simp);have W:=Walks.range (prog:=X.prog) (w:=X.w) (I.ok.hd hc) it lo 1 n;refine W.item i s _ _ hg st fun v h' tk hv st' kk=>?_;obtain⟨t,rfl⟩:=hv;have I1:Inv X pins U H { s with heap:=h',toks:=tk }:=I.turned (fun b o hb e=>kk b o (by simpa using hb) e) f0 f1 f3 f4 f5;refine⟨_,rfl,N0 (s:={ s with heap:=h',toks:=tk }) (n := "range_iterator") st' rfl rfl (by decide) ⟨.int (lo+i),H,I1,⟨t,?_⟩,⟨rfl,rfl⟩,st',fun b hb=>(hf b hb).1⟩⟩;rw[Int.mul_one]
 done:=by
  intro X hP hw hK hc i pins s U H E I hf st hg;subst hP hw hK;obtain⟨f0,f1,f2,f3,f4,f5⟩:=hf it (by simp);exact wpAny_pyNext_range_end (I.ok.hd hc) st (by have:n<=i:=hg; lia) fun h' eb=>⟨rfl,I.turned (t':=s.toks) (fun b o hb e=>eb b o hb e) f0 f1 f3 f4 f5⟩
 self:=fun _ _ _ _ _ st h=>wpAny_pyIter_rangeiter st h
end L2
namespace L2
open PySem PySem.Spec PyProof.Rows
section
variable{X:Cx}{tg:Expr}
theorem Ry{pins:List (Addr×Obj)}{U:St}{H:Hp}{s:Shared}{R:It->Hp->Prop}{E:Value->Shared->Prop}{lo hi:Int}{t u v:Tok}{tk:Nat}(I:Inv X pins U H s)(h1 : -(2 ^ 62)<=lo)(h2:lo<2 ^ 62)(h3 : -(2 ^ 62)<=hi)(h4:hi<2 ^ 62)(q:R (Itr lo (hi-lo).toNat) H):wpAny (model X.prog X.w) X.A (pyIter (.ref s.heap.objs.size)) (PIE X pins U tg R) E { s with heap:=s.heap.push { cls:=.type "range",data:=.fields #[.int lo t,.int hi u,.int 1 v] },toks:=tk }:=by
 refine wpAny_pyIter_range (IsRange.new ..) (small_one h1 h2 h3 h4) ?_;have I1:Inv X pins U H { s with heap:=s.heap.push { cls:=.type "range",data:=.fields #[.int lo t,.int hi u,.int 1 v] },toks:=tk }:=I.kept fun b o e=>Heap.get?_push_of_some _ e;refine⟨(s.heap.push { cls:=.type "range",data:=.fields #[.int lo t,.int hi u,.int 1 v] }).objs.size,[(s.heap.push { cls:=.type "range",data:=.fields #[.int lo t,.int hi u,.int 1 v] }).objs.size],_,_,H,rfl,
  I1.kept (t':=tk) fun b o e=>Heap.get?_push_of_some _ e,NJ _ lo (hi-lo).toNat,?_,fun b hb=>?_,q⟩
 .have e1:lo+((0:Nat):Int)*1=lo:=by simp
  have e2:(((hi-lo).toNat:Nat):Int)-((0:Nat):Int)=Builtin.Range.rangeSize lo hi 1:=by rw[rangeSize_one]; split<;>lia
  show IsRangeIter _ _ (lo+((0:Nat):Int)*1) ((((hi-lo).toNat:Nat):Int)-((0:Nat):Int)) 1;rw[e1,e2];exact Heap.get?_push_size _ rfl
 .have e:b=(s.heap.push { cls:=.type "range",data:=.fields #[.int lo t,.int hi u,.int 1 v] }).objs.size:=by simpa using hb
  subst e;exact I1.fpOk (Nat.le_refl _) (I1.hok.fresh (Nat.le_refl _))
noncomputable def UR(ta:TA):TI:=fun U H R=>ta U H fun vs H1=>∃j:Int,vs=[.int j]/\-(2 ^ 62)<=j/\j<2 ^ 62/\R (Itr 0 j.toNat) H1
theorem O7{a:Expr}{ta:TA}{p pos:Pos}(hg:Gl X "range")(hm:X.mg "range" = none)(ha:PA X [a] ta)(hs:starEach [a] X.env=[(false,eval a X.env)]:=by rfl):PI X tg (.Call (.Name "range" p) [a] [] pos) (UR ta):=by
 intro pins s U H R I h;refine Call_ (Gx I hg hm boot_range (PyProof.Rows.callWith_type1 (thn (ha pos pins s U H _ I h) fun us s1 ⟨vs,H1,I1,r1,q1⟩=>?_) hs rfl));obtain⟨j,e,q1,q2,q⟩:=q1;subst e;cases r1 with
 | cons r rr =>
  cases rr;obtain⟨t,rfl⟩:=r;exact call_range_1 (Ry I1 (by lia) (by lia) q1 q2 (by simpa using q))
noncomputable def YF(wi:TI)(g:TG)(tb:TS):TS:=fun D U H=>wi U H fun J H1=>∃W:Nat->Nat->St->Hp->Prop,(∃m,W 0 m U H1)/\∀i m U H,W i m U H ->
 (J.stop i H/\D.nx U H)\/(J.go i H/\∃N:St->Hp->Prop,(∀σ' H',N σ' H'->∃m',m'<m/\W (i+1) m' σ' H')/\∀x H',J.yld i H x H'->g x U H' fun σ2 H2=>tb { D with nx:=N,ct:=N,bk:=D.nx } σ2 H2)
noncomputable def Jd(fp:List Addr)(h:Heap):List (Addr×Obj):=fp.filterMap fun b=>(h.get? b).map fun o=>(b,o)
theorem E7{fp:List Addr}{h:Heap}{b:Addr}{o:Obj}(hb:b∈fp)(e:h.get? b=some o):(b,o)∈Jd fp h:=List.mem_filterMap.mpr ⟨b,hb,by rw[e]; rfl⟩
theorem O1{fp:List Addr}{h:Heap}{p:Addr×Obj}(hp:p∈Jd fp h):p.1∈fp/\h.get? p.1=some p.2:=by
 obtain⟨b,hb,e⟩:=List.mem_filterMap.mp hp;cases q:h.get? b with
 | none=>rw[q] at e; cases e
 | some o =>
  rw[q] at e;have e':(b,o)=p:=Option.some.inj e;subst e';exact⟨hb,q⟩
theorem Inv.pinned{pins:List (Addr×Obj)}{U:St}{H:Hp}{s:Shared}{fp:List Addr}(I:Inv X pins U H s)(hf:∀b∈fp,FC X pins H b)(ho:∀b∈fp,∃o,s.heap.get? b=some o/\∀v,o.data≠.cell v):Inv X (pins++Jd fp s.heap) U H s:=
 I.pins_of fun p hp=>(List.mem_append.mp hp).elim (fun z=>I.pin p (List.mem_append_right _ z)) fun z=>by
  obtain⟨hb,e⟩:=O1 z;obtain⟨f0,f1,f2,_⟩:=hf p.1 hb;obtain⟨o,e',d⟩:=ho p.1 hb;rw[e] at e'; cases e';exact⟨e,f0,f1,f2,d⟩
theorem Inv.unpinned{pins pl:List (Addr×Obj)}{U:St}{H:Hp}{s:Shared}(I:Inv X (pins++pl) U H s):Inv X pins U H s:=I.pins_of fun p hp=>I.pin p (List.mem_append_right _ (List.mem_append_left _ hp))
theorem WN{iter:Expr}{body:List Stmt}{wi:TI}{g:TG}{tb:TS}{pos:Pos}(hp:PassesOwn (model X.prog X.w) X.A X.env X.xe)(hc:X.calm=true)(hi:PI X tg iter wi)(hg:PG X tg g)(hb:PSs X body tb)(hs:∀x,foldedSetIterable iter X.env x=pure x:=by intro _; rfl):PS X (.For tg iter body [] pos) (YF wi g tb):=by
 intro pins s U H D I h;refine wpAny_For (thn (hi pins s U H _ I h) fun v s1 h1=>thn h1 fun itv s2 h2=>?_) hs;obtain⟨it,fp,tn,J,H2,e,I2,T,st2,f2,W,⟨m0,w0⟩,turn⟩:=h2;subst e
 -- what stays true of the iterator's objects through the loop
 have stat:∀{H':Hp},(∀b∈fp,H' b=none)->∀b∈fp,FC X pins H' b:=fun hn b hb=>⟨hn b hb,(f2 b hb).2⟩;refine codeAny_forLoop_any (fun n s'=>∃i σ' H',Inv X pins σ' H' s'/\tn i s'.heap/\(∀b∈fp,H' b=none)/\W i n σ' H') ?_ m0 ⟨0,U,H2,I2,st2,fun b hb=>(f2 b hb).1,w0⟩;rintro n s3 ⟨i,σ3,H3,I3,st3,fr3,w3⟩;rcases turn i n σ3 H3 w3 with ⟨stop,qn⟩|⟨go,N,hN,step⟩
 .refine wpAny_passesOwn hp (thn (T.done X rfl rfl rfl hc i pins s3 σ3 H3 X.xe I3 (stat fr3) st3 stop) fun r s4 yy=>?_)
  obtain⟨hr,I4⟩:=yy;subst hr;exact wpAny_execs_nil ⟨σ3,H3,I4,qn⟩
 .refine wpAny_passesOwn hp (thn (T.item X rfl rfl rfl hc i pins s3 σ3 H3 X.xe I3 (stat fr3) st3 go) fun r s4 yy=>?_)
  obtain⟨u,hr,h4⟩:=yy;subst hr;refine wpAny_passesOwn hp (thn h4 fun _ s5 yy=>?_);obtain⟨x,H5,I5,r5,y5,st5,fr5⟩:=yy;have I5':=I5.pinned (stat fr5) (T.obj _ _ st5);refine wpAny_passesOwn hp (thn (hg _ s5 σ3 H5 x u _ I5' r5 (step x H5 y5)) fun _ s6 yy=>?_);obtain⟨σ6,H6,I6,q6⟩:=yy;refine wpAny_passesOwn hp (thn (hb _ s6 σ6 H6 _ I6 q6) fun f s7 q7=>?_);have again:∀{σ7:St} {H7:Hp},Inv X (pins++Jd fp s5.heap) σ7 H7 s7->N σ7 H7->∃m,m<n/\∃i σ' H',Inv X pins σ' H' s7/\tn i s7.heap/\(∀b∈fp,H' b=none)/\W i m σ' H':=fun {σ7 H7} I7 n7=>by
   obtain⟨m',hm,w7⟩:=hN σ7 H7 n7;refine⟨m',hm,i+1,σ7,H7,I7.unpinned,T.keep _ _ _ st5 fun b hb o e=>(I7.pin (b,o) (List.mem_append_right _ (List.mem_append_right _ (E7 hb e)))).1,fun b hb=>?_,w7⟩;obtain⟨o,e,d⟩:=T.obj _ _ st5 b hb;exact(I7.pin (b,o) (List.mem_append_right _ (List.mem_append_right _ (E7 hb e)))).2.1
  cases f with
  | next=>obtain⟨σ7,H7,I7,n7⟩:=q7; exact again I7 n7
  | cont=>obtain⟨σ7,H7,I7,n7⟩:=q7; exact again I7 n7
  | brk=>obtain⟨σ7,H7,I7,q7⟩:=q7; exact⟨σ7,H7,I7.unpinned,q7⟩
  | ret v=>obtain⟨x7,σ7,H7,I7,r7,q7⟩:=q7; exact⟨x7,σ7,H7,I7.unpinned,r7,q7⟩
end
end L2
namespace L2
open PySem PySem.Spec PyProof.Rows
noncomputable abbrev R2:=V->V->Hp->VK->Prop
noncomputable def OpR(X:Cx)(f:Value->Value->Sem Value)(r:R2):Prop:=
 ∀(pins:List (Addr×Obj)) (s:Shared) (U:St) (H:Hp) (x y:V) (v u:Value) (Q:VK),Inv X pins U H s->RelV x v->RelV y u->r x y H Q ->
  wpAny (model X.prog X.w) X.A (f v u) (EP X pins U Q) X.xe s
noncomputable def UnR(X:Cx)(f:Value->Sem Value)(r:V->Hp->VK->Prop):Prop:=
 ∀(pins:List (Addr×Obj)) (s:Shared) (U:St) (H:Hp) (x:V) (v:Value) (Q:VK),Inv X pins U H s->RelV x v->r x H Q ->
  wpAny (model X.prog X.w) X.A (f v) (EP X pins U Q) X.xe s
noncomputable def BJ(X:Cx)(f:Value)(r:List V->Hp->VK->Prop):Prop:=
 ∀(pins:List (Addr×Obj)) (s:Shared) (U:St) (H:Hp) (xs:List V) (us:List Value) (Q:VK),Inv X pins U H s->Vals xs us->r xs H Q ->
  wpAny (model X.prog X.w) X.A (call f us) (EP X pins U Q) X.xe s
noncomputable def tOp(r:R2)(ta tb:TE):TE:=fun U H Q=>ta U H fun x H1=>tb U H1 fun y H2=>r x y H2 Q
noncomputable def tUn(r:V->Hp->VK->Prop)(ta:TE):TE:=fun U H Q=>ta U H fun x H1=>r x H1 Q
noncomputable def rI(C:Int->Int->Prop)(g:Int->Int->V):R2:=fun x y H Q=>∃i j,x=.int i/\y=.int j/\C i j/\Q (g i j) H
noncomputable def rI0(g:Int->Int->V):R2:=fun x y H Q=>∃i j,x=.int i/\y=.int j/\Q (g i j) H
noncomputable def rU(g:Int->V):V->Hp->VK->Prop:=fun x H Q=>∃i,x=.int i/\Q (g i) H
section
variable{X:Cx}{a b c:Expr}{ta tb tc:TE}{pos:Pos}
theorem Vp(ha:PE X a ta)(hb:PE X b tb){pins:List (Addr×Obj)}{s:Shared}{U:St}{H:Hp}{R:V->V->Hp->Prop}(I:Inv X pins U H s)(h:ta U H fun x H1=>tb U H1 fun y H2=>R x y H2){Q:Value->Shared->Prop}{f:Value->Value->Sem Value}(hf:∀v u s2 x y H2,Inv X pins U H2 s2->RelV x v->RelV y u->R x y H2->wpAny (model X.prog X.w) X.A (f v u) Q X.xe s2):
  wpAny (model X.prog X.w) X.A (eval a X.env) (fun v s₁=>wpAny (model X.prog X.w) X.A (eval b X.env) (fun u s₂=>wpAny (model X.prog X.w) X.A (f v u) Q X.xe s₂) X.xe s₁) X.xe s:=by
 refine thn (ha pins s U H _ I h) fun v s1 yy=>?_;obtain⟨x,H1,I1,r1,q1⟩:=yy;refine thn (hb pins s1 U H1 _ I1 q1) fun u s2 yy=>?_;obtain⟨y,H2,I2,r2,q2⟩:=yy;exact hf v u s2 x y H2 I2 r1 r2 q2
theorem Yg{op:Operator}{r:R2}(ho:OpR X (binaryOp op) r)(ha:PE X a ta)(hb:PE X b tb):PE X (.BinOp a op b pos) (tOp r ta tb):=by
 intro pins s U H Q I h;exact wpAny_BinOp (Vp ha hb I h fun v u s2 x y H2 I2 rx ry q=>ho pins s2 U H2 x y v u Q I2 rx ry q)
theorem Yh{op:UnaryOp}{r:V->Hp->VK->Prop}(ho:UnR X (unaryOp op) r)(ha:PE X a ta):PE X (.UnaryOp op a pos) (tUn r ta):=by
 intro pins s U H Q I h;exact UnaryOp_ (thn (ha pins s U H _ I h) fun v s1 ⟨x,H1,I1,r1,q1⟩=>ho pins s1 U H1 x v Q I1 r1 q1)
theorem opI{f:Value->Value->Sem Value}{C:Int->Int->Prop}{g:Int->Int->Int}(rule:∀(i j:Int) (t u:Tok) (s:Shared) (Q:Value->Shared->Prop) (E:Value->Shared->Prop),C i j->Q (.int (g i j) s.toks) { s with toks:=s.toks+1 }->wpAny (model X.prog X.w) X.A (f (.int i t) (.int j u)) Q E s):
  OpR X f (rI C fun i j=>.int (g i j)):=by
 intro pins s U H x y v u Q I rx ry h;obtain⟨i,j,rfl,rfl,hc,q⟩:=h;obtain⟨t,rfl⟩:=rx;obtain⟨t',rfl⟩:=ry;exact rule i j t t' s _ _ hc ⟨.int (g i j),H,I.tok _,⟨_,rfl⟩,q⟩
theorem Tr{f:Value->Value->Sem Value}{g:Int->Int->Int}(rule:∀(i j:Int) (t u:Tok) (s:Shared) (Q:Value->Shared->Prop) (E:Value->Shared->Prop),Q (.int (g i j) s.toks) { s with toks:=s.toks+1 }->wpAny (model X.prog X.w) X.A (f (.int i t) (.int j u)) Q E s):
  OpR X f (rI0 fun i j=>.int (g i j)):=by
 intro pins s U H x y v u Q I rx ry h;obtain⟨i,j,rfl,rfl,q⟩:=h;obtain⟨t,rfl⟩:=rx;obtain⟨t',rfl⟩:=ry;exact rule i j t t' s _ _ ⟨.int (g i j),H,I.tok _,⟨_,rfl⟩,q⟩
theorem Tq{f:Value->Value->Sem Value}{g:Int->Int->Bool}(rule:∀(i j:Int) (t u:Tok) (s:Shared) (Q:Value->Shared->Prop) (E:Value->Shared->Prop),Q (.bool (g i j)) s->wpAny (model X.prog X.w) X.A (f (.int i t) (.int j u)) Q E s):
  OpR X f (rI0 fun i j=>.bl (g i j)):=by
 intro pins s U H x y v u Q I rx ry h;obtain⟨i,j,rfl,rfl,q⟩:=h;obtain⟨t,rfl⟩:=rx;obtain⟨t',rfl⟩:=ry;exact rule i j t t' s _ _ ⟨.bl (g i j),H,I,rfl,q⟩
theorem fdB{x y:Int}(h:y.natAbs<1099511627776):Builtin.divisionGoesByPylong x y=false:=PyProof.noPylong_of_log2 (by
 by_cases h0:y.natAbs=0
 .rw[h0]; decide
 .have h1:y.natAbs<2 ^ 40:=by simpa using h
  have:=(Nat.log2_lt h0).mpr h1;omega)
noncomputable def Ve(i j:Int):Prop:=0<j/\j<1099511627776
noncomputable def Oz(i j:Int):Prop:=0<=j/\j<=1000000/\i.natAbs<2 ^ 64
noncomputable def Sf(i j:Int):Prop:=(-(2 ^ 64)<i/\i<2 ^ 64)\/(-(2 ^ 64)<j/\j<2 ^ 64)
theorem Sf.ok{i j:Int}(h:Sf i j):IntMulOk i j:=by
 rcases h with ⟨h1,h2⟩|⟨h1,h2⟩
 .exact .of_left (intBits_le_64 h1 h2)
 .exact .of_right (intBits_le_64 h1 h2)
theorem NL(k:Nat):(0:Int)<=2 ^ k:=by
 rw[two_pow_cast];exact Int.natCast_nonneg _
theorem Wj:OpR X (binaryOp .Add) (rI0 fun i j=>.int (i+j)):=Tr fun _ _ _ _ _ _ _ q=>add_int q
theorem IW:OpR X (binaryOp .Sub) (rI0 fun i j=>.int (i-j)):=Tr fun _ _ _ _ _ _ _ q=>sub_int q
theorem D2:OpR X (binaryOp .Mult) (rI Sf fun i j=>.int (i*j)):=opI fun _ _ _ _ _ _ _ hc q=>mul_int q hc.ok
theorem Oe:OpR X (binaryOp .FloorDiv) (rI Ve fun i j=>.int (i / j)):=opI fun i j _ _ _ _ _ hc q=>by
 have h1:(0:Int)<j:=hc.1;have h2:j<1099511627776:=hc.2;exact floordiv_int (by lia) (by rw[Int.fdiv_eq_ediv_of_nonneg i (by lia)]; exact q) (.inl (fdB (by lia)))
theorem IT:OpR X (binaryOp .Mod) (rI (fun _ j=>0<j) fun i j=>.int (i % j)):=opI fun i j _ _ _ _ _ hc q=>by
 have h1:(0:Int)<j:=hc;exact mod_int' (by lia) (by rw[Int.fmod_eq_emod_of_nonneg i (by lia)]; exact q)
theorem Ra:OpR X (binaryOp .Pow) (rI Oz fun i j=>.int (i ^ j.toNat)):=opI fun _ _ _ _ _ _ _ hc q=>pow_int_small hc.1 hc.2.1 hc.2.2 q
theorem Nh:OpR X (binaryOp .LShift) (rI Oz fun i j=>.int (i*2 ^ j.toNat)):=opI fun _ _ _ _ _ _ _ hc q=>lshift_int_small hc.1 hc.2.1 hc.2.2 q
theorem Wn:OpR X (binaryOp .RShift) (rI (fun _ j=>0<=j) fun i j=>.int (i / 2 ^ j.toNat)):=opI fun i j _ _ _ _ _ hc q =>
 rshift_int hc (by rw[Int.fdiv_eq_ediv_of_nonneg i (NL _)]; exact q)
theorem Wk:OpR X (binaryOp .BitAnd) (rI0 fun i j=>.int (Builtin.bitAnd i j)):=Tr fun _ _ _ _ _ _ _ q=>and_int q
theorem Yd:OpR X (binaryOp .BitOr) (rI0 fun i j=>.int (Builtin.bitOr i j)):=Tr fun _ _ _ _ _ _ _ q=>or_int q
theorem unI{f:Value->Sem Value}{g:Int->Int}(rule:∀(i:Int) (t:Tok) (s:Shared) (Q:Value->Shared->Prop) (E:Value->Shared->Prop),Q (.int (g i) s.toks) { s with toks:=s.toks+1 }->wpAny (model X.prog X.w) X.A (f (.int i t)) Q E s):
  UnR X f (rU fun i=>.int (g i)):=by
 intro pins s U H x v Q I rx h;obtain⟨i,rfl,q⟩:=h;obtain⟨t,rfl⟩:=rx;exact rule i t s _ _ ⟨.int (g i),H,I.tok _,⟨_,rfl⟩,q⟩
theorem Js:UnR X (unaryOp .USub) (rU fun i=>.int (-i)):=unI fun _ _ _ _ _ q=>neg_int q
end
section
variable{X:Cx}{a b c:Expr}{ta tb tc:TE}{pos:Pos}
theorem Kr{pins:List (Addr×Obj)}{U:St}{H:Hp}{s:Shared}{Q:VK}{k k':Bool}(I:Inv X pins U H s)(q:Q (.bl k) H)(e:k=k'):EP X pins U Q (.bool k') s:=by
 subst e;exact⟨.bl k,H,I,rfl,q⟩
theorem Yc:OpR X (compareOp .Lt) (rI0 fun i j=>.bl (decide (i<j))):=Tq fun _ _ _ _ _ _ _ q=>lt_int q
theorem Yb:OpR X (compareOp .LtE) (rI0 fun i j=>.bl (decide (i<=j))):=Tq fun _ _ _ _ _ _ _ q=>le_int q
theorem U3:OpR X (compareOp .Gt) (rI0 fun i j=>.bl (decide (j<i))):=Tq fun _ _ _ _ _ _ _ q=>gt_int q
theorem Q7:OpR X (compareOp .GtE) (rI0 fun i j=>.bl (decide (j<=i))):=Tq fun _ _ _ _ _ _ _ q=>ge_int q
theorem O5:OpR X (compareOp .Lt) (fun x y H Q=>∃i j,x=.str i/\y=.str j/\Q (.bl (decide (i.cps.toList<j.cps.toList))) H):=by
 intro pins s U H x y v u Q I rx ry h;obtain⟨i,j,rfl,rfl,q⟩:=h;obtain⟨t,rfl⟩:=rx;obtain⟨t',rfl⟩:=ry;exact lt_str (Kr I q rfl)
theorem O3:OpR X (compareOp .In) (fun x y H Q=>∃i j,x=.str i/\y=.str j/\Q (.bl (!(Builtin.Str.occurrences j i 0 j.length 1).isEmpty)) H):=by
 intro pins s U H x y v u Q I rx ry h;obtain⟨i,j,rfl,rfl,q⟩:=h;obtain⟨t,rfl⟩:=rx;obtain⟨t',rfl⟩:=ry;exact in_str (Kr I q rfl)
theorem Q8:OpR X (compareOp .Is) (fun x y H Q=>y=.non/\Q (.bl (decide (x=.non))) H):=by
 intro pins s U H x y v u Q I rx ry h;obtain⟨rfl,q⟩:=h;cases ry;refine is_none_gen (Kr I q ?_);cases x<;>first
  | (cases rx; rfl)
  | (obtain⟨t,rfl⟩:=rx; rfl)
theorem OpR.or{f:Value->Value->Sem Value}{r r':R2}(h:OpR X f r)(h':OpR X f r'):OpR X f (fun x y H Q=>r x y H Q\/r' x y H Q):=by
 intro pins s U H x y v u Q I rx ry q;rcases q with q|q
 .exact h pins s U H x y v u Q I rx ry q
 .exact h' pins s U H x y v u Q I rx ry q
theorem Be(b:Expr){op:CmpOp}(h:op≠.In:=by decide)(h2:op≠.NotIn:=by decide):behindInMarks op b=false:=by
 have e1:(op==CmpOp.In)=false:=by cases op<;>first|rfl|exact absurd rfl h
 have e2:(op==CmpOp.NotIn)=false:=by cases op<;>first|rfl|exact absurd rfl h2
 cases b with
 | Set elts k pos =>
  show(k==0&&(op==.In || op==.NotIn)&&elts.all (constantsAlone 8))=false;rw[e1,e2,Bool.or_self,Bool.and_false,Bool.false_and]
 | _=>rfl
theorem Tv{op:CmpOp}{r:R2}(ho:OpR X (compareOp op) r)(ha:PE X a ta)(hb:PE X b tb)(hm:behindInMarks op b=false):PE X (.Compare a [op] [b] pos) (tOp r ta tb):=by
 intro pins s U H Q I h;exact wpAny_Compare1 (Vp ha hb I h fun v u s2 x y H2 I2 rx ry q=>ho pins s2 U H2 x y v u Q I2 rx ry q) hm
noncomputable def Vc(t:TE):TT:=fun U H Q=>t U H fun x H'=>∃k,x=.bl k/\Q k H'
theorem TN{op:CmpOp}{r:R2}(ho:OpR X (compareOp op) r)(ha:PE X a ta)(hb:PE X b tb)(hm:behindInMarks op b=false):PT X (.Compare a [op] [b] pos) (Vc (tOp r ta tb)):=by
 intro pins s U H Q I h;refine wpAny_isTrue_Compare1 (thn (ha pins s U H _ I h) fun v s1 yy=>?_) hm;obtain⟨x,H1,I1,r1,q1⟩:=yy;refine thn (hb pins s1 U H1 _ I1 q1) fun u s2 yy=>?_;obtain⟨y,H2,I2,r2,q2⟩:=yy;refine thn (ho pins s2 U H2 x y v u _ I2 r1 r2 q2) fun c s3 yy=>?_;obtain⟨z,H3,I3,r3,k,e,q3⟩:=yy;subst e;cases r3;exact wpAny_truthy_bool ⟨H3,I3,q3⟩
noncomputable def NG(r r':R2)(ta tb tc:TE):TE:=fun U H Q=>ta U H fun x H1=>tb U H1 fun y H2=>r x y H2 fun z H3=>∃k,z=.bl k /\
 (if k=true then tc U H3 fun w' H4=>r' y w' H4 Q else Q (.bl false) H3)
theorem Rh{op op':CmpOp}{r r':R2}(ho:OpR X (compareOp op) r)(ho':OpR X (compareOp op') r')(ha:PE X a ta)(hb:PE X b tb)(hc:PE X c tc)(hm:lastMarks [op,op'] [b,c]=false:=by with_unfolding_all rfl):PE X (.Compare a [op,op'] [b,c] pos) (NG r r' ta tb tc):=by
 intro pins s U H Q I h;refine Compare_chain (thn (ha pins s U H _ I h) fun v s1 yy=>?_) hm;obtain⟨x,H1,I1,r1,q1⟩:=yy;refine chain_link (thn (hb pins s1 U H1 _ I1 q1) fun u s2 yy=>?_);obtain⟨y,H2,I2,r2,q2⟩:=yy;refine thn (ho pins s2 U H2 x y v u _ I2 r1 r2 q2) fun d s3 yy=>?_;obtain⟨z,H3,I3,r3,k,e,q3⟩:=yy;subst e;cases r3;refine wpAny_truthy_bool ?_;cases k with
 | false=>exact ite_ff ⟨.bl false,H3,I3,rfl,q3⟩
 | true=>exact ite_tt (chain_last (thn (hc pins s3 U H3 _ I3 q3) fun w' s4 ⟨z',H4,I4,r4,q4⟩=>ho' pins s4 U H4 y z' u w' Q I4 r2 r4 q4))
theorem Rv{op op':CmpOp}{r r':R2}(ho:OpR X (compareOp op) r)(ho':OpR X (compareOp op') r')(ha:PE X a ta)(hb:PE X b tb)(hc:PE X c tc)(hm:lastMarks [op,op'] [b,c]=false:=by with_unfolding_all rfl):PT X (.Compare a [op,op'] [b,c] pos) (Vc (NG r r' ta tb tc)):=by
 intro pins s U H Q I h;refine isTrue_chain (thn (ha pins s U H _ I h) fun v s1 yy=>?_) hm;obtain⟨x,H1,I1,r1,q1⟩:=yy;refine test_link (thn (hb pins s1 U H1 _ I1 q1) fun u s2 yy=>?_);obtain⟨y,H2,I2,r2,q2⟩:=yy;refine thn (ho pins s2 U H2 x y v u _ I2 r1 r2 q2) fun d s3 yy=>?_;obtain⟨z,H3,I3,r3,k,e,q3⟩:=yy;subst e;cases r3;refine wpAny_truthy_bool ?_;cases k with
 | false =>
  obtain⟨k',e',q'⟩:=q3;cases e';exact ite_ff ⟨H3,I3,q'⟩
 | true =>
  refine ite_tt (test_last (thn (hc pins s3 U H3 _ I3 q3) fun w' s4 ⟨z',H4,I4,r4,q4⟩=>thn (ho' pins s4 U H4 y z' u w' _ I4 r2 r4 q4) fun d' s5 yy=>?_));obtain⟨z2,H5,I5,r5,k2,e2,q5⟩:=yy;subst e2;cases r5;exact wpAny_truthy_bool ⟨H5,I5,q5⟩
theorem HA:(sizeLine:Nat)<2 ^ 63:=by rw[sizeLine_eq]; decide
theorem Ng:OpR X (binaryOp .Add) (fun x y H Q=>∃i j,x=.str i/\y=.str j/\i.length+j.length<=sizeLine/\Q (.str (i++j)) H):=by
 intro pins s U H x y v u Q I rx ry h;obtain⟨i,j,rfl,rfl,hz,q⟩:=h;obtain⟨t,rfl⟩:=rx;obtain⟨t',rfl⟩:=ry;exact add_str (fun t' tk=>⟨.str (i++j),H,I.tok _,⟨_,rfl⟩,q⟩) hz
theorem vals1{x:V}{us:List Value}(r:Vals [x] us):∃u,us=[u]/\RelV x u:=by
 cases r with
 | cons r1 r2=>cases r2; exact⟨_,rfl,r1⟩
theorem vals2{x y:V}{us:List Value}(r:Vals [x,y] us):∃u w',us=[u,w']/\RelV x u/\RelV y w':=by
 cases r with
 | cons r1 r2 =>
  cases r2 with
  | cons r3 r4=>cases r4; exact⟨_,_,rfl,r1,r3⟩
theorem Ld:BJ X (.builtin "abs") (fun xs H Q=>∃i,xs=[.int i]/\Q (.int (if i<0 then -i else i)) H):=by
 intro pins s U H xs us Q I r h;obtain⟨i,rfl,q⟩:=h;obtain⟨u,rfl,t,rfl⟩:=vals1 r;exact call_abs_int fun u tk=>⟨.int (if i<0 then -i else i),H,I.tok _,⟨_,rfl⟩,q⟩
theorem OF(hc:X.calm=true):BJ X (.builtin "max") (fun xs H Q=>∃i j,xs=[.int i,.int j]/\Q (.int (if j > i then j else i)) H):=by
 intro pins s U H xs us Q I r h;obtain⟨i,j,rfl,q⟩:=h;obtain⟨u,w',rfl,⟨t,rfl⟩,⟨t',rfl⟩⟩:=vals2 r;refine max_two_ints (I.ok.hd hc) fun h' tk k=>⟨_,H,I.kept k,?_,q⟩;by_cases hj:j > i
 .rw[if_pos hj,if_pos hj]; exact⟨_,rfl⟩
 .rw[if_neg hj,if_neg hj]; exact⟨_,rfl⟩
end
end L2
namespace L2
open PySem PySem.Spec PyProof.Rows
structure ObjM (h:Heap) (x dx C:Addr) (mA:Str->Option Value):Prop where
 obj:h.get? x=some (PySem.W.instObj C dx)
 ns:h.Ns1 dx mA
 ne:dx≠x
theorem OX{h:Heap}{dx:Addr}{mA:Str->Option Value}(n:h.Ns1 dx mA):∃od,h.get? dx=some od/\∀name,PySem.W.lookIn name od=some (mA name):=by
 obtain⟨o,es,ep,ho,hd,hk,_,hm⟩:=n;refine⟨o,ho,fun name=>?_⟩;have e:=hm name;unfold nsFind findBy at e;rw[<- Array.find?_toList] at e;unfold PySem.W.lookIn;rw[hd];dsimp only;split
 .rename_i y q
  rw[q] at e;exact congrArg some e
 .rename_i q
  rw[q] at e;have a:es.toList.any (·.refKey)=false:=by
   rw[List.any_eq_false];intro y hy;obtain⟨z,t,hkey⟩:=hk y (Array.mem_toList_iff.mp hy);simp[DictEntry.refKey,hkey]
  have a':¬es.toList.any (·.refKey)=true:=by rw[a]; exact Bool.false_ne_true
  rw[if_neg a'];exact congrArg some e
theorem ObjM.look{h:Heap}{x dx C:Addr}{mA:Str->Option Value}(I:ObjM h x dx C mA):∃od,PySem.W.InstAt h x (PySem.W.instObj C dx) C (some od)/\∀name,PySem.W.lookIn name od=some (mA name):=
 let⟨od,ho,hl⟩:=OX I.ns
 ⟨od,⟨I.obj,rfl,rfl,ho⟩,hl⟩
section
variable{prog:Program}{w:World}{A:Around}{E:Value->Shared->Prop}{s:Shared}{K:Frag}{x dx C f:Addr}{mA:Str->Option Value}{name:Str}{v:Value}
end
theorem Ii.some_of{v:V}{o:Option Value}(r:Ii (some v) o):∃u,o=some u/\RelV v u:=by
 cases o with
 | none=>exact(show False from r).elim
 | some u=>exact⟨u,rfl,r⟩
section
variable{P:Program}{w:World}{H H':Hp}{h h':Heap}{a C dx:Addr}{fs fs':List (Str×V)}
theorem SO(hok:HOk P w H h)(e:H a=some (.ins C dx fs)):∃mA,ObjM h a dx C mA/\(∀f,Ii (fs.lookup f) (mA f))/\PySem.Within mA (fs.map (·.1))/\fs.length<=1000/\H dx=some (.own a):=by
 obtain⟨d,z,ne,ob,mA,n,r,q⟩:=(show Bg P w H h a (.ins C dx fs) from hok a _ e);exact⟨mA,⟨ob,n,ne⟩,r,q,z,d⟩
end
structure Cls (K:Frag) (C:Addr):Prop where
 pg:PySem.W.plainGet K C Str.empty=true
 hd:PySem.W.hasDictIn K C=true
 po:PySem.W.plainOver K C=true
 sa:PySem.W.findIn K (.ref C) "__setattr__" = some (some (.builtin "object.__setattr__"))
theorem Cls.get{K:Frag}{C:Addr}(c:Cls K C)(f:Str):PySem.W.plainGet K C f=true:=c.pg
section
variable{X:Cx}{pins:List (Addr×Obj)}{U:St}{H:Hp}{s:Shared}{a C dx:Addr}{fs:List (Str×V)}{f:Str}{v:V}{A:Around}{E:Value->Shared->Prop}
end
section
variable{X:Cx}{o e value:Expr}{f:Str}{pos pos' tpos:Pos}{ta tv:TE}
end
section
variable{X:Cx}{pins:List (Addr×Obj)}{U:St}{H:Hp}{s:Shared}{A:Around}{E:Value->Shared->Prop}{Q:Value->Shared->Prop}{c:Value}{b:Bool}
inductive TyOf (K:Frag) (H:Hp):V->Value->Prop where
 | non:TyOf K H .non (.type "NoneType")
 | bl (x:Bool):TyOf K H (.bl x) (.type "bool")
 | int (i:Int):TyOf K H (.int i) (.type "int")
 | str (x:Str):TyOf K H (.str x) (.type "str")
 | flt (x:UInt64):TyOf K H (.flt x) (.type "float")
 | lst {a:Addr} {xs:List V} (e:H a=some (.lst xs)):TyOf K H (.ref a) (.type "list")
 | frz {a:Addr} {o:Obj} {xs:List V} (e:H a=some (.frz o (.lst xs))):TyOf K H (.ref a) (.type "list")
 | tup {a:Addr} {xs:List V} (e:H a=some (.tup xs)):TyOf K H (.ref a) (.type "tuple")
 | dK {a:Addr} {kvs:List (Key×V)} (e:H a=some (.dK kvs)):TyOf K H (.ref a) (.type "dict")
 | dT {a:Addr} {kvs:List (D×V)} (e:H a=some (.dT kvs)):TyOf K H (.ref a) (.type "dict")
 | ins {a C dx:Addr} {fs:List (Str×V)} (e:H a=some (.ins C dx fs)) (cl:Cls K C) (ha:PySem.W.findIn K (.ref C) "__class__" = some (some (.builtin "object.__class__")))
   (hn:PySem.W.specialIn K (.builtin "object.__class__") "__get__" = some (some (.builtin "getset_descriptor.__get__"))) (htk:PySem.W.takesIn K (.builtin "object.__class__")=some true)
   (hm:PySem.W.mroIn K C (.type "object")=some true):TyOf K H (.ref a) (.ref C)
theorem OQ{x:V}{u t:Value}(I:Inv X pins U H s)(rx:RelV x u)(ty:TyOf X.K H x t)(e:PySem.W.kitOne X.K t c=some b)(h:∀tk,Q (.bool b) { s with toks:=tk }):
  wpAny (model X.prog X.w) A (call (.builtin "isinstance") [u,c]) Q E s:=by
 cases ty with
 | non=>cases (show u=Value.none from rx); exact PySem.W.kia_one PySem.W.kitx_none I.kIn True.intro e (fun z=>nomatch z) h
 | bl y=>cases (show u=Value.bool y from rx); exact PySem.W.kia_one PySem.W.kitx_bool I.kIn True.intro e (fun z=>nomatch z) h
 | int i=>obtain⟨t,q⟩:=(show ∃t,u=Value.int i t from rx); cases q; exact PySem.W.kia_one PySem.W.kitx_int I.kIn True.intro e (fun z=>nomatch z) h
 | str y=>obtain⟨t,q⟩:=(show ∃t,u=Value.str y t from rx); cases q; exact PySem.W.kia_one PySem.W.kitx_str I.kIn True.intro e (fun z=>nomatch z) h
 | flt y=>obtain⟨t,q⟩:=(show ∃t,u=Value.float y t from rx); cases q; exact PySem.W.kia_one PySem.W.kitx_float I.kIn True.intro e (fun z=>nomatch z) h
 | @lst a xs ea =>
  cases (show u=Value.ref a from rx);obtain⟨_,_,n,_,h1⟩:=(show Bg X.prog X.w H s.heap a (.lst xs) from I.hok a _ ea);exact PySem.W.kia_one PySem.W.kitx_list I.kIn ⟨_,h1,rfl⟩ e (fun z=>nomatch z) h
 | @frz a ob xs ea =>
  cases (show u=Value.ref a from rx);obtain⟨_,_,_,n,_,h1⟩:=(show Bg X.prog X.w H s.heap a (.frz ob (.lst xs)) from I.hok a _ ea);exact PySem.W.kia_one PySem.W.kitx_list I.kIn ⟨_,h1,rfl⟩ e (fun z=>nomatch z) h
 | @tup a xs ea =>
  cases (show u=Value.ref a from rx);obtain⟨_,_,_,p⟩:=(show Bg X.prog X.w H s.heap a (.tup xs) from I.hok a _ ea);obtain⟨o,h1,h2,_⟩:=p;exact PySem.W.kia_one PySem.W.kitx_tuple I.kIn ⟨o,h1,h2⟩ e (fun z=>nomatch z) h
 | @dK a kvs ea =>
  cases (show u=Value.ref a from rx);obtain⟨_,_,vs,_,p⟩:=(show Bg X.prog X.w H s.heap a (.dK kvs) from I.hok a _ ea);obtain⟨o,es,ep,h1,h2,_⟩:=p;exact PySem.W.kia_one PySem.W.kitx_dict I.kIn ⟨o,h1,h2.1⟩ e (fun z=>nomatch z) h
 | @dT a kvs ea =>
  cases (show u=Value.ref a from rx);obtain⟨_,_,xs,_,o,es,ep,h1,h2,_⟩:=(show Bg X.prog X.w H s.heap a (.dT kvs) from I.hok a _ ea);exact PySem.W.kia_one PySem.W.kitx_dict I.kIn ⟨o,h1,h2.1⟩ e (fun z=>nomatch z) h
 | @ins a C dx fs ea cl ha hn htk hm =>
  cases (show u=Value.ref a from rx);obtain⟨mA,O,_⟩:=SO I.hok ea;obtain⟨od,J,_⟩:=O.look;exact PySem.W.kia_one (PySem.W.kitx_own (cl.get _) cl.hd ha hn htk hm) I.kIn J e (fun z=>nomatch z) h
end
end L2
namespace L2
open PySem PySem.Spec PyProof.Rows
structure Room (k:Nat) (A:Around):Prop where
 hd:A.handled=none
 dp:A.depth+3*k+5<recursionLimit
 un:A.units+16*k+200<cLine
theorem Room.mono{j k:Nat}{A:Around}(r:Room k A)(h:j<=k):Room j A:=⟨r.hd,by have:=r.dp; lia,by have:=r.un; lia⟩
theorem Room.deeper{k:Nat}{A:Around}(r:Room (k+1) A)(env:Env):Room k (A.deeper env):=
 ⟨r.hd,by have:=r.dp; show A.depth+1+3*k+5<_; lia,by have:=r.un; show A.units+3+16*k+200<_; lia⟩
theorem Room.depth{k:Nat}{A:Around}(r:Room k A):A.depth<recursionLimit:=by have:=r.dp; lia
theorem Room.units{k:Nat}{A:Around}(r:Room k A):A.units+64<cLine:=by have:=r.un; lia
noncomputable def GG:TA:=fun _ H Q=>Q [] H
noncomputable def BP(ta:TE)(tr:TA):TA:=fun U H Q=>ta U H fun x H1=>tr U H1 fun xs H2=>Q (x::xs) H2
section
variable{X:Cx}{e:Expr}{es:List Expr}{te:TE}{t:TA}{pos:Pos}
theorem Ff:PA X [] GG:=fun _ _ _ _ H Q I h=>Calls.spliced_nil ⟨[],H,I,.nil,h⟩
theorem CZ(ha:PE X e te)(hr:PA X es t)(hs:starEach (e::es) X.env=(false,eval e X.env)::starEach es X.env:=by rfl):PA X (e::es) (BP te t):=by
 intro pos pins s U H Q I h;rw[hs];show wpAny _ _ (spliced ((false,eval e X.env)::backTo pos (starEach es X.env))) _ _ s;refine Calls.spliced_cons (thn (ha pins s U H _ I h) fun u s1 yy=>?_);obtain⟨x,H1,I1,r1,q1⟩:=yy;exact thn (hr pos pins s1 U H1 _ I1 q1) fun us s2 ⟨xs,H2,I2,r2,q2⟩=>⟨x::xs,H2,I2,.cons r1 r2,q2⟩
noncomputable def YO(t:TA):TE:=fun U H Q=>t U H fun xs H1=>xs.length<=sizeLine/\∀p,H1 p=none->Q (.ref p) (upd H1 p (.tup xs))
noncomputable def YH(t:TA):TE:=fun U H Q=>t U H fun xs H1=>xs.length<=sizeLine/\∀p,H1 p=none->Q (.ref p) (upd H1 p (.lst xs))
theorem WI{x1}(h:PA X es t):PE X (.Tuple es x1 pos) (YO t):=by
 intro pins s U H Q I hq;refine wpAny_Tuple_spliced (thn (h pos pins s U H _ I hq) fun us s1 ⟨xs,H1,I1,r,z,q⟩=>⟨by rw[<- r.length]; exact z,?_⟩);have hf:H1 s1.heap.objs.size=none:=I1.hok.fresh (Nat.le_refl _);refine⟨.ref s1.heap.objs.size,upd H1 s1.heap.objs.size (.tup xs),I1.laid (t':=s1.toks) (fun b u e=>Heap.get?_push_of_some _ e) (Nat.le_refl _) ?_,rfl,q _ hf⟩;exact⟨z,us,r,⟨_,Heap.get?_push_size _ rfl,rfl,_,rfl⟩⟩
theorem WC(h:PA X es t):PE X (.List es pos) (YH t):=by
 intro pins s U H Q I hq;refine wpAny_List_spliced (thn (h pos pins s U H _ I hq) fun us s1 ⟨xs,H1,I1,r,z,q⟩=>⟨by rw[<- r.length]; exact z,?_⟩);have hf:H1 s1.heap.objs.size=none:=I1.hok.fresh (Nat.le_refl _);refine⟨.ref s1.heap.objs.size,upd H1 s1.heap.objs.size (.lst xs),I1.laid (t':=s1.toks) (fun b u e=>Heap.get?_push_of_some _ e) (Nat.le_refl _) ?_,rfl,q _ hf⟩;exact⟨z,us,0,r,Heap.get?_push_size _ rfl⟩
end
noncomputable abbrev Sp:=List V->Hp->VK->XK->Prop
noncomputable abbrev CXT:=List Env->Hp->Shared->XK->Value->Shared->Prop
structure Env0 (P:Program) (w:World) (K:Frag) (mg:Str->Option Value) (base:Heap) (A:Around) (outer:List Env) (s:Shared) (H:Hp):Prop where
 frames:A.frames=some outer
 mod:Mod K mg base
 bs:∀b o,base.get? b=some o->s.heap.get? b=some o/\H b=none
 bsz:base.objs.size<=s.heap.objs.size
 funs:s.heap.FunFrames base outer
 frf:∀b∈frs outer,H b=none
 hok:HOk P w H s.heap
 bare:AllBare s.gens
 tb:OA K H
noncomputable def CE(outer:List Env)(P:Program)(w:World)(H:Hp)(s:Shared)(Q:VK)(u:Value)(s':Shared):Prop:=
 ∃v H',s'.os=s.os/\AllBare s'.gens/\Un (frs outer) [] H H' s.heap s'.heap/\HOk P w H' s'.heap/\RelV v u/\Q v H'
noncomputable def CR(CX:CXT)(outer:List Env)(P:Program)(w:World)(H:Hp)(s:Shared)(Q:VK)(E:XK)(r:Result)(s':Shared):Prop:=
 match r with
 | .ok (.ret u)=>CE outer P w H s Q u s'
 | .ok _=>False
 | .error e=>CX outer H s E e s'
structure FnOk (P:Program) (w:World) (K:Frag) (mg:Str->Option Value) (base:Heap) (CX:CXT) (k:Nat) (f:Addr) (fd:FuncData) (ps:List Str) (sp:Sp):Prop where
 len:∀vs H Q E,sp vs H Q E->vs.length=ps.length
 run:∀(A:Around) (outer:List Env) (s:Shared) (H:Hp) (args:Args) (us:List Value) (vs:List V) (Q:VK) (E:XK),Room k A->Env0 P w K mg base A outer s H->BindsTo s fd args (ps.zip us)->Vals vs us->sp vs H Q E ->
  codeAny (model P w) A (.call (.ref f) args) (CR CX outer P w H s Q E) s
section
variable{X:Cx}{pins:List (Addr×Obj)}{U:St}{H:Hp}{s s':Shared}
theorem Inv.env0(I:Inv X pins U H s):Env0 X.prog X.w X.K X.mg X.base X.A X.stack s H:=
 ⟨I.ok.frames,I.ok.mod,I.bs,Nat.le_trans I.ok.bsz I.sz,I.stack,I.stkFree,I.hok,I.bare,I.tabs⟩
theorem Inv.after{Q:VK}{u:Value}(I:Inv X pins U H s)(h:CE X.stack X.prog X.w H s Q u s'):EP X pins U Q u s':=by
 obtain⟨v,H',os,bare,un,hok,r,q⟩:=h;obtain⟨hh,g,d,t,os'⟩:=s';obtain rfl:os'=s.os:=os;exact⟨v,H',I.call (h':=hh) (g':=g) (d':=d) (t':=t) (ch:=[]) un hok bare (fun b z=>absurd z (by simp)),r,q⟩
end
noncomputable def RW(sp:Sp)(dvs:List V)(E:XK)(t:TA):TE:=fun U H Q=>t U H fun vs H1=>sp (vs++dvs) H1 Q E
noncomputable def Binds(K:Frag)(fd:FuncData)(ps:List Str)(ds:List Value):Prop:=
 ∀(s:Shared) (us:List Value),K.In s.heap->(us++ds).length=ps.length->BindsTo s fd ⟨us,[]⟩ (ps.zip (us++ds))
theorem Binds.all{K:Frag}{fd:FuncData}{ps:List Str}(h:∀us:List Value,us.length=ps.length->bindArgs fd ⟨us,[]⟩=pure (ps.zip us)):Binds K fd ps []:=fun s us _ hl=>by
 rw[List.append_nil] at hl |-;exact .of_eq (h us hl)
noncomputable def Passes(CX:CXT)(X:Cx)(E:XK):Prop:=∀(pins:List (Addr×Obj)) (U:St) (H:Hp) (s:Shared) (e:Value) (s':Shared),Inv X pins U H s->CX X.stack H s E e s'->X.xe e s'
section
variable{X:Cx}{CX:CXT}{k:Nat}{f C:Addr}{fd:FuncData}{ps:List Str}{sp:Sp}{dvs:List V}{ds:List Value}{E:XK}{x m:Str}{p pos apos:Pos}{e o:Expr}{es:List Expr}{ta:TE}{t:TA}
theorem W4{pins:List (Addr×Obj)}{U:St}{H:Hp}{s:Shared}{Q:VK}{us:List Value}{vs:List V}(F:FnOk X.prog X.w X.K X.mg X.base CX k f fd ps sp)(hr:Room k X.A)(hb:Binds X.K fd ps ds)(hd:Vals dvs ds)(hx:Passes CX X E)(I:Inv X pins U H s)(r:Vals vs us)(h:sp (vs++dvs) H Q E):wpAny (model X.prog X.w) X.A (call (.ref f) us) (EP X pins U Q) X.xe s:=by
 have r2:Vals (vs++dvs) (us++ds):=r.append hd;have hl:(us++ds).length=ps.length:=by rw[<- r2.length]; exact F.len _ _ _ _ h
 refine wpAny_call (codeAny_mono (F.run X.A X.stack s H ⟨us,[]⟩ (us++ds) (vs++dvs) Q E hr I.env0 (hb s us I.kIn hl) r2 h) fun r s' hq=>?_);cases r with
 | error e=>exact hx pins U H s e s' I hq
 | ok fl =>
  cases fl with
  | ret u=>exact I.after hq
  | next=>exact False.elim hq
  | brk=>exact False.elim hq
  | cont=>exact False.elim hq
theorem Tu(F:FnOk X.prog X.w X.K X.mg X.base CX k f fd ps sp)(hr:Room k X.A)(hg:Gl X x)(hm:X.mg x=some (.ref f))(hk:PySem.W.keepIn X.K (.ref f)=true)(hb:Binds X.K fd ps ds)(hd:Vals dvs ds)(hx:Passes CX X E)(ha:PA X (e::es) t)(hdb:(x==("__debug__" : Str))=false:=by decide)(he:starEach (e::es) X.env=(false,eval e X.env)::starEach es X.env:=by rfl)(hpl:(backTo pos (starEach es X.env)).any (·.1)=false:=by rfl):
  PE X (.Call (.Name x p) (e::es) [] pos) (RW sp dvs E t):=by
 intro pins s U H Q I h;refine wpAny_Call_Name_kw (N9 I hg hm ?_ hdb);refine PySem.W.callWith_K (h₀:=X.base) I.ok.mod.kin hk (thn (ha pos pins s U H _ I h) fun us s1 ⟨vs,H1,I1,r,q⟩=>⟨I1.kIn,?_⟩) he hpl;exact W4 F hr hb hd hx I1 r q
end
section
variable{X:Cx}{CX:CXT}{k:Nat}{f C:Addr}{fd:FuncData}{ps ks:List Str}{sp:Sp}{E:XK}{x m:Str}{p pos apos kpos:Pos}{e o:Expr}{es:List Expr}{kws:List Keyword}{te ta:TE}{t tk:TA}{nm:Option Str}
variable{g:List Value->List Value->List Value}{gV:List V->List V->List V}
end
structure FnScope (N P:List Str) (sc:Scope):Prop where
 kind:sc.kind=.function
 co:sc.isCoroutine=false
 gen:sc.isGenerator=false
 nd:N.Nodup
 pre:N.take P.length=P
 par:∀x∈P,sc.names.lookup x=some .local\/sc.names.lookup x=some .cell
 nofree:∀y∈sc.names,y.2≠.free
theorem JO{kindOf:Str->Option NameKind}{x:Str}:∀{binds:List (Str×Value)} {m:Str->Option Value},(∀v,(x,v)∉binds)->bindL kindOf binds m x=m x
 | [],_,_=>rfl
 | (n,v)::r,m,h=>by
  unfold bindL;rw[JO fun w hw=>h w (List.mem_cons_of_mem _ hw)];split
  .have:x≠n:=by rintro rfl; exact h v List.mem_cons_self
   simp[this]
  .rfl
theorem JM{kindOf:Str->Option NameKind}{x:Str}:∀{binds:List (Str×Value)} {m:Str->Option Value},(∀v,(x,v)∉binds)->bindC kindOf binds m x=m x
 | [],_,_=>rfl
 | (n,v)::r,m,h=>by
  unfold bindC;rw[JM fun w hw=>h w (List.mem_cons_of_mem _ hw)];split
  .rfl
  .have:x≠n:=by rintro rfl; exact h v List.mem_cons_self
   simp[this]
theorem JN{kindOf:Str->Option NameKind}{x:Str}{v:Value}:∀{P:List Str} {vs:List Value} {i:Nat} {m:Str->Option Value},P.Nodup->P[i]? = some x->vs[i]? = some v->kindOf x=some .local ->
  bindL kindOf (P.zip vs) m x=some v
 | [],_,_,_,_,h,_,_=>by simp at h
 | _::_,[],_,_,_,_,h,_=>by simp at h
 | p::P,w::vs,0,m,nd,h1,h2,hk=>by
  simp at h1 h2; subst h1; subst h2;show bindL kindOf ((p,w)::P.zip vs) m p=_;unfold bindL;rw[JO fun v hv=>(List.nodup_cons.mp nd).1 (List.of_mem_zip hv).1,if_pos hk];simp
 | p::P,w::vs,i+1,m,nd,h1,h2,hk=>by
  show bindL kindOf ((p,w)::P.zip vs) m x=_;unfold bindL;exact JN (i:=i) (List.nodup_cons.mp nd).2 (by simpa using h1) (by simpa using h2) hk
theorem JL{kindOf:Str->Option NameKind}{x:Str}{v:Value}:∀{P:List Str} {vs:List Value} {i:Nat} {m:Str->Option Value},P.Nodup->P[i]? = some x->vs[i]? = some v->kindOf x≠some .local ->
  bindC kindOf (P.zip vs) m x=some v
 | [],_,_,_,_,h,_,_=>by simp at h
 | _::_,[],_,_,_,_,h,_=>by simp at h
 | p::P,w::vs,0,m,nd,h1,h2,hk=>by
  simp at h1 h2; subst h1; subst h2;show bindC kindOf ((p,w)::P.zip vs) m p=_;unfold bindC;rw[JM fun v hv=>(List.nodup_cons.mp nd).1 (List.of_mem_zip hv).1,if_neg hk];simp
 | p::P,w::vs,i+1,m,nd,h1,h2,hk=>by
  show bindC kindOf ((p,w)::P.zip vs) m x=_;unfold bindC;exact JL (i:=i) (List.nodup_cons.mp nd).2 (by simpa using h1) (by simpa using h2) hk
noncomputable def start(N:List Str)(vs:List V):St:=vs.map some++List.replicate (N.length-vs.length) none
noncomputable def Li(CX:CXT)(P:Program)(w:World)(K:Frag)(mg:Str->Option Value)(base:Heap)(N:List Str)(qual:Str)(scope:Scope)(f:Addr)(cd:Value)(A:Around)(outer:List Env)(s:Shared)(H:Hp)(E:XK):Cx where
 prog:=P
 w:=w
 K:=K
 mg:=mg
 base:=base
 A:=A.deeper (envOfC qual scope s.heap.objs.size f cd)
 N:=N
 s₀:=s
 H₀:=H
 env:=envOfC qual scope s.heap.objs.size f cd
 outer:=outer
 stack:=envOfC qual scope s.heap.objs.size f cd::outer
 ex:=[]
 calm:=true
 fn:=fun _=>true
 pn:=[]
 xe:=fun e s'=>wpAny (model P w) (A.deeper (envOfC qual scope s.heap.objs.size f cd)) (leaving (envOfC qual scope s.heap.objs.size f cd) e) (fun _ s''=>CX outer H s E e s'') (fun e' s''=>CX outer H s E e' s'') s'
theorem Le{sc:Scope}{n:Nat}{x:Str}(h:sc.names.lookup x=some .cell):∃c,(cellsFrom n sc.names []).lookup x=some c:=by
 have q:=PySem.W.cellsFrom_some sc.names n [] (.inl h);exact Option.isSome_iff_exists.mp q
theorem OO{CX:CXT}{P:Program}{w:World}{K:Frag}{mg:Str->Option Value}{base:Heap}{N ps:List Str}{qual:Str}{scope:Scope}{f:Addr}{cd:Value}{A:Around}{outer:List Env}{s s1:Shared}{H:Hp}{E:XK}{us:List Value}{vs:List V}(S:FnScope N ps scope)(hd:A.handled=none)(e0:Env0 P w K mg base A outer s H)(hl:vs.length=ps.length)(r:Vals vs us)(x:InCallC s s.heap.objs.size (bindL (envOfC qual scope s.heap.objs.size f cd).kindOf (ps.zip us) fun _=>none) (cellsFrom (s.heap.objs.size+1) scope.names []) (bindC (envOfC qual scope s.heap.objs.size f cd).kindOf (ps.zip us) fun _=>none) s1):
  Inv (Li CX P w K mg base N qual scope f cd A outer s H E) [] (start N vs) H s1:=by
 have hpl:ps.length<=N.length:=by have:=congrArg List.length S.pre; rw[List.length_take] at this; lia
 obtain⟨h1,tk,rfl,hk⟩:=x.done;have noA:∀b:Addr,b∉(Li CX P w K mg base N qual scope f cd A outer s H E).ex:=fun b z=>absurd (show b∈([]:List Addr) from z) (by simp);refine⟨⟨e0.mod,S.kind,rfl,rfl,Nat.le_refl _,fun y z c h1 h2=>?_,fun y hy=>?_,fun y c _ h=>?_,fun _=>hd,Around.frames_deeper e0.frames,.inr ⟨rfl,rfl⟩,fun b z=>absurd z (noA b),e0.bs,e0.bsz,fun b _ _=>noA b,fun b z=>absurd z (noA b),e0.funs,e0.frf,e0.tb⟩,
  rfl,e0.bare,Un.kept hk,⟨_,x.toInCall.ns,fun i y v h1 h2 h3=>?_⟩,fun y c h=>⟨_,x.cell y c h⟩,e0.hok.fresh (Nat.le_refl _),fun y c h=>?_,fun p hp=>absurd (show p∈([]:List (Addr×Obj)) from hp) (by simp),e0.hok.kept hk,?_⟩
 .exact name_of_addr x.apart (PySem.mem_of_lookup h1) (PySem.mem_of_lookup h2)
 .have hy:scope.names.lookup y=some .cell\/scope.names.lookup y=some .free:=hy
  rcases hy with hy|hy
  .exact Le hy
  .exact absurd rfl (S.nofree _ (PySem.mem_of_lookup hy))
 .exact Nat.le_of_lt (x.above y c (PySem.mem_of_lookup h))
 .have hi:i<vs.length:=by
   unfold start at h2;by_cases hi:i<vs.length
   .exact hi
   .rw[List.getElem?_append_right (by simpa using hi)] at h2
    rw[List.getElem?_replicate] at h2;split at h2<;>cases h2
  have ha:vs[i]? = some v:=by
   unfold start at h2;rw[List.getElem?_append_left (by simpa using hi),List.getElem?_map] at h2;cases e:vs[i]? with
   | none=>rw[e] at h2; cases h2
   | some a=>rw[e] at h2; cases h2; rfl
  obtain⟨u,hu,rv⟩:=r.get ha;have hp:ps[i]? = some y:=by
   rw[<- S.pre,List.getElem?_take_of_lt (by lia)]; exact h1
  have ndP:ps.Nodup:=by rw[<- S.pre]; exact S.nd.sublist (List.take_sublist _ _)
  refine⟨u,rv,?_⟩;rcases S.par y (List.mem_of_getElem? hp) with k|k
  .exact .inl ⟨k,JN ndP hp hu k⟩
  .obtain⟨c,e⟩:=Le (n:=s.heap.objs.size+1) k
   refine .inr ⟨.inl k,c,e,?_⟩;have q:=x.cell y c e;rw[JL ndP hp hu (by show scope.names.lookup y≠_; rw[k]; decide)] at q;exact q
 .exact e0.hok.fresh (Nat.le_of_lt (x.above y c (PySem.mem_of_lookup h)))
 .unfold start
  show _=N.length;rw[List.length_append,List.length_map,List.length_replicate];lia
theorem UM{CX:CXT}{P:Program}{w:World}{K:Frag}{mg:Str->Option Value}{base:Heap}{k:Nat}{f:Addr}{name qual:Str}{params:Arguments}{body:List Stmt}{scope:Scope}{dV kV doc pm cdv ct oc:Value}{an od:Option Addr}{osl:Array (Option Value)}{N ps:List Str}{sp:Sp}(lk:K.lookup f=some ⟨oc,od,.func (PySem.W.fnOf name qual params body scope dV kV doc pm an cdv ct),osl⟩)(hcd:PySem.W.codeIn K cdv qual=true)(S:FnScope N ps scope)(len:∀vs H Q E,sp vs H Q E->vs.length=ps.length)(hbody:∀(A:Around) (outer:List Env) (s:Shared) (H:Hp) (vs:List V) (Q:VK) (E:XK),Room k (A.deeper (envOfC qual scope s.heap.objs.size f cdv))->sp vs H Q E ->
   ∃t,PSs (Li CX P w K mg base N qual scope f cdv A outer s H E) body t/\t { nx:=fun _ H'=>Q .non H',rt:=Q } (start N vs) H):
  FnOk P w K mg base CX (k+1) f (PySem.W.fnOf name qual params body scope dV kV doc pm an cdv ct) ps sp:=by
 refine⟨len,fun A outer s H args us vs Q E hr e0 hb r hsp=>?_⟩;have hl:=len _ _ _ _ hsp;have KX:K.In s.heap:=e0.mod.kin.keeps fun b o e=>(e0.bs b o e).1;have lim:s.heap.NoLimit:=e0.mod.nolimit.keeps fun b o e=>(e0.bs b o e).1;have hkind:∀y∈ps.zip us,scope.names.lookup y.1=some .local\/(scope.names.lookup y.1=some .cell/\((cellsFrom (s.heap.objs.size+1) scope.names []).lookup y.1).isSome=true):=fun⟨n,v⟩ hy=>by
  rcases S.par n (List.of_mem_zip hy).1 with q|q
  .exact .inl q
  .exact .inr ⟨q,PySem.W.cellsFrom_some _ _ _ (.inl q)⟩
 refine codeAny_call_function hr.depth (KX _ _ lk) rfl S.co S.gen rfl (PySem.W.codeRec_of KX hcd) (hb _ _ _ _ ?_);refine wpAny_newFunctionEnv_cells S.kind hkind fun env he s1 x=>?_;subst he;refine⟨lim.keeps x.toInCall.keep,codeAny_func ?_⟩;obtain⟨t,ht,hq⟩:=hbody A outer s H vs Q E (hr.deeper _) hsp;have I:Inv (Li CX P w K mg base N qual scope f cdv A outer s H E) [] (start N vs) H s1:=OO S hr.hd e0 hl r x;refine wpAny_mono (ht [] s1 (start N vs) H _ I hq) (fun fl s' hs=>?_) fun e s' hs=>hs;have fin:∀{σ':St} {H':Hp} {v:V} {u:Value},Inv (Li CX P w K mg base N qual scope f cdv A outer s H E) [] σ' H' s'->RelV v u->Q v H'->CE outer P w H s Q u s':=
  fun {σ' H' v u} J rv q=>⟨v,H',J.os,J.bare,J.base,J.hok,rv,q⟩
 cases fl with
 | ret u =>
  obtain⟨v,σ',H',J,rv,q⟩:=hs;exact fin J rv q
 | next =>
  obtain⟨σ',H',J,q⟩:=hs;exact fin (v:=V.non) (u:=Value.none) J rfl q
 | brk =>
  obtain⟨_,_,_,q⟩:=hs;exact False.elim q
 | cont =>
  obtain⟨_,_,_,q⟩:=hs;exact False.elim q
end L2
namespace L2
open PySem PySem.Spec PyProof.Rows
section
variable{X:Cx}{x:Str}{p pos:Pos}{e:Expr}{es:List Expr}{t:TA}{id T:String}{r:List V->Hp->VK->Prop}
noncomputable def tCB(r:List V->Hp->VK->Prop)(t:TA):TE:=fun U H Q=>t U H fun vs H1=>r vs H1 Q
theorem L7(hc:BJ X (.builtin id) r)(hg:Gl X x)(hm:X.mg x=none)(hv:bootBuiltins x=some (.builtin id))(ha:PA X (e::es) t)(hn:x ≠ "__name__" := by decide)(hdb:(x==("__debug__" : Str))=false:=by decide)(he:starEach (e::es) X.env=(false,eval e X.env)::starEach es X.env:=by rfl)(hpl:(backTo pos (starEach es X.env)).any (·.1)=false:=by rfl):PE X (.Call (.Name x p) (e::es) [] pos) (tCB r t):=by
 intro pins s U H Q I h;refine wpAny_Call_Name_kw (Gx I hg hm hv ?_ hn hdb);exact PyProof.Rows.callWith_builtin1 (thn (ha pos pins s U H _ I h) fun us s1 ⟨vs,H1,I1,r1,q1⟩=>hc pins s1 U H1 vs us Q I1 r1 q1) he hpl
theorem O6(hc:BJ X (.type T) r)(hg:Gl X x)(hm:X.mg x=none)(hv:bootBuiltins x=some (.type T))(ha:PA X (e::es) t)(hn:x ≠ "__name__" := by decide)(hdb:(x==("__debug__" : Str))=false:=by decide)(he:starEach (e::es) X.env=(false,eval e X.env)::starEach es X.env:=by rfl)(hpl:(backTo pos (starEach es X.env)).any (·.1)=false:=by rfl):PE X (.Call (.Name x p) (e::es) [] pos) (tCB r t):=by
 intro pins s U H Q I h;refine wpAny_Call_Name_kw (Gx I hg hm hv ?_ hn hdb);exact PyProof.Rows.callWith_type1 (thn (ha pos pins s U H _ I h) fun us s1 ⟨vs,H1,I1,r1,q1⟩=>hc pins s1 U H1 vs us Q I1 r1 q1) he hpl
end
end L2
namespace HT
open PySem PyProof.Rows
section
open PySem.SeqAt
open PySem.AutoSeq1 (wpAny_loadPart')
open PySem.MeetsSeq PySem.MeetsSeq2 PySem.MeetsSeq3
end
section
variable{prog:Program}{w:World}{A:Around}{E:Value->Shared->Prop}{s:Shared}
end
end HT
namespace L2
open PySem PySem.Spec PyProof.Rows
noncomputable abbrev TO:=St->Hp->(Option Int->Hp->Prop)->Prop
noncomputable def PO(X:Cx)(e:Option Expr)(t:TO):Prop:=
 ∀(pins:List (Addr×Obj)) (s:Shared) (U:St) (H:Hp) (Q:Option Int->Hp->Prop),Inv X pins U H s->t U H Q ->
  wpAny (model X.prog X.w) X.A (evalPart e X.env) (fun u s'=>∃o H',Inv X pins U H' s'/\IsPart u o/\Q o H') X.xe s
noncomputable def Uu:TO:=fun _ H Q=>Q none H
noncomputable def YJ(t:TE):TO:=fun U H Q=>t U H fun x H1=>∃i,x=.int i/\Q (some i) H1
section
variable{X:Cx}{e:Expr}{te:TE}{lo hi:Option Expr}{tl th:TO}{pos p2:Pos}
theorem TJ:PO X none Uu:=by
 intro pins s U H Q I h;rw[evalPart_none];exact wpAny_pure ⟨none,H,I,.none,h⟩
theorem TK(h:PE X e te):PO X (some e) (YJ te):=by
 intro pins s U H Q I hw;rw[evalPart_some];refine thn (h pins s U H _ I hw) fun u s1 yy=>?_;obtain⟨x,H1,I1,r1,q1⟩:=yy;obtain⟨i,rfl,q⟩:=q1;obtain⟨t,rfl⟩:=r1;exact⟨some i,H1,I1,.int i t,q⟩
noncomputable def SlR(X:Cx)(r:V->Option Int->Option Int->Hp->VK->Prop):Prop:=
 ∀(pins:List (Addr×Obj)) (s:Shared) (U:St) (H:Hp) (x:V) (v vl vu:Value) (lo hi:Option Int) (sl:Addr) (Q:VK),Inv X pins U H s->RelV x v->s.heap.IsSliceOf sl vl vu .none->IsPart vl lo->IsPart vu hi->r x lo hi H Q ->
  ∃T id,typeLookup (.type T) "__getitem__" = pure (some (.builtin id))/\s.TypeIs v T/\wpAny (model X.prog X.w) X.A (getItem v (.ref sl)) (EP X pins U Q) X.xe s
noncomputable def tSl(r:V->Option Int->Option Int->Hp->VK->Prop)(te:TE)(tl th:TO):TE:=fun U H Q=>te U H fun x H1=>tl U H1 fun l H2=>th U H2 fun u H3=>r x l u H3 Q
theorem Rm{r:V->Option Int->Option Int->Hp->VK->Prop}(hr:SlR X r)(he:PE X e te)(hl:PO X lo tl)(hu:PO X hi th):PE X (.Subscript e (.Slice lo hi none p2) pos) (tSl r te tl th):=by
 intro pins s U H Q I h;refine Subscript_ (thn (he pins s U H _ I h) fun v s1 yy=>?_);obtain⟨x,H1,I1,r1,q1⟩:=yy;refine wpAny_Slice (thn (hl pins s1 U H1 _ I1 q1) fun vl s2 ⟨l,H2,I2,pl,q2⟩=>thn (hu pins s2 U H2 _ I2 q2) fun vu s3 yy=>?_);obtain⟨u,H3,I3,pu,q3⟩:=yy;rw[evalPart_none];refine wpAny_pure ?_;have I4:Inv X pins U H3 { s3 with heap:=s3.heap.push { cls:=.type "slice",data:=.fields #[vl,vu,.none] } }:=I3.kept (t':=s3.toks) fun b ob q=>Heap.get?_push_of_some _ q;obtain⟨T,id,hT,ht,hg⟩:=hr pins { s3 with heap:=s3.heap.push { cls:=.type "slice",data:=.fields #[vl,vu,.none] } } U H3 x v vl vu l u s3.heap.objs.size Q I4 r1 (Heap.IsSliceOf.new ..) pl pu q3;show wpAny (model X.prog X.w) X.A (subscriptTail e (.Slice lo hi none p2) v (.ref s3.heap.objs.size)) (EP X pins U Q) X.xe { s3 with heap:=s3.heap.push { cls:=.type "slice",data:=.fields #[vl,vu,.none] } };exact tail_any (ops:=[.ref s3.heap.objs.size,v]) ht hT hg (by with_unfolding_all rfl)
end
end L2
namespace L2
open PySem PySem.Spec PyProof.Rows
noncomputable def ixN(n:Nat)(i:Int):Option Nat:=if 0<=i then (if i<n then some i.toNat else none) else if -(n:Int)<=i then some (i+n).toNat else none
noncomputable def atI{α:Type}(xs:List α)(i:Int):Option α:=(ixN xs.length i).bind fun j=>xs[j]?
theorem N5{n:Nat}{i:Int}{j:Nat}(h:ixN n i=some j):seqIndex? i n=some j/\j<n/\-(n:Int)<=i/\i<n:=by
 unfold ixN at h;by_cases h0:0<=i
 .rw[if_pos h0] at h
  by_cases h1:i<n
  .rw[if_pos h1] at h
   have e:i.toNat=j:=Option.some.inj h;exact⟨by rw[seqIndex_of h0 h1,e],by lia,by lia,h1⟩
  .rw[if_neg h1] at h; cases h
 .rw[if_neg h0] at h
  by_cases h1 : -(n:Int)<=i
  .rw[if_pos h1] at h
   have e:(i+n).toNat=j:=Option.some.inj h;exact⟨by rw[seqIndex_neg (by lia) h1,e],by lia,h1,by lia⟩
  .rw[if_neg h1] at h; cases h
theorem BS{α:Type}{xs:List α}{i:Int}{v:α}(h:atI xs i=some v):∃j,seqIndex? i xs.length=some j/\xs[j]? = some v/\j<xs.length/\-(xs.length:Int)<=i/\i<xs.length:=by
 unfold atI at h;cases e:ixN xs.length i with
 | none=>rw[e] at h; cases h
 | some j =>
  rw[e] at h;obtain⟨h1,h2,h3,h4⟩:=N5 e;exact⟨j,h1,h,h2,h3,h4⟩
noncomputable def NO(b:Expr):Prop:=∀o i,subscripted b false o i=operate [o,i] (getItem o i)
noncomputable def IxR(X:Cx)(r:R2):Prop:=
 ∀(value slice:Expr) (pins:List (Addr×Obj)) (s:Shared) (U:St) (H:Hp) (x y:V) (v u:Value) (Q:VK),Inv X pins U H s->RelV x v->RelV y u->r x y H Q ->
  subscripted slice false v u=operate [v,u] (getItem v u)->wpAny (model X.prog X.w) X.A (subscriptTail value slice v u) (EP X pins U Q) X.xe s
noncomputable def MtR(X:Cx)(id:String)(r:V->List V->Hp->VK->Prop):Prop:=
 ∀(pins:List (Addr×Obj)) (s:Shared) (U:St) (H:Hp) (x:V) (xs:List V) (v:Value) (us:List Value) (Q:VK),Inv X pins U H s->RelV x v->Vals xs us->r x xs H Q ->
  wpAny (model X.prog X.w) X.A (call (.builtin id) (v::us)) (EP X pins U Q) X.xe s
section
variable{X:Cx}{a b:Expr}{ta tb:TE}{pos:Pos}
theorem IxR.or{r r':R2}(h:IxR X r)(h':IxR X r'):IxR X (fun x y H Q=>r x y H Q\/r' x y H Q):=by
 intro value slice pins s U H x y v u Q I rx ry q hs;rcases q with q|q
 .exact h value slice pins s U H x y v u Q I rx ry q hs
 .exact h' value slice pins s U H x y v u Q I rx ry q hs
theorem Yf{r:R2}(hr:IxR X r)(ha:PE X a ta)(hb:PE X b tb)(hs:NO b):PE X (.Subscript a b pos) (tOp r ta tb):=by
 intro pins s U H Q I h;exact Subscript_ (Vp ha hb I h fun v u s2 x y H2 I2 rx ry q=>hr a b pins s2 U H2 x y v u Q I2 rx ry q (hs _ _))
noncomputable def Ym(K:Frag):R2:=fun x y H Q=>∃p xs i v,x=.ref p/\y=.int i/\SqL K H p xs/\atI xs i=some v/\Q v H
noncomputable def Yo(K:Frag):R2:=fun x y H Q=>∃p xs i v,x=.ref p/\y=.int i/\SqT K H p xs/\atI xs i=some v/\Q v H
noncomputable def Yn:R2:=fun x y H Q=>∃z i c,x=.str z/\y=.int i/\z.length<=sizeLine/\atI z.cps.toList i=some c/\Q (.str ⟨#[c]⟩) H
theorem SX:IxR X (Ym X.K):=by
 intro value slice pins s U H x y v u Q I rx ry h hs;obtain⟨p,xs,i,z,rfl,rfl,hq,he,q⟩:=h;cases rx;obtain⟨t,rfl⟩:=ry;obtain⟨its,r,pl,hz⟩:=I.list hq;obtain⟨j,h1,h2,h3,h4,h5⟩:=BS he;obtain⟨w,ew,rw'⟩:=r.get h2;have hl:=r.length;have hn:=HA;have fin:EP X pins U Q w s:=⟨z,H,I,rw',q⟩;by_cases h0:0<=i
 .have hj:i.toNat=j:=by
   rw[seqIndex_of h0 h5] at h1;exact Option.some.inj h1
  exact item_listR pl.isList h0 (by lia) (by rw[hj]; simpa using ew) fin hs
 .have hj:(i+(its.toArray.size:Int)).toNat=j:=by
   rw[seqIndex_neg (by lia) h4] at h1;rw[List.size_toArray,<- hl];exact Option.some.inj h1
  exact subscriptTail_builtinR (x:=w) pl.isList.typeIs slot_list_getitem.lookup
   (wpAny_getItem_list_neg (Q:=fun r s'=>r=w/\EP X pins U Q r s') pl.isList (by lia) (by rw[List.size_toArray]<;>lia) (by lia) (by rw[hj]; simpa using ew) ⟨rfl,fin⟩) hs
theorem VM:IxR X (Yo X.K):=by
 intro value slice pins s U H x y v u Q I rx ry h hs;obtain⟨p,xs,i,z,rfl,rfl,hq,he,q⟩:=h;cases rx;obtain⟨t,rfl⟩:=ry;obtain⟨its,r,pl,hz⟩:=I.tuple hq;obtain⟨j,h1,h2,h3,h4,h5⟩:=BS he;obtain⟨w,ew,rw'⟩:=r.get h2;have hl:=r.length;have hn:=HA;have fin:EP X pins U Q w s:=⟨z,H,I,rw',q⟩;exact subscriptTail_builtinR (x:=w) pl.typeIs slot_tuple_getitem.lookup
  (getItem_tuple (j:=j) (Q:=fun r s'=>r=w/\EP X pins U Q r s') pl (by lia) (by lia) (by rw[List.size_toArray,<- hl]; exact h1) (by simpa using ew) ⟨rfl,fin⟩) hs
theorem VL:IxR X Yn:=by
 intro value slice pins s U H x y v u Q I rx ry h hs;obtain⟨z,i,c,rfl,rfl,hz,he,q⟩:=h;obtain⟨t,rfl⟩:=rx;obtain⟨t',rfl⟩:=ry;obtain⟨j,h1,h2,h3,h4,h5⟩:=BS he;have hl:z.cps.toList.length=z.length:=by simp[Str.length]
 rw[hl] at h1 h4 h5;have hn:=HA;exact tail_any (typeIs_str s z t) slot_str_getitem.lookup (getItem_str (c:=c) (by
  have e1:decide (i < -(2 ^ 63:Int))=false:=decide_eq_false (by lia);have e2:decide (i ≥ 2 ^ 63)=false:=decide_eq_false (by lia);rw[e1,e2,Bool.or_false]) (by rw[h1]; simpa using h2) ⟨.str ⟨#[c]⟩,H,I.tok _,⟨_,rfl⟩,q⟩) hs
noncomputable def rIx(K:Frag):R2:=fun x y H Q=>Ym K x y H Q\/Yo K x y H Q\/Yn x y H Q
theorem Ao:IxR X (rIx X.K):=SX.or (VM.or VL)
theorem M6(its:List Value)(n j:Nat)(u:Value):Obj.mapSeq (·.setIfInBounds j u) { cls:=.type "list",data:=.seq its.toArray n }={ cls:=.type "list",data:=.seq (its.set j u).toArray n }:=by
 simp[Obj.mapSeq]
theorem Inv.lst{pins:List (Addr×Obj)}{U:St}{H:Hp}{s:Shared}{p:Addr}{xs:List V}(I:Inv X pins U H s)(h:H p=some (.lst xs)):
  ∃(its:List Value) (n:Nat),Vals xs its/\s.heap.get? p=some { cls:=.type "list",data:=.seq its.toArray n }/\xs.length<=sizeLine:=by
 obtain⟨z,its,n,r,e⟩:=I.hok p _ h;exact⟨its,n,r,e,z⟩
theorem Inv.lstUpd{pins:List (Addr×Obj)}{U:St}{H:Hp}{s:Shared}{p:Addr}{xs ys:List V}{its its':List Value}{n n':Nat}{f:Obj->Obj}(I:Inv X pins U H s)(h:H p=some (.lst xs))(ho:s.heap.get? p=some { cls:=.type "list",data:=.seq its.toArray n })(hf:f { cls:=.type "list",data:=.seq its.toArray n }={ cls:=.type "list",data:=.seq its'.toArray n' })(r:Vals ys its')(hz:ys.length<=sizeLine)(t:Nat):
  Inv X pins U (upd H p (.lst ys)) { s with heap:=s.heap.update p f,toks:=t }:=by
 have e:(s.heap.update p f).get? p=some { cls:=.type "list",data:=.seq its'.toArray n' }:=by
  rw[Heap.get?_update_self f ho (by rw[hf]<;>rfl),hf]
 refine I.write (x:=p) (e:=p) (by rw[h]; trivial) (.inl rfl) (fun b u hb q=>(Heap.get?_update_other _ _ (Ne.symm hb)).trans q) ⟨_,e⟩ ?_;exact⟨hz,its',n',r,e⟩
noncomputable def U9:V->V->V->Hp->(Hp->Prop)->Prop:=fun o i v H Q=>∃p xs k j,o=.ref p/\i=.int k/\H p=some (.lst xs)/\ixN xs.length k=some j/\Q (upd H p (.lst (xs.set j v)))
theorem set_list:XH X U9:=by
 intro pins s U H o i v ov iv u Q I ro ri rv h;obtain⟨p,xs,k,j,rfl,rfl,hp,hj,q⟩:=h;cases ro;obtain⟨t,rfl⟩:=ri;obtain⟨its,n,r,ho,hz⟩:=I.lst hp;obtain⟨h1,h2,h3,h4⟩:=N5 hj;have hl:=r.length;have hn:=HA;have I':Inv X pins U (upd H p (.lst (xs.set j v))) { s with heap:=s.heap.update p (Obj.mapSeq (·.setIfInBounds j u)) }:=
  I.lstUpd hp ho (M6 its n j u) (r.set rv j) (by rw[List.length_set]; exact hz) s.toks
 by_cases h0:0<=k
 .have hk:k.toNat=j:=by
   rw[seqIndex_of h0 h4] at h1;exact Option.some.inj h1
  exact PySem.W.ki_setAt ho h0 (by lia) (by rw[List.size_toArray,<- hl]; exact h4) (by rw[hk]; exact⟨_,I',q⟩)
 .have hk:(k+(its.toArray.size:Int)).toNat=j:=by
   rw[seqIndex_neg (by lia) h3] at h1;rw[List.size_toArray,<- hl];exact Option.some.inj h1
  exact PySem.W.ki_setBack ho (by lia) (by rw[List.size_toArray,<- hl]; exact h3) (by lia) (by rw[hk]; exact⟨_,I',q⟩)
noncomputable def Gj:V->Bool
 | .non=>true
 | .bl _=>true
 | .int _=>true
 | .str _=>true
 | _=>false
noncomputable def eqV:V->V->Bool
 | .non,.non=>true
 | .bl a,.bl b=>a==b
 | .bl a,.int b=>(if a then 1 else 0)==b
 | .int a,.bl b=>a==(if b then 1 else 0)
 | .int a,.int b=>a==b
 | .str a,.str b=>a==b
 | _,_=>false
theorem Vu{A:Around}{s:Shared}{y x:V}{u v:Value}(ry:RelV y u)(rx:RelV x v)(fy:Gj y=true)(fx:Gj x=true):SeqAt.EqAt A s u v (eqV y x):=by
 cases y with
 | non =>
  cases ry;cases x with
  | non=>cases rx; exact SeqAt.EqAt.same _
  | bl b=>cases rx; exact SeqAt.EqAt.none_bool b
  | int b=>obtain⟨t,rfl⟩:=rx; exact SeqAt.EqAt.none_int b t
  | str b=>obtain⟨t,rfl⟩:=rx; exact SeqAt.EqAt.none_str b t
  | _=>exact absurd (show false=true from fx) Bool.false_ne_true
 | bl a =>
  cases ry;cases x with
  | non=>cases rx; exact SeqAt.EqAt.bool_none a
  | bl b=>cases rx; exact SeqAt.EqAt.bool_bool a b
  | int b=>obtain⟨t,rfl⟩:=rx; exact SeqAt.EqAt.bool_int a b t
  | str b=>obtain⟨t,rfl⟩:=rx; exact SeqAt.EqAt.bool_str a b t
  | _=>exact absurd (show false=true from fx) Bool.false_ne_true
 | int a =>
  obtain⟨t',rfl⟩:=ry;cases x with
  | non=>cases rx; exact SeqAt.EqAt.int_none a t'
  | bl b=>cases rx; exact SeqAt.EqAt.int_bool a t' b
  | int b=>obtain⟨t,rfl⟩:=rx; exact SeqAt.EqAt.int_int a t' b t
  | str b=>obtain⟨t,rfl⟩:=rx; exact SeqAt.EqAt.int_str a t' b t
  | _=>exact absurd (show false=true from fx) Bool.false_ne_true
 | str a =>
  obtain⟨t',rfl⟩:=ry;cases x with
  | non=>cases rx; exact SeqAt.EqAt.str_none a t'
  | bl b=>cases rx; exact SeqAt.EqAt.str_bool a t' b
  | int b=>obtain⟨t,rfl⟩:=rx; exact SeqAt.EqAt.str_int a t' b t
  | str b=>obtain⟨t,rfl⟩:=rx; exact SeqAt.EqAt.str_str a t' b t
  | _=>exact absurd (show false=true from fx) Bool.false_ne_true
 | _=>exact absurd (show false=true from fy) Bool.false_ne_true
noncomputable def eqU(x:V)(u:Value):Bool:=match u with
 | .none=>eqV .non x
 | .bool b=>eqV (.bl b) x
 | .int i _=>eqV (.int i) x
 | .str z _=>eqV (.str z) x
 | _=>false
theorem PV{x y:V}{u:Value}(r:RelV y u)(f:Gj y=true):eqU x u=eqV y x:=by
 cases y with
 | non=>cases r; rfl
 | bl b=>cases r; rfl
 | int i=>obtain⟨t,rfl⟩:=r; rfl
 | str z=>obtain⟨t,rfl⟩:=r; rfl
 | _=>exact absurd (show false=true from f) Bool.false_ne_true
theorem NQ{x:V}{xs:List V}{us:List Value}(h:Vals xs us):xs.all Gj=true->us.any (eqU x)=xs.any fun y=>eqV y x:=by
 induction h with
 | nil=>exact fun _=>rfl
 | cons r t ih =>
  intro f;rw[List.all_cons,Bool.and_eq_true] at f;rw[List.any_cons,List.any_cons,PV r f.1,ih f.2]
theorem IC{A:Around}{s:Shared}{x:V}{v:Value}(rx:RelV x v)(fx:Gj x=true):∀{xs:List V} {us:List Value},Vals xs us->xs.all Gj=true->∀u∈us,SeqAt.EqAt A s u v (eqU x u)
 | _,_,.nil,_=>fun u hu=>by cases hu
 | y::xs,u::us,.cons r t,f=>fun u' hu=>by
  rw[List.all_cons,Bool.and_eq_true] at f;rcases List.mem_cons.mp hu with rfl|hu
  .rw[PV r f.1]; exact Vu r rx f.1 fx
  .exact IC rx fx t f.2 u' hu
noncomputable def inV(x:V)(xs:List V):Bool:=xs.any fun y=>eqV y x
noncomputable def rIn(K:Frag)(neg:Bool):R2:=fun x y H Q=>∃p xs,y=.ref p/\(SqL K H p xs\/SqT K H p xs)/\Gj x=true/\xs.all Gj=true/\Q (.bl (if neg then !inV x xs else inV x xs)) H
theorem O2:OpR X (compareOp .In) (rIn X.K false):=by
 intro pins s U H x y v u Q I rx ry h;obtain⟨p,xs,rfl,hq,fx,fs,q⟩:=h;cases ry;rcases hq with hq|hq
 .obtain⟨its,r,pl,hz⟩:=I.list hq
  refine SeqAt.in_listAt (eqU x) pl.isList (fun w hw=>IC rx fx r fs w (by simpa using hw)) ⟨.bl _,H,I,rfl,?_⟩;rw[show its.toArray.any (eqU x)=its.any (eqU x) by simp,NQ r fs];exact q
 .obtain⟨its,r,pl,hz⟩:=I.tuple hq
  refine SeqAt.in_tupleAt (eqU x) pl (fun w hw=>IC rx fx r fs w (by simpa using hw)) ⟨.bl _,H,I,rfl,?_⟩;rw[show its.toArray.any (eqU x)=its.any (eqU x) by simp,NQ r fs];exact q
theorem Ki:BJ X (.builtin "len") (fun xs H Q=>∃p ys,xs=[.ref p]/\(SqL X.K H p ys\/SqT X.K H p ys)/\Q (.int ys.length) H):=by
 intro pins s U H xs us Q I r h;obtain⟨p,ys,rfl,hq,q⟩:=h;obtain⟨u,rfl,rx⟩:=vals1 r;cases rx;have hn:=HA;rcases hq with hq|hq
 .obtain⟨its,r',pl,hz⟩:=I.list hq
  have hlen:=r'.length;exact Calls.call_len_list pl.isList (by simp only[List.size_toArray]<;>lia) ⟨.int ys.length,H,I.tok _,⟨s.toks+1,by rw[List.size_toArray,hlen]⟩,q⟩
 .obtain⟨its,r',pl,hz⟩:=I.tuple hq
  have hlen:=r'.length;exact len_tuple pl (by simp only[List.size_toArray]<;>lia) ⟨.int ys.length,H,I.tok _,⟨s.toks+1,by rw[List.size_toArray,hlen]⟩,q⟩
theorem Kj:BJ X (.builtin "len") (fun xs H Q=>∃z,xs=[.str z]/\z.length<=sizeLine/\Q (.int z.length) H):=by
 intro pins s U H xs us Q I r h;obtain⟨z,rfl,hz,q⟩:=h;obtain⟨u,rfl,t,rfl⟩:=vals1 r;have hn:=HA;exact len_str (by lia) ⟨.int z.length,H,I.tok _,⟨_,rfl⟩,q⟩
theorem BJ.or{f:Value}{r r':List V->Hp->VK->Prop}(h:BJ X f r)(h':BJ X f r'):BJ X f (fun xs H Q=>r xs H Q\/r' xs H Q):=by
 intro pins s U H xs us Q I rs q;rcases q with q|q
 .exact h pins s U H xs us Q I rs q
 .exact h' pins s U H xs us Q I rs q
noncomputable def tyV(K:Frag)(T:String)(x:V)(H:Hp):Prop:=match x with
 | .str _=>T = "str"
 | .int _=>T = "int"
 | .ref p=>(T = "list" /\ ∃xs,SqL K H p xs)\/(T = "tuple" /\ ∃o,K.lookup p=some o/\o.cls=.type "tuple" /\ o.dict=none) \/
   (T = "dict" /\ ((∃kvs,H p=some (.dK kvs))\/∃kvs,H p=some (.dT kvs)))\/(T = "set" /\ ∃S n,H p=some (.set S n))
 | _=>False
theorem Xw{pins:List (Addr×Obj)}{U:St}{H:Hp}{s:Shared}{T:String}{x:V}{v:Value}(I:Inv X pins U H s)(r:RelV x v)(ty:tyV X.K T x H):
  s.TypeIs v T/\∀a,v=.ref a->∃ob,s.heap.get? a=some ob/\ob.dict=none:=by
 cases x with
 | str z =>
  obtain⟨t,rfl⟩:=r;cases (show T = "str" from ty);exact⟨typeIs_str s z t,fun _ e=>nomatch e⟩
 | int i =>
  obtain⟨t,rfl⟩:=r;cases (show T = "int" from ty);exact⟨typeIs_int s i t,fun _ e=>nomatch e⟩
 | ref p =>
  cases r;rcases ty with ⟨rfl,xs,hq⟩|⟨rfl,o,hk,hc,hd⟩|⟨rfl,hk⟩|⟨rfl,S,n,hk⟩
  .obtain⟨its,_,pl,_⟩:=I.list hq
   refine⟨pl.isList.typeIs,fun a e=>?_⟩;cases e;obtain⟨o,n,e,c,hd,_⟩:=pl;exact⟨o,e,hd⟩
  .refine⟨⟨o,I.kIn p o hk,hc⟩,fun a e=>?_⟩
   cases e;exact⟨o,I.kIn _ o hk,hd⟩
  .have z:∃o,s.heap.get? p=some o/\o.ExactDict:=by
    rcases hk with ⟨kvs,hk⟩|⟨kvs,hk⟩
    .obtain⟨_,_,_,_,o,_,_,e,ex,_⟩:=I.hok p _ hk
     exact⟨o,e,ex⟩
    .obtain⟨_,_,_,_,o,_,_,e,ex,_⟩:=I.hok p _ hk
     exact⟨o,e,ex⟩
   obtain⟨o,e,ex⟩:=z;refine⟨⟨o,e,ex.1⟩,fun a e2=>?_⟩;cases e2;exact⟨o,e,ex.2.1⟩
  .obtain⟨o,_,_,_,e,ex,_⟩:=I.hok p _ hk
   refine⟨⟨o,e,ex.1⟩,fun a e2=>?_⟩;cases e2;exact⟨o,e,ex.2.1⟩
 | _=>exact False.elim ty
noncomputable def tBM(K:Frag)(T:String)(r:V->List V->Hp->VK->Prop)(to:TE)(t:TA):TE:=fun U H Q=>to U H fun x H1=>tyV K T x H1/\t U H1 fun xs H2=>r x xs H2 Q
variable{o e:Expr}{es:List Expr}{to:TE}{t:TA}{name:Str}{apos cpos:Pos}{T id:String}{r:V->List V->Hp->VK->Prop}
theorem Rg(pa:PlainAttrs T)(slot:Slot T name id)(hty:typeOf (.builtin id)=pure (.type "method_descriptor"))(hm:MtR X id r)(ho:PE X o to)(ha:PA X (e::es) t)(hbase:attributeBase o name X.env (eval o X.env)=eval o X.env:=by rfl)(hfew:((backTo cpos (starEach (e::es) X.env)).all (fun x=>!x.1)&&(backToKw cpos (keywordEach [] X.env)).all (fun x=>x.1.isSome)
   && decide ((e::es).length+([]:List Keyword).length+(if ([]:List Keyword).isEmpty then 0 else 1)<30))=true:=by rfl)(hline:(apos.endLine==cpos.line)=true:=by rfl)(hs:starEach (e::es) X.env=(false,eval e X.env)::starEach es X.env:=by rfl)(hplain:(backTo cpos (starEach es X.env)).any (·.1)=false:=by rfl):
  PE X (.Call (.Attribute o name apos) (e::es) [] cpos) (tBM X.K T r to t):=by
 intro pins s U H Q I h;refine wpAny_Call_method_late hbase hfew hline rfl (thn (ho pins s U H _ I h) fun v s1 yy=>?_);obtain⟨x,H1,I1,r1,ty,q1⟩:=yy;obtain⟨h1,h2⟩:=Xw I1 r1 ty;refine⟨T,id,pa,slot,hty,h1,h2,?_⟩;have hA:=ha cpos pins s1 U H1 _ I1 q1;rw[hs] at hA |-;refine Calls.callWith_builtin (by show(false || (backTo cpos (starEach es X.env)).any (·.1))=false; rw[hplain]<;>rfl) (Calls.evalArgs_plain ?_);exact thn hA fun us s2 ⟨vs,H2,I2,r2,q2⟩=>hm pins s2 U H2 x vs v us Q I2 r1 r2 q2
/- xs.append(e),list.index on a module's tuple .. are MtR facts of 06m -/
end
end L2
namespace L2
open PySem PySem.Spec PyProof.Rows
noncomputable def MtM(X:Cx)(id:String)(r:V->List V->Hp->VK->Prop):Prop:=
 ∀(pins:List (Addr×Obj)) (s:Shared) (U:St) (H:Hp) (x:V) (xs:List V) (v:Value) (us:List Value) (Q:VK),Inv X pins U H s->RelV x v->Vals xs us->r x xs H Q ->
  wpAny (model X.prog X.w) X.A (call (.builtin id) (v::us)) (EP X pins U Q) X.xe s
theorem Vals.one{x:V}{us:List Value}(h:Vals [x] us):∃u,us=[u]/\RelV x u:=by
 cases h with
 | cons r t=>cases t; exact⟨_,rfl,r⟩
theorem Vals.two{x y:V}{us:List Value}(h:Vals [x,y] us):∃u v,us=[u,v]/\RelV x u/\RelV y v:=by
 cases h with
 | cons r t =>
  obtain⟨v,rfl,q⟩:=Vals.one t;exact⟨_,_,rfl,r,q⟩
theorem Vals.rep{xs:List V}{us:List Value}(h:Vals xs us):∀k:Nat,Vals (List.replicate k xs).flatten (List.replicate k us).flatten
 | 0=>.nil
 | k+1=>by
  rw[List.replicate_succ,List.replicate_succ,List.flatten_cons,List.flatten_cons];exact Vals.append h (Vals.rep h k)
theorem foldl_rep(its:List Value):∀(k:Nat) (acc:List Value),
  List.foldl (fun x1 x2=>x1++x2) acc.toArray (List.replicate k its.toArray)=(acc++(List.replicate k its).flatten).toArray
 | 0,acc=>by simp
 | k+1,acc=>by
  have e:acc.toArray++its.toArray=(acc++its).toArray:=by simp
  have e2:(acc++its)++(List.replicate k its).flatten=acc++(List.replicate (k+1) its).flatten:=by
   rw[List.replicate_succ,List.flatten_cons,List.append_assoc]
  rw[<- e2,<- foldl_rep its k (acc++its),<- e,List.replicate_succ,List.foldl_cons]
section
variable{X:Cx}{pins:List (Addr×Obj)}{U:St}{H:Hp}{s:Shared}{l b:Addr}{xs ys zs:List V}
theorem Inv.lset{its its':List Value}{n:Nat}{f:Array Value->Array Value}{t':Nat}(I:Inv X pins U H s)(hH:H l=some (.lst xs))(e:s.heap.get? l=some { cls:=.type "list",data:=.seq its.toArray n })(hf:f its.toArray=its'.toArray)(hv:Vals ys its')(hz:ys.length<=sizeLine):
  Inv X pins U (upd H l (.lst ys)) { s with heap:=s.heap.update l (Obj.mapSeq f),toks:=t' }:=by
 have q:=PySem.IsL.update e f;rw[hf] at q;refine I.write (x:=l) (e:=l) (by rw[hH]; exact trivial) (.inl rfl) (fun b' u hb hu=>(Heap.get?_update_other s.heap (Obj.mapSeq f) (Ne.symm hb)).trans hu) ⟨_,q⟩ ?_;exact⟨hz,its',_,hv,q⟩
theorem Inv.lnew{its:List Value}{t':Nat}(I:Inv X pins U H s)(hv:Vals ys its)(hz:ys.length<=sizeLine):
  Inv X pins U (upd H s.heap.objs.size (.lst ys)) { s with heap:=s.heap.push { cls:=.type "list",data:=.seq its.toArray },toks:=t' }:=
 I.laid (fun _ _ q=>Heap.get?_push_of_some _ q) (Nat.le_refl _) ⟨hz,its,0,hv,Heap.get?_push_size _ rfl⟩
theorem Inv.fresh(I:Inv X pins U H s):H s.heap.objs.size=none:=I.hok.fresh (Nat.le_refl _)
theorem Inv.lstM(I:Inv X pins U H s)(hH:H l=some (.lst xs)):xs.length<=sizeLine/\∃(its:List Value) (n:Nat),Vals xs its/\xs.length=its.length/\s.heap.get? l=some { cls:=.type "list",data:=.seq its.toArray n }:=by
 obtain⟨z,its,n,r,e⟩:=I.hok l _ hH;exact⟨z,its,n,r,r.length,e⟩
theorem QW{n:Nat}(h:n<=sizeLine):Builtin.List.listTooLong n=false:=by
 unfold Builtin.List.listTooLong;exact decide_eq_false (by lia)
end
section
variable{X:Cx}
noncomputable def Om:V->List V->Hp->VK->Prop:=fun x vs H Q=>∃l xs y,x=.ref l/\vs=[y]/\H l=some (.lst xs)/\xs.length<sizeLine/\Q .non (upd H l (.lst (xs++[y])))
theorem JZ:MtM X "list.append" Om:=by
 intro pins s U H x vs v us Q I rx rv h;obtain⟨l,xs,y,rfl,rfl,hH,hz,q⟩:=h;cases rx;obtain⟨u,rfl,ru⟩:=rv.one;obtain⟨z,its,n,r,hl,e⟩:=I.lstM hH;refine call_meets F.slot_list_append ⟨_,e,rfl⟩ F.entry_list_append (F.args_list_append_2 _ _) (PySem.list_append l its.toArray n u (by rw[List.size_toArray]; lia)) ⟨e,?_⟩;refine⟨.non,_,I.lset (its':=its++[u]) hH e (by simp) (r.append (.cons ru .nil)) ?_,rfl,q⟩;rw[List.length_append,List.length_singleton];lia
noncomputable def WY:R2:=fun x y H Q=>∃l b xs zs,x=.ref l/\y=.ref b/\H l=some (.lst xs)/\H b=some (.lst zs)/\xs.length+zs.length<=sizeLine/\∀p,H p=none->Q (.ref p) (upd H p (.lst (xs++zs)))
theorem Wl:OpR X (binaryOp .Add) WY:=by
 intro pins s U H x y v u Q I rx ry h;obtain⟨l,b,xs,zs,rfl,rfl,hH,hB,hz,q⟩:=h;cases rx;cases ry;obtain⟨z,its,n,r,hl,e⟩:=I.lstM hH;obtain⟨z2,its2,n2,r2,hl2,e2⟩:=I.lstM hB;refine PySem.P.add_list e e2 ?_ (by rw[List.size_toArray,List.size_toArray]; lia);have ea:its.toArray++its2.toArray=(its++its2).toArray:=by simp
 rw[ea];exact⟨.ref _,_,I.lnew (t':=s.toks) (r.append r2) (by rw[List.length_append]; lia),rfl,q _ I.fresh⟩
noncomputable def Yr:R2:=fun x y H Q=>∃l k xs,x=.ref l/\y=.int k/\H l=some (.lst xs)/\-(2 ^ 63)<=k/\k<2 ^ 63/\xs.length*k.toNat<=sizeLine /\
 ∀p,H p=none->Q (.ref p) (upd H p (.lst (List.replicate k.toNat xs).flatten))
theorem len_rep{α:Type}(xs:List α)(k:Nat):(List.replicate k xs).flatten.length=k*xs.length:=by
 induction k with
 | zero=>simp
 | succ k ih=>rw[List.replicate_succ,List.flatten_cons,List.length_append,ih,Nat.succ_mul,Nat.add_comm]
theorem IU:OpR X (binaryOp .Mult) Yr:=by
 intro pins s U H x y v u Q I rx ry h;obtain⟨l,k,xs,rfl,rfl,hH,h1,h2,hz,q⟩:=h;cases rx;obtain⟨t,rfl⟩:=ry;obtain⟨z,its,n,r,hl,e⟩:=I.lstM hH;have hlen:its.toArray.size*k.toNat<=sizeLine:=by rw[List.size_toArray,<- hl]; exact hz
 have hcap:¬its.toArray.size*k.toNat > (2 ^ 63-1) / 8:=by
  have:(sizeLine:Nat)<=(2 ^ 63-1) / 8:=by decide
  lia
 have hfit:¬(!Builtin.List.listFitsIndex k)=true:=by
  rw[fitsIndex_both h1 h2];exact Bool.false_ne_true
 have hlong:¬Builtin.List.listTooLong (its.toArray.size*k.toNat)=true:=by
  rw[QW hlen];exact Bool.false_ne_true
 have hnew:List.foldl (fun x1 x2=>x1++x2) #[] (List.replicate (if its.toArray.isEmpty=true then 0 else k.toNat) its.toArray)=(List.replicate k.toNat its).flatten.toArray:=by
  have f0:∀m:Nat,List.foldl (fun x1 x2=>x1++x2) #[] (List.replicate m its.toArray)=(List.replicate m its).flatten.toArray:=fun m=>by
   have:=foldl_rep its m [];rw[List.nil_append] at this;exact this
  rw[f0];cases its with
  | nil=>simp
  | cons a r'=>rw[if_neg (by simp)]
 refine wpAny_binaryOp_repeat_ref (T := "list") (U := "int") (by decide) ⟨_,e,rfl⟩ (fun s'=>typeIs_int s' k t) noFill_list_mul F.fills_int_mul F.slot_int_rmul repeat_list F.slot_int_index.lookup
  (call_meets F.slot_int_rmul (typeIs_int s k t) F.entry_int_rmul (F.args_int_rmul_2 _ _) (int___rmul___int_list k t l its.toArray n)
   ⟨e,rfl,⟨_,e,rfl⟩,call_meets F.slot_list_mul ⟨_,e,rfl⟩ F.entry_list_mul (F.args_list_mul_2 _ _) (AutoListH.list___mul___list_int_3 l its.toArray n k t hfit hcap hlong) ⟨e,?_⟩⟩)
 rw[hnew];exact⟨.ref _,_,I.lnew (t':=s.toks) (r.rep k.toNat) (by rw[len_rep,Nat.mul_comm]; exact hz),rfl,q _ I.fresh⟩
end
section
variable{prog:Program}{w:World}{A:Around}{E:Value->Shared->Prop}{s:Shared}
set_option maxRecDepth 100000 in
end
section
variable{X:Cx}
end
end L2
namespace Att
open PySem PySem.W PySem.Calls PyProof.Rows
theorem HV{P:Params}{h:Heap}:∀(ns:List Int) (vs:List Value),WellAll P h vs (ns.map WData.int)->IntsAre vs ns:=by
 intro ns;induction ns with
 | nil =>
  intro vs w;rw[List.map_nil] at w;cases w;exact .nil
 | cons n ns ih =>
  intro vs w;rw[List.map_cons] at w;cases w with
  | cons a b =>
   cases a;exact .cons _ _ (ih _ b)
theorem Pf{l:OpenLaw}{n:Nat}(hn:l.most=some n){P:Params}{h:Heap}{args:List WData}{vals:List Value}(hpre:l.row.toRowW.claim.pre args=true)(hwl:WellAll P h vals args):
  ∃a vs ns,vals=[Value.ref a]/\args=[WData.list (ns.map WData.int)]/\h.get? a=some { cls:=.type "list",data:=.seq vs.toArray }/\IntsAre vs ns/\ns.length<=n:=by
 have hsh:WShape.hasAll [] args [.list .int]=true:=(pre_splitW hpre).1;have hc:l.pre.holds [] { args:=args }=true:=(pre_splitW hpre).2;obtain⟨d,r,rfl,h1,h2⟩:=hasAllW_cons hsh;obtain rfl:=hasAllW_nil h2;obtain⟨xs,rfl,h3⟩:=hasW_list h1;obtain⟨ns,rfl⟩:=items_int h3;have hlen:ns.length<=n:=by
  unfold OpenLaw.pre at hc;have h4:(WTm.not (.lt (.lit (.int (n:Int))) (.len (.arg 0)))).holds [] { args:=[.list (ns.map .int)] }=true:=by
   have h4:=(holds_andW hc).1;rw[hn] at h4;exact h4
  have h5:=condW_of h4 (w_not (w_lt w_lit (w_len_list (w_arg rfl))));rw[List.length_map] at h5;refine Nat.le_of_not_lt fun q=>?_;have q':(n:Int)<((ns.length:Nat):Int):=by lia
  first
   | (rw[decide_eq_true q'] at h5; exact absurd h5 (by decide))
   | (simp at h5; lia)
 cases hwl with
 | cons w1 w2 =>
  cases w2;cases w1 with
  | list ho hall=>exact⟨_,_,ns,rfl,rfl,ho,HV ns _ hall,hlen⟩
theorem O9(l:OpenLaw)(args:List WData):l.row.toRowW.claim.post args (.bool true) args=true:=
 postW_of (r:=l.row.toRowW) (X:=(true==true))
  (show WShape.has [] (.bool true) .bool=true by first|rfl|decide|simp[WShape.has,WShape.arms,WShape.armsAll])
  (show(WTm.eq .res (.lit (.bool true))).value [] { args:=args,res:=some (.bool true),after:=args }=some (.bool (true==true)) from w_eq_bool (w_res rfl) w_lit) rfl
theorem La{l:OpenLaw}{n:Nat}{q:Program}{loose:List Str}{XP:(Str->Option Value)->Heap->Prop}{YP:World->Heap->Prop}{d:DefRec}(hn:l.most=some n)(hdf:d.params.defaults=[])(call:∀(w:World) (s₀ s₁:Shared) (mg mb:Str->Option Value) (fa:Addr) (o:Obj) (pm cd doc:Value) (a:Addr) (vs:List Value) (ns:List Int),
   Ground q loose [] XP w s₀ mg mb s₁.heap->YP w s₁.heap ->
   s₁.heap.get? fa=some o->o.data=.func (docDef d.name d.params d.body d.scope pm cd doc)->s₁.heap.CodeRec cd d.name->mg d.name=some (.ref fa) ->
   s₁.heap.get? a=some { cls:=.type "list",data:=.seq vs.toArray }->IntsAre vs ns->ns.length<=n->s₁.gens = #[] ->
   codeAny (model l.prog w) callerA (.call (.ref fa) ⟨[.ref a],[]⟩) (fun r s'=>r=.ok (.ret (.bool true))/\OldK s₁.heap s'.heap/\s'.os=s₁.os/\AllBare s'.gens) s₁):
  WalkO q loose XP YP l.row.toRowW d [] (fun f vs=>PySem.call f vs):=by
 intro w s₀ s₁ mg mb G Y fa o pm cd doc dV kV ho hd hcd hD hmg hg args vals as hpre hlay hrd hwl hlo;obtain rfl:dV=.none:=Dflts.none hD hdf;obtain rfl:kV=.none:=Dflts.noKw hD;obtain⟨a,vs,ns,rfl,rfl,hobj,hints,hlen⟩:=Pf hn hpre hwl;refine enter_call (codeAny_mono (call w s₀ s₁ mg mb fa o pm cd doc a vs ns G Y ho (fd_plain hd) hcd hmg hobj hints hlen hg) fun r s' hq=>?_);obtain⟨rfl,h2,h3,h4⟩:=hq;exact⟨.inl ⟨.bool true,.bool true,[],rfl,fun _=>rfl,.bool true,O9 l _,fun _=>⟨List.Pairwise.nil,fun _ hm=>(nomatch hm)⟩⟩,h2,h3,h4⟩
section
variable{prog:Program}{w:World}{A:Around}{E:Value->Shared->Prop}{s:Shared}{K:Frag}
end
end Att
namespace L2
open PySem PySem.Spec PyProof.Rows
theorem Pt{vs:List Value}{ns:List Int}(h:IntsAre vs ns):Vals (ns.map V.int) vs:=by
 induction h with
 | nil=>exact .nil
 | cons n t h ih=>exact .cons ⟨t,rfl⟩ ih
noncomputable def Sj(H:Hp):Prop:=∀b,H b=none\/(∃o xs,H b=some (.frz o (.lst xs)))\/∃ps,H b=some (.tbl ps)
noncomputable def HZ(K:Frag)(b:Addr):Prop:=∃c,PySem.W.tabIn K A8=some (c,b)
noncomputable def Uy(K:Frag)(H:Hp):Hp:=fun b=>by classical exact if HZ K b then some (.tbl #[.str Ib 0]) else H b
theorem Uz{K:Frag}{H:Hp}{b:Addr}(h:HZ K b):Uy K H b=some (.tbl #[.str Ib 0]):=if_pos h
theorem Ml{K:Frag}{H:Hp}{b:Addr}(h:¬HZ K b):Uy K H b=H b:=if_neg h
theorem Qw{P:Program}{w:World}{K:Frag}{mg mb:Str->Option Value}{CX:CXT}{k:Nat}{fa a:Addr}{fd:FuncData}{x:Str}{sp:Sp}{s₁:Shared}{vs:List Value}{ns:List Int}(KX:K.In s₁.heap)(hns:s₁.heap.Ns mainGlobals mg)(hb:s₁.heap.Ns builtinsNs mb)(hbb:∀x:Str,x ≠ "__name__" -> mb x=bootBuiltins x)(hlim:s₁.heap.NoLimit)(hg:s₁.gens = #[])(ha:s₁.heap.get? a=some { cls:=.type "list",data:=.seq vs.toArray })(hi:IntsAre vs ns)(hl:ns.length<=sizeLine)(hr:Room k callerA)(F:∀base:Heap,K.In base->base.Ns mainGlobals mg->FnOk P w K mg base CX k fa fd [x] sp)(hbind:∀(s:Shared) (u:Value),BindsTo s fd ⟨[u],[]⟩ [(x,u)])(hsp:∀H:Hp,Sj H->SqL K H a (ns.map V.int)->sp [.ref a] H (fun v _=>v=.bl true) fun _ _ _=>False)(hCX:∀H e s',CX [] H s₁ (fun _ _ _=>False) e s'->False)(hT:∀c b,PySem.W.tabIn K A8=some (c,b)->PySem.W.CodeHd s₁.heap c b/\s₁.heap.get? b=some { cls:=.none,data:=.fields #[] }/\K.lookup b=none)(hbm:∃bm ob,mg "__builtins__" = some (.ref bm)/\bm≠builtinsNs/\s₁.heap.get? bm=some ob/\ob.cls=.type "module" /\ ob.dict=some builtinsNs/\ob.data=.plain):
  codeAny (model P w) callerA (.call (.ref fa) ⟨[.ref a],[]⟩) (fun r s'=>r=.ok (.ret (.bool true))/\OldK s₁.heap s'.heap/\s'.os=s₁.os/\AllBare s'.gens) s₁:=by
 have rv:=Pt hi;have lenV:=hi.length;have naT:¬HZ K a:=fun⟨c,e⟩=>by
  obtain⟨_,e2,_⟩:=hT c a e;rw[ha] at e2; cases e2
 have core:∀H₁:Hp,(∀b,H₁ b=none\/∃o xs,H₁ b=some (.frz o (.lst xs)))->SqL K (Uy K H₁) a (ns.map V.int)->HOk P w H₁ s₁.heap->(∀b,H₁ b≠none->b=a)->(H₁ a≠none->K.lookup a=none) ->
   codeAny (model P w) callerA (.call (.ref fa) ⟨[.ref a],[]⟩) (fun r s'=>r=.ok (.ret (.bool true))/\OldK s₁.heap s'.heap/\s'.os=s₁.os/\AllBare s'.gens) s₁:=by
  intro H₁ hO₁ hS hok₁ hA₁ hK₁;generalize hH:Uy K H₁=H at hS;have hin:∀{b},HZ K b->H b=some (.tbl #[.str Ib 0]):=fun h=>by rw[<- hH]; exact Uz h
  have hout:∀{b},¬HZ K b->H b=H₁ b:=fun h=>by rw[<- hH]; exact Ml h
  have hO:Sj H:=fun b=>by
   by_cases q:HZ K b
   .exact .inr (.inr ⟨_,hin q⟩)
   .rw[hout q]
    exact(hO₁ b).imp id .inl
  have hok:HOk P w H s₁.heap:=fun b u e=>by
   by_cases q:HZ K b
   .rw[hin q] at e; cases e
    obtain⟨c,ec⟩:=q;exact⟨#[],(hT c b ec).2.1,trivial,fun pos c h=>by cases h⟩
   .rw[hout q] at e
    rcases hO₁ b with z|⟨o,xs,z⟩
    .rw[z] at e; cases e
    .rw[z] at e; cases e
     obtain⟨e1,e2⟩:=hok₁ b _ z;exact⟨e1,e2⟩
  have hA:∀b,H b≠none->b=a\/HZ K b:=fun b z=>by
   by_cases q:HZ K b
   .exact .inr q
   .rw[hout q] at z; exact .inl (hA₁ b z)
  have base_of:∀{b:Addr} {o:Obj},s₁.heap.get? b=some o->H b=none->(Jw s₁.heap H).get? b=some o:=fun e n=>Qa e n;have noA:∀{b:Addr} {o:Obj} {es:Array DictEntry} {ep:Nat},s₁.heap.get? b=some o->o.data=.dict es ep->H b=none:=fun {b o es ep} e d=>by
   cases q:H b with
   | none=>rfl
   | some u =>
    rcases hA b (by rw[q]; simp) with e'|⟨c,ec⟩
    .subst e'
     rw[ha] at e; cases e;have d':Data.seq vs.toArray _=Data.dict es ep:=d;cases d'
    .rw[(hT c b ec).2.1] at e; cases e
     have d':Data.fields _=Data.dict es ep:=d;cases d'
  have nsK:∀{b:Addr} {m:Str->Option Value},s₁.heap.Ns b m->(Jw s₁.heap H).Ns b m:=fun {b m} ⟨o,es,ep,e,d,r⟩=>⟨o,es,ep,base_of e (noA e d),d,r⟩;have hKb:K.In (Jw s₁.heap H):=fun b o e=>base_of (KX b o e) (by
   cases q:H b with
   | none=>rfl
   | some u =>
    rcases hA b (by rw[q]; simp) with e'|⟨c,ec⟩
    .subst e'
     rw[hout naT] at q;rw[hK₁ (by rw[q]; simp)] at e; cases e
    .rw[(hT c b ec).2.2] at e; cases e)
  have bmK:∃bm ob,mg "__builtins__" = some (.ref bm)/\bm≠builtinsNs/\(Jw s₁.heap H).get? bm=some ob/\ob.cls=.type "module" /\ ob.dict=some builtinsNs/\ob.data=.plain:=by
   obtain⟨bm,ob,m1,m2,m3,m4,m5,m6⟩:=hbm;refine⟨bm,ob,m1,m2,base_of m3 ?_,m4,m5,m6⟩;cases q:H bm with
   | none=>rfl
   | some u =>
    rcases hA bm (by rw[q]; simp) with e'|⟨c,ec⟩
    .subst e'
     rw[ha] at m3; cases m3;cases m6
    .rw[(hT c bm ec).2.1] at m3; cases m3
     cases m6
  have hM:Mod K mg (Jw s₁.heap H):=⟨hKb,nsK hns,⟨mb,nsK hb,hbb⟩,let⟨mc,h1,h2⟩:=hlim; ⟨mc,nsK h1,h2⟩,bmK⟩;have e0:Env0 P w K mg (Jw s₁.heap H) callerA [] s₁ H:=⟨rfl,hM,fun b o e=>Tj e,Nat.le_of_eq (OM _ _),trivial,fun b hb=>absurd (show b∈([]:List Addr) from hb) (by simp),hok,.of_eq hg,fun c b e=>⟨_,hin ⟨c,e⟩,rfl⟩⟩;refine codeAny_mono ((F _ hKb (nsK hns)).run callerA [] s₁ H ⟨[.ref a],[]⟩ [.ref a] [.ref a] _ _ hr e0 (hbind s₁ (.ref a)) (.cons rfl .nil) (hsp H hO hS)) fun r s' h=>?_;cases r with
  | error e=>exact(hCX H e s' h).elim
  | ok fl =>
   cases fl with
   | next=>exact False.elim h
   | brk=>exact False.elim h
   | cont=>exact False.elim h
   | ret u =>
    obtain⟨v,H',os,bare,un,hok',r',q⟩:=h;have q':v=.bl true:=q;subst q';obtain rfl:u=Value.bool true:=r';have fin:∀b o,s₁.heap.get? b=some o->s'.heap.get? b=some o\/∃qs,HZ K b/\s'.heap.get? b=some { cls:=.none,data:=.fields qs }:=fun b o e=>by
     cases q:H b with
     | none=>exact .inl (un.keep b o e q (by intro z; exact absurd (show b∈([]:List Addr) from z) (by simp)) (by simp))
     | some u =>
      by_cases tq:HZ K b
      .rw[hin tq] at q; cases q
       obtain⟨more,z2⟩:=un.tbls b _ (hin tq);obtain⟨qs,e2,_⟩:=hok' b _ z2;exact .inr ⟨qs,tq,e2⟩
      .rcases hO₁ b with z|⟨ob,xs,z⟩
       .rw[hout tq,z] at q; cases q
       .have z2:=un.frzs b ob _ (by rw[hout tq]; exact z)
        obtain⟨e1,_⟩:=hok₁ b _ z;obtain⟨e2,_⟩:=hok' b _ z2;rw[e] at e1; cases e1;exact .inl e2
    refine⟨rfl,⟨fun b o e=>?_,fun b o e=>?_⟩,os,bare⟩
    .rcases fin b o e with z|⟨qs,⟨c,ec⟩,z⟩
     .exact .inl z
     .obtain⟨h1,h2,_⟩:=hT c b ec
      rw[e] at h2; cases h2;refine .inr (.inl ⟨(h1.tab e).isCodeTable,rfl,#[],qs,rfl,?_⟩);rw[z]; simp
    .rcases fin b o e with z|⟨qs,_,z⟩
     .exact⟨_,z⟩
     .exact⟨_,z⟩
 cases hk:K.lookup a with
 | some o =>
  -- the script is one of the module's own objects
  have e:=KX a o hk;rw[ha] at e;cases e;refine core (fun _=>none) (fun _=>.inl rfl) (.inr ⟨_,vs.toArray,_,hk,rfl,rfl,rfl,by rw[List.size_toArray,lenV]; exact hl,by simpa using rv⟩) (fun b u z=>by have z':(none:Option HO)=some u:=z; cases z') (fun b z=>absurd rfl z) fun z=>absurd rfl z
 | none =>
  refine core (fun b=>if b=a then some (.frz { cls:=.type "list",data:=.seq vs.toArray } (.lst (ns.map V.int))) else none) (fun b=>?_) (.inl (.inr ⟨{ cls:=.type "list",data:=.seq vs.toArray },by rw[Ml naT]; exact if_pos rfl⟩)) (fun b u z=>?_) (fun b z=>?_) fun _=>hk
  .by_cases hb:b=a
   .exact .inr ⟨_,_,if_pos hb⟩
   .exact .inl (if_neg hb)
  .by_cases hb:b=a
   .have z':=(if_pos hb).symm.trans z
    cases z';subst hb;exact⟨ha,by rw[List.length_map]; exact hl,vs,_,rv,ha⟩
   .have z':=(if_neg hb).symm.trans z
    cases z'
  .by_cases hb:b=a
   .exact hb
   .exact absurd (if_neg hb) z
end L2
namespace L2
open PySem PySem.Spec PyProof.Rows
noncomputable abbrev KOf{K:Frag}{h:Heap}(_:K.In h):Frag:=K
theorem UG{l:PySem.W.OpenLaw}{n k:Nat}{q:Program}{loose:List Str}{XP:(Str->Option Value)->Heap->Prop}{YP:World->Heap->Prop}{d:DefRec}{K:Params->Frag}{CX:World->CXT}{sp:World->Sp}{x:Str}(hn:l.most=some n)(hn2:n<=sizeLine)(hdf:d.params.defaults=[])(hr:Room k callerA)(hY:∀(w:World) (h:Heap),YP w h->(K w.params).In h)(F:∀(w:World) (mg:Str->Option Value) (fa:Addr) (h:Heap),(K w.params).In h->h.Ns mainGlobals mg->mg d.name=some (.ref fa) ->
   ∃fd:FuncData,(∀(s:Shared) (u:Value),BindsTo s fd ⟨[u],[]⟩ [(x,u)]) /\
    ∀base:Heap,(K w.params).In base->base.Ns mainGlobals mg->FnOk l.prog w (K w.params) mg base (CX w) k fa fd [x] (sp w))(hsp:∀(w:World) (H:Hp) (a:Addr) (ns:List Int),ns.length<=n->Sj H->SqL (K w.params) H a (ns.map V.int)->sp w [.ref a] H (fun v _=>v=.bl true) fun _ _ _=>False)(hCX:∀(w:World) (H:Hp) (s:Shared) (e:Value) (s':Shared),CX w [] H s (fun _ _ _=>False) e s'->False)(hT:∀(w:World) (c b:Addr),PySem.W.tabIn (K w.params) A8=some (c,b)->(∃d',(recsOf q).find? (fun e=>e.name==A8)=some d')/\(K w.params).lookup b=none):
  PySem.W.WalkO q loose XP YP l.row.toRowW d [] (fun f vs=>PySem.call f vs):=by
 refine Att.La hn hdf fun w s₀ s₁ mg mb fa o pm cd doc a vs ns G Y ho hd hcd hmg hobj hints hlen hg=>?_;have KX:=hY w _ Y;obtain⟨fd,hb,hF⟩:=F w mg fa _ KX G.T.g hmg;exact Qw KX G.T.g G.T.b G.T.builtins G.T.nolimit hg hobj hints (Nat.le_trans hlen hn2) hr hF hb (fun H hO hS=>hsp w H a ns hlen hO hS) (fun H e s'=>hCX w H s₁ e s') (fun c b e=>by
  obtain⟨⟨d',hd'⟩,hk⟩:=hT w c b e;obtain⟨z1,z2⟩:=PySem.W.tab_of G.T KX hd' e;exact⟨z1,z2,hk⟩) G.T.bmain
end L2

namespace L2
open PySem PySem.Spec PyProof.Rows
noncomputable def Ea(s:Stmt):Arguments:=match s with
 | .FunctionDef _ a _ _ _ _ _ _ _ _=>a
 | _=>{ posonlyargs:=[],args:=[],vararg:=none,kwonlyargs:=[],kw_defaults:=[],kwarg:=none,defaults:=[] }
noncomputable def Cr(s:Stmt):List Stmt:=match s with
 | .FunctionDef _ _ b _ _ _ _ _ _ _=>b
 | _=>[]
noncomputable def A6(s:Stmt):Scope:=match s with
 | .FunctionDef _ _ _ _ _ _ sc _ _ _=>sc
 | _=>{ kind:=.function,names:=[],isGenerator:=false,isCoroutine:=false }
noncomputable abbrev CX0:CXT:=fun _ _ _ _ _ _=>False
noncomputable abbrev E0:XK:=fun _ _ _=>False
theorem Ax{X:Cx}:Passes CX0 X E0:=fun _ _ _ _ _ _ _ h=>h.elim
structure Fun (K:Frag) (x qual:Str) (st:Stmt) (f:Addr) (fd:FuncData):Prop where
 ex:∃(oc:Value) (od:Option Addr) (kV doc pm:Value) (an:Option Addr) (cdv ct:Value) (osl:Array (Option Value)),
  fd=PySem.W.fnOf x qual (Ea st) (Cr st) (A6 st) .none kV doc pm an cdv ct/\K.lookup f=some ⟨oc,od,.func fd,osl⟩/\PySem.W.codeIn K cdv qual=true
 kp:PySem.W.keepIn K (.ref f)=true
section
variable{P:Program}{w:World}{K:Frag}{mg:Str->Option Value}{base:Heap}
theorem Fun.ok{x qual:Str}{st:Stmt}{f:Addr}{fd:FuncData}{N ps:List Str}{k:Nat}{sp:Sp}(F:Fun K x qual st f fd)(S:FnScope N ps (A6 st))(len:∀vs H Q E,sp vs H Q E->vs.length=ps.length)(hbody:∀(cdv:Value) (A:Around) (outer:List Env) (s:Shared) (H:Hp) (vs:List V) (Q:VK) (E:XK),Room k (A.deeper (envOfC qual (A6 st) s.heap.objs.size f cdv))->sp vs H Q E ->
   ∃t,PSs (Li CX0 P w K mg base N qual (A6 st) f cdv A outer s H E).nox (Cr st) t/\t { nx:=fun _ H'=>Q .non H',rt:=Q } (start N vs) H):FnOk P w K mg base CX0 (k+1) f fd ps sp:=by
 obtain⟨oc,od,kV,doc,pm,an,cdv,ct,osl,rfl,lk,hcd⟩:=F.ex;refine UM lk hcd S len fun A outer s H vs Q E hr hsp=>?_;obtain⟨t,h,q⟩:=hbody cdv A outer s H vs Q E hr hsp;exact⟨t,h.nox,q⟩
theorem Fun.binds{x qual:Str}{st:Stmt}{f:Addr}{fd:FuncData}{ps:List Str}(F:Fun K x qual st f fd)(h:∀(kV doc pm:Value) (an:Option Addr) (cdv ct:Value) (us:List Value),us.length=ps.length->bindArgs (PySem.W.fnOf x qual (Ea st) (Cr st) (A6 st) .none kV doc pm an cdv ct) ⟨us,[]⟩=pure (ps.zip us)):Binds K fd ps []:=by
 obtain⟨oc,od,kV,doc,pm,an,cdv,ct,osl,rfl,lk,hcd⟩:=F.ex;exact .all (h kV doc pm an cdv ct)
theorem Vz{x qual:Str}{st:Stmt}{f:Addr}{oc:Value}{od an:Option Addr}{osl:Array (Option Value)}{kV doc pm cdv ct:Value}(l:K.lookup f=some ⟨oc,od,.func (PySem.W.fnOf x qual (Ea st) (Cr st) (A6 st) .none kV doc pm an cdv ct),osl⟩)(c:PySem.W.codeIn K cdv qual=true)(k:PySem.W.keepIn K (.ref f)=true):Fun K x qual st f (PySem.W.fnOf x qual (Ea st) (Cr st) (A6 st) .none kV doc pm an cdv ct):=⟨⟨oc,od,kV,doc,pm,an,cdv,ct,osl,rfl,l,c⟩,k⟩
end
theorem Lv{A:Around}{k:Nat}(hr:Room k A):A.units+10<cLine:=Nat.lt_of_le_of_lt (Nat.add_le_add_left (by decide:10<=64) _) hr.units
section
variable{X:Cx}
end
noncomputable def FD(H H':Hp):Prop:=∀b o,H b=some o->H' b=some o
end L2
end
section
namespace L2
open PySem PySem.Spec PyProof.Rows
section
variable{M:Model}{A:Around}{E:Value->Shared->Prop}{s:Shared}
end
noncomputable def clo(cells:List (Str×Addr)):List (Str×NameKind)->List (Str×Addr)->List (Str×Addr)
 | [],cs=>cs
 | (n,k)::r,cs=>clo cells r (if (k==.free)=true then (n,(cells.lookup n).getD 0)::cs else cs)
theorem Lg{env:Env}:∀(names:List (Str×NameKind)) (cs:List (Str×Addr)),(∀x∈names,(x.2==.free)=true->(env.cells.lookup x.1).isSome=true) ->
  (forIn names cs fun(x:Str×NameKind) (r:List (Str×Addr))=>(if (x.2==NameKind.free)=true then do let c <- cellOf env x.1; pure (ForInStep.yield ((x.1,c)::r)) else pure (ForInStep.yield r):Sem (ForInStep (List (Str×Addr)))))=pure (clo env.cells names cs)
 | [],cs,_=>rfl
 | (n,k)::r,cs,h=>by
  rw[List.forIn_cons];have hr:=fun cs'=>Lg (env:=env) r cs' fun x hx=>h x (List.mem_cons_of_mem _ hx);cases hk:(k==NameKind.free) with
  | true =>
   have hc:=h (n,k) List.mem_cons_self hk;obtain⟨c,hc⟩:=Option.isSome_iff_exists.mp hc;have e:cellOf env n=pure c:=by unfold cellOf; rw[hc]
   dsimp only at hc;simp only[hk,if_true,e,pure_bind];rw[hr];simp only[clo,hk,if_true,hc,Option.getD_some]
  | false =>
   simp only[hk,Bool.false_eq_true,if_false,pure_bind];rw[hr];simp only[clo,hk,Bool.false_eq_true,if_false]
theorem Km{env:Env}{scope:Scope}(h:∀x∈scope.names,(x.2==.free)=true->(env.cells.lookup x.1).isSome=true):closureFor scope env=pure (clo env.cells scope.names []):=by
 rw[<- Lg _ _ h];unfold closureFor;simp
theorem NT{cells:List (Str×Addr)}{x:Str}{c:Addr}:∀{names:List (Str×NameKind)} {cs:List (Str×Addr)},(∀y∈names,(y.2==.free)=true->(cells.lookup y.1).isSome=true) ->
  (clo cells names cs).lookup x=some c->cs.lookup x=some c\/cells.lookup x=some c
 | [],_,_,h=>.inl h
 | (n,k)::r,cs,hn,h=>by
  simp only[clo] at h;have hr:=NT (names:=r) (fun y hy=>hn y (List.mem_cons_of_mem _ hy)) h;rcases hr with hr|hr
  .cases hk:(k==NameKind.free) with
   | true =>
    simp only[hk,if_true] at hr;rw[List.lookup_cons] at hr;cases hx:(x==n) with
    | true =>
     simp only[hx] at hr;obtain⟨c',hc'⟩:=Option.isSome_iff_exists.mp (hn (n,k) List.mem_cons_self hk);have hx':x=n:=by simpa using hx
     rw[hc'] at hr;refine .inr ?_;rw[hx'];exact hc'.trans hr
    | false =>
     simp only[hx] at hr;exact .inl hr
   | false =>
    simp only[hk,Bool.false_eq_true,if_false] at hr;exact .inl hr
  .exact .inr hr
theorem Lf{cells:List (Str×Addr)}{x:Str}:∀{names:List (Str×NameKind)} {cs:List (Str×Addr)},(∃c,cs.lookup x=some c)->∃c,(clo cells names cs).lookup x=some c
 | [],_,h=>h
 | (n,k)::r,cs,h=>by
  simp only[clo];refine Lf (names:=r) ?_;cases hk:(k==NameKind.free) with
  | true =>
   simp only[if_true];rw[List.lookup_cons];cases hx:(x==n) with
   | true=>exact⟨_,rfl⟩
   | false=>exact h
  | false =>
   simp only[Bool.false_eq_true,if_false];exact h
theorem Kl{cells:List (Str×Addr)}{x:Str}:∀{names:List (Str×NameKind)} {cs:List (Str×Addr)},names.lookup x=some .free->∃c,(clo cells names cs).lookup x=some c
 | [],_,h=>by simp at h
 | (n,k)::r,cs,h=>by
  rw[List.lookup_cons] at h;simp only[clo];cases hx:(x==n) with
  | true =>
   simp only[hx] at h;have hk:k=.free:=Option.some.inj h;subst hk;refine Lf (names:=r) ⟨(cells.lookup n).getD 0,?_⟩;rw[if_pos (by decide),List.lookup_cons];simp only[hx]
  | false =>
   simp only[hx] at h;exact Kl (names:=r) h
noncomputable abbrev cxD(X:Cx)(own:List Str)(scope:Scope)(C:Addr)(cl:List (Str×Addr))(fn:Str->Bool)(s:Shared)(H:Hp)(fp:List Addr)(pins:List (Addr×Obj)):Cx:=
 { X with N:=own++X.N,s₀:=s,H₀:=H,env:=compEnvC scope cl C X.env,outer:=X.stack,ex:=fp,fn:=fn,pn:=X.pn++pins,xe:=fun _ _=>False }
noncomputable abbrev cxC(X:Cx)(own:List Str)(scope:Scope)(C:Addr)(s:Shared)(H:Hp)(fp:List Addr)(pins:List (Addr×Obj)):Cx:=
 cxD X own scope C (clo X.env.cells scope.names []) (fun _=>false) s H fp pins
noncomputable def Bl(own N:List Str)(sc sco:Scope):Bool:=
 N.all (fun x=>match sc.names.lookup x with
  | some .local=>false
  | some .cell=>false
  | some .free=>sco.names.lookup x==some .cell || sco.names.lookup x==some .free
  | _=>true) &&
 sc.names.all (fun y=>(y.2 != .cell)&&(y.2 != .free || sco.names.lookup y.1==some .cell || sco.names.lookup y.1==some .free)&&(y.2 != .local || sc.names.lookup y.1==some .local)) &&
 (sc.kind==.function)&&own.all fun x=>!N.contains x
theorem BN{env:Env}:∀{names:List (Str×NameKind)} {x:Str} {k:NameKind},
  (names.map fun(n,k)=>if (k==NameKind.free&&env.scope.kind==.function&&env.kindOf n==some .cell) then (n,NameKind.cell) else (n,k)).lookup x=some k ->
  names.lookup x=some k\/(k=.cell/\names.lookup x=some .free)
 | [],_,_,h=>by simp at h
 | (n,j)::r,x,k,h=>by
  have ih:=@BN env r x k;have h':List.lookup x ((if (j==NameKind.free&&env.scope.kind==.function&&env.kindOf n==some .cell)=true then (n,NameKind.cell) else (n,j))::_)=some k:=h;rw[List.lookup_cons];cases hx:x==n with
  | true =>
   by_cases hc:(j==NameKind.free&&env.scope.kind==.function&&env.kindOf n==some .cell)=true
   .rw[if_pos hc,List.lookup_cons] at h'
    simp only[hx] at h';have hj:j=.free:=by
     simp only[Bool.and_eq_true] at hc;simpa using hc.1.1
    exact .inr ⟨(Option.some.inj h').symm,by simp only[hj]⟩
   .rw[if_neg hc,List.lookup_cons] at h'
    simp only[hx] at h';exact .inl h'
  | false =>
   refine ih ?_;by_cases hc:(j==NameKind.free&&env.scope.kind==.function&&env.kindOf n==some .cell)=true
   .rw[if_pos hc,List.lookup_cons] at h'
    simp only[hx] at h';exact h'
   .rw[if_neg hc,List.lookup_cons] at h'
    simp only[hx] at h';exact h'
theorem MC{prog:Program}{w:World}{A:Around}{R:Result->Shared->Prop}{s:Shared}{elt target iter:Expr}{ifs:List Expr}{scope:Scope}{pos:Pos}{it acc:Value}{env:Env}(I:Nat->Shared->Prop)(turn:∀n s,I n s->wpAny (model prog w) A (pyNext it) (fun r s₁=>match r with
   | none=>R (.ok .next) s₁
   | some v=>wpAny (model prog w) A (letOwnedTupleGo target it v) (fun _ s₁'=>wpAny (model prog w) A (assign target env v) (fun _ s₂ =>
     wpAny (model prog w) A (forIn ifs true fun c r=>if r=true then do let ok <- isTrue c env (eval c env); pure (ForInStep.yield ok) else pure (ForInStep.yield r)) (fun ok s₃ =>
      if ok=true then wpAny (model prog w) A (eval elt env) (fun x s₄ =>
       wpAny (model prog w) A (call (.builtin "list.append") [acc,x]) (fun _ s₅=>∃m,m<n/\I m s₅) (fun _ _=>False) s₄) (fun _ _=>False) s₃
      else ∃m,m<n/\I m s₃) (fun _ _=>False) s₂) (fun _ _=>False) s₁') (fun _ _=>False) s₁) (fun _ _=>False) s)(n:Nat)(h:I n s):codeAny (model prog w) A (.compLoop (.ListComp elt [⟨target,iter,ifs,0⟩] scope pos) 0 it acc env) R s:=by
 refine codeAny_loop rfl I (fun n s hI=>?_) n h;show wpAny _ A ((compTurn (.ListComp elt [⟨target,iter,ifs,0⟩] scope pos) 0 it acc env).onRaise (fun x=>do noteFrame x env; theTreesLotGoes x)) _ _ s;refine wpAny_noted ?_;rw[compTurn_list];refine wpAny_bind (wpAny_standAt (wpAny_bind (wpAny_mono (turn n s hI) (fun r s₁ h₁=>?_) fun _ _ h'=>h'.elim)));cases r with
 | none=>exact wpAny_pure h₁
 | some v =>
  refine wpAny_bind (wpAny_mono h₁ (fun _ s₁' h₁'=>?_) fun _ _ h'=>h'.elim);refine wpAny_bind (wpAny_mono h₁' (fun _ s₂ h₂=>wpAny_bind (wpAny_mono h₂ (fun ok s₃ h₃=>?_) fun _ _ h'=>h'.elim)) fun _ _ h'=>h'.elim);cases ok with
  | false=>exact wpAny_pure ⟨rfl,h₃⟩
  | true =>
   exact wpAny_bind (wpAny_bind (wpAny_mono h₃ (fun x s₄ h₄=>wpAny_bind (wpAny_mono h₄ (fun _ s₅ h₅=>wpAny_pure (wpAny_pure ⟨rfl,h₅⟩)) fun _ _ h'=>h'.elim)) fun _ _ h'=>h'.elim))
noncomputable def PTs(X:Cx)(ifs:List Expr)(t:TT):Prop:=
 ∀(pins:List (Addr×Obj)) (s:Shared) (U:St) (H:Hp) (Q:Bool->Hp->Prop),Inv X pins U H s->t U H Q ->
  wpAny (model X.prog X.w) X.A (forIn ifs true fun c r=>if r=true then do let ok <- isTrue c X.env (eval c X.env); pure (ForInStep.yield ok) else pure (ForInStep.yield r)) (TP X pins U Q) X.xe s
noncomputable def Y9:TT:=fun _ H Q=>Q true H
theorem TR{X:Cx}:PTs X [] Y9:=fun _ _ _ H _ I h=>wpAny_tests_nil ⟨H,I,h⟩
theorem TX{X:Cx}{c:Expr}{t:TT}(h:PT X c t):PTs X [c] t:=fun pins s U H Q I q=>wpAny_tests_one (h pins s U H Q I q)
noncomputable abbrev TU:=V->Hp->List V->Prop
noncomputable def PGo(X:Cx)(target:Expr)(n:Nat)(un:TU):Prop:=
 ∀(pins:List (Addr×Obj)) (s:Shared) (σ0 U:St) (H:Hp) (v:V) (u:Value) (vs:List V),σ0.length=n->Inv X pins (σ0++U) H s->RelV v u->un v H vs ->
  wpAny (model X.prog X.w) X.A (assign target X.env u) (fun _ s'=>vs.length=n/\Inv X pins (vs.map some++U) H s') X.xe s
noncomputable def R9:TU:=fun v _ vs=>vs=[v]
noncomputable def YQ(K:Frag):TU:=fun v H vs=>∃a x y,v=.ref a/\SqT K H a [x,y]/\vs=[x,y]
theorem V1{α:Type}{l:List α}(h:l.length=1):∃o,l=[o]:=by
 cases l with
 | nil=>cases h
 | cons a t=>cases t with
  | nil=>exact⟨a,rfl⟩
  | cons b t=>cases h
theorem Qy{α:Type}{l:List α}(h:l.length=2):∃o p,l=[o,p]:=by
 cases l with
 | nil=>cases h
 | cons a t =>
  obtain⟨p,rfl⟩:=V1 (Nat.succ.inj h);exact⟨a,p,rfl⟩
theorem Hd{X:Cx}{x:Str}{pos:Pos}(hi:X.N[0]? = some x)(hN:X.N.Nodup)(hx:X.env.scope.names.lookup x=some .local):PGo X (.Name x pos) 1 R9:=by
 intro pins s σ0 U H v u vs hl I r h;obtain⟨o,rfl⟩:=V1 hl;cases h;exact wpAny_assign_Name (EL I hN hi (.inl hx) r (fun s' I'=>⟨rfl,I'⟩) (.inr hx))
theorem L8{X:Cx}{x y:Str}{px py pos:Pos}{k:Nat}(hc:X.calm=true)(hi:X.N[0]? = some x)(hj:X.N[1]? = some y)(hN:X.N.Nodup)(hx:X.env.scope.names.lookup x=some .local)(hy:X.env.scope.names.lookup y=some .local):
  PGo X (.Tuple [.Name x px,.Name y py] k pos) 2 (YQ X.K):=by
 intro pins s σ0 U H v u vs hl I r h;obtain⟨o,o',rfl⟩:=Qy hl;obtain⟨a,v1,v2,rfl,hq,rfl⟩:=h;have P:=Rn (X:=X) (pos:=pos) (k:=k) hc (Jc (Ie (pos:=px) hN hi (.inl hx) (.inr hx)) (Jc (Ie (pos:=py) hN hj (.inl hy) (.inr hy)) Og)) (n:=2);refine thn (P pins s _ H (.ref a) u (fun σ2 H2=>σ2=[v1,v2].map some++U/\H2=H) I r ⟨a,_,rfl,hq,rfl,v1,[v2],rfl,v2,[],rfl,rfl,rfl,rfl⟩) fun _ s1 yy=>?_;obtain⟨σ2,H2,I2,e1,e2⟩:=yy;subst e1; subst e2;exact⟨rfl,I2⟩
noncomputable def LcR(J:It)(un:TU)(tc:TT)(te:TE)(U:St)(H1:Hp)(Q:VK):Prop:=∀acc,H1 acc=none->∃W:Nat->Nat->List V->Hp->Prop,(∃m,W 0 m [] (upd H1 acc (.lst [])))/\∀i m ys H,W i m ys H->H acc=some (.lst ys) /\
 ((J.stop i H/\Q (.ref acc) H)\/(J.go i H/\∀x H',J.yld i H x H'->∃vs,un x H' vs/\tc (vs.map some++U) H' fun b H3 =>
  if b=true then te (vs.map some++U) H3 fun v H4=>H4 acc=some (.lst ys)/\ys.length<sizeLine/\∃m',m'<m/\W (i+1) m' (ys++[v]) (upd H4 acc (.lst (ys++[v])))
  else ∃m',m'<m/\W (i+1) m' ys H3))
noncomputable def tLc(wi:TI)(un:TU)(tc:TT)(te:TE):TE:=fun U H Q=>wi U H fun J H1=>LcR J un tc te U H1 Q
section
variable{X:Cx}{pins:List (Addr×Obj)}{U:St}{H:Hp}{s:Shared}
theorem Bl.free{own:List Str}{scope:Scope}(hok:Bl own X.N scope X.env.scope=true)(I:Inv X pins U H s):∀x∈scope.names,(x.2==NameKind.free)=true->(X.env.cells.lookup x.1).isSome=true:=fun x hx hf=>by
 simp only[Bl,Bool.and_eq_true,List.all_eq_true] at hok;have:=(hok.1.1.2 x hx).1.2;have hf':x.2=.free:=by simpa using hf
 rw[hf'] at this;simp only[bne_self_eq_false,Bool.false_or,Bool.or_eq_true] at this;obtain⟨c,hc⟩:=I.ok.has x.1 (this.elim (fun z=>.inl (by simpa[Env.kindOf] using z)) fun z=>.inr (by simpa[Env.kindOf] using z));rw[hc]; rfl
theorem ON{own:List Str}{scope:Scope}{fp:List Addr}{h1:Heap}{t':Nat}(hok:Bl own X.N scope X.env.scope=true)(I:Inv X pins U H s)(f2:∀b∈fp,FC X pins H b)(fo:∀b∈fp,∃o,s.heap.get? b=some o)(hns:h1.Ns s.heap.objs.size fun _=>none)(hk:∀b o,s.heap.get? b=some o->h1.get? b=some o):
  Inv (cxC X own scope s.heap.objs.size s H fp pins) [] (List.replicate own.length none++U) H { s with heap:=h1,toks:=t' }:=by
 have hfree:=Bl.free hok I;simp only[Bl,Bool.and_eq_true,List.all_eq_true] at hok;obtain⟨⟨⟨hN,hS⟩,hkd⟩,hown⟩:=hok;have hkind:scope.kind=.function:=by simpa using hkd
 have sub:∀x c,(clo X.env.cells scope.names []).lookup x=some c->X.env.cells.lookup x=some c:=fun x c e=>by
  rcases NT hfree e with z|z
  .simp at z
  .exact z
 have ltS:∀{b:Addr} {o:Obj},s.heap.get? b=some o->b≠s.heap.objs.size:=fun e=>Nat.ne_of_lt (Heap.lt_size e);have isFree:∀x,((relabel scope X.env).names.lookup x=some .cell\/(relabel scope X.env).names.lookup x=some .free)->scope.names.lookup x=some .free:=fun x hx'=>by
  rcases hx' with z|z
  .rcases BN z with z|z
   .have:=(hS _ (PySem.mem_of_lookup z)).1.1
    simp at this
   .exact z.2
  .rcases BN z with z|z
   .exact z
   .cases z.1
 refine⟨⟨I.ok.mod,hkind,I.ok.glob,I.ok.blt,Nat.le_refl _,fun x y c e1 e2=>I.ok.inj x y c (sub x c e1) (sub y c e2),fun x hx=>Kl (isFree x hx),fun x c z=>(by cases z),I.ok.hd,I.ok.frames,.inl rfl,fun b hb=>?_,I.bs,Nat.le_trans I.ok.bsz I.sz,fun b o e hb=>?_,fun b hb hz=>?_,I.stack,I.stkFree,I.tabs⟩,
  rfl,I.bare,Un.kept hk,⟨_,hns,fun i x v e1 e2 e3=>?_⟩,fun x c e=>?_,I.hok.fresh (Nat.le_refl _),fun x c e=>I.freeC x c (sub x c e),fun p hp=>?_,I.hok.kept hk,?_⟩
 .refine⟨fun z=>?_,fun x c e z=>?_⟩
  .obtain⟨o,e⟩:=fo b hb
   exact ltS e z
  .exact(f2 b hb).2.2.2.2.1 x c (sub x c e) z
 .obtain⟨_,_,_,f4,_⟩:=f2 b hb
  rcases f4 with f4|f4
  .exact I.ok.noex b o e f4
  .have:=Nat.lt_of_lt_of_le (Heap.lt_size e) (Nat.le_trans I.ok.bsz f4)
   exact absurd this (Nat.lt_irrefl _)
 .obtain⟨_,f1,f3,_⟩:=f2 b hb
  rcases List.mem_cons.mp (I.stkSub b hz) with z|z
  .exact f1 z
  .exact f3 z
 .by_cases hi:i<own.length
  .rw[List.getElem?_append_left (by simpa using hi),List.getElem?_replicate] at e2
   split at e2<;>cases e2
  .have e1':X.N[i-own.length]? = some x:=by
    have e1:(own++X.N)[i]? = some x:=e1;rw[List.getElem?_append_right (by omega)] at e1;exact e1
   have e2' : U[i-own.length]? = some (some v):=by
    rw[List.getElem?_append_right (by simpa using hi)] at e2;simpa using e2
   have hx:=hN x (List.mem_of_getElem? e1');have q:scope.names.lookup x=some .free:=by
    rcases e3 with z|z
    .rcases BN z with z|z
     .rw[z] at hx; cases hx
     .cases z.1
    .exact isFree x z
   rw[q] at hx;simp only[Bool.or_eq_true] at hx;have hx2:X.env.scope.names.lookup x=some .cell\/X.env.scope.names.lookup x=some .free:=hx.elim (fun z=>.inl (by simpa using z)) fun z=>.inr (by simpa using z);obtain⟨m,_,hl⟩:=I.loc;obtain⟨u,r,l⟩:=hl _ x v e1' e2' (.inr hx2);refine⟨u,r,?_⟩;obtain⟨c',hc'⟩:=Kl (cells:=X.env.cells) (cs:=[]) q;rcases l with ⟨k,_⟩|⟨k,c,hc,o,ho,hd⟩
   .have k':X.env.scope.names.lookup x=some .local:=k
    rcases hx2 with z|z<;>(rw[k'] at z; cases z)
   .have ec:=sub x c' hc'
    have ec':c'=c:=Option.some.inj (ec.symm.trans hc);rw[ec'] at hc';refine .inr ⟨?_,c,hc',o,hk c o ho,hd⟩;rcases e3 with z|z
    .rcases BN z with z|z
     .rw[q] at z; cases z
     .cases z.1
    .exact z
 .obtain⟨v,o,ho,hd⟩:=I.cell x c (sub x c e)
  exact⟨v,o,hk c o ho,hd⟩
 .have hp':p∈X.pn++pins:=by simpa using hp
  obtain⟨e,n,ne,nf,d⟩:=I.pin p hp';refine⟨hk _ _ e,n,ltS e,fun hz=>?_,d⟩;rcases List.mem_cons.mp (I.stkSub p.1 hz) with z|z
  .exact ne z
  .exact nf z
 .show(List.replicate own.length none++U).length=(own++X.N).length
  rw[List.length_append,List.length_replicate,List.length_append,I.len]
theorem Ed{own:List Str}{scope:Scope}{fp:List Addr}{cl:List (Str×Addr)}{fn:Str->Bool}{σ':St}{H':Hp}{s':Shared}{h':Heap}(I:Inv X pins U H s)(f2:∀b∈fp,FC X pins H b)(J:Inv (cxD X own scope s.heap.objs.size cl fn s H fp pins) [] σ' H' s')(hs:Heap.SameBut s.heap.objs.size s'.heap h'):Inv X pins U H' { s' with heap:=h' }:=by
 have lt:∀{b:Addr} {o:Obj},s.heap.get? b=some o->b≠s.heap.objs.size:=fun e=>Nat.ne_of_lt (Heap.lt_size e);have hC:H' s.heap.objs.size=none:=J.free;have u:=J.base;refine I.call' (s':={ s' with heap:=h' }) (ch:=fp) J.os ⟨fun b o e n hb hx=>(hs.2 b (lt e)).trans (u.keep b o e n hb hx),fun b o e n hb hx=>?_,u.free,fun b o e hx=>?_,u.tups,u.frzs,u.tbls⟩ (fun b o e=>?_) J.bare fun b hb=>?_
 .obtain⟨sl,q⟩:=u.slot b o e n hb hx
  exact⟨sl,(hs.2 b (lt e)).trans q⟩
 .obtain⟨o',q⟩:=u.there b o e hx
  exact⟨o',(hs.2 b (lt e)).trans q⟩
 .refine(J.hok b o e).stay (fun c w' hc q=>(hs.2 c ?_).trans q) (fun _ q=>q) fun _ _ q=>q
  rintro rfl;rcases hc with z|z
  .rw[<- z,hC] at e; cases e
  .rw[hC] at z; cases z
 .obtain⟨_,f1,_,f4,f5,f6⟩:=f2 b hb
  exact⟨f4,f1,f5,f6⟩
theorem RH{own:List Str}{scope:Scope}{fp:List Addr}{it:Addr}{tn:Nat->Heap->Prop}{J:It}{target iter elt:Expr}{ifs:List Expr}{pos:Pos}{un:TU}{tc:TT}{te:TE}{acc:Addr}{Q:VK}{R:Result->Shared->Prop}{cl:List (Str×Addr)}{fn:Str->Bool}{h1:Heap}{t1:Nat}(hc:X.calm=true)(hg:PGo (cxD X own scope s.heap.objs.size cl fn s H fp pins) target own.length un)(ht:PTs (cxD X own scope s.heap.objs.size cl fn s H fp pins) ifs tc)(he:PE (cxD X own scope s.heap.objs.size cl fn s H fp pins) elt te)(I:Inv X pins U H s)(T:Turn X.prog X.w X.K target J fp it tn)(st:tn 0 s.heap)(f2:∀b∈fp,FC X pins H b)(W:Nat->Nat->List V->Hp->Prop)(w0:∃m,W 0 m [] H)(turn:∀i m ys H,W i m ys H->H acc=some (.lst ys) /\
   ((J.stop i H/\Q (.ref acc) H)\/(J.go i H/\∀x H',J.yld i H x H'->∃vs,un x H' vs/\tc (vs.map some++U) H' fun b H3 =>
    if b=true then te (vs.map some++U) H3 fun v H4=>H4 acc=some (.lst ys)/\ys.length<sizeLine/\∃m',m'<m/\W (i+1) m' (ys++[v]) (upd H4 acc (.lst (ys++[v])))
    else ∃m',m'<m/\W (i+1) m' ys H3)))(fin:∀s' σ' H',Inv (cxD X own scope s.heap.objs.size cl fn s H fp pins) [] σ' H' s'->Q (.ref acc) H'->R (.ok .next) s')(hk:∀b o,s.heap.get? b=some o->h1.get? b=some o)(I0:Inv (cxD X own scope s.heap.objs.size cl fn s H fp pins) [] (List.replicate own.length none++U) H { s with heap:=h1,toks:=t1 }):
  codeAny (model X.prog X.w) X.A (.compStart (.ListComp elt [⟨target,iter,ifs,0⟩] scope pos) 0 (.ref it) (.ref acc) (compEnvC scope cl s.heap.objs.size X.env)) R { s with heap:=h1,toks:=t1 }:=by
 have st1:tn 0 h1:=T.keep _ _ _ st fun b _ o e=>hk b o e;have stat:∀{H':Hp},(∀b∈fp,H' b=none)->∀b∈fp,FC (cxD X own scope s.heap.objs.size cl fn s H fp pins) [] H' b:=fun hn b hb=>by
  obtain⟨_,f1,f3,_,f5,f6⟩:=f2 b hb;obtain⟨o,e,_⟩:=T.obj _ _ st b hb;refine⟨hn b hb,Nat.ne_of_lt (Heap.lt_size e),fun hz=>?_,.inl hb,(I0.ok.exf b hb).2,fun p hp=>f6 p (by simpa using hp)⟩;rcases List.mem_cons.mp (I.stkSub b hz) with z|z
  .exact f1 z
  .exact f3 z
 have loop:∀s4,s4={ s with heap:=h1,toks:=t1 }->codeAny (model X.prog X.w) X.A (.compLoop (.ListComp elt [⟨target,iter,ifs,0⟩] scope pos) 0 (.ref it) (.ref acc) (compEnvC scope cl s.heap.objs.size X.env)) R s4:=by
  rintro s4 rfl;obtain⟨m0,w0⟩:=w0;refine MC (fun n s'=>∃i ys σ0 H',σ0.length=own.length/\Inv (cxD X own scope s.heap.objs.size cl fn s H fp pins) [] (σ0++U) H' s'/\tn i s'.heap/\(∀b∈fp,H' b=none)/\W i n ys H') ?_ m0 ⟨0,[],_,H,by rw[List.length_replicate],I0,st1,fun b hb=>(f2 b hb).1,w0⟩;rintro n s3 ⟨i,ys,σ0,H3,hl3,I3,st3,fr3,w3⟩;obtain⟨ha,turn3⟩:=turn i n ys H3 w3;rcases turn3 with ⟨stop,qn⟩|⟨go,step⟩
  .refine thn (T.done (cxD X own scope s.heap.objs.size cl fn s H fp pins) rfl rfl rfl hc i [] s3 _ H3 _ I3 (stat fr3) st3 stop) fun r s4 yy=>?_
   obtain⟨hr,I4⟩:=yy;subst hr;exact fin s4 _ H3 I4 qn
  .refine thn (T.item (cxD X own scope s.heap.objs.size cl fn s H fp pins) rfl rfl rfl hc i [] s3 _ H3 _ I3 (stat fr3) st3 go) fun r s4 yy=>?_
   obtain⟨u,hr,h4⟩:=yy;subst hr;refine thn h4 fun _ s5 yy=>?_;obtain⟨x,H5,I5,r5,y5,st5,fr5⟩:=yy;obtain⟨vs,hu,q5⟩:=step x H5 y5;have I5':=I5.pinned (stat fr5) (T.obj _ _ st5);have again:∀{H7:Hp} {s7:Shared},vs.length=own.length->Inv (cxD X own scope s.heap.objs.size cl fn s H fp pins) ([]++Jd fp s5.heap) (vs.map some++U) H7 s7->∀{ys'},(∃m',m'<n/\W (i+1) m' ys' H7) ->
     ∃m,m<n/\∃i ys σ0 H',σ0.length=own.length/\Inv (cxD X own scope s.heap.objs.size cl fn s H fp pins) [] (σ0++U) H' s7/\tn i s7.heap/\(∀b∈fp,H' b=none)/\W i m ys H':=fun {H7 s7} hl I7 {ys'} ⟨m',hm,w7⟩=>by
    refine⟨m',hm,i+1,ys',vs.map some,H7,by rw[List.length_map,hl],I7.unpinned,T.keep _ _ _ st5 fun b hb o e=>(I7.pin (b,o) (List.mem_append_right _ (List.mem_append_right _ (E7 hb e)))).1,fun b hb=>?_,w7⟩;obtain⟨o,e,d⟩:=T.obj _ _ st5 b hb;exact(I7.pin (b,o) (List.mem_append_right _ (List.mem_append_right _ (E7 hb e)))).2.1
   refine thn (hg _ s5 σ0 U H5 x u vs hl3 I5' r5 hu) fun _ s6 yy=>?_;obtain⟨hl,I6⟩:=yy;refine thn (ht _ s6 _ H5 _ I6 q5) fun ok s7 yy=>?_;obtain⟨H7,I7,q7⟩:=yy;cases ok with
   | false =>
    rw[if_neg Bool.false_ne_true] at q7;rw[if_neg Bool.false_ne_true];exact again hl I7 q7
   | true =>
    rw[if_pos rfl] at q7;rw[if_pos rfl];refine thn (he _ s7 _ H7 _ I7 q7) fun v s8 yy=>?_;obtain⟨y,H8,I8,r8,ha8,hz8,q8⟩:=yy;refine thn (JZ _ s8 _ H8 (.ref acc) [y] (.ref acc) [v] (fun _ H9=>∃m',m'<n/\W (i+1) m' (ys++[y]) H9) I8 rfl (.cons r8 .nil) ⟨acc,ys,y,rfl,rfl,ha8,hz8,q8⟩) fun _ s9 yy=>?_;obtain⟨_,H9,I9,_,q9⟩:=yy;exact again hl I9 q9
 exact codeAny_compStart_list (loop _ rfl) (T.self X.A 0 _ _ _ st1 (loop _ rfl))
theorem F5{own:List Str}{scope:Scope}{fp:List Addr}{it:Addr}{tn:Nat->Heap->Prop}{J:It}{target iter elt:Expr}{ifs:List Expr}{pos:Pos}{un:TU}{tc:TT}{te:TE}{acc:Addr}{Q:VK}{R:Result->Shared->Prop}{E:Value->Shared->Prop}(hc:X.calm=true)(hok:Bl own X.N scope X.env.scope=true)(hg:∀C s H fp pins,PGo (cxC X own scope C s H fp pins) target own.length un)(ht:∀C s H fp pins,PTs (cxC X own scope C s H fp pins) ifs tc)(he:∀C s H fp pins,PE (cxC X own scope C s H fp pins) elt te)(I:Inv X pins U H s)(T:Turn X.prog X.w X.K target J fp it tn)(st:tn 0 s.heap)(f2:∀b∈fp,FC X pins H b)(W:Nat->Nat->List V->Hp->Prop)(w0:∃m,W 0 m [] H)(turn:∀i m ys H,W i m ys H->H acc=some (.lst ys) /\
   ((J.stop i H/\Q (.ref acc) H)\/(J.go i H/\∀x H',J.yld i H x H'->∃vs,un x H' vs/\tc (vs.map some++U) H' fun b H3 =>
    if b=true then te (vs.map some++U) H3 fun v H4=>H4 acc=some (.lst ys)/\ys.length<sizeLine/\∃m',m'<m/\W (i+1) m' (ys++[v]) (upd H4 acc (.lst (ys++[v])))
    else ∃m',m'<m/\W (i+1) m' ys H3)))(fin:∀s' σ' H',Inv (cxC X own scope s.heap.objs.size s H fp pins) [] σ' H' s'->Q (.ref acc) H'->R (.ok .next) s'):
  wpAny (model X.prog X.w) X.A (newFunctionEnv scope X.env.globals (clo X.env.cells scope.names []) [] X.env.qual none .none (some X.env)) (fun cenv s₄ =>
   cenv.locals=s.heap.objs.size/\codeAny (model X.prog X.w) X.A (.compStart (.ListComp elt [⟨target,iter,ifs,0⟩] scope pos) 0 (.ref it) (.ref acc) { cenv with scope:=relabel scope X.env }) R s₄) E s:=by
 have hcell:∀x∈scope.names,x.2≠.cell:=fun x hx z=>by
  simp only[Bl,Bool.and_eq_true,List.all_eq_true] at hok;have:=(hok.1.1.2 x hx).1.1;rw[z] at this;simp at this
 have hkind:scope.kind=.function:=by
  simp only[Bl,Bool.and_eq_true] at hok;simpa using hok.1.2
 refine wpAny_newFunctionEnv hcell (fun x hx=>by simp at hx) (fun h1 hns hsb=>⟨rfl,?_⟩) hkind;have hk:∀b o,s.heap.get? b=some o->h1.get? b=some o:=fun b o e=>(hsb.2 b (Nat.ne_of_lt (Heap.lt_size e))).trans (Heap.get?_push_of_some _ e);have I0:Inv (cxC X own scope s.heap.objs.size s H fp pins) [] (List.replicate own.length none++U) H { s with heap:=h1,toks:=s.toks+([]:List (Str×Value)).length }:=
  ON hok I f2 (fun b hb=>let⟨o,e,_⟩:=T.obj _ _ st b hb; ⟨o,e⟩) (by simpa using hns) hk
 exact RH (iter:=iter) (pos:=pos) hc (hg _ _ _ _ _) (ht _ _ _ _ _) (he _ _ _ _ _) I T st f2 W w0 turn fin hk I0
end
section
variable{X:Cx}
theorem Bl.names{own N:List Str}{scope sco:Scope}(hok:Bl own N scope sco=true):∀x∈scope.names,x.2=.local->scope.names.lookup x.1=some .local:=fun x hx hl=>by
 simp only[Bl,Bool.and_eq_true,List.all_eq_true] at hok;have:=(hok.1.1.2 x hx).2;rw[hl] at this;simpa using this
theorem Bl.kind{own N:List Str}{scope sco:Scope}(hok:Bl own N scope sco=true):scope.kind=.function:=by
 simp only[Bl,Bool.and_eq_true] at hok;simpa using hok.1.2
theorem U4{own:List Str}{scope:Scope}{target iter elt:Expr}{ifs:List Expr}{pos:Pos}{wi:TI}{un:TU}{tc:TT}{te:TE}(hc:X.calm=true)(hok:Bl own X.N scope X.env.scope=true)(hi:PI X target iter wi)(hg:∀C s H fp pins,PGo (cxC X own scope C s H fp pins) target own.length un)(ht:∀C s H fp pins,PTs (cxC X own scope C s H fp pins) ifs tc)(he:∀C s H fp pins,PE (cxC X own scope C s H fp pins) elt te)(hs:∀x,foldedSetIterable iter X.env x=pure x:=by intro _; rfl):PE X (.ListComp elt [⟨target,iter,ifs,0⟩] scope pos) (tLc wi un tc te):=by
 intro pins s U H Q I h;rw[eval_ListComp];refine wpAny_comprehension_free (use:=none) rfl hs (Km (Bl.free hok I)) (Bl.kind hok) (Bl.names hok) ?_;refine thn (hi pins s U H _ I h) fun v s1 h1=>thn h1 fun itv s2 h2=>?_;obtain⟨it,fp,tn,J,H2,e,I2,T,st2,f2,q⟩:=h2;subst e;obtain⟨W,w0,turn⟩:=q s2.heap.objs.size I2.fresh;refine wpAny_newObj_type (hd:=by size_fits) ?_;have I3:Inv X pins U (upd H2 s2.heap.objs.size (.lst [])) { s2 with heap:=s2.heap.push { cls:=.type "list",data:=.seq ([]:List Value).toArray } }:=I2.lnew (its:=[]) (t':=s2.toks) .nil (Nat.zero_le _);have st3:tn 0 (s2.heap.push { cls:=.type "list",data:=.seq ([]:List Value).toArray }):=T.keep _ _ _ st2 fun b _ o e=>Heap.get?_push_of_some _ e;have f3:∀b∈fp,FC X pins (upd H2 s2.heap.objs.size (.lst [])) b:=fun b hb=>by
  obtain⟨o,e,_⟩:=T.obj _ _ st2 b hb;exact⟨by rw[AF (Nat.ne_of_lt (Heap.lt_size e))]; exact(f2 b hb).1,(f2 b hb).2⟩
 refine thn (F5 (iter:=iter) (pos:=pos) (R:=compPost (model X.prog X.w) X.A X.xe none (EP X pins U Q) (.ref s2.heap.objs.size) (s2.heap.push { cls:=.type "list",data:=.seq ([]:List Value).toArray }).objs.size) hc hok hg ht he I3 T st3 f3 W w0 turn fun s' σ' H' J' q'=>?_) fun cenv s4 ⟨el,h4⟩=>?_
 .obtain⟨m,hn,_⟩:=J'.loc
  exact⟨m,hn,fun h' hs'=>⟨.ref s2.heap.objs.size,H',Ed I3 f3 J' hs',rfl,q'⟩⟩
 .have el':cenv.locals=(s2.heap.push { cls:=.type "list",data:=.seq ([]:List Value).toArray }).objs.size:=el
  rw[<- el'] at h4;exact h4
end
section
variable{X:Cx}
theorem Ma{i:Nat}{y:Str}{py spos:Pos}{own:List Str}{scope:Scope}{target iter elt:Expr}{ifs:List Expr}{pos:Pos}{wi:TI}{un:TU}{tc:TT}{te:TE}(nd:X.N.Nodup)(hiN:X.N[i]? = some y)(hy:X.env.scope.names.lookup y=some .local)(hc:X.calm=true)(hok:Bl own X.N scope X.env.scope=true)(hi:PI X target iter wi)(hg:∀C s H fp pins,PGo (cxC X own scope C s H fp pins) target own.length un)(ht:∀C s H fp pins,PTs (cxC X own scope C s H fp pins) ifs tc)(he:∀C s H fp pins,PE (cxC X own scope C s H fp pins) elt te)(hs:∀x,foldedSetIterable iter X.env x=pure x:=by intro _; rfl)(hsw:swapsWith (.ListComp elt [⟨target,iter,ifs,0⟩] scope pos) (some (.Name y py)) spos.line X.env=pure true:=by rfl):
  PS X (.Assign [.Name y py] (.ListComp elt [⟨target,iter,ifs,0⟩] scope pos) spos) (NF (tLc wi un tc te) (G1 i)):=by
 intro pins s U H D I h;rw[exec_Assign_Name_used _ _ _ _ hsw];refine wpAny_bind (wpAny_standAt (wpAny_bind ?_));show wpAny _ X.A (do let _ <- comprehension (.ListComp elt [⟨target,iter,ifs,0⟩] scope pos) scope X.env _ (newList []) false (eval iter X.env) (some (assign (.Name y py) X.env))) _ _ s;refine wpAny_bind (wpAny_mono (wpAny_comprehension_free (use:=some (assign (.Name y py) X.env)) (Q:=fun _ s'=>SP X pins D .next s') rfl hs (Km (Bl.free hok I)) (Bl.kind hok) (Bl.names hok) ?_) (fun _ s' hq=>wpAny_pure (wpAny_pure hq)) fun _ _ e=>e);refine thn (hi pins s U H _ I h) fun v s1 h1=>thn h1 fun itv s2 h2=>?_;obtain⟨it,fp,tn,J,H2,e,I2,T,st2,f2,q⟩:=h2;subst e;obtain⟨W,w0,turn⟩:=q s2.heap.objs.size I2.fresh;refine wpAny_newObj_type (hd:=by size_fits) ?_;have I3:Inv X pins U (upd H2 s2.heap.objs.size (.lst [])) { s2 with heap:=s2.heap.push { cls:=.type "list",data:=.seq ([]:List Value).toArray } }:=I2.lnew (its:=[]) (t':=s2.toks) .nil (Nat.zero_le _);have st3:tn 0 (s2.heap.push { cls:=.type "list",data:=.seq ([]:List Value).toArray }):=T.keep _ _ _ st2 fun b _ o e=>Heap.get?_push_of_some _ e;have f3:∀b∈fp,FC X pins (upd H2 s2.heap.objs.size (.lst [])) b:=fun b hb=>by
  obtain⟨o,e,_⟩:=T.obj _ _ st2 b hb;exact⟨by rw[AF (Nat.ne_of_lt (Heap.lt_size e))]; exact(f2 b hb).1,(f2 b hb).2⟩
 generalize hS:({ s2 with heap:=s2.heap.push { cls:=.type "list",data:=.seq ([]:List Value).toArray } }:Shared)=s3 at I3 st3;have st3':tn 0 s3.heap:=by rw[<- hS]; exact st3
 refine thn (F5 (iter:=iter) (pos:=pos) (acc:=s2.heap.objs.size) (Q:=fun x H1=>G1 i x U H1 D.nx) (R:=compPost (model X.prog X.w) X.A X.xe (some (assign (.Name y py) X.env)) (fun _ s'=>SP X pins D .next s') (.ref s2.heap.objs.size) s3.heap.objs.size) hc hok hg ht he I3 T st3' f3 W w0 turn fun s' σ' H' J' q'=>?_) fun cenv s4 ⟨el,h4⟩=>?_
 .have I4:Inv X pins U H' s':=Ed I3 f3 J' (h':=s'.heap) (.refl ..)
  obtain⟨m,⟨oC,es,ep,hoC,hdC,hrC⟩,_⟩:=J'.loc;have hCL:s3.heap.objs.size≠X.env.locals:=Nat.ne_of_gt I3.lt;have hfs:s3.heap.objs.size∉X.fs:=I3.nofs (Nat.le_refl _);have hCc:∀x c,X.env.cells.lookup x=some c->c≠s3.heap.objs.size:=fun x c e=>by
   obtain⟨v,z⟩:=I3.cell x c e;exact Nat.ne_of_lt z.lt
  have hCp:∀p∈X.pn++pins,p.1≠s3.heap.objs.size:=fun p hp=>Nat.ne_of_lt (Heap.lt_size (I3.pin p hp).1);have I5:Inv X (pins++[(s3.heap.objs.size,oC)]) U H' s':=I4.pins_of fun p hp=>(List.mem_append.mp hp).elim (fun z=>I4.pin p (List.mem_append_right _ z)) fun z=>by
   have z':p=(s3.heap.objs.size,oC):=by simpa using z
   subst z';exact⟨hoC,J'.free,hCL,hfs,fun v=>by rw[hdC]; intro z; cases z⟩
  show wpAny _ X.A (assign (.Name y py) X.env (.ref s2.heap.objs.size)) _ _ s';refine wpAny_assign_Name (EL I5 nd hiN (.inl hy) (v:=.ref s2.heap.objs.size) rfl (fun s6 I6=>?_) (.inr hy));have hp:=I6.pin (s3.heap.objs.size,oC) (List.mem_append_right _ (List.mem_append_right _ (by simp)));refine⟨m,⟨oC,es,ep,hp.1,hdC,hrC⟩,fun h' hs'=>?_⟩;exact⟨_,H',I6.unpinned.turned (h':=h') (t':=s6.toks) (it:=s3.heap.objs.size) (fun b o hb e=>(hs'.2 b hb).trans e) hp.2.1 hCL (.inr I3.sz) hCc hCp,q'⟩
 .rw[<- el] at h4
  exact h4
end
noncomputable def Its(x:Str):It:=⟨fun i _=>i<x.cps.size,fun i H v H'=>H'=H/\∃c,x.cps[i]? = some c/\v=.str ⟨#[c]⟩,fun i _=>x.cps.size<=i⟩
theorem Heap.IsStrIter.at'{h h':Heap}{a ty x t i}(y:h.IsStrIter a ty x t i)(e:∀o,h.get? a=some o->h'.get? a=some o):h'.IsStrIter a ty x t i:=let⟨o,ho,r⟩:=y; ⟨o,e _ ho,r⟩
theorem R7{P:Program}{w:World}{K:Frag}{tg:Expr}(it:Addr)(x:Str)(t:Tok)(ty:String)(hty:ty = "str_ascii_iterator" \/ ty = "str_iterator"):Turn P w K tg (Its x) [it] it (fun i h=>h.IsStrIter it ty x t i) where
 mem:=by simp
 obj:=fun i h st b hb=>by
  have e:b=it:=by simpa using hb
  subst e;obtain⟨o,e,c,d⟩:=st;exact⟨o,e,fun v z=>by rw[d] at z; cases z⟩
 keep:=fun i h h' st k=>Heap.IsStrIter.at' st fun o e=>k it (by simp) o e
 item:=by
  intro X hP hw hK hc i pins s U H E I hf st hg;subst hP hw hK;have hg':i<x.cps.size:=hg;have hx:x.cps[i]? = some x.cps[i]:=by simp[hg']
  obtain⟨f0,f1,f2,f3,f4,f5⟩:=hf it (by simp);have fin:∀h',h'.IsStrIter it ty x t (i+1)->Heap.SameBut it s.heap h'->∃u,some (Value.str ⟨#[x.cps[i]]⟩ s.toks)=some u /\
    wpAny (model X.prog X.w) X.A (letOwnedTupleGo tg (.ref it) u) (fun _ s2=>∃y H',Inv X pins U H' s2/\RelV y u/\(Its x).yld i H y H'/\s2.heap.IsStrIter it ty x t (i+1)/\∀b∈[it],H' b=none) E { s with heap:=h',toks:=s.toks+1 }:=fun h' st' sb=>by
   have I1:Inv X pins U H { s with heap:=h',toks:=s.toks+1 }:=I.turned (fun b o hb e=>(sb.2 b hb).trans e) f0 f1 f3 f4 f5;obtain⟨o,e,c,d⟩:=id st';exact⟨_,rfl,N0 (s:={ s with heap:=h',toks:=s.toks+1 }) e c d (by rcases hty with rfl|rfl<;>decide) ⟨.str ⟨#[x.cps[i]]⟩,H,I1,⟨_,rfl⟩,⟨rfl,_,hx,rfl⟩,st',fun b hb=>(hf b hb).1⟩⟩
  rcases hty with rfl|rfl
  .exact wpAny_pyNext_ascii_item st hx fin
  .exact wpAny_pyNext_wide_item st hx fin
 done:=by
  intro X hP hw hK hc i pins s U H E I hf st hg;subst hP hw hK;have hg':x.cps.size<=i:=hg;have hx:x.cps[i]? = none:=by simp[hg']
  obtain⟨f0,f1,f2,f3,f4,f5⟩:=hf it (by simp);rcases hty with rfl|rfl
  .exact wpAny_pyNext_ascii_end (I.ok.hd hc) st hx fun h' eb=>⟨rfl,I.turned (t':=s.toks) (fun b o hb e=>eb b o hb e) f0 f1 f3 f4 f5⟩
  .exact wpAny_pyNext_wide_end (I.ok.hd hc) st hx fun h' eb=>⟨rfl,I.turned (t':=s.toks) (fun b o hb e=>eb b o hb e) f0 f1 f3 f4 f5⟩
 self:=fun _ _ _ _ _ st h=>by
  rcases hty with rfl|rfl
  .exact wpAny_pyIter_striter_ascii st h
  .exact wpAny_pyIter_striter_wide st h
section
variable{X:Cx}{tg:Expr}
noncomputable def X3(tl:TE):TI:=fun U H R=>tl U H fun x H1=>∃z,x=.str z/\R (Its z) H1
theorem WL{l:Expr}{tl:TE}(hl:PE X l tl):PI X tg l (X3 tl):=by
 intro pins s U H R I h;refine thn (hl pins s U H _ I h) fun v s1 yy=>?_;obtain⟨x,H1,I1,r1,q1⟩:=yy;obtain⟨z,e,q⟩:=q1;subst e;obtain⟨t,rfl⟩:=r1;have fin:∀ty:String,(ty = "str_ascii_iterator" \/ ty = "str_iterator")->PIE X pins U tg R (.ref s1.heap.objs.size) { s1 with heap:=s1.heap.push { cls:=.type ty,data:=.fields #[.str z t,.int 0 0] } }:=fun ty hty=>by
  have I2:Inv X pins U H1 { s1 with heap:=s1.heap.push { cls:=.type ty,data:=.fields #[.str z t,.int 0 0] } }:=I1.kept (t':=s1.toks) fun b o e=>Heap.get?_push_of_some _ e;refine⟨_,[s1.heap.objs.size],_,Its z,H1,rfl,I2,R7 _ z t ty hty,⟨_,Heap.get?_push_size _ rfl,rfl,rfl⟩,fun b hb=>?_,q⟩;have e:b=s1.heap.objs.size:=by simpa using hb
  subst e;exact I1.fpOk (Nat.le_refl _) (I1.hok.fresh (Nat.le_refl _))
 by_cases ha:z.cps.all (· < 128)=true
 .exact wpAny_pyIter_ascii ha (fin _ (.inl rfl))
 .exact wpAny_pyIter_wide (by simpa using ha) (fin _ (.inr rfl))
end
section
variable{X:Cx}
noncomputable def DM(bs:List Bool):List V:=bs.map V.bl
theorem GP(hc:X.calm=true):BJ X (.builtin "all") (fun xs H Q=>∃p bs,xs=[.ref p]/\SqL X.K H p (DM bs)/\Q (.bl (bs.all id)) H):=by
 intro pins s U H xs us Q I r h;obtain⟨p,bs,rfl,hq,q⟩:=h;obtain⟨u,rfl,ru⟩:=r.one;cases ru;obtain⟨its,rv,pl,hz⟩:=I.list hq;have hl:=rv.length;refine call_all_walk (wpAny_pyIter_list pl.isList ?_);have hne:p≠s.heap.objs.size:=fun z=>by
  obtain⟨o,e,_⟩:=pl.isList;exact absurd (Heap.lt_size e) (by rw[z]; exact Nat.lt_irrefl _)
 have hlen:its.toArray.size=bs.length:=by rw[List.size_toArray,<- hl]; simp[DM]
 refine⟨_,_,_,_,_,_,fun i=>(bs[i]?).getD true,rfl,Walks.list (by show X.A.handled=none; exact I.ok.hd hc) s.heap.objs.size p hne its.toArray,⟨⟨_,Heap.get?_push_size _ rfl,rfl,rfl⟩,?_⟩,?_,?_⟩
 .obtain⟨o,e,r⟩:=pl.isList
  exact⟨o,Heap.get?_push_of_some _ e,r⟩
 .intro i v s' Q' E' hv hq'
  have hi:i<its.length:=by
   by_cases hi:i<its.length
   .exact hi
   .have:its.toArray[i]? = none:=by simp; lia
    rw[this] at hv; cases hv
  have hb:i<bs.length:=by simp[DM] at hl; lia
  obtain⟨u,hu,ru⟩:=rv.get (i:=i) (x:=.bl bs[i]) (by simp[DM,hb]);have e:v=.bool bs[i]:=by
   have:its.toArray[i]? = some u:=by simpa using hu
   rw[this] at hv;cases hv;exact ru
  subst e;dsimp only at hq';rw[show(bs[i]?).getD true=bs[i] by simp[hb]] at hq';exact wpAny_truthy_bool hq'
 .intro h' tk hk
  have I1:Inv X pins U H { s with heap:=h',toks:=tk }:=I.kept fun b o e=>hk b o (fun z=>by
   have z':b=s.heap.objs.size:=by simpa using z
   exact absurd (Heap.lt_size e) (by rw[z']; exact Nat.lt_irrefl _)) (Heap.get?_push_of_some _ e)
  refine⟨.bl _,H,I1,rfl,?_⟩;have e:(List.range its.toArray.size).all (fun i=>(bs[i]?).getD true)=bs.all id:=by
   rw[hlen,Bool.eq_iff_iff];simp only[List.all_eq_true,List.mem_range,id_eq];constructor
   .intro h b hb
    obtain⟨i,hi,rfl⟩:=List.mem_iff_getElem.mp hb;have:=h i hi;simpa[hi] using this
   .intro h i hi
    simpa[hi] using h bs[i] (List.getElem_mem hi)
  rw[e];exact q
theorem PF(hc:X.calm=true):BJ X (.builtin "any") (fun xs H Q=>∃p bs,xs=[.ref p]/\SqL X.K H p (DM bs)/\Q (.bl (bs.any id)) H):=by
 intro pins s U H xs us Q I r h;obtain⟨p,bs,rfl,hq,q⟩:=h;obtain⟨u,rfl,ru⟩:=r.one;cases ru;obtain⟨its,rv,pl,hz⟩:=I.list hq;have hl:=rv.length;refine call_any_walk (wpAny_pyIter_list pl.isList ?_);have hne:p≠s.heap.objs.size:=fun z=>by
  obtain⟨o,e,_⟩:=pl.isList;exact absurd (Heap.lt_size e) (by rw[z]; exact Nat.lt_irrefl _)
 have hlen:its.toArray.size=bs.length:=by rw[List.size_toArray,<- hl]; simp[DM]
 refine⟨_,_,_,_,_,_,fun i=>(bs[i]?).getD false,rfl,Walks.list (by show X.A.handled=none; exact I.ok.hd hc) s.heap.objs.size p hne its.toArray,⟨⟨_,Heap.get?_push_size _ rfl,rfl,rfl⟩,?_⟩,?_,?_⟩
 .obtain⟨o,e,r⟩:=pl.isList
  exact⟨o,Heap.get?_push_of_some _ e,r⟩
 .intro i v s' Q' E' hv hq'
  have hi:i<its.length:=by
   by_cases hi:i<its.length
   .exact hi
   .have:its.toArray[i]? = none:=by simp; lia
    rw[this] at hv; cases hv
  have hb:i<bs.length:=by simp[DM] at hl; lia
  obtain⟨u,hu,ru⟩:=rv.get (i:=i) (x:=.bl bs[i]) (by simp[DM,hb]);have e:v=.bool bs[i]:=by
   have:its.toArray[i]? = some u:=by simpa using hu
   rw[this] at hv;cases hv;exact ru
  subst e;dsimp only at hq';rw[show(bs[i]?).getD false=bs[i] by simp[hb]] at hq';exact wpAny_truthy_bool hq'
 .intro h' tk hk
  have I1:Inv X pins U H { s with heap:=h',toks:=tk }:=I.kept fun b o e=>hk b o (fun z=>by
   have z':b=s.heap.objs.size:=by simpa using z
   exact absurd (Heap.lt_size e) (by rw[z']; exact Nat.lt_irrefl _)) (Heap.get?_push_of_some _ e)
  refine⟨.bl _,H,I1,rfl,?_⟩;have e:(List.range its.toArray.size).any (fun i=>(bs[i]?).getD false)=bs.any id:=by
   rw[hlen,Bool.eq_iff_iff];simp only[List.any_eq_true,List.mem_range,id_eq];constructor
   .rintro ⟨i,hi,h⟩
    exact⟨bs[i],List.getElem_mem hi,by simpa[hi] using h⟩
   .rintro ⟨b,hb,h⟩
    obtain⟨i,hi,rfl⟩:=List.mem_iff_getElem.mp hb;exact⟨i,hi,by simpa[hi] using h⟩
  rw[e];exact q
end
section
variable{X:Cx}{e:Expr}{te:TE}{p q pos:Pos}{x:Str}{T:String}
noncomputable def Mm(H:Hp):V->Option String
 | .non=>some "NoneType"
 | .bl _=>some "bool"
 | .int _=>some "int"
 | .str _=>some "str"
 | .ref a=>match H a with
  | some (.lst _)=>some "list"
  | some (.tup _)=>some "tuple"
  | _=>none
 | _=>none
theorem UB{K:Frag}{H:Hp}{v:V}{t:String}(h:Mm H v=some t):TyOf K H v (.type t):=by
 cases v with
 | non=>cases h; exact .non
 | bl b=>cases h; exact .bl b
 | int i=>cases h; exact .int i
 | str z=>cases h; exact .str z
 | ref a =>
  unfold Mm at h;dsimp only at h;split at h
  .rename_i e; cases h; exact .lst e
  .rename_i e; cases h; exact .tup e
  .cases h
 | _=>cases h
end
inductive RepA (N:Addr->Prop) (H:Hp):V->D->Prop where
 | non:RepA N H .non .non
 | bl (b:Bool):RepA N H (.bl b) (.bl b)
 | int (i:Int):RepA N H (.int i) (.int i)
 | str (x:Str) (hx:x.length<=sizeLine):RepA N H (.str x) (.str x)
 | lst {a:Addr} {vs:List V} {ds:List D} (h:H a=some (.lst vs)) (hz:vs.length<=sizeLine) (hn:¬N a) (hl:vs.length=ds.length) (hr:∀(i:Nat) v d,vs[i]? = some v->ds[i]? = some d->RepA N H v d):RepA N H (.ref a) (.lst ds)
 | tup {a:Addr} {vs:List V} {ds:List D} (h:H a=some (.tup vs)) (hz:vs.length<=sizeLine) (hl:vs.length=ds.length) (hr:∀(i:Nat) v d,vs[i]? = some v->ds[i]? = some d->RepA N H v d):RepA N H (.ref a) (.tup ds)
noncomputable abbrev Rep:=RepA fun _=>False
noncomputable def XJ(N:Addr->Prop)(H H':Hp):Prop:=∀b o,¬N b->H b=some o->H' b=some o
theorem RepA.same{N:Addr->Prop}{H H':Hp}(k:XJ N H H')(t:∀b xs,H b=some (.tup xs)->H' b=some (.tup xs)){v:V}{d:D}(r:RepA N H v d):RepA N H' v d:=by
 induction r with
 | non=>exact .non
 | bl b=>exact .bl b
 | int i=>exact .int i
 | str x hx=>exact .str x hx
 | lst h hz hn hl _ ih=>exact .lst (k _ _ hn h) hz hn hl fun i v d e1 e2=>ih i v d e1 e2
 | tup h hz hl _ ih=>exact .tup (t _ _ h) hz hl fun i v d e1 e2=>ih i v d e1 e2
theorem RepA.grow{N:Addr->Prop}{H H':Hp}(k:FD H H'){v:V}{d:D}(r:RepA N H v d):RepA N H' v d:=r.same (fun b o _ e=>k b o e) fun b xs e=>k b _ e
theorem RepA.weak{N N':Addr->Prop}{H:Hp}(hn:∀a,N' a->N a){v:V}{d:D}(r:RepA N H v d):RepA N' H v d:=by
 induction r with
 | non=>exact .non
 | bl b=>exact .bl b
 | int i=>exact .int i
 | str x hx=>exact .str x hx
 | lst h hz n hl _ ih=>exact .lst h hz (fun z=>n (hn _ z)) hl ih
 | tup h hz hl _ ih=>exact .tup h hz hl ih
theorem RepA.rep{N:Addr->Prop}{H:Hp}{v:V}{d:D}(r:RepA N H v d):Rep H v d:=r.weak fun _ z=>z.elim
theorem RepA.inj{N N':Addr->Prop}{H:Hp}{v:V}{d e:D}(r:RepA N H v d)(q:RepA N' H v e):d=e:=by
 induction r generalizing e with
 | non=>cases q; rfl
 | bl b=>cases q; rfl
 | int i=>cases q; rfl
 | str x=>cases q; rfl
 | lst h hz hn hl hr ih =>
  cases q with
  | lst h' hz' hn' hl' hr' =>
   rw[h] at h'; cases h';congr 1;refine List.ext_getElem? fun i=>?_;rename_i vs ds es;by_cases hi:i<vs.length
   .have e1:ds[i]? = some ds[i]:=by simp[<- hl,hi]
    have e2:es[i]? = some es[i]:=by simp[<- hl',hi]
    rw[e1,e2,ih i vs[i] ds[i] (by simp[hi]) e1 (hr' i vs[i] es[i] (by simp[hi]) e2)]
   .rw[List.getElem?_eq_none (by omega),List.getElem?_eq_none (by omega)]
  | tup h'=>rw[h] at h'; cases h'
 | tup h hz hl hr ih =>
  cases q with
  | tup h' hz' hl' hr' =>
   rw[h] at h'; cases h';congr 1;refine List.ext_getElem? fun i=>?_;rename_i vs ds es;by_cases hi:i<vs.length
   .have e1:ds[i]? = some ds[i]:=by simp[<- hl,hi]
    have e2:es[i]? = some es[i]:=by simp[<- hl',hi]
    rw[e1,e2,ih i vs[i] ds[i] (by simp[hi]) e1 (hr' i vs[i] es[i] (by simp[hi]) e2)]
   .rw[List.getElem?_eq_none (by omega),List.getElem?_eq_none (by omega)]
  | lst h'=>rw[h] at h'; cases h'
structure Def (P:Program) (w:World) (K:Frag) (mg:Str->Option Value) (base:Heap) (CX:CXT) (k:Nat) (x:Str) (ps:List Str) (sp:Sp):Prop where
 ex:∃(f:Addr) (fd:FuncData),mg x=some (.ref f)/\PySem.W.keepIn K (.ref f)=true/\Binds K fd ps []/\FnOk P w K mg base CX k f fd ps sp
section
variable{X:Cx}
theorem Wt{CX:CXT}{k j:Nat}{x:Str}{ps:List Str}{sp:Sp}{E:XK}{p pos:Pos}{e:Expr}{es:List Expr}{t:TA}(D:Def X.prog X.w X.K X.mg X.base CX k x ps sp)(hr:Room j X.A)(hkj:k<=j)(hx:Passes CX X E)(ha:PA X (e::es) t)(hg:Gl X x:=by rfl)(hdb:(x==("__debug__" : Str))=false:=by decide +kernel)(he:starEach (e::es) X.env=(false,eval e X.env)::starEach es X.env:=by rfl)(hpl:(backTo pos (starEach es X.env)).any (·.1)=false:=by rfl):PE X (.Call (.Name x p) (e::es) [] pos) (RW sp [] E t):=by
 obtain⟨f,fd,a,b,c,d⟩:=D.ex;exact Tu d (hr.mono hkj) hg a b c .nil hx ha hdb he hpl
end
noncomputable def isI(t T:String):Bool:=t==T || (t == "bool" && T == "int")
theorem OV{K:Frag}{t T:String}(ht:t∈["NoneType","bool","int","str","list","tuple"])(hT:T∈["int","bool","tuple","list","str"]):PySem.W.kitOne K (.type t) (.type T)=some (isI t T):=by
 simp only[List.mem_cons,List.not_mem_nil,or_false] at ht hT;rcases ht with rfl|rfl|rfl|rfl|rfl|rfl<;>rcases hT with rfl|rfl|rfl|rfl|rfl <;>
  kernel_rfl
theorem R8{H:Hp}{v:V}{t:String}(h:Mm H v=some t):t∈["NoneType","bool","int","str","list","tuple"]:=by
 cases v with
 | non=>cases h; simp
 | bl b=>cases h; simp
 | int i=>cases h; simp
 | str z=>cases h; simp
 | ref a =>
  unfold Mm at h;dsimp only at h;split at h
  .cases h; simp
  .cases h; simp
  .cases h
 | _=>cases h
section
variable{X:Cx}
theorem PH:BJ X (.builtin "isinstance") (fun xs H Q=>∃x t T,xs=[x,.ty T]/\Mm H x=some t/\T∈["int","bool","tuple","list","str"]/\Q (.bl (isI t T)) H):=by
 intro pins s U H xs us Q I r h;obtain⟨x,t,T,rfl,ht,hT,q⟩:=h;obtain⟨u,v,rfl,ru,rv⟩:=r.two;cases rv;exact OQ I ru (UB ht) (OV (R8 ht) hT) fun tk=>⟨.bl _,H,I.tok tk,rfl,q⟩
end
noncomputable def Ge:D->String
 | .non => "NoneType"
 | .bl _ => "bool"
 | .int _ => "int"
 | .str _ => "str"
 | .lst _ => "list"
 | .tup _ => "tuple"
theorem RepA.typ{N:Addr->Prop}{H:Hp}{v:V}{d:D}(r:RepA N H v d):Mm H v=some (Ge d):=by
 cases r with
 | non=>rfl
 | bl b=>rfl
 | int i=>rfl
 | str x=>rfl
 | lst h=>simp only[Mm,h,Ge]
 | tup h=>simp only[Mm,h,Ge]
mutual
noncomputable def eqD:D->D->Bool
 | .non,.non=>true
 | .bl a,.bl b=>a==b
 | .bl a,.int b=>(if a then 1 else 0)==b
 | .int a,.bl b=>a==(if b then 1 else 0)
 | .int a,.int b=>a==b
 | .str a,.str b=>a==b
 | .lst xs,.lst ys=>D8 xs ys
 | .tup xs,.tup ys=>D8 xs ys
 | _,_=>false
noncomputable def D8:List D->List D->Bool
 | [],[]=>true
 | x::xs,y::ys=>eqD x y&&D8 xs ys
 | _,_=>false
end
theorem Gi(x y:List D):eqD (.lst x) (.lst y)=D8 x y:=rfl
theorem FJ(x y:List D):eqD (.tup x) (.tup y)=D8 x y:=rfl
theorem Gh(x y:Int):eqD (.int x) (.int y)=(x==y):=rfl
theorem GV(x y:Str):eqD (.str x) (.str y)=(x==y):=rfl
theorem HK(x y:Bool):eqD (.bl x) (.bl y)=(x==y):=rfl
theorem MD(x y:D)(xs ys:List D):D8 (x::xs) (y::ys)=(eqD x y&&D8 xs ys):=rfl
theorem C3:∀{xs ys:List D},D8 xs ys=true->xs.length=ys.length
 | [],[],_=>rfl
 | [],_::_,h=>nomatch h
 | _::_,[],h=>nomatch h
 | x::xs,y::ys,h=>by
  rw[MD,Bool.and_eq_true] at h;simp[C3 h.2]
theorem C2:∀{xs ys:List D},xs.length=ys.length->D8 xs ys=(List.range xs.length).all fun i=>eqD (xs.getD i .non) (ys.getD i .non)
 | [],[],_=>rfl
 | x::xs,y::ys,h=>by
  have ih:=C2 (xs:=xs) (ys:=ys) (by simpa using h);rw[MD,ih,List.length_cons,List.range_succ_eq_map,List.all_cons,List.all_map];rfl
mutual
theorem DR:∀d,eqD d d=true
 | .non=>rfl
 | .bl a=>by rw[HK]; exact beq_self_eq_true a
 | .int a=>by rw[Gh]; exact beq_self_eq_true a
 | .str a=>by rw[GV]; exact beq_self_eq_true a
 | .lst xs=>Hu xs
 | .tup xs=>Hu xs
theorem Hu:∀ds,D8 ds ds=true
 | []=>rfl
 | d::ds=>by rw[MD,DR d,Hu ds]; rfl
end
section
variable{P:Program}{w:World}{H:Hp}{s:Shared}{N N':Addr->Prop}
theorem AQ(hok:HOk P w H s.heap){a:Addr}{vs:List V}(h:H a=some (.lst vs)):∃its:List Value,Vals vs its/\s.heap.IsList a its.toArray:=by
 obtain⟨z,its,n,r,e⟩:=hok a _ h;exact⟨its,r,_,e,rfl,_,rfl⟩
theorem A5(hok:HOk P w H s.heap){a:Addr}{vs:List V}(h:H a=some (.tup vs)):∃its:List Value,Vals vs its/\s.heap.IsTuple a its.toArray:=by
 obtain⟨z,its,r,p⟩:=hok a _ h;exact⟨its,r,p⟩
theorem EG{A:Around}{vs vs':List V}{its its':List Value}{ds es:List D}(r:Vals vs its)(r':Vals vs' its')(hl:vs.length=ds.length)(hl':vs'.length=es.length)(f:∀(i:Nat) v d v' e u u',vs[i]? = some v->ds[i]? = some d->vs'[i]? = some v'->es[i]? = some e->RelV v u->RelV v' u'->SeqAt.EqAt A s u u' (eqD d e)):
  ∀j (h1:j<its.toArray.size) (h2:j<its'.toArray.size),SeqAt.EqAt A s its.toArray[j] its'.toArray[j] (eqD (ds.getD j .non) (es.getD j .non)):=fun j h1 h2=>by
 have e1:=r.length;have e2:=r'.length;have h1':j<its.length:=by simpa using h1
 have h2':j<its'.length:=by simpa using h2
 have b1:j<vs.length:=by lia
 have b2:j<vs'.length:=by lia
 have b3:j<ds.length:=by lia
 have b4:j<es.length:=by lia
 obtain⟨u,hu,ru⟩:=r.get (i:=j) (x:=vs[j]) (by simp);obtain⟨u',hu',ru'⟩:=r'.get (i:=j) (x:=vs'[j]) (by simp);have q:=f j _ (ds[j]) _ (es[j]) u u' (by simp) (by simp) (by simp) (by simp) ru ru';have g1:its.toArray[j]=u:=by
  have:its[j]? = some (its[j]):=by simp[h1']
  rw[this] at hu;simpa using hu
 have g2:its'.toArray[j]=u':=by
  have:its'[j]? = some (its'[j]):=by simp[h2']
  rw[this] at hu';simpa using hu'
 rw[g1,g2];have g3:ds.getD j .non=ds[j]:=by simp[List.getD,b3]
 have g4:es.getD j .non=es[j]:=by simp[List.getD,b4]
 rw[g3,g4];exact q
theorem lt0{a n c:Nat}(h:a+n<c):a<c:=by lia
theorem lt1{a n c:Nat}(h:a+(n+1)<c):a+1+n<c:=by lia
theorem Ht(hok:HOk P w H s.heap){x:V}{d:D}(r:RepA N H x d):∀{A:Around} {n:Nat} {y:V} {e:D} {v u:Value},RepA N' H y e->RelV x v->RelV y u->Sh n d->A.units+n<cLine->SeqAt.EqAt A s v u (eqD d e):=by
 induction r with
 | non =>
  intro A n y e v u q rx ry _ hu;cases rx;cases q with
  | non=>cases ry; exact SeqAt.EqAt.same _
  | bl b=>cases ry; exact SeqAt.EqAt.none_bool b
  | int b=>obtain⟨t,rfl⟩:=ry; exact SeqAt.EqAt.none_int b t
  | str b=>obtain⟨t,rfl⟩:=ry; exact SeqAt.EqAt.none_str b t
  | lst h=>cases ry; obtain⟨its,_,hl⟩:=AQ hok h; exact SeqAt.EqAt.none_list hl (lt0 hu)
  | tup h=>cases ry; obtain⟨its,_,hl⟩:=A5 hok h; exact SeqAt.EqAt.none_tuple hl (lt0 hu)
 | bl a =>
  intro A n y e v u q rx ry _ hu;cases rx;cases q with
  | non=>cases ry; exact SeqAt.EqAt.bool_none a
  | bl b=>cases ry; exact SeqAt.EqAt.bool_bool a b
  | int b=>obtain⟨t,rfl⟩:=ry; exact SeqAt.EqAt.bool_int a b t
  | str b=>obtain⟨t,rfl⟩:=ry; exact SeqAt.EqAt.bool_str a b t
  | lst h=>cases ry; obtain⟨its,_,hl⟩:=AQ hok h; exact SeqAt.EqAt.bool_list a hl (lt0 hu)
  | tup h=>cases ry; obtain⟨its,_,hl⟩:=A5 hok h; exact SeqAt.EqAt.bool_tuple a hl (lt0 hu)
 | int a =>
  intro A n y e v u q rx ry _ hu;obtain⟨t',rfl⟩:=rx;cases q with
  | non=>cases ry; exact SeqAt.EqAt.int_none a t'
  | bl b=>cases ry; exact SeqAt.EqAt.int_bool a t' b
  | int b=>obtain⟨t,rfl⟩:=ry; exact SeqAt.EqAt.int_int a t' b t
  | str b=>obtain⟨t,rfl⟩:=ry; exact SeqAt.EqAt.int_str a t' b t
  | lst h=>cases ry; obtain⟨its,_,hl⟩:=AQ hok h; exact SeqAt.EqAt.int_list a t' hl (lt0 hu)
  | tup h=>cases ry; obtain⟨its,_,hl⟩:=A5 hok h; exact SeqAt.EqAt.int_tuple a t' hl (lt0 hu)
 | str a =>
  intro A n y e v u q rx ry _ hu;obtain⟨t',rfl⟩:=rx;cases q with
  | non=>cases ry; exact SeqAt.EqAt.str_none a t'
  | bl b=>cases ry; exact SeqAt.EqAt.str_bool a t' b
  | int b=>obtain⟨t,rfl⟩:=ry; exact SeqAt.EqAt.str_int a t' b t
  | str b=>obtain⟨t,rfl⟩:=ry; exact SeqAt.EqAt.str_str a t' b t
  | lst h=>cases ry; obtain⟨its,_,hl⟩:=AQ hok h; exact SeqAt.EqAt.str_list a t' hl (lt0 hu)
  | tup h=>cases ry; obtain⟨its,_,hl⟩:=A5 hok h; exact SeqAt.EqAt.str_tuple a t' hl (lt0 hu)
 | @lst a vs ds h hz hn hl hr ih =>
  intro A n y e v u q rx ry hs hu;cases rx;obtain⟨its,rv,hil⟩:=AQ hok h;cases hs with
  | @lst n _ hs =>
   cases q with
   | non=>cases ry; exact SeqAt.EqAt.list_none hil (lt0 hu)
   | bl b=>cases ry; exact SeqAt.EqAt.list_bool b hil (lt0 hu)
   | int b=>obtain⟨t,rfl⟩:=ry; exact SeqAt.EqAt.list_int b t hil (lt0 hu)
   | str b=>obtain⟨t,rfl⟩:=ry; exact SeqAt.EqAt.list_str b t hil (lt0 hu)
   | @lst a' vs' es h' hz' hn' hl' hr' =>
    cases ry;by_cases hab:a=a'
    .subst hab
     have e:=(RepA.lst h hz hn hl hr).inj (RepA.lst h' hz' hn' hl' hr');cases e;rw[DR];exact SeqAt.EqAt.same _
    .obtain⟨its',rv',hil'⟩:=AQ hok h'
     have l1:=rv.length;have l2:=rv'.length;refine SeqAt.EqAt.of_refs hab ?_;rw[Gi];by_cases hlen:ds.length=es.length
     .rw[C2 hlen,show ds.length=its.toArray.size by simp; lia]
      refine SeqAt.RcAt.lists hil hil' (by simp; lia) (lt0 hu) (EG rv rv' hl hl' fun i v d v' e u u' e1 e2 e3 e4 ru ru'=>?_);exact ih i v d e1 e2 (hr' i v' e e3 e4) ru ru' (hs d (List.mem_of_getElem? e2)) (lt1 hu)
     .have:D8 ds es=false:=by
       cases q:D8 ds es with
       | false=>rfl
       | true=>exact absurd (C3 q) hlen
      rw[this];exact SeqAt.RcAt.lists_lengths hil hil' (by simp; lia) (lt0 hu)
   | tup h' =>
    cases ry;obtain⟨its',_,hl'⟩:=A5 hok h';exact SeqAt.EqAt.list_tuple hil hl' (lt0 hu)
 | @tup a vs ds h hz hl hr ih =>
  intro A n y e v u q rx ry hs hu;cases rx;obtain⟨its,rv,hil⟩:=A5 hok h;cases hs with
  | @tup n _ hs =>
   cases q with
   | non=>cases ry; exact SeqAt.EqAt.tuple_none hil (lt0 hu)
   | bl b=>cases ry; exact SeqAt.EqAt.tuple_bool b hil (lt0 hu)
   | int b=>obtain⟨t,rfl⟩:=ry; exact SeqAt.EqAt.tuple_int b t hil (lt0 hu)
   | str b=>obtain⟨t,rfl⟩:=ry; exact SeqAt.EqAt.tuple_str b t hil (lt0 hu)
   | @tup a' vs' es h' hz' hl' hr' =>
    cases ry;by_cases hab:a=a'
    .subst hab
     have e:=(RepA.tup (N:=N) h hz hl hr).inj (RepA.tup h' hz' hl' hr');cases e;rw[DR];exact SeqAt.EqAt.same _
    .obtain⟨its',rv',hil'⟩:=A5 hok h'
     have l1:=rv.length;have l2:=rv'.length;refine SeqAt.EqAt.of_refs hab ?_;have q:=SeqAt.RcAt.tuples (A:=A) hil hil' (lt0 hu) (EG rv rv' hl hl' fun i v d v' e u u' e1 e2 e3 e4 ru ru'=>ih i v d e1 e2 (hr' i v' e e3 e4) ru ru' (hs d (List.mem_of_getElem? e2)) (lt1 hu));rw[FJ];by_cases hlen:ds.length=es.length
     .have e1:(its.toArray.size==its'.toArray.size)=true:=by simp; lia
      have e2:min its.toArray.size its'.toArray.size=ds.length:=by simp; lia
      rw[e1,e2,Bool.and_true,<- C2 hlen] at q;exact q
     .have e1:(its.toArray.size==its'.toArray.size)=false:=by simp; lia
      have e3:D8 ds es=false:=by
       cases q:D8 ds es with
       | false=>rfl
       | true=>exact absurd (C3 q) hlen
      rw[e1,Bool.and_false] at q;rw[e3];exact q
   | lst h' =>
    cases ry;obtain⟨its',_,hl'⟩:=AQ hok h';exact SeqAt.EqAt.tuple_list hil hl' (lt0 hu)
theorem W0(hok:HOk P w H s.heap){A:Around}{n:Nat}{x y:V}{d e:D}{v u:Value}(r:RepA N H x d)(q:RepA N' H y e)(rx:RelV x v)(ry:RelV y u)(hs:Sh n d)(hu:A.units+n<cLine):SeqAt.RcAt A s v u (eqD d e):=by
 cases r with
 | non =>
  cases rx;cases q with
  | non=>cases ry; exact SeqAt.RcAt.none_none
  | bl b=>cases ry; exact SeqAt.RcAt.none_bool b
  | int b=>obtain⟨t,rfl⟩:=ry; exact SeqAt.RcAt.none_int b t
  | str b=>obtain⟨t,rfl⟩:=ry; exact SeqAt.RcAt.none_str b t
  | lst h=>cases ry; obtain⟨its,_,hl⟩:=AQ hok h; exact SeqAt.RcAt.none_list hl (lt0 hu)
  | tup h=>cases ry; obtain⟨its,_,hl⟩:=A5 hok h; exact SeqAt.RcAt.none_tuple hl (lt0 hu)
 | bl a =>
  cases rx;cases q with
  | non=>cases ry; exact SeqAt.RcAt.bool_none a
  | bl b=>cases ry; exact SeqAt.RcAt.bool_bool a b
  | int b=>obtain⟨t,rfl⟩:=ry; exact SeqAt.RcAt.bool_int a b t
  | str b=>obtain⟨t,rfl⟩:=ry; exact SeqAt.RcAt.bool_str a b t
  | lst h=>cases ry; obtain⟨its,_,hl⟩:=AQ hok h; exact SeqAt.RcAt.bool_list a hl (lt0 hu)
  | tup h=>cases ry; obtain⟨its,_,hl⟩:=A5 hok h; exact SeqAt.RcAt.bool_tuple a hl (lt0 hu)
 | int a =>
  obtain⟨t',rfl⟩:=rx;cases q with
  | non=>cases ry; exact SeqAt.RcAt.int_none a t'
  | bl b=>cases ry; exact SeqAt.RcAt.int_bool a t' b
  | int b=>obtain⟨t,rfl⟩:=ry; exact SeqAt.RcAt.int_int a t' b t
  | str b=>obtain⟨t,rfl⟩:=ry; exact SeqAt.RcAt.int_str a t' b t
  | lst h=>cases ry; obtain⟨its,_,hl⟩:=AQ hok h; exact SeqAt.RcAt.int_list a t' hl (lt0 hu)
  | tup h=>cases ry; obtain⟨its,_,hl⟩:=A5 hok h; exact SeqAt.RcAt.int_tuple a t' hl (lt0 hu)
 | str a =>
  obtain⟨t',rfl⟩:=rx;cases q with
  | non=>cases ry; exact SeqAt.RcAt.str_none a t'
  | bl b=>cases ry; exact SeqAt.RcAt.str_bool a t' b
  | int b=>obtain⟨t,rfl⟩:=ry; exact SeqAt.RcAt.str_int a t' b t
  | str b=>obtain⟨t,rfl⟩:=ry; exact SeqAt.RcAt.str_str a t' b t
  | lst h=>cases ry; obtain⟨its,_,hl⟩:=AQ hok h; exact SeqAt.RcAt.str_list a t' hl (lt0 hu)
  | tup h=>cases ry; obtain⟨its,_,hl⟩:=A5 hok h; exact SeqAt.RcAt.str_tuple a t' hl (lt0 hu)
 | @lst a vs ds h hz hn hl hr =>
  cases rx;obtain⟨its,rv,hil⟩:=AQ hok h;cases hs with
  | @lst n _ hs =>
   cases q with
   | non=>cases ry; exact SeqAt.RcAt.list_none hil (lt0 hu)
   | bl b=>cases ry; exact SeqAt.RcAt.list_bool b hil (lt0 hu)
   | int b=>obtain⟨t,rfl⟩:=ry; exact SeqAt.RcAt.list_int b t hil (lt0 hu)
   | str b=>obtain⟨t,rfl⟩:=ry; exact SeqAt.RcAt.list_str b t hil (lt0 hu)
   | @lst a' vs' es h' hz' hn' hl' hr' =>
    cases ry;obtain⟨its',rv',hil'⟩:=AQ hok h';have l1:=rv.length;have l2:=rv'.length;rw[Gi];by_cases hlen:ds.length=es.length
    .rw[C2 hlen,show ds.length=its.toArray.size by simp; lia]
     refine SeqAt.RcAt.lists hil hil' (by simp; lia) (lt0 hu) (EG rv rv' hl hl' fun i v d v' e u u' e1 e2 e3 e4 ru ru'=>?_);exact Ht hok (hr i v d e1 e2) (hr' i v' e e3 e4) ru ru' (hs d (List.mem_of_getElem? e2)) (lt1 hu)
    .have:D8 ds es=false:=by
      cases q:D8 ds es with
      | false=>rfl
      | true=>exact absurd (C3 q) hlen
     rw[this];exact SeqAt.RcAt.lists_lengths hil hil' (by simp; lia) (lt0 hu)
   | tup h' =>
    cases ry;obtain⟨its',_,hl'⟩:=A5 hok h';exact SeqAt.RcAt.list_tuple hil hl' (lt0 hu)
 | @tup a vs ds h hz hl hr =>
  cases rx;obtain⟨its,rv,hil⟩:=A5 hok h;cases hs with
  | @tup n _ hs =>
   cases q with
   | non=>cases ry; exact SeqAt.RcAt.tuple_none hil (lt0 hu)
   | bl b=>cases ry; exact SeqAt.RcAt.tuple_bool b hil (lt0 hu)
   | int b=>obtain⟨t,rfl⟩:=ry; exact SeqAt.RcAt.tuple_int b t hil (lt0 hu)
   | str b=>obtain⟨t,rfl⟩:=ry; exact SeqAt.RcAt.tuple_str b t hil (lt0 hu)
   | @tup a' vs' es h' hz' hl' hr' =>
    cases ry;obtain⟨its',rv',hil'⟩:=A5 hok h';have l1:=rv.length;have l2:=rv'.length;have q:=SeqAt.RcAt.tuples (A:=A) hil hil' (lt0 hu) (EG rv rv' hl hl' fun i v d v' e u u' e1 e2 e3 e4 ru ru'=>Ht hok (hr i v d e1 e2) (hr' i v' e e3 e4) ru ru' (hs d (List.mem_of_getElem? e2)) (lt1 hu))
    rw[FJ];by_cases hlen:ds.length=es.length
    .have e1:(its.toArray.size==its'.toArray.size)=true:=by simp; lia
     have e2:min its.toArray.size its'.toArray.size=ds.length:=by simp; lia
     rw[e1,e2,Bool.and_true,<- C2 hlen] at q;exact q
    .have e1:(its.toArray.size==its'.toArray.size)=false:=by simp; lia
     have e3:D8 ds es=false:=by
      cases q:D8 ds es with
      | false=>rfl
      | true=>exact absurd (C3 q) hlen
     rw[e1,Bool.and_false] at q;rw[e3];exact q
   | lst h' =>
    cases ry;obtain⟨its',_,hl'⟩:=AQ hok h';exact SeqAt.RcAt.tuple_list hil hl' (lt0 hu)
end
section
variable{X:Cx}{k:Nat}
theorem EB(hr:Room k X.A):OpR X (compareOp .Eq) (fun x y H Q=>∃d e,Rep H x d/\Rep H y e/\Sh 16 d/\Q (.bl (eqD d e)) H):=by
 intro pins s U H x y v u Q I rx ry h;obtain⟨d,e,r1,r2,hs,q⟩:=h;exact EqBoolInt.of_rc (W0 I.hok r1 r2 rx ry hs (by have:=hr.units; lia)) ⟨.bl _,H,I,rfl,q⟩
end
section
variable{P:Program}{w:World}{K:Frag}{mg:Str->Option Value}{base:Heap}{N:List Str}{qual:Str}{scope:Scope}{f:Addr}{cd:Value}{A:Around}{outer:List Env}{s:Shared}{H:Hp}{E E':XK}
end
section
variable{P:Program}{w:World}{K:Frag}{mg:Str->Option Value}{base:Heap}{N:List Str}{qual:Str}{scope:Scope}{f:Addr}{cd:Value}{A:Around}{outer:List Env}{s:Shared}{H:Hp}{E:XK}
end
structure Blt (mg:Str->Option Value) (K:Frag):Prop where
 isinstance:mg "isinstance" = none
 len:mg "len" = none
 all:mg "all" = none
 any:mg "any" = none
 range:mg "range" = none
 list:mg "list" = none
 int:mg "int" = none
 bool:mg "bool" = none
 tuple:mg "tuple" = none
 str:mg "str" = none
 abs:mg "abs" = none
 max:mg "max" = none
 min:mg "min" = none
 dict:mg "dict" = none
section
variable{X:Cx}{x:Str}{p pos:Pos}{e:Expr}{es:List Expr}{t:TA}{id T:String}{r:List V->Hp->VK->Prop}
theorem J1(hc:BJ X (.builtin id) r)(hm:X.mg x=none)(hv:bootBuiltins x=some (.builtin id))(hn:x ≠ "__name__")(hdb:(x==("__debug__" : Str))=false)(hg:Gl X x)(he:starEach (e::es) X.env=(false,eval e X.env)::starEach es X.env)(hpl:(backTo pos (starEach es X.env)).any (·.1)=false)(ha:PA X (e::es) t):PE X (.Call (.Name x p) (e::es) [] pos) (tCB r t):=L7 hc hg hm hv ha hn hdb he hpl
theorem J3(hc:BJ X (.type T) r)(hm:X.mg x=none)(hv:bootBuiltins x=some (.type T))(hn:x ≠ "__name__")(hdb:(x==("__debug__" : Str))=false)(hg:Gl X x)(he:starEach (e::es) X.env=(false,eval e X.env)::starEach es X.env)(hpl:(backTo pos (starEach es X.env)).any (·.1)=false)(ha:PA X (e::es) t):PE X (.Call (.Name x p) (e::es) [] pos) (tCB r t):=O6 hc hg hm hv ha hn hdb he hpl
theorem Rc{te:TE}(hs:starEach (e::es) X.env=(false,eval e X.env)::starEach es X.env)(ha:PE X e te)(hr:PA X es t):PA X (e::es) (BP te t):=CZ ha hr hs
theorem TQ{t:TE}(he:∀whole,isTrue e X.env whole=(do let v <- whole; standAt e.pos; holding [v] (truthy v)))(h:PE X e t):PT X e (tB t):=WT h he
end
section
variable{X:Cx}{p pos:Pos}{e:Expr}{es:List Expr}{t:TA}
noncomputable def isInt:D->Bool
 | .int _=>true
 | .bl _=>true
 | .non | .str _ | .lst _ | .tup _=>false
noncomputable def isBool:D->Bool
 | .bl _=>true
 | .non | .int _ | .str _ | .lst _ | .tup _=>false
noncomputable def HM:D->Bool
 | .lst _=>true
 | .non | .bl _ | .int _ | .str _ | .tup _=>false
noncomputable def isTup:D->Bool
 | .tup _=>true
 | .non | .bl _ | .int _ | .str _ | .lst _=>false
noncomputable def isStr:D->Bool
 | .str _=>true
 | .non | .bl _ | .int _ | .lst _ | .tup _=>false
noncomputable def rIs(T:String)(f:D->Bool):List V->Hp->VK->Prop:=fun xs H Q=>∃x d,xs=[x,.ty T]/\Rep H x d/\Q (.bl (f d)) H
theorem Sx{T:String}{f:D->Bool}(hf:∀d,isI (Ge d) T=f d)(hT:T∈["int","bool","tuple","list","str"]):BJ X (.builtin "isinstance") (rIs T f):=by
 intro pins s U H xs us Q I r h;obtain⟨x,d,rfl,rp,q⟩:=h;exact PH pins s U H _ us Q I r ⟨x,Ge d,T,rfl,rp.typ,hT,by rw[hf]; exact q⟩
theorem SS:∀d,isI (Ge d) "int" = isInt d:=fun d=>by cases d<;>(simp only[Ge,isInt]; decide +kernel)
theorem Qg:∀d,isI (Ge d) "bool" = isBool d:=fun d=>by cases d<;>(simp only[Ge,isBool]; decide +kernel)
theorem Qh:∀d,isI (Ge d) "list" = HM d:=fun d=>by cases d<;>(simp only[Ge,HM]; decide +kernel)
theorem OP:∀d,isI (Ge d) "tuple" = isTup d:=fun d=>by cases d<;>(simp only[Ge,isTup]; decide +kernel)
theorem SU:∀d,isI (Ge d) "str" = isStr d:=fun d=>by cases d<;>(simp only[Ge,isStr]; decide +kernel)
theorem Ja{a:Expr}{ta:TE}{q:Pos}{x:Str}{T:String}{f:D->Bool}(hf:∀d,isI (Ge d) T=f d)(hT:T∈["int","bool","tuple","list","str"])(hn:PE X (.Name x q) (tC (.ty T)))(hg:Gl X "isinstance"){K:Frag}(B:Blt X.mg K)(he:starEach [a,.Name x q] X.env=[(false,eval a X.env),(false,eval (.Name x q) X.env)])(he2:starEach [.Name x q] X.env=[(false,eval (.Name x q) X.env)])(ha:PE X a ta):
  PE X (.Call (.Name "isinstance" p) [a,.Name x q] [] pos) (tCB (rIs T f) (BP ta (BP (tC (.ty T)) GG))):=
 L7 (Sx hf hT) hg B.isinstance PyProof.Rows.Boot.«isinstance» (CZ ha (CZ hn Ff he2) (he.trans (by rw[he2]))) dK dK (he.trans (by rw[he2])) (by rw[he2]; rfl)
theorem Ww{a:Expr}{ta:TE}{q:Pos}(hg:Gl X "isinstance")(hg2:Gl X "int"){K:Frag}(B:Blt X.mg K)(he:starEach [a,.Name "int" q] X.env=[(false,eval a X.env),(false,eval (.Name "int" q) X.env)])(he2:starEach [.Name "int" q] X.env=[(false,eval (.Name "int" q) X.env)])(ha:PE X a ta):
  PE X (.Call (.Name "isinstance" p) [a,.Name "int" q] [] pos) (tCB (rIs "int" isInt) (BP ta (BP (tC (.ty "int")) GG))):=Ja SS (by decide) (Hc hg2 B.int PyProof.Rows.Boot.«int» rfl dK dK) hg B he he2 ha
theorem Wv{a:Expr}{ta:TE}{q:Pos}(hg:Gl X "isinstance")(hg2:Gl X "bool"){K:Frag}(B:Blt X.mg K)(he:starEach [a,.Name "bool" q] X.env=[(false,eval a X.env),(false,eval (.Name "bool" q) X.env)])(he2:starEach [.Name "bool" q] X.env=[(false,eval (.Name "bool" q) X.env)])(ha:PE X a ta):
  PE X (.Call (.Name "isinstance" p) [a,.Name "bool" q] [] pos) (tCB (rIs "bool" isBool) (BP ta (BP (tC (.ty "bool")) GG))):=Ja Qg (by decide) (Hc hg2 B.bool PyProof.Rows.Boot.«bool» rfl dK dK) hg B he he2 ha
theorem Wx{a:Expr}{ta:TE}{q:Pos}(hg:Gl X "isinstance")(hg2:Gl X "list"){K:Frag}(B:Blt X.mg K)(he:starEach [a,.Name "list" q] X.env=[(false,eval a X.env),(false,eval (.Name "list" q) X.env)])(he2:starEach [.Name "list" q] X.env=[(false,eval (.Name "list" q) X.env)])(ha:PE X a ta):
  PE X (.Call (.Name "isinstance" p) [a,.Name "list" q] [] pos) (tCB (rIs "list" HM) (BP ta (BP (tC (.ty "list")) GG))):=Ja Qh (by decide) (Hc hg2 B.list PyProof.Rows.Boot.«list» rfl dK dK) hg B he he2 ha
theorem Wy{a:Expr}{ta:TE}{q:Pos}(hg:Gl X "isinstance")(hg2:Gl X "tuple"){K:Frag}(B:Blt X.mg K)(he:starEach [a,.Name "tuple" q] X.env=[(false,eval a X.env),(false,eval (.Name "tuple" q) X.env)])(he2:starEach [.Name "tuple" q] X.env=[(false,eval (.Name "tuple" q) X.env)])(ha:PE X a ta):
  PE X (.Call (.Name "isinstance" p) [a,.Name "tuple" q] [] pos) (tCB (rIs "tuple" isTup) (BP ta (BP (tC (.ty "tuple")) GG))):=Ja OP (by decide) (Hc hg2 B.tuple PyProof.Rows.Boot.«tuple» rfl dK dK) hg B he he2 ha
theorem Wz{a:Expr}{ta:TE}{q:Pos}(hg:Gl X "isinstance")(hg2:Gl X "str"){K:Frag}(B:Blt X.mg K)(he:starEach [a,.Name "str" q] X.env=[(false,eval a X.env),(false,eval (.Name "str" q) X.env)])(he2:starEach [.Name "str" q] X.env=[(false,eval (.Name "str" q) X.env)])(ha:PE X a ta):
  PE X (.Call (.Name "isinstance" p) [a,.Name "str" q] [] pos) (tCB (rIs "str" isStr) (BP ta (BP (tC (.ty "str")) GG))):=Ja SU (by decide) (Hc hg2 B.str PyProof.Rows.Boot.«str» rfl dK dK) hg B he he2 ha
noncomputable def Y2(K:Frag):List V->Hp->VK->Prop:=fun xs H Q=>∃p bs,xs=[.ref p]/\SqL K H p (DM bs)/\Q (.bl (bs.all id)) H
noncomputable def Y3(K:Frag):List V->Hp->VK->Prop:=fun xs H Q=>∃p bs,xs=[.ref p]/\SqL K H p (DM bs)/\Q (.bl (bs.any id)) H
noncomputable def Yp(K:Frag):List V->Hp->VK->Prop:=fun xs H Q=>(∃p ys,xs=[.ref p]/\(SqL K H p ys\/SqT K H p ys)/\Q (.int ys.length) H)\/∃z,xs=[.str z]/\z.length<=sizeLine/\Q (.int z.length) H
end
section
variable{X:Cx}{a b c e:Expr}{ta tb tc:TE}{p pos:Pos}{es:List Expr}{t:TA}{x:Str}
theorem O4:OpR X (compareOp .LtE) (fun x y H Q=>∃i j,x=.str i/\y=.str j/\Q (.bl (!decide (j.cps.toList<i.cps.toList))) H):=by
 intro pins s U H x y v u Q I rx ry h;obtain⟨i,j,rfl,rfl,q⟩:=h;obtain⟨t,rfl⟩:=rx;obtain⟨t',rfl⟩:=ry;exact PySem.P.le_str (Kr I q rfl)
noncomputable def Y4:R2:=fun x y H Q=>∃d e,Rep H x d/\Rep H y e/\Sh 16 d/\Q (.bl (eqD d e)) H
noncomputable def U8:R2:=fun x y H Q=>(∃i j,x=.int i/\y=.int j/\Q (.bl (decide (i<j))) H)\/∃i j,x=.str i/\y=.str j/\Q (.bl (decide (i.cps.toList<j.cps.toList))) H
noncomputable def U6:R2:=fun x y H Q=>(∃i j,x=.int i/\y=.int j/\Q (.bl (decide (i<=j))) H)\/∃i j,x=.str i/\y=.str j/\Q (.bl (!decide (j.cps.toList<i.cps.toList))) H
theorem Fc:OpR X (compareOp .Lt) U8:=Yc.or O5
theorem Ef:OpR X (compareOp .LtE) U6:=Yb.or O4
noncomputable def PEc(X:Cx)(own:List Str)(scope:Scope)(e:Expr)(t:TE):Prop:=∀C s H fp pins,PE (cxC X own scope C s H fp pins) e t
noncomputable def PTc(X:Cx)(own:List Str)(scope:Scope)(ifs:List Expr)(t:TT):Prop:=∀C s H fp pins,PTs (cxC X own scope C s H fp pins) ifs t
structure Names (N:List Str):Prop where
 nd:N.Nodup
theorem WB{scope:Scope}{iter elt:Expr}{ifs:List Expr}{px:Pos}{wi:TI}{tt:TT}{te:TE}(hok:Bl [x] X.N scope X.env.scope=true)(hc:X.calm=true){NN:List Str}(hn:Names NN)(hX:X.N=NN)(hx:scope.names.lookup x=some .local)(hs:∀z,foldedSetIterable iter X.env z=pure z)(hi:PI X (.Name x px) iter wi)(ht:PTc X [x] scope ifs tt)(he:PEc X [x] scope elt te):
  PE X (.ListComp elt [⟨.Name x px,iter,ifs,0⟩] scope pos) (tLc wi R9 tt te):=by
 have hnx:∀y∈X.N,x≠y:=fun y hy z=>by
  simp only[Bl,Bool.and_eq_true,List.all_eq_true] at hok;have:=hok.2 x (by simp);rw[z] at this;simp[hy] at this
 exact U4 hc hok hi (fun C s H fp pins=>Hd rfl (List.nodup_cons.mpr ⟨fun z=>hnx x z rfl,by rw[hX]; exact hn.nd⟩) (lookup_relabel_local hx)) ht he hs
structure GInt (mg:Str->Option Value) (x:Str) (n:Int):Prop where
 at_:∃t,mg x=some (.int n t)
theorem Tx{mg:Str->Option Value}{n:Int}(G:GInt mg x n)(hm:X.mg=mg)(hg:Gl X x)(hd:(x==("__debug__" : Str))=false):PE X (.Name x pos) (tC (.int n)):=by
 subst hm;obtain⟨t,e⟩:=G.at_;exact Tz hg e ⟨t,rfl⟩ hd
end
section
variable{P:Program}{w:World}{K:Frag}{mg:Str->Option Value}{base:Heap}
end
noncomputable def signs(z:Str):List Str:=z.cps.toList.map fun c=>⟨#[c]⟩
noncomputable def glue(ys:List Str):Str:=⟨(ys.map fun y=>y.cps.toList).flatten.toArray⟩
theorem MK(ys:List Str):∀acc:Array Nat,List.foldl (fun(acc:Array Nat) (p:Str)=>acc++(("" : Str)).cps++p.cps) acc ys=acc++((ys.map fun y=>y.cps.toList).flatten.toArray):=by
 induction ys with
 | nil=>intro acc; simp
 | cons y ys ih =>
  intro acc;rw[List.foldl_cons,ih];have e:(("" : Str)).cps = #[]:=by decide +kernel
  rw[e];apply Array.ext';simp
theorem MZ(ys:List Str):Txt.join ("" : Str) ys=glue ys:=by
 cases ys with
 | nil=>decide +kernel
 | cons y ys =>
  have e:Txt.join ("" : Str) (y::ys)=⟨List.foldl (fun(acc:Array Nat) (p:Str)=>acc++(("" : Str)).cps++p.cps) y.cps ys⟩:=rfl;rw[e,MK];unfold glue;congr 1;apply Array.ext';simp
section
variable{X:Cx}{a e:Expr}{ta te:TE}{apos cpos:Pos}
theorem Jm:∀{ys:List Str} {us:List Value},Vals (ys.map V.str) us->StrsAre us ys
 | [],_,.nil=>.nil
 | _::_,_,.cons ⟨t,e⟩ r=>by subst e; exact .cons _ _ (Jm r)
noncomputable def rJoin(K:Frag):V->List V->Hp->VK->Prop:=fun x xs H Q=>∃sep p ys,x=.str sep/\xs=[.ref p]/\SqL K H p (ys.map V.str)/\(ys.map (·.length)).sum+ys.length*sep.length<=16777216/\Q (.str (Txt.join sep ys)) H
theorem Te:MtR X "str.join" (rJoin X.K):=by
 intro pins s U H x xs v us Q I rx rv h;obtain⟨sep,p,ys,rfl,rfl,hq,hz,q⟩:=h;obtain⟨t,rfl⟩:=rx;obtain⟨u,rfl,ru⟩:=rv.one;cases ru;obtain⟨its,r,pl,_⟩:=I.list hq;exact join_list pl.isList (by simpa using Jm r) hz fun t' k=>⟨.str _,H,I.tok k,⟨_,rfl⟩,q⟩
noncomputable def Np:V->List V->Hp->VK->Prop:=fun x xs H Q=>∃z y,x=.str z/\xs=[.str y]/\0<=Txt.find z y/\Q (.int (Txt.find z y)) H
theorem QL(hc:X.calm=true):MtR X "str.index" Np:=by
 intro pins s U H x xs v us Q I rx rv h;obtain⟨z,y,rfl,rfl,h0,q⟩:=h;obtain⟨t,rfl⟩:=rx;obtain⟨u,rfl,ru⟩:=rv.one;obtain⟨t',rfl⟩:=ru;exact index_or (I.ok.hd hc) (fun e=>absurd h0 (by lia)) fun _ _=>⟨.int _,H,I.tok _,⟨_,rfl⟩,q⟩
theorem TB{K:Frag}(hK:X.K=K)(B:Blt X.mg K)(hbase:attributeBase a "join" X.env (eval a X.env)=eval a X.env)(hline:(apos.endLine==cpos.line)=true)(hs:starEach [e] X.env=[(false,eval e X.env)])(ha:PE X a ta)(he:PE X e te):
  PE X (.Call (.Attribute a "join" apos) [e] [] cpos) (tBM K "str" (rJoin K) ta (BP te GG)):=by
 subst hK;exact Rg F.plainAttrs_str F.slot_str_join F.type_str_join Te ha (CZ he Ff hs) hbase (by rw[hs]; rfl) hline hs rfl
theorem Rl{K:Frag}(hK:X.K=K)(B:Blt X.mg K)(hc:X.calm=true)(hbase:attributeBase a "index" X.env (eval a X.env)=eval a X.env)(hline:(apos.endLine==cpos.line)=true)(hs:starEach [e] X.env=[(false,eval e X.env)])(ha:PE X a ta)(he:PE X e te):
  PE X (.Call (.Attribute a "index" apos) [e] [] cpos) (tBM K "str" Np ta (BP te GG)):=by
 subst hK;exact Rg F.plainAttrs_str F.slot_str_index F.type_str_index (QL hc) ha (CZ he Ff hs) hbase (by rw[hs]; rfl) hline hs rfl
end
theorem PZ{x:Str}{c i:Nat}(hi:x.cps.toList[i]? = some c)(hf:∀k,k<i->x.cps.toList[k]? ≠ some c):Txt.find x ⟨#[c]⟩=(i:Int):=by
 rcases find_whole x ⟨#[c]⟩ with ⟨_,h⟩|⟨j,e,hj,hl⟩
 .exact absurd ((StrLaws.subAt_one x c i).mpr hi) (h i)
 .have ej:=(StrLaws.subAt_one x c j).mp hj
  have:j=i:=by
   rcases Nat.lt_trichotomy i j with h|h|h
   .exact absurd ((StrLaws.subAt_one x c i).mpr hi) (hl i h)
   .exact h.symm
   .exact absurd ej (hf j h)
  rw[e,this]
section
variable{X:Cx}{p pos:Pos}{e:Expr}{es:List Expr}{t:TA}
end
end L2
end
section
namespace J
open PySem L2
inductive A where
 | fz (d:D)|lst (as:List A)|tup (as:List A)|scr (ns:List Int)|dic (kvs:List (Key×D))|dct (kvs:List (D×D))|opq (a:Addr) (o:Obj)
inductive Own where
 | own|lent|ro
 deriving DecidableEq
noncomputable abbrev Slot:=Option (Own×A)
noncomputable abbrev Ro:=List Slot
inductive R where
 | val (a:A)|ref (i:Nat)
mutual
noncomputable def er:A->Option D
 | .fz d=>some d
 | .lst as=>(ers as).map D.lst
 | .tup as=>(ers as).map D.tup
 | .scr _=>none
 | .dic _=>none
 | .dct _=>none
 | .opq _ _=>none
noncomputable def ers:List A->Option (List D)
 | []=>some []
 | a::as=>(er a).bind fun d=>(ers as).map (d :: ·)
end
noncomputable def fzs:List A->Option (List D)
 | []=>some []
 | .fz d::as=>(fzs as).map (d :: ·)
 | _::_=>none
noncomputable def peek(Z:Ro):R->Option A
 | .val a=>some a
 | .ref i=>match Z[i]? with
  | some (some (_,a))=>some a
  | _=>none
noncomputable def peeks(Z:Ro):List R->Option (List A)
 | []=>some []
 | r::rs=>(peek Z r).bind fun a=>(peeks Z rs).map (a :: ·)
noncomputable def share(Z:Ro):R->Option (D×Ro)
 | .val a=>(er a).map (·,Z)
 | .ref i=>match Z[i]? with
  | some (some (.own,a))=>(er a).map fun d=>(d,Z.set i (some (.own,.fz d)))
  | _=>none
noncomputable def move(Z:Ro):R->Option (A×Ro)
 | .val a=>some (a,Z)
 | .ref i=>match Z[i]? with
  | some (some (.own,a))=>some (a,Z.set i none)
  | _=>none
noncomputable abbrev ME:=Ro->Option (R×Ro)
noncomputable abbrev MT:=Ro->Option (Bool×Ro)
noncomputable abbrev MA:=Ro->Option (List R×Ro)
noncomputable def Aa(i:Nat):ME:=fun Z=>match Z[i]? with
 | some (some (_,.fz d))=>some (.val (.fz d),Z)
 | some (some _)=>some (.ref i,Z)
 | _=>none
noncomputable def Ah(d:D):ME:=fun Z=>some (.val (.fz d),Z)
noncomputable def Aj:MA:=fun Z=>some ([],Z)
noncomputable def Ac(m:ME)(ms:MA):MA:=fun Z=>(m Z).bind fun p=>(ms p.2).map fun q=>(p.1::q.1,q.2)
noncomputable def opM(f:List A->Option A)(m:MA):ME:=fun Z=>(m Z).bind fun p=>(peeks p.2 p.1).bind fun as=>(f as).map fun a=>(.val a,p.2)
noncomputable def DL:A->Option Bool
 | .fz (.bl b)=>some b
 | .fz .non | .fz (.int _) | .fz (.str _) | .fz (.lst _) | .fz (.tup _) | .lst _ | .tup _ | .scr _ | .dic _ | .dct _ | .opq _ _=>none
noncomputable def AM(m:ME):MT:=fun Z=>(m Z).bind fun p=>(peek p.2 p.1).bind fun a=>(DL a).map (·,p.2)
noncomputable def andM(a b:ME):ME:=fun Z=>(AM a Z).bind fun p=>if p.1 then b p.2 else some (.val (.fz (.bl false)),p.2)
noncomputable def orM(a b:ME):ME:=fun Z=>(AM a Z).bind fun p=>if p.1 then some (.val (.fz (.bl true)),p.2) else b p.2
noncomputable def notM(a:ME):ME:=fun Z=>(AM a Z).map fun p=>(.val (.fz (.bl (!p.1))),p.2)
noncomputable def Sq(a b:MT):MT:=fun Z=>(a Z).bind fun p=>if p.1 then b p.2 else some (false,p.2)
noncomputable def orT(a b:MT):MT:=fun Z=>(a Z).bind fun p=>if p.1 then some (true,p.2) else b p.2
noncomputable def DZ(a:MT):MT:=fun Z=>(a Z).map fun p=>(!p.1,p.2)
noncomputable def Kx(c:MT)(a b:ME):ME:=fun Z=>(c Z).bind fun p=>if p.1 then a p.2 else b p.2
noncomputable def GQ(f g:List A->Option A)(a b c:ME):ME:=fun Z=>(a Z).bind fun p=>(b p.2).bind fun q=>(peeks q.2 [p.1,q.1]).bind fun as=>(f as).bind fun z=>(DL z).bind fun k =>
 if k then (c q.2).bind fun r=>(peeks r.2 [q.1,r.1]).bind fun bs=>(g bs).map fun z=>(.val z,r.2) else some (.val (.fz (.bl false)),q.2)
noncomputable def AK(m:ME):ME:=fun Z=>(m Z).bind fun p=>(share p.2 p.1).map fun q=>(.val (.fz q.1),q.2)
noncomputable def vals:List R->Option (List A)
 | []=>some []
 | .val a::rs=>(vals rs).map (a :: ·)
 | .ref _::_=>none
noncomputable abbrev LIM:Nat:=sizeLine
noncomputable def mkT(as:List A):A:=match fzs as with
 | some ds=>.fz (.tup ds)
 | none=>.tup as
noncomputable def lstM(m:MA):ME:=fun Z=>(m Z).bind fun p=>(vals p.1).bind fun as=>if as.length<=LIM then some (.val (.lst as),p.2) else none
noncomputable abbrev Fn:=List (Own×A)->Option (A×List A)
noncomputable def GL(Z:Ro):R->Option (Own×A)
 | .val a=>some (.own,a)
 | .ref i=>match Z[i]? with
  | some (some (.ro,a))=>some (.ro,a)
  | some (some (_,a))=>some (.lent,a)
  | _=>none
noncomputable def De(Z:Ro):List R->Option (List (Own×A))
 | []=>some []
 | r::rs=>(GL Z r).bind fun a=>(De Z rs).map (a :: ·)
noncomputable def Ph(Z:Ro)(i:Nat)(a:A):Ro:=match Z[i]? with
 | some (some (st,_))=>Z.set i (some (st,a))
 | _=>Z
noncomputable def back:List R->List A->Ro->Ro
 | .ref i::rs,a::as,Z=>back rs as (Ph Z i a)
 | .val _::rs,_::as,Z=>back rs as Z
 | [],_,Z=>Z
 | .ref _::_,[],Z=>Z
 | .val _::_,[],Z=>Z
noncomputable def refs:List R->List Nat
 | []=>[]
 | .ref i::rs=>i::refs rs
 | .val _::rs=>refs rs
noncomputable def Am(Φ:Fn)(m:MA):ME:=fun Z=>(m Z).bind fun p=>(De p.2 p.1).bind fun args=>if (refs p.1).Nodup then (Φ args).map fun q=>(.val q.1,back p.1 q.2 p.2) else none
noncomputable def GF(z:Str):List D:=z.cps.toList.map fun c=>.str ⟨#[c]⟩
noncomputable def AH:A->Option (List D)
 | .fz (.lst ds)=>some ds
 | .fz (.tup ds)=>some ds
 | .lst as=>fzs as
 | .scr ns=>some (ns.map D.int)
 | .fz .non | .fz (.bl _) | .fz (.int _) | .fz (.str _) | .tup _ | .dic _ | .dct _ | .opq _ _=>none
noncomputable abbrev MI:=Ro->Option (List D×Option Nat×Ro)
noncomputable def nameOf:R->Option Nat
 | .val _=>none
 | .ref i=>some i
noncomputable def BW(m:ME):MI:=fun Z=>(m Z).bind fun p=>(peek p.2 p.1).bind fun a=>(AH a).map fun ds=>(ds,nameOf p.1,p.2)
noncomputable def ND(m:ME):MI:=fun Z=>(m Z).bind fun p=>match p.1 with
 | .val (.fz (.str z))=>if z.length<=LIM then some (GF z,none,p.2) else none
 | _=>none
noncomputable def D7(lo:Int)(n:Nat):List D:=(List.range n).map fun(k:Nat)=>D.int (lo+(k:Int))
noncomputable def Bh(m:ME):MI:=fun Z=>(m Z).bind fun p=>match p.1 with
 | .val (.fz (.int j))=>if -(2 ^ 62)<=j/\j<2 ^ 62 then some (D7 0 j.toNat,none,p.2) else none
 | _=>none
noncomputable def lock(Z:Ro):Option Nat->Ro
 | none=>Z
 | some i=>match Z[i]? with
  | some (some (_,a))=>Z.set i (some (.ro,a))
  | _=>Z
noncomputable def unlock(old Z:Ro):Option Nat->Ro
 | none=>Z
 | some i=>match old[i]? with
  | some s=>Z.set i s
  | none=>Z
noncomputable def L6(n:Nat)(d:D):Option (List D):=match n with
 | 0=>some [d]
 | n=>match d with
  | .tup ds=>if ds.length=n then some ds else none
  | _=>none
noncomputable def own(d:D):Slot:=some (.own,.fz d)
noncomputable def EE(pat:Nat)(c:MT)(e:ME):List D->Ro->Option (List D×Ro)
 | [],Z=>some ([],Z)
 | d::ds,Z=>(L6 pat d).bind fun bs=>(c (bs.map own++Z)).bind fun p =>
  if p.1 then (e p.2).bind fun q=>(share q.2 q.1).bind fun s=>(EE pat c e ds (s.2.drop bs.length)).map fun t=>(s.1::t.1,t.2)
  else EE pat c e ds (p.2.drop bs.length)
noncomputable def Ce:MT:=fun Z=>some (true,Z)
noncomputable def AN(it:MI)(pat:Nat)(c:MT)(e:ME):ME:=fun Z=>(it Z).bind fun p=>if p.1.length<=LIM then (EE pat c e p.1 (lock p.2.2 p.2.1)).map fun q=>(.val (.lst (q.1.map A.fz)),unlock p.2.2 q.2 p.2.1) else none
inductive Fl where
 | next (Z:Ro)|brk (Z:Ro)|cnt (Z:Ro)|ret (a:A) (Z:Ro)
noncomputable abbrev MS:=Ro->Option Fl
noncomputable def free(Z:Ro)(i:Nat):Bool:=match Z[i]? with
 | some none=>true
 | some (some (.own,_))=>true
 | _=>false
noncomputable def keep(Z:Ro):R->Option (A×Ro)
 | .val a=>some (a,Z)
 | r=>(share Z r).map fun q=>(.fz q.1,q.2)
noncomputable def A9:MS:=fun Z=>some (.next Z)
noncomputable def D5:MS:=fun _=>none
noncomputable def As(a b:MS):MS:=fun Z=>(a Z).bind fun f=>match f with
 | .next Z1=>b Z1
 | f=>some f
noncomputable def AG(i:Nat)(m:ME):MS:=fun Z=>(m Z).bind fun p=>(keep p.2 p.1).bind fun q=>if free q.2 i then some (.next (q.2.set i (some (.own,q.1)))) else none
noncomputable def Fg:A->Option (List A)
 | .tup as=>some as
 | .fz (.tup ds)=>some (ds.map A.fz)
 | .fz .non | .fz (.bl _) | .fz (.int _) | .fz (.str _) | .fz (.lst _) | .lst _ | .scr _ | .dic _ | .dct _ | .opq _ _=>none
noncomputable def BI:List Nat->List A->Ro->Option Ro
 | [],[],Z=>some Z
 | i::is,a::as,Z=>if free Z i then BI is as (Z.set i (some (.own,a))) else none
 | [],_::_,_=>none
 | _::_,[],_=>none
noncomputable def Mp(is:List Nat)(m:ME):MS:=fun Z=>(m Z).bind fun p=>(keep p.2 p.1).bind fun q=>(Fg q.1).bind fun as=>(BI is as q.2).map .next
noncomputable def HU(m:ME):MS:=fun Z=>(m Z).map fun p=>.next p.2
noncomputable def retS(m:ME):MS:=fun Z=>(m Z).bind fun p=>(move p.2 p.1).map fun q=>.ret q.1 q.2
noncomputable def ifS(c:MT)(a b:MS):MS:=fun Z=>(c Z).bind fun p=>if p.1 then a p.2 else b p.2
noncomputable def FE(is:List Nat)(one:Bool)(d:D)(Z:Ro):Option Ro:=match one,is with
 | true,[i]=>if free Z i then some (Z.set i (own d)) else none
 | false,is=>(match d with
  | .tup ds=>BI is (ds.map A.fz) Z
  | _=>none)
 | _,_=>none
noncomputable def forL(is:List Nat)(one:Bool)(b:MS):List D->Ro->Option Fl
 | [],Z=>some (.next Z)
 | d::ds,Z=>(FE is one d Z).bind fun Z1=>(b Z1).bind fun f=>match f with
  | .next Z2=>forL is one b ds Z2
  | .cnt Z2=>forL is one b ds Z2
  | .brk Z2=>some (.next Z2)
  | f=>some f
noncomputable def Ih(old:Ro)(n:Option Nat):Fl->Fl
 | .next Z=>.next (unlock old Z n)
 | .brk Z=>.brk (unlock old Z n)
 | .cnt Z=>.cnt (unlock old Z n)
 | .ret a Z=>.ret a (unlock old Z n)
noncomputable def Ca(is:List Nat)(one:Bool)(it:MI)(b:MS):MS:=fun Z=>(it Z).bind fun p=>(forL is one b p.1 (lock p.2.2 p.2.1)).map (Ih p.2.2 p.2.1)
noncomputable def Ds(c:MT)(b:MS):Nat->Ro->Option Fl
 | 0,_=>none
 | n+1,Z=>(c Z).bind fun p=>if p.1 then (b p.2).bind fun f=>match f with
   | .next Z2=>Ds c b n Z2
   | .cnt Z2=>Ds c b n Z2
   | .brk Z2=>some (.next Z2)
   | f=>some f
  else some (.next p.2)
noncomputable def K9(w:Nat)(c:MT)(b:MS):MS:=Ds c b w
noncomputable def MH(i:Nat):MS:=fun Z=>(share Z (.ref i)).map fun q=>.next q.2
noncomputable def GB:Slot->A
 | some (_,a)=>a
 | none=>.fz .non
noncomputable def fnM(np nn:Nat)(b:MS):Fn:=fun args=>if args.length=np then (b (args.map some++List.replicate (nn-np) none)).bind fun f=>match f with
  | .next Z=>some (.fz .non,(Z.take np).map GB)
  | .ret a Z=>some (a,(Z.take np).map GB)
  | _=>none
 else none
noncomputable def imm:HO->Bool
 | .tup _=>true
 | .frz _ _=>true
 | _=>false
noncomputable def Kept(L:Addr->Prop)(H H':Hp):Prop:=∀b o,H b=some o->(¬L b\/imm o=true)->H' b=some o
theorem Kept.refl{L:Addr->Prop}{H:Hp}:Kept L H H:=fun _ _ h _=>h
theorem Kept.trans{L L':Addr->Prop}{H H1 H2:Hp}(x:Kept L H H1)(y:Kept L' H1 H2)(h:∀p,L' p->L p\/H p=none):Kept L H H2:=fun b o e c =>
 y b o (x b o e c) (c.imp (fun n z=>(h b z).elim n fun q=>by rw[e] at q; cases q) id)
theorem Kept.mono{L L':Addr->Prop}{H H':Hp}(x:Kept L H H')(h:∀p,L p->L' p):Kept L' H H':=fun b o e c=>x b o e (c.imp (fun n z=>n (h b z)) id)
theorem FD.kept{L:Addr->Prop}{H H':Hp}(s:FD H H'):Kept L H H':=fun b o e _=>s b o e
noncomputable def XM(K:Frag)(H:Hp)(a:Addr)(xs:List V):Prop:=∀H',(∀o u,H a=some (.frz o u)->H' a=some (.frz o u))->SqL K H' a xs
mutual
noncomputable def Ap(K:Frag)(N:Addr->Prop)(H:Hp)(v:V):A->List Addr->Prop
 | .fz d,L=>L=[]/\RepA N H v d
 | .lst as,L=>∃a vs L',v=.ref a/\L=a::L'/\H a=some (.lst vs)/\vs.length<=sizeLine/\An K N H vs as L'
 | .tup as,L=>∃a vs,v=.ref a/\H a=some (.tup vs)/\vs.length<=sizeLine/\An K N H vs as L
 | .scr ns,L=>∃a,v=.ref a/\L=[]/\XM K H a (ns.map V.int)/\ns.length<=sizeLine
 | .dic kvs,L=>∃a us,v=.ref a/\L=[a]/\H a=some (.dK us)/\us.length<=sizeLine/\Paired (fun(u:Key×V) (k:Key×D)=>u.1=k.1/\RepA N H u.2 k.2) us kvs
 | .dct kvs,L=>∃a us,v=.ref a/\L=[a]/\H a=some (.dT us)/\us.length<=sizeLine/\Paired (fun(u:D×V) (k:D×D)=>u.1=k.1/\RepA N H u.2 k.2) us kvs
 | .opq a o,L=>v=.ref a/\L=[]/\∃u,H a=some (.frz o u)
noncomputable def An(K:Frag)(N:Addr->Prop)(H:Hp):List V->List A->List Addr->Prop
 | [],[],L=>L=[]
 | v::vs,a::as,L=>∃L1 L2,L=L1++L2/\Ap K N H v a L1/\An K N H vs as L2
 | [],_::_,_=>False
 | _::_,[],_=>False
end
theorem _root_.L2.RepA.tr{N N' M:Addr->Prop}{H H':Hp}(hM:∀p,M p->N p)(k:Kept M H H')(hN:∀p,N' p->N p\/H p=none){v:V}{d:D}(r:RepA N H v d):RepA N' H' v d:=by
 induction r with
 | non=>exact .non
 | bl b=>exact .bl b
 | int i=>exact .int i
 | str x hx=>exact .str x hx
 | lst h hz hn hl _ ih =>
  refine .lst (k _ _ h (.inl fun z=>hn (hM _ z))) hz (fun z=>?_) hl ih;rcases hN _ z with q|q
  .exact hn q
  .rw[h] at q; cases q
 | tup h hz hl _ ih=>exact .tup (k _ _ h (.inr rfl)) hz hl ih
theorem Paired.mapQ{α β:Type}{F G:α -> β -> Prop}:∀{l₁:List α} {l₂:List β},Paired F l₁ l₂ -> (∀a b,F a b->G a b)->Paired G l₁ l₂
 | _,_,.nil,_=>.nil
 | _,_,.cons r t,f=>.cons (f _ _ r) (Paired.mapQ t f)
section
variable{K:Frag}{N N' M:Addr->Prop}{H H':Hp}
mutual
theorem Ap.tr(hM:∀p,M p->N p)(k:Kept M H H')(hN:∀p,N' p->N p\/H p=none):∀{a:A} {v:V} {L:List Addr},(∀p∈L,¬M p)->Ap K N H v a L->Ap K N' H' v a L
 | .fz d,v,L,hL,r=>by
  simp only[Ap] at r |-;exact⟨r.1,r.2.tr hM k hN⟩
 | .lst as,v,L,hL,r=>by
  simp only[Ap] at r |-;obtain⟨a,vs,L',rfl,rfl,h,hz,hs⟩:=r;exact⟨a,vs,L',rfl,rfl,k _ _ h (.inl (hL a (by simp))),hz,An.tr hM k hN (fun p hp=>hL p (by simp[hp])) hs⟩
 | .tup as,v,L,hL,r=>by
  simp only[Ap] at r |-;obtain⟨a,vs,rfl,h,hz,hs⟩:=r;exact⟨a,vs,rfl,k _ _ h (.inr rfl),hz,An.tr hM k hN hL hs⟩
 | .scr ns,v,L,hL,r=>by
  simp only[Ap] at r |-;obtain⟨a,rfl,rfl,h,hz⟩:=r;exact⟨a,rfl,rfl,fun H2 q=>h H2 fun o u e=>q o u (k _ _ e (.inr rfl)),hz⟩
 | .dic kvs,v,L,hL,r=>by
  simp only[Ap] at r |-;obtain⟨a,us,rfl,rfl,h,hz,hs⟩:=r;exact⟨a,us,rfl,rfl,k _ _ h (.inl (hL a (by simp))),hz,Paired.mapQ hs fun _ _ q=>⟨q.1,q.2.tr hM k hN⟩⟩
 | .dct kvs,v,L,hL,r=>by
  simp only[Ap] at r |-;obtain⟨a,us,rfl,rfl,h,hz,hs⟩:=r;exact⟨a,us,rfl,rfl,k _ _ h (.inl (hL a (by simp))),hz,Paired.mapQ hs fun _ _ q=>⟨q.1,q.2.tr hM k hN⟩⟩
 | .opq a o,v,L,hL,r=>by
  simp only[Ap] at r |-;obtain⟨rfl,rfl,u,h⟩:=r;exact⟨rfl,rfl,u,k _ _ h (.inr rfl)⟩
theorem An.tr(hM:∀p,M p->N p)(k:Kept M H H')(hN:∀p,N' p->N p\/H p=none):∀{as:List A} {vs:List V} {L:List Addr},(∀p∈L,¬M p)->An K N H vs as L->An K N' H' vs as L
 | [],vs,L,hL,r=>by
  cases vs<;>simp only[An] at r |-;exact r
 | a::as,vs,L,hL,r=>by
  cases vs with
  | nil=>simp only[An] at r
  | cons v vs =>
   simp only[An] at r |-;obtain⟨L1,L2,rfl,h1,h2⟩:=r;exact⟨L1,L2,rfl,Ap.tr hM k hN (fun p hp=>hL p (by simp[hp])) h1,An.tr hM k hN (fun p hp=>hL p (by simp[hp])) h2⟩
end
end
noncomputable def ad(O:Addr->Prop)(L:List Addr):Addr->Prop:=fun p=>O p\/p∈L
noncomputable def NN(fp:Nat->List Addr)(O:Addr->Prop):Addr->Prop:=fun p=>(∃i,p∈fp i)\/O p
noncomputable def Fp(fp:Nat->List Addr):Addr->Prop:=fun p=>∃i,p∈fp i
structure Rel (K:Frag) (Z:Ro) (U:St) (H:Hp) (O:Addr->Prop) (fp:Nat->List Addr):Prop where
 len : Z.length=U.length
 slot:∀i st a,Z[i]? = some (some (st,a))->∃v,U[i]? = some (some v)/\Ap K (NN fp O) H v a (fp i)
 out:∀i,(∀st a,Z[i]? ≠ some (some (st,a)))->fp i=[]
 nd:∀i,(fp i).Nodup
 inj:∀i j p,p∈fp i->p∈fp j->i=j
 off:∀i p,p∈fp i->¬O p
 al:∀p,NN fp O p->H p≠none
noncomputable def Ms(Z Z':Ro)(U σ':St):Prop:=∀(j:Nat) st a,Z[j]? = some (some (st,a))->st≠.own->∃a',Z'[j]? = some (some (st,a'))/\σ'[j]? = U[j]?/\(st=.ro->a'=a)
theorem Ms.refl{Z:Ro}{U:St}:Ms Z Z U U:=fun _ _ a h _=>⟨a,h,rfl,fun _=>rfl⟩
theorem Ms.trans{Z Z1 Z2:Ro}{U σ1 σ2:St}(x:Ms Z Z1 U σ1)(y:Ms Z1 Z2 σ1 σ2):Ms Z Z2 U σ2:=fun j st a h n=>by
 obtain⟨a1,h1,e1,f1⟩:=x j st a h n;obtain⟨a2,h2,e2,f2⟩:=y j st a1 h1 n;exact⟨a2,h2,e2.trans e1,fun z=>(f2 z).trans (f1 z)⟩
noncomputable def RR(K:Frag)(N:Addr->Prop)(H:Hp)(U:St)(v:V):R->List Addr->Prop
 | .val a,L=>Ap K N H v a L
 | .ref i,L=>L=[]/\U[i]? = some (some v)
noncomputable def RRs(K:Frag)(N:Addr->Prop)(H:Hp)(U:St):List V->List R->List Addr->Prop
 | [],[],L=>L=[]
 | v::vs,r::rs,L=>∃L1 L2,L=L1++L2/\RR K N H U v r L1/\RRs K N H U vs rs L2
 | [],_::_,_=>False
 | _::_,[],_=>False
structure Post (K:Frag) (O:Addr->Prop) (fp:Nat->List Addr) (H:Hp) (Z Z':Ro) (U σ':St) (L:List Addr) (fp':Nat->List Addr) (H':Hp):Prop where
 rel:Rel K Z' σ' H' (ad O L) fp'
 nd:L.Nodup
 lo:∀p∈L,¬O p
 new:∀p,(p∈L\/Fp fp' p)->Fp fp p\/H p=none
 kept:Kept (Fp fp) H H'
 ln : σ'.length=U.length
 stab:Ms Z Z' U σ'
noncomputable def JK(K:Frag)(O:Addr->Prop)(fp:Nat->List Addr)(H:Hp)(Z Z':Ro)(U:St)(r:R)(v:V)(H':Hp):Prop:=
 ∃L fp',Post K O fp H Z Z' U U L fp' H'/\RR K (NN fp' (ad O L)) H' U v r L
noncomputable def XI(K:Frag)(O:Addr->Prop)(fp:Nat->List Addr)(H:Hp)(Z Z':Ro)(U:St)(rs:List R)(vs:List V)(H':Hp):Prop:=
 ∃L fp',Post K O fp H Z Z' U U L fp' H'/\RRs K (NN fp' (ad O L)) H' U vs rs L
noncomputable def tE(K:Frag)(m:ME):TE:=fun U H Q=>∃Z O fp,Rel K Z U H O fp/\∃r Z',m Z=some (r,Z')/\∀v H',JK K O fp H Z Z' U r v H'->Q v H'
noncomputable def tT(K:Frag)(m:MT):TT:=fun U H Q=>∃Z O fp,Rel K Z U H O fp/\∃b Z',m Z=some (b,Z')/\∀fp' H',Post K O fp H Z Z' U U [] fp' H'->Q b H'
noncomputable def tA(K:Frag)(m:MA):TA:=fun U H Q=>∃Z O fp,Rel K Z U H O fp/\∃rs Z',m Z=some (rs,Z')/\∀vs H',XI K O fp H Z Z' U rs vs H'->Q vs H'
section
variable{K:Frag}{Z Z' Z1 Z2:Ro}{U σ' σ1 σ2:St}{H H' H1 H2:Hp}{O O':Addr->Prop}{fp fp' fp1 fp2:Nat->List Addr}{L L1 L2:List Addr}
theorem Ij{p:Addr}:ad O [] p↔O p:=by simp[ad]
theorem EN{p:Addr}:ad (ad O L1) L2 p↔ad O (L1++L2) p:=by simp[ad,or_assoc]
theorem Rel.congr(r:Rel K Z U H O fp)(h:∀p,O p↔O' p):Rel K Z U H O' fp:=by
 have e:O=O':=funext fun p=>propext (h p);exact e ▸ r
theorem Rel.weak(r:Rel K Z U H O fp)(h:∀p,O' p->O p):Rel K Z U H O' fp where
 len:=r.len
 slot:=fun i st a e=>by
  obtain⟨v,e1,q⟩:=r.slot i st a e;exact⟨v,e1,q.tr (M:=fun _=>False) (fun _ z=>z.elim) .refl (fun p z=>.inl (z.imp id (h p))) fun _ _ z=>z⟩
 out:=r.out
 nd:=r.nd
 inj:=r.inj
 off:=fun i p hp z=>r.off i p hp (h p z)
 al:=fun p z=>r.al p (z.imp id (h p))
theorem Rel.grow(r:Rel K Z U H O fp)(s:FD H H')(hO:∀p,O' p->O p\/H p=none)(al:∀p,O' p->H' p≠none):Rel K Z U H' O' fp where
 len:=r.len
 slot:=fun i st a e=>by
  obtain⟨v,e1,q⟩:=r.slot i st a e;refine⟨v,e1,q.tr (M:=fun _=>False) (fun _ z=>z.elim) (fun b o e _=>s b o e) (fun p z=>?_) fun _ _ z=>z⟩;rcases z with z|z
  .exact .inl (.inl z)
  .exact(hO p z).imp .inr id
 out:=r.out
 nd:=r.nd
 inj:=r.inj
 off:=fun i p hp z=>by
  rcases hO p z with q|q
  .exact r.off i p hp q
  .exact r.al p (.inl ⟨i,hp⟩) q
 al:=fun p z=>by
  rcases z with z|z
  .cases q:H p with
   | none=>exact absurd q (r.al p (.inl z))
   | some o=>rw[s p o q]; simp
  .exact al p z
theorem Rel.post(r:Rel K Z U H O fp):Post K O fp H Z Z U U [] fp H:=
 ⟨r.congr fun p=>Ij.symm,List.nodup_nil,fun _ h=>by simp at h,fun p h=>by rcases h with h|h; simp at h; exact .inl h,.refl,rfl,.refl⟩
theorem Post.then(x:Post K O fp H Z Z1 U σ1 L1 fp1 H1)(y:Post K (ad O L1) fp1 H1 Z1 Z2 σ1 σ2 L2 fp2 H2):Post K O fp H Z Z2 U σ2 (L1++L2) fp2 H2 where
 rel:=y.rel.congr fun p=>EN
 nd:=List.nodup_append.mpr ⟨x.nd,y.nd,fun a ha b hb e=>by subst e; exact y.lo a hb (.inr ha)⟩
 lo:=fun p hp z=>by
  rcases List.mem_append.mp hp with q|q
  .exact x.lo p q z
  .exact y.lo p q (.inl z)
 new:=fun p hp=>by
  have key:Fp fp1 p\/H1 p=none->Fp fp p\/H p=none:=fun q=>by
   rcases q with q|q
   .exact x.new p (.inr q)
   .cases e:H p with
    | none=>exact .inr rfl
    | some o =>
     by_cases hf:Fp fp p
     .exact .inl hf
     .rw[x.kept p o e (.inl hf)] at q; cases q
  rcases hp with q|q
  .rcases List.mem_append.mp q with q|q
   .exact x.new p (.inl q)
   .exact key (y.new p (.inl q))
  .exact key (y.new p (.inr q))
 kept:=x.kept.trans y.kept fun p z=>x.new p (.inr z)
 ln:=y.ln.trans x.ln
 stab:=x.stab.trans y.stab
theorem Post.drop(x:Post K O fp H Z Z1 U σ1 (L1++L2) fp1 H1):Post K O fp H Z Z1 U σ1 L2 fp1 H1 where
 rel:=x.rel.weak fun p z=>z.imp id fun q=>List.mem_append_right _ q
 nd:=(List.nodup_append.mp x.nd).2.1
 lo:=fun p hp=>x.lo p (List.mem_append_right _ hp)
 new:=fun p hp=>x.new p (hp.imp (List.mem_append_right _) id)
 kept:=x.kept
 ln:=x.ln
 stab:=x.stab
theorem Post.drop0(x:Post K O fp H Z Z1 U σ1 L1 fp1 H1):Post K O fp H Z Z1 U σ1 [] fp1 H1:=Post.drop (L1:=L1) (L2:=[]) (by rw[List.append_nil]; exact x)
theorem Post.rr{v:V}{r:R}(y:Post K (ad O L1) fp1 H1 Z1 Z2 U U L2 fp2 H2)(hr:Rel K Z1 U H1 (ad O L1) fp1)(h:RR K (NN fp1 (ad O L1)) H1 U v r L)(hL:∀p∈L,p∈L1):RR K (NN fp2 (ad O (L1++L2))) H2 U v r L:=by
 cases r with
 | ref i=>exact h
 | val a =>
  refine Ap.tr (M:=Fp fp1) (fun p z=>.inl z) y.kept (fun p z=>?_) (fun p hp z=>?_) h
  .rcases z with z|z
   .exact(y.new p (.inr z)).imp (fun q=>.inl q) id
   .rcases z with z|z
    .exact .inl (.inr (.inl z))
    .rcases List.mem_append.mp z with z|z
     .exact .inl (.inr (.inr z))
     .exact(y.new p (.inl z)).imp (fun q=>.inl q) id
  .obtain⟨i,hi⟩:=z
   exact hr.off i p hi (.inr (hL p hp))
theorem tE.mono{m:ME}{Q Q':VK}(h:tE K m U H Q)(q:∀v H',Q v H'->Q' v H'):tE K m U H Q':=by
 obtain⟨Z,O,fp,r,x,Z',e,k⟩:=h;exact⟨Z,O,fp,r,x,Z',e,fun v H' z=>q v H' (k v H' z)⟩
theorem FZ{Q:List V->Hp->Prop}(h:tA K Aj U H Q):GG U H Q:=by
 obtain⟨Z,O,fp,r,x,Z',e,k⟩:=h;cases e;exact k [] H ⟨[],fp,r.post,rfl⟩
theorem DD{m:ME}{ms:MA}{Q:List V->Hp->Prop}(h:tA K (Ac m ms) U H Q):BP (tE K m) (tA K ms) U H Q:=by
 obtain⟨Z,O,fp,r,x,Z',e,k⟩:=h;simp only[Ac,bind_eq_some_iff,map_eq_some_iff] at e;obtain⟨⟨r1,Z1⟩,e1,⟨rs,Z2⟩,e2,e3⟩:=e;cases e3;refine⟨Z,O,fp,r,r1,Z1,e1,fun v H1 yy=>?_⟩;obtain⟨L1,fp1,p1,q1⟩:=yy;refine⟨Z1,ad O L1,fp1,p1.rel,rs,_,e2,fun vs H2 yy=>?_⟩;obtain⟨L2,fp2,p2,q2⟩:=yy;refine k (v::vs) H2 ⟨L1++L2,fp2,p1.then p2,L1,L2,rfl,p2.rr p1.rel q1 fun _ z=>z,?_⟩;have e:ad (ad O L1) L2=ad O (L1++L2):=funext fun p=>propext EN;rw[<- e];exact q2
end
section
variable{K:Frag}{N N' M:Addr->Prop}{H H':Hp}
mutual
theorem Ap.al:∀{a:A} {v:V} {L:List Addr},Ap K N H v a L->∀p∈L,H p≠none
 | .fz d,v,L,r,p,hp=>by
  simp only[Ap] at r;rw[r.1] at hp; simp at hp
 | .lst as,v,L,r,p,hp=>by
  simp only[Ap] at r;obtain⟨a,vs,L',rfl,rfl,h,hz,hs⟩:=r;rcases List.mem_cons.mp hp with rfl|hp
  .rw[h]; simp
  .exact An.al hs p hp
 | .tup as,v,L,r,p,hp=>by
  simp only[Ap] at r;obtain⟨a,vs,rfl,h,hz,hs⟩:=r;exact An.al hs p hp
 | .scr ns,v,L,r,p,hp=>by
  simp only[Ap] at r;obtain⟨a,rfl,rfl,h,hz⟩:=r;simp at hp
 | .dic kvs,v,L,r,p,hp=>by
  simp only[Ap] at r;obtain⟨a,us,rfl,rfl,h,hz,hs⟩:=r;have:p=a:=by simpa using hp
  subst this; rw[h]; simp
 | .dct kvs,v,L,r,p,hp=>by
  simp only[Ap] at r;obtain⟨a,us,rfl,rfl,h,hz,hs⟩:=r;have:p=a:=by simpa using hp
  subst this; rw[h]; simp
 | .opq a o,v,L,r,p,hp=>by
  simp only[Ap] at r;obtain⟨rfl,rfl,_⟩:=r;simp at hp
theorem An.al:∀{as:List A} {vs:List V} {L:List Addr},An K N H vs as L->∀p∈L,H p≠none
 | [],vs,L,r,p,hp=>by
  cases vs<;>simp only[An] at r;rw[r] at hp; simp at hp
 | a::as,vs,L,r,p,hp=>by
  cases vs with
  | nil=>simp only[An] at r
  | cons v vs =>
   simp only[An] at r;obtain⟨L1,L2,rfl,h1,h2⟩:=r;rcases List.mem_append.mp hp with hp|hp
   .exact Ap.al h1 p hp
   .exact An.al h2 p hp
end
theorem An.len:∀{as:List A} {vs:List V} {L:List Addr},An K N H vs as L->vs.length=as.length:=by
 intro _l;induction _l with
 | nil =>
  intro _m;cases _m with
  | nil =>
   intro _ _;exact rfl
  | cons _ _ =>
   intro _ r;simp only[An] at r
 | cons a as ih =>
  intro _m;cases _m with
  | nil =>
   intro _ r;simp only[An] at r
  | cons v vs =>
   intro L r;simp only[An] at r;obtain⟨L1,L2,rfl,h1,h2⟩:=r;simp[ih h2]
noncomputable def Ar(N:Addr->Prop)(H:Hp):List V->List D->Prop
 | [],[]=>True
 | v::vs,d::ds=>RepA N H v d/\Ar N H vs ds
 | _,_=>False
theorem Ar.len:∀{vs:List V} {ds:List D},Ar N H vs ds->vs.length=ds.length:=by
 intro _l;induction _l with
 | nil =>
  intro _m;cases _m with
  | nil =>
   intro _;exact rfl
  | cons _ _ =>
   intro r;simp only[Ar] at r
 | cons v vs ih =>
  intro _m;cases _m with
  | nil =>
   intro r;simp only[Ar] at r
  | cons d ds =>
   intro r;simp[ih r.2]
theorem Ar.get:∀{vs:List V} {ds:List D},Ar N H vs ds->∀(i:Nat) v d,vs[i]? = some v->ds[i]? = some d->RepA N H v d
 | [],[],_,i,v,d,h,_=>by simp at h
 | [],_::_,r,_,_,_,_,_=>by simp only[Ar] at r
 | _::_,[],r,_,_,_,_,_=>by simp only[Ar] at r
 | x::vs,y::ds,r,0,v,d,h1,h2=>by simp at h1 h2; subst h1; subst h2; exact r.1
 | x::vs,y::ds,r,i+1,v,d,h1,h2=>Ar.get r.2 i v d (by simpa using h1) (by simpa using h2)
theorem Ar.mk:∀{vs:List V} {ds:List D},vs.length=ds.length->(∀(i:Nat) v d,vs[i]? = some v->ds[i]? = some d->RepA N H v d)->Ar N H vs ds:=by
 intro _l;induction _l with
 | nil =>
  intro _m;cases _m with
  | nil =>
   intro _ _;exact trivial
  | cons _ _ =>
   intro hl _;simp at hl
 | cons v vs ih =>
  intro _m;cases _m with
  | nil =>
   intro hl _;simp at hl
  | cons d ds =>
   intro hl h;exact⟨h 0 v d rfl rfl,ih (by simpa using hl) fun i v d e1 e2=>h (i+1) v d (by simpa using e1) (by simpa using e2)⟩
theorem T4{a:Addr}{vs:List V}{ds:List D}(h:H a=some (.lst vs))(hz:vs.length<=sizeLine)(hn:¬N a)(r:Ar N H vs ds):RepA N H (.ref a) (.lst ds):=.lst h hz hn r.len r.get
theorem Nq{a:Addr}{vs:List V}{ds:List D}(h:H a=some (.tup vs))(hz:vs.length<=sizeLine)(r:Ar N H vs ds):RepA N H (.ref a) (.tup ds):=.tup h hz r.len r.get
theorem Ar.tr(hM:∀p,M p->N p)(k:Kept M H H')(hN:∀p,N' p->N p\/H p=none):∀{vs:List V} {ds:List D},Ar N H vs ds->Ar N' H' vs ds
 | [],[],_=>trivial
 | [],_::_,r=>by simp only[Ar] at r
 | _::_,[],r=>by simp only[Ar] at r
 | v::vs,d::ds,r=>⟨r.1.tr hM k hN,Ar.tr hM k hN r.2⟩
theorem Ek(h:∀p,N' p->N p){v:V}{d:D}(r:RepA N H v d):RepA N' H v d:=r.tr (M:=fun _=>False) (fun _ z=>z.elim) .refl fun p z=>.inl (h p z)
theorem K8(h:∀p,N' p->N p){vs:List V}{ds:List D}(r:Ar N H vs ds):Ar N' H vs ds:=r.tr (M:=fun _=>False) (fun _ z=>z.elim) .refl fun p z=>.inl (h p z)
theorem Dd(h:∀p,N' p->N p){v:V}{a:A}{L:List Addr}(r:Ap K N H v a L):Ap K N' H v a L:=r.tr (M:=fun _=>False) (fun _ z=>z.elim) .refl (fun p z=>.inl (h p z)) fun _ _ z=>z
theorem XE(h:∀p,N' p->N p){vs:List V}{as:List A}{L:List Addr}(r:An K N H vs as L):An K N' H vs as L:=r.tr (M:=fun _=>False) (fun _ z=>z.elim) .refl (fun p z=>.inl (h p z)) fun _ _ z=>z
mutual
theorem Ap.er:∀{a:A} {v:V} {L:List Addr} {d:D},Ap K N H v a L->J.er a=some d->RepA (fun p=>N p/\p∉L) H v d
 | .fz d,v,L,d',r,e=>by
  simp only[Ap] at r;simp only[J.er,Option.some.injEq] at e;subst e;exact Ek (fun p z=>z.1) r.2
 | .lst as,v,L,d',r,e=>by
  simp only[Ap] at r;simp only[J.er,map_eq_some_iff] at e;obtain⟨a,vs,L',rfl,rfl,h,hz,hs⟩:=r;obtain⟨ds,e,rfl⟩:=e;exact T4 h hz (fun z=>z.2 (by simp)) (K8 (fun p z=>⟨z.1,fun q=>z.2 (by simp[q])⟩) (An.er hs e))
 | .tup as,v,L,d',r,e=>by
  simp only[Ap] at r;simp only[J.er,map_eq_some_iff] at e;obtain⟨a,vs,rfl,h,hz,hs⟩:=r;obtain⟨ds,e,rfl⟩:=e;exact Nq h hz (An.er hs e)
 | .scr ns,v,L,d',r,e=>by simp[J.er] at e
 | .dic kvs,v,L,d',r,e=>by simp[J.er] at e
 | .dct kvs,v,L,d',r,e=>by simp[J.er] at e
 | .opq _ _,v,L,d',r,e=>by simp[J.er] at e
theorem An.er:∀{as:List A} {vs:List V} {L:List Addr} {ds:List D},An K N H vs as L->J.ers as=some ds->Ar (fun p=>N p/\p∉L) H vs ds
 | [],vs,L,ds,r,e=>by
  cases vs<;>simp only[An] at r;simp only[J.ers,Option.some.injEq] at e;subst e
  trivial
 | a::as,vs,L,ds,r,e=>by
  cases vs with
  | nil=>simp only[An] at r
  | cons v vs =>
   simp only[An] at r;simp only[J.ers,bind_eq_some_iff,map_eq_some_iff] at e;obtain⟨L1,L2,rfl,h1,h2⟩:=r;obtain⟨d,e1,ds',e2,rfl⟩:=e;exact⟨Ek (fun p z=>⟨z.1,fun q=>z.2 (by simp[q])⟩) (Ap.er h1 e1),K8 (fun p z=>⟨z.1,fun q=>z.2 (by simp[q])⟩) (An.er h2 e2)⟩
end
theorem An.fzs:∀{as:List A} {vs:List V} {L:List Addr} {ds:List D},An K N H vs as L->J.fzs as=some ds->L=[]/\Ar N H vs ds
 | [],vs,L,ds,r,e=>by
  cases vs<;>simp only[An] at r;simp only[J.fzs,Option.some.injEq] at e;subst e;exact⟨r,trivial⟩
 | a::as,vs,L,ds,r,e=>by
  cases vs with
  | nil=>simp only[An] at r
  | cons v vs =>
   simp only[An] at r;obtain⟨L1,L2,rfl,h1,h2⟩:=r;cases a with
   | fz d =>
    simp only[J.fzs,map_eq_some_iff] at e;obtain⟨ds',e,rfl⟩:=e;simp only[Ap] at h1;obtain⟨e1,q⟩:=An.fzs h2 e;exact⟨by rw[h1.1,e1]; rfl,h1.2,q⟩
   | _=>simp[J.fzs] at e
theorem Ej{v:V}{d:D}(r:RepA N H v d):Ap K N H v (.fz d) []:=by rw[Ap]; exact⟨rfl,r⟩
theorem An.of:∀{vs:List V} {ds:List D},Ar N H vs ds->An K N H vs (ds.map A.fz) []:=by
 intro _l;induction _l with
 | nil =>
  intro _m;cases _m with
  | nil =>
   intro _;simp[An]
  | cons _ _ =>
   intro r;simp only[Ar] at r
 | cons v vs ih =>
  intro _m;cases _m with
  | nil =>
   intro r;simp only[Ar] at r
  | cons d ds =>
   intro r;simp only[List.map_cons,An];exact⟨[],[],rfl,Ej r.1,ih r.2⟩
end
section
variable{K:Frag}{Z Z' Z1 Z2:Ro}{U σ' σ1 σ2:St}{H H' H1 H2:Hp}{O O':Addr->Prop}{fp fp' fp1 fp2:Nat->List Addr}{L L1 L2:List Addr}
noncomputable def pt(fp:Nat->List Addr)(i:Nat)(L:List Addr):Nat->List Addr:=fun j=>if j=i then L else fp j
theorem Ei{i:Nat}:pt fp i L i=L:=by simp[pt]
theorem FX{i j:Nat}(h:j≠i):pt fp i L j=fp j:=by simp[pt,h]
theorem A2{i j:Nat}{p:Addr}(h:p∈pt fp i L j):(j=i/\p∈L)\/(j≠i/\p∈fp j):=by
 by_cases e:j=i
 .subst e; rw[Ei] at h; exact .inl ⟨rfl,h⟩
 .rw[FX e] at h; exact .inr ⟨e,h⟩
theorem Rel.set(r:Rel K Z U H O fp){i:Nat}{s:Slot}{o:Option V}(hi:i<Z.length)(hO:∀p,O' p->NN fp O p)(hL:∀p∈L,NN fp O p)(nd:L.Nodup)(hd:∀p∈L,∀j,j≠i->p∉fp j)(ho:∀p∈L,¬O' p)(hoo:∀j p,j≠i->p∈fp j->¬O' p)(hs:∀st a,s=some (st,a)->∃v,o=some v/\Ap K (NN (pt fp i L) O') H v a L)(hn:s=none->L=[]):Rel K (Z.set i s) (U.set i o) H O' (pt fp i L) where
 len:=by simp[r.len]
 slot:=fun j st a e=>by
  by_cases hj:j=i
  .subst hj
   rw[List.getElem?_set_self hi] at e;obtain⟨v,e1,q⟩:=hs st a (Option.some.inj e);refine⟨v,?_,by rw[Ei]; exact q⟩;rw[List.getElem?_set_self (by rw[<- r.len]; exact hi),e1]
  .rw[List.getElem?_set_ne (Ne.symm hj)] at e
   obtain⟨v,e1,q⟩:=r.slot j st a e;refine⟨v,by rw[List.getElem?_set_ne (Ne.symm hj)]; exact e1,?_⟩;rw[FX hj];refine Dd (fun p z=>?_) q;rcases z with ⟨k,z⟩|z
   .rcases A2 z with ⟨_,z⟩|⟨_,z⟩
    .exact hL p z
    .exact .inl ⟨k,z⟩
   .exact hO p z
 out:=fun j h=>by
  by_cases hj:j=i
  .subst hj
   rw[Ei];cases s with
   | none=>exact hn rfl
   | some x=>exact absurd (List.getElem?_set_self hi) (h x.1 x.2)
  .rw[FX hj]
   exact r.out j fun st a e=>h st a (by rw[List.getElem?_set_ne (Ne.symm hj)]; exact e)
 nd:=fun j=>by
  by_cases hj:j=i
  .subst hj; rw[Ei]; exact nd
  .rw[FX hj]; exact r.nd j
 inj:=fun j k p h1 h2=>by
  rcases A2 h1 with ⟨e1,z1⟩|⟨e1,z1⟩
  .rcases A2 h2 with ⟨e2,z2⟩|⟨e2,z2⟩
   .rw[e1,e2]
   .exact absurd z2 (hd p z1 k e2)
  .rcases A2 h2 with ⟨e2,z2⟩|⟨e2,z2⟩
   .exact absurd z1 (hd p z2 j e1)
   .exact r.inj j k p z1 z2
 off:=fun j p h z=>by
  rcases A2 h with ⟨e1,z1⟩|⟨e1,z1⟩
  .exact ho p z1 z
  .exact hoo j p e1 z1 z
 al:=fun p z=>by
  rcases z with ⟨j,z⟩|z
  .rcases A2 z with ⟨_,z⟩|⟨_,z⟩
   .exact r.al p (hL p z)
   .exact r.al p (.inl ⟨j,z⟩)
  .exact r.al p (hO p z)
theorem Jj{i:Nat}{v:V}(h : U[i]? = some (some v)): U.set i (some v)=U:=by
 apply List.ext_getElem?;intro j;by_cases e:j=i
 .subst e
  have:=(List.getElem?_eq_some_iff.mp h).1;rw[List.getElem?_set_self this,h]
 .rw[List.getElem?_set_ne (Ne.symm e)]
theorem Aq{α:Type}{l:List α}{i:Nat}{x:α}(h:l[i]? = some x):i<l.length:=(List.getElem?_eq_some_iff.mp h).1
theorem FR{p:Addr}:NN fp (ad O []) p↔NN fp O p:=by simp[NN,ad]
theorem Cc{v:V}{r:R}{d:D}(x:Post K O fp H Z Z1 U U L fp1 H1)(q:RR K (NN fp1 (ad O L)) H1 U v r L)(e:share Z1 r=some (d,Z2)):
  ∃fp2,Post K O fp H Z Z2 U U [] fp2 H1/\RepA (NN fp2 (ad O [])) H1 v d:=by
 cases r with
 | val a =>
  simp only[share,map_eq_some_iff] at e;obtain⟨d',e,e'⟩:=e;cases e';refine⟨fp1,x.drop0,Ek (fun p z=>?_) (Ap.er q e)⟩;have z':=FR.mp z;refine⟨z'.imp id .inl,fun hp=>?_⟩;rcases z' with ⟨i,z⟩|z
  .exact x.rel.off i p z (.inr hp)
  .exact x.lo p hp z
 | ref i =>
  obtain⟨rfl,hv⟩:=q;simp only[share] at e;split at e
  .rename_i a ha
   simp only[map_eq_some_iff] at e;obtain⟨d',e,e'⟩:=e;cases e';obtain⟨v',hv',q⟩:=x.rel.slot i _ _ ha;rw[hv] at hv'; cases hv';have q2:RepA (NN (pt fp1 i []) (ad O [])) H1 v d:=Ek (fun p z=>by
    rcases z with ⟨j,z⟩|z
    .rcases A2 z with ⟨_,z⟩|⟨hj,z⟩
     .simp at z
     .exact⟨.inl ⟨j,z⟩,fun hp=>hj (x.rel.inj j i p z hp)⟩
    .exact⟨.inr z,fun hp=>x.rel.off i p hp z⟩) (Ap.er q e)
   have R:=x.rel.set (i:=i) (s:=some (.own,.fz d)) (o:=some v) (L:=[]) (O':=ad O []) (Aq ha) (fun p z=>.inr z) (fun p hp=>by simp at hp) List.nodup_nil (fun p hp=>by simp at hp) (fun p hp=>by simp at hp)
    (fun j p _ h=>x.rel.off j p h) (fun st a e=>by cases e; exact⟨v,rfl,Ej q2⟩) (fun e=>by cases e)
   rw[Jj hv] at R;refine⟨pt fp1 i [],⟨R,List.nodup_nil,fun p hp=>by simp at hp,fun p hp=>?_,x.kept,rfl,fun j st a' h n=>?_⟩,q2⟩
   .rcases hp with hp|⟨j,hp⟩
    .simp at hp
    .rcases A2 hp with ⟨_,z⟩|⟨_,z⟩
     .simp at z
     .exact x.new p (.inr ⟨j,z⟩)
   .obtain⟨a2,h2,_,f2⟩:=x.stab j st a' h n
    refine⟨a2,?_,rfl,f2⟩;rw[List.getElem?_set_ne]
    .exact h2
    .rintro rfl
     rw[ha] at h2; cases h2; exact n rfl
  .cases e
theorem OY{v:V}{r:R}{a:A}(x:Post K O fp H Z Z1 U U L fp1 H1)(q:RR K (NN fp1 (ad O L)) H1 U v r L)(e:move Z1 r=some (a,Z2)):
  ∃L2 fp2,Post K O fp H Z Z2 U U L2 fp2 H1/\Ap K (NN fp2 (ad O L2)) H1 v a L2:=by
 cases r with
 | val a =>
  simp only[move,Option.some.injEq] at e;cases e;exact⟨L,fp1,x,q⟩
 | ref i =>
  obtain⟨rfl,hv⟩:=q;simp only[move] at e;split at e
  .rename_i a' ha
   cases e;obtain⟨v',hv',q⟩:=x.rel.slot i _ _ ha;rw[hv] at hv'; cases hv';have nn:∀p,NN (pt fp1 i []) (ad O (fp1 i)) p->NN fp1 (ad O []) p:=fun p z=>by
    rcases z with ⟨j,z⟩|z|z
    .rcases A2 z with ⟨_,z⟩|⟨_,z⟩
     .simp at z
     .exact .inl ⟨j,z⟩
    .exact .inr (.inl z)
    .exact .inl ⟨i,z⟩
   have R:=x.rel.set (i:=i) (s:=none) (o:=some v) (L:=[]) (O':=ad O (fp1 i)) (Aq ha) (fun p z=>nn p (.inr z)) (fun p hp=>by simp at hp) List.nodup_nil (fun p hp=>by simp at hp) (fun p hp=>by simp at hp)
    (fun j p hj h z=>by
     rcases z with z|z
     .exact x.rel.off j p h (.inl z)
     .exact hj (x.rel.inj j i p h z)) (fun st a e=>by cases e) (fun _=>rfl)
   rw[Jj hv] at R;refine⟨fp1 i,pt fp1 i [],⟨R,x.rel.nd i,fun p hp z=>x.rel.off i p hp (.inl z),fun p hp=>?_,x.kept,rfl,fun j st a' h n=>?_⟩,Dd nn q⟩
   .rcases hp with hp|⟨j,hp⟩
    .exact x.new p (.inr ⟨i,hp⟩)
    .rcases A2 hp with ⟨_,z⟩|⟨_,z⟩
     .simp at z
     .exact x.new p (.inr ⟨j,z⟩)
   .obtain⟨a2,h2,_,f2⟩:=x.stab j st a' h n
    refine⟨a2,?_,rfl,f2⟩;rw[List.getElem?_set_ne]
    .exact h2
    .rintro rfl
     rw[ha] at h2; cases h2; exact n rfl
  .cases e
end
section
variable{K:Frag}{Z Z' Z1 Z2:Ro}{U σ' σ1 σ2:St}{H H' H1 H2:Hp}{O O' N:Addr->Prop}{fp fp' fp1 fp2:Nat->List Addr}{L L1 L2:List Addr}
theorem Nr{v:V}{d:D}(r:RepA N H v d):RR K N H U v (.val (.fz d)) []:=Ej (K:=K) r
noncomputable def Kb(K:Frag)(N:Addr->Prop)(H:Hp)(a:A)(v:V)(H':Hp):Prop:=FD H H'/\∃L,Ap K (fun p=>N p\/p∈L) H' v a L/\L.Nodup/\∀p∈L,H p=none
noncomputable abbrev Kd(K:Frag)(N:Addr->Prop)(H:Hp):List V->List A->Prop
 | [],[]=>True
 | v::vs,a::as=>(∃L,Ap K N H v a L)/\Kd K N H vs as
 | _,_=>False
noncomputable def OpN(K:Frag)(f:List A->Option A)(r:List V->Hp->VK->Prop):Prop:=
 ∀N H xs as b Q,Kd K N H xs as->f as=some b->(∀v H',Kb K N H b v H'->Q v H')->r xs H Q
theorem Rel.peek{r:R}{v:V}{a:A}(x:Rel K Z U H O fp)(q:RR K (NN fp O) H U v r L)(e:peek Z r=some a):∃L,Ap K (NN fp O) H v a L:=by
 cases r with
 | val b =>
  simp only[J.peek,Option.some.injEq] at e;subst e;exact⟨L,q⟩
 | ref i =>
  simp only[J.peek] at e;split at e
  .rename_i st b hb
   cases e;obtain⟨v',h1,h2⟩:=x.slot i _ _ hb;rw[q.2] at h1; cases h1;exact⟨_,h2⟩
  .cases e
theorem Rel.peeks(x:Rel K Z U H O fp):∀{rs:List R} {vs:List V} {as:List A} {L:List Addr},RRs K (NN fp O) H U vs rs L->J.peeks Z rs=some as->Kd K (NN fp O) H vs as
 | [],[],as,L,_,e=>by
  simp only[J.peeks,Option.some.injEq] at e;subst e
  trivial
 | [],_::_,_,_,q,_=>by simp only[RRs] at q
 | _::_,[],_,_,q,_=>by simp only[RRs] at q
 | r::rs,v::vs,as,L,q,e=>by
  simp only[J.peeks,bind_eq_some_iff,map_eq_some_iff] at e;obtain⟨a,e1,as',e2,rfl⟩:=e;simp only[RRs] at q;obtain⟨L1,L2,rfl,q1,q2⟩:=q;exact⟨x.peek q1 e1,x.peeks q2 e2⟩
theorem Post.out{a:A}{v:V}(x:Post K O fp H Z Z1 U U L fp1 H1)(o:Kb K (NN fp1 (ad O L)) H1 a v H2):JK K O fp H Z Z1 U (.val a) v H2:=by
 obtain⟨s,L',r,nd,nw⟩:=o;have al:=r.al;have alO:∀p,NN fp1 (ad O L) p->H1 p≠none:=x.rel.al;refine⟨L',fp1,⟨x.rel.grow s (fun p z=>z.imp .inl (nw p)) fun p z=>?_,nd,fun p hp z=>alO p (.inr (.inl z)) (nw p hp),fun p hp=>?_,x.kept.trans (FD.kept (L:=fun _=>False) s) fun _ z=>z.elim,x.ln,x.stab⟩,?_⟩
 .rcases z with z|z
  .intro q
   have:=alO p (.inr (.inl z));cases e:H1 p with
   | none=>exact this e
   | some o=>rw[s p o e] at q; cases q
  .exact al p z
 .rcases hp with hp|hp
  .have e1:=nw p hp
   cases e:H p with
   | none=>exact .inr rfl
   | some o =>
    by_cases hf:Fp fp p
    .exact .inl hf
    .rw[x.kept p o e (.inl hf)] at e1; cases e1
  .exact x.new p (.inr hp)
 .refine Dd (fun p z=>?_) r
  rcases z with z|z|z
  .exact .inl (.inl z)
  .exact .inl (.inr (.inl z))
  .exact .inr z
theorem HR{f:List A->Option A}{r:List V->Hp->VK->Prop}{m:MA}{Q:VK}(ok:OpN K f r)(h:tE K (opM f m) U H Q):tA K m U H fun vs H1=>r vs H1 Q:=by
 obtain⟨Z,O,fp,rl,x,Z',e,k⟩:=h;simp only[opM,bind_eq_some_iff,map_eq_some_iff] at e;obtain⟨⟨rs,Z1⟩,e1,as,e2,b,e3,e4⟩:=e;cases e4;refine⟨Z,O,fp,rl,rs,_,e1,fun vs H1 yy=>?_⟩;obtain⟨L,fp1,p,q⟩:=yy;exact ok _ H1 vs as b Q (p.rel.peeks q e2) e3 fun v H' o=>k v H' (p.out o)
theorem R1{i:Nat}{Q:VK}(h:tE K (Aa i) U H Q):Pl i U H Q:=by
 obtain⟨Z,O,fp,rl,x,Z',e,k⟩:=h;simp only[Aa] at e;split at e
 .rename_i st d hd
  cases e;obtain⟨v,h1,h2⟩:=rl.slot i _ _ hd;refine⟨v,h1,k v H ⟨[],fp,rl.post,?_⟩⟩;rw[Ap] at h2;exact Nr (Ek (fun p z=>FR.mp z) h2.2)
 .rename_i y hn hy
  cases e;obtain⟨st,a⟩:=y;obtain⟨v,h1,h2⟩:=rl.slot i _ _ hy;exact⟨v,h1,k v H ⟨[],fp,rl.post,rfl,h1⟩⟩
 .cases e
theorem Jo{d:D}{v:V}{Q:VK}(hv:∀N H,RepA N H v d)(h:tE K (Ah d) U H Q):tC v U H Q:=by
 obtain⟨Z,O,fp,rl,x,Z',e,k⟩:=h;cases e;exact k v H ⟨[],fp,rl.post,Nr (hv _ _)⟩
theorem RZ{m:ME}{Q:VK}(h:tE K (AK m) U H Q):tE K m U H Q:=by
 obtain⟨Z,O,fp,rl,x,Z',e,k⟩:=h;simp only[AK,bind_eq_some_iff,map_eq_some_iff] at e;obtain⟨⟨r,Z1⟩,e1,⟨d,Z2⟩,e2,e3⟩:=e;cases e3;refine⟨Z,O,fp,rl,r,Z1,e1,fun v H1 yy=>?_⟩;obtain⟨L,fp1,p,q⟩:=yy;obtain⟨fp2,p2,q2⟩:=Cc p q e2;exact k v H1 ⟨[],fp2,p2,Nr q2⟩
theorem RB{v:V}{a:A}{b:Bool}(h:Ap K N H v a L)(e:DL a=some b):v=.bl b:=by
 cases a with
 | fz d =>
  cases d with
  | bl c =>
   simp only[DL,Option.some.injEq] at e;subst e;rw[Ap] at h;obtain⟨_,h⟩:=h;cases h;rfl
  | _=>simp[DL] at e
 | _=>simp[DL] at e
theorem Jq{m:ME}{Q:Bool->Hp->Prop}(h:tT K (AM m) U H Q):tE K m U H fun x H1=>∃c,x=.bl c/\Q c H1:=by
 obtain⟨Z,O,fp,rl,x,Z',e,k⟩:=h;simp only[AM,bind_eq_some_iff,map_eq_some_iff] at e;obtain⟨⟨r,Z1⟩,e1,a,e2,b,e3,e4⟩:=e;cases e4;refine⟨Z,O,fp,rl,r,_,e1,fun v H1 yy=>?_⟩;obtain⟨L,fp1,p,q⟩:=yy;obtain⟨L',q'⟩:=p.rel.peek q e2;exact⟨_,RB q' e3,k fp1 H1 p.drop0⟩
theorem Post.next{σ2:St}(x:Post K O fp H Z Z1 U σ1 [] fp1 H1)(y:Post K O fp1 H1 Z1 Z2 σ1 σ2 L2 fp2 H2):Post K O fp H Z Z2 U σ2 L2 fp2 H2:=by
 have e:ad O []=O:=funext fun p=>propext Ij;exact Post.then (L1:=[]) x (by rw[e]; exact y)
theorem Post.rel0(x:Post K O fp H Z Z1 U σ1 [] fp1 H1):Rel K Z1 σ1 H1 O fp1:=x.rel.congr fun p=>Ij
theorem JK.pre{r:R}{v:V}(x:Post K O fp H Z Z1 U U [] fp1 H1)(y:JK K O fp1 H1 Z1 Z2 U r v H2):JK K O fp H Z Z2 U r v H2:=by
 obtain⟨L,fp2,p,q⟩:=y;exact⟨L,fp2,x.next p,q⟩
theorem YN{a b:MT}{Q:Bool->Hp->Prop}(h:tT K (orT a b) U H Q):tT K a U H fun c H1=>if c=true then Q true H1 else tT K b U H1 Q:=by
 obtain⟨Z,O,fp,rl,x,Z',e,k⟩:=h;simp only[orT,bind_eq_some_iff] at e;obtain⟨⟨c,Z1⟩,e1,e2⟩:=e;refine⟨Z,O,fp,rl,c,Z1,e1,fun fp1 H1 p=>?_⟩;cases c with
 | false =>
  simp at e2;rw[if_neg Bool.false_ne_true];exact⟨Z1,O,fp1,p.rel0,x,Z',e2,fun fp2 H2 p2=>k fp2 H2 (p.next p2)⟩
 | true =>
  simp at e2;obtain⟨rfl,rfl⟩:=e2;rw[if_pos rfl];exact k fp1 H1 p
theorem Xt{a:MT}{Q:Bool->Hp->Prop}(h:tT K (DZ a) U H Q):tT K a U H fun c H1=>Q (!c) H1:=by
 obtain⟨Z,O,fp,rl,x,Z',e,k⟩:=h;simp only[DZ,map_eq_some_iff] at e;obtain⟨⟨c,Z1⟩,e1,e2⟩:=e;cases e2;exact⟨Z,O,fp,rl,c,_,e1,k⟩
theorem Ov{m:ME}{Q:Bool->Hp->Prop}{Z Z':Ro}{b:Bool}{O:Addr->Prop}{fp:Nat->List Addr}(rl:Rel K Z U H O fp)(e:AM m Z=some (b,Z'))(k:∀fp' H',Post K O fp H Z Z' U U [] fp' H'->Q b H'):tE K m U H fun x H1=>∃c,x=.bl c/\Q c H1:=
 Jq ⟨Z,O,fp,rl,b,Z',e,k⟩
theorem Xf{a b:ME}{Q:VK}(h:tE K (andM a b) U H Q):tE K a U H fun x H1=>∃c,x=.bl c/\if c=true then tE K b U H1 Q else Q (.bl false) H1:=by
 obtain⟨Z,O,fp,rl,x,Z',e,k⟩:=h;simp only[andM,bind_eq_some_iff] at e;obtain⟨⟨c,Z1⟩,e1,e2⟩:=e;refine Ov (Q:=fun c H1=>if c=true then tE K b U H1 Q else Q (.bl false) H1) rl e1 fun fp1 H1 p=>?_;cases c with
 | true =>
  rw[if_pos rfl] at e2 |-;exact⟨Z1,O,fp1,p.rel0,x,Z',e2,fun v H2 p2=>k v H2 (p2.pre p)⟩
 | false =>
  simp at e2;obtain⟨rfl,rfl⟩:=e2;rw[if_neg Bool.false_ne_true];exact k _ H1 ⟨[],fp1,p,Nr (.bl _)⟩
theorem Xi{a:ME}{Q:VK}(h:tE K (notM a) U H Q):tE K a U H fun x H1=>∃c,x=.bl c/\Q (.bl (!c)) H1:=by
 obtain⟨Z,O,fp,rl,x,Z',e,k⟩:=h;simp only[notM,map_eq_some_iff] at e;obtain⟨⟨c,Z1⟩,e1,e2⟩:=e;cases e2;exact Ov (Q:=fun c H1=>Q (.bl (!c)) H1) rl e1 fun fp1 H1 p=>k _ H1 ⟨[],fp1,p,Nr (.bl _)⟩
theorem Xg{c:MT}{a b:ME}{Q:VK}(h:tE K (Kx c a b) U H Q):tT K c U H fun c H1=>if c=true then tE K a U H1 Q else tE K b U H1 Q:=by
 obtain⟨Z,O,fp,rl,x,Z',e,k⟩:=h;simp only[Kx,bind_eq_some_iff] at e;obtain⟨⟨c,Z1⟩,e1,e2⟩:=e;refine⟨Z,O,fp,rl,c,Z1,e1,fun fp1 H1 p=>?_⟩;cases c with
 | true =>
  rw[if_pos rfl] at e2 |-;exact⟨Z1,O,fp1,p.rel0,x,Z',e2,fun v H2 p2=>k v H2 (p2.pre p)⟩
 | false =>
  simp at e2;rw[if_neg Bool.false_ne_true];exact⟨Z1,O,fp1,p.rel0,x,Z',e2,fun v H2 p2=>k v H2 (p2.pre p)⟩
theorem RRs.vals:∀{rs:List R} {vs:List V} {as:List A} {L:List Addr},RRs K N H U vs rs L->J.vals rs=some as->An K N H vs as L:=by
 intro _l;induction _l with
 | nil =>
  intro _m;cases _m with
  | nil =>
   intro as L q e;simp only[J.vals,Option.some.injEq] at e;subst e;simp only[RRs] at q;simp only[An];exact q
  | cons _ _ =>
   intro _ _ q _;simp only[RRs] at q
 | cons r rs ih =>
  intro _m;cases _m with
  | nil =>
   intro _ _ q _;simp only[RRs] at q
  | cons v vs =>
   intro as L q e;cases r with
   | ref i=>simp[J.vals] at e
   | val a =>
    simp only[J.vals,map_eq_some_iff] at e;obtain⟨as',e2,rfl⟩:=e;simp only[RRs] at q;obtain⟨L1,L2,rfl,q1,q2⟩:=q;simp only[An];exact⟨L1,L2,rfl,q1,ih q2 e2⟩
theorem Bm{p:Addr}{o:HO}(h:H p=none):FD H (upd H p o):=fun b o' e=>by
 rw[AF (CT e h)]; exact e
theorem Post.more{L':List Addr}(x:Post K O fp H Z Z1 U σ1 L fp1 H1)(s:FD H1 H2)(nd:L'.Nodup)(h:∀p∈L',p∈L\/(H1 p=none/\H2 p≠none)):Post K O fp H Z Z1 U σ1 L' fp1 H2 where
 rel:=x.rel.grow s (fun p z=>by
   rcases z with z|z
   .exact .inl (.inl z)
   .rcases h p z with q|q
    .exact .inl (.inr q)
    .exact .inr q.1) fun p z=>by
   have key:H1 p≠none->H2 p≠none:=fun n q=>by
    cases e:H1 p with
    | none=>exact n e
    | some o=>rw[s p o e] at q; cases q
   rcases z with z|z
   .exact key (x.rel.al p (.inr (.inl z)))
   .rcases h p z with q|q
    .exact key (x.rel.al p (.inr (.inr q)))
    .exact q.2
 nd:=nd
 lo:=fun p hp z=>by
  rcases h p hp with q|q
  .exact x.lo p q z
  .exact x.rel.al p (.inr (.inl z)) q.1
 new:=fun p hp=>by
  rcases hp with hp|hp
  .rcases h p hp with q|q
   .exact x.new p (.inl q)
   .cases e:H p with
    | none=>exact .inr rfl
    | some o =>
     by_cases hf:Fp fp p
     .exact .inl hf
     .have:=x.kept p o e (.inl hf)
      rw[q.1] at this; cases this
  .exact x.new p (.inr hp)
 kept:=x.kept.trans (FD.kept (L:=fun _=>False) s) fun _ z=>z.elim
 ln:=x.ln
 stab:=x.stab
theorem Xh{m:MA}{Q:VK}(h:tE K (lstM m) U H Q):YH (tA K m) U H Q:=by
 obtain⟨Z,O,fp,rl,x,Z',e,k⟩:=h;simp only[lstM,bind_eq_some_iff] at e;obtain⟨⟨rs,Z1⟩,e1,as,e2,e3⟩:=e;split at e3
 .rename_i hz
  cases e3;refine⟨Z,O,fp,rl,rs,_,e1,fun vs H1 yy=>?_⟩
  obtain⟨L,fp1,p,q⟩:=yy;have q':=q.vals e2;have hl:=q'.len;refine⟨by rw[hl]; exact hz,fun a ha=>k _ _ ?_⟩;have s:=Bm (o:=.lst vs) ha;have nL:a∉L:=fun z=>p.rel.al a (.inr (.inr z)) ha;refine⟨a::L,fp1,p.more s (List.nodup_cons.mpr ⟨nL,p.nd⟩) (fun b hb=>?_),?_⟩
  .rcases List.mem_cons.mp hb with rfl|hb
   .exact .inr ⟨ha,by rw[AE]; simp⟩
   .exact .inl hb
  .show Ap _ _ _ _ _ _
   rw[Ap];refine⟨a,vs,L,rfl,rfl,AE,by rw[hl]; exact hz,q'.tr (M:=fun _=>False) (fun _ z=>z.elim) (FD.kept s) (fun b z=>?_) fun _ _ z=>z⟩;rcases z with z|z|z
   .exact .inl (.inl z)
   .exact .inl (.inr (.inl z))
   .rcases List.mem_cons.mp z with rfl|z
    .exact .inr ha
    .exact .inl (.inr (.inr z))
 .cases e3
end
noncomputable def Py(K:Frag)(O:Addr->Prop)(fp:Nat->List Addr)(H:Hp)(Z:Ro)(U:St)(D:Ends):Fl->Prop
 | .next Z'=>∀σ' fp' H',Post K O fp H Z Z' U σ' [] fp' H'->D.nx σ' H'
 | .brk Z'=>∀σ' fp' H',Post K O fp H Z Z' U σ' [] fp' H'->D.bk σ' H'
 | .cnt Z'=>∀σ' fp' H',Post K O fp H Z Z' U σ' [] fp' H'->D.ct σ' H'
 | .ret a Z'=>∀σ' v L fp' H',Post K O fp H Z Z' U σ' L fp' H'->Ap K (NN fp' (ad O L)) H' v a L->D.rt v H'
noncomputable def tS(K:Frag)(m:MS):TS:=fun D U H=>∃Z O fp,Rel K Z U H O fp/\∃fl,m Z=some fl/\Py K O fp H Z U D fl
section
variable{K:Frag}{Z Z' Z1 Z2:Ro}{U σ' σ1 σ2:St}{H H' H1 H2:Hp}{O O' N:Addr->Prop}{fp fp' fp1 fp2:Nat->List Addr}{L L1 L2:List Addr}{D:Ends}
theorem Py.pre{fl:Fl}(x:Post K O fp H Z Z1 U σ1 [] fp1 H1)(w:Py K O fp H Z U D fl):Py K O fp1 H1 Z1 σ1 D fl:=by
 cases fl with
 | next Z'=>exact fun σ' fp' H' p=>w σ' fp' H' (x.next p)
 | brk Z'=>exact fun σ' fp' H' p=>w σ' fp' H' (x.next p)
 | cnt Z'=>exact fun σ' fp' H' p=>w σ' fp' H' (x.next p)
 | ret a Z'=>exact fun σ' v L fp' H' p q=>w σ' v L fp' H' (x.next p) q
theorem Ux(h:tS K A9 D U H):Vb D U H:=by
 obtain⟨Z,O,fp,rl,fl,e,w⟩:=h;cases e;exact w U fp H rl.post
theorem Xr{a b:MS}(h:tS K (As a b) D U H):YM (tS K a) (tS K b) D U H:=by
 obtain⟨Z,O,fp,rl,fl,e,w⟩:=h;simp only[As,bind_eq_some_iff] at e;obtain⟨f1,e1,e2⟩:=e;refine⟨Z,O,fp,rl,f1,e1,?_⟩;cases f1 with
 | next Z1=>exact fun σ1 fp1 H1 p=>⟨Z1,O,fp1,p.rel0,fl,e2,w.pre p⟩
 | brk Z1=>cases e2; exact w
 | cnt Z1=>cases e2; exact w
 | ret a Z1=>cases e2; exact w
theorem YL{c:MT}{a b:MS}(h:tS K (ifS c a b) D U H):YG (tT K c) (tS K a) (tS K b) D U H:=by
 obtain⟨Z,O,fp,rl,fl,e,w⟩:=h;simp only[ifS,bind_eq_some_iff] at e;obtain⟨⟨c,Z1⟩,e1,e2⟩:=e;refine⟨Z,O,fp,rl,c,Z1,e1,fun fp1 H1 p=>?_⟩;cases c with
 | true =>
  simp at e2;rw[if_pos rfl];exact⟨Z1,O,fp1,p.rel0,fl,e2,w.pre p⟩
 | false =>
  simp at e2;rw[if_neg Bool.false_ne_true];exact⟨Z1,O,fp1,p.rel0,fl,e2,w.pre p⟩
theorem Xm{m:ME}(h:tS K (HU m) D U H):RX (tE K m) D U H:=by
 obtain⟨Z,O,fp,rl,fl,e,w⟩:=h;simp only[HU,map_eq_some_iff] at e;obtain⟨⟨r,Z1⟩,e1,e2⟩:=e;cases e2;exact⟨Z,O,fp,rl,r,Z1,e1,fun v H1 ⟨L,fp1,p,q⟩=>w U fp1 H1 p.drop0⟩
theorem Xq{m:ME}(h:tS K (retS m) D U H):YK (tE K m) D U H:=by
 obtain⟨Z,O,fp,rl,fl,e,w⟩:=h;simp only[retS,bind_eq_some_iff,map_eq_some_iff] at e;obtain⟨⟨r,Z1⟩,e1,⟨a,Z2⟩,e2,e3⟩:=e;cases e3;refine⟨Z,O,fp,rl,r,Z1,e1,fun v H1 yy=>?_⟩;obtain⟨L,fp1,p,q⟩:=yy;obtain⟨L2,fp2,p2,q2⟩:=OY p q e2;exact w U v L2 fp2 H1 p2 q2
theorem P4{i:Nat}(h:free Z i=true):i<Z.length/\∀st a,Z[i]? = some (some (st,a))->st=.own:=by
 unfold free at h;split at h
 .rename_i e
  exact⟨Aq e,fun st a e'=>by rw[e] at e'; cases e'⟩
 .rename_i a e
  exact⟨Aq e,fun st a e'=>by rw[e] at e'; cases e'; rfl⟩
 .cases h
theorem Post.store{i:Nat}{v:V}{a:A}{σ1:St}(x:Post K O fp H Z Z1 U σ1 (L1++L2) fp1 H1)(hf:free Z1 i=true)(q:Ap K (NN fp1 (ad O (L1++L2))) H1 v a L1):
  Post K O fp H Z (Z1.set i (some (.own,a))) U (σ1.set i (some v)) L2 (pt fp1 i L1) H1:=by
 obtain⟨hi,ho⟩:=P4 hf;have nd:=List.nodup_append.mp x.nd;have nn:∀p,NN (pt fp1 i L1) (ad O L2) p->NN fp1 (ad O (L1++L2)) p:=fun p z=>by
  rcases z with ⟨j,z⟩|z|z
  .rcases A2 z with ⟨_,z⟩|⟨_,z⟩
   .exact .inr (.inr (List.mem_append_left _ z))
   .exact .inl ⟨j,z⟩
  .exact .inr (.inl z)
  .exact .inr (.inr (List.mem_append_right _ z))
 refine⟨x.rel.set (O':=ad O L2) hi (fun p z=>nn p (.inr z)) (fun p hp=>.inr (.inr (List.mem_append_left _ hp))) nd.1 (fun p hp j _ z=>x.rel.off j p z (.inr (List.mem_append_left _ hp))) (fun p hp z=>?_)
  (fun j p _ h z=>x.rel.off j p h (z.imp id (List.mem_append_right _))) (fun st a' e=>by cases e; exact⟨v,rfl,Dd nn q⟩) (fun e=>by cases e),nd.2.1,fun p hp=>x.lo p (List.mem_append_right _ hp),fun p hp=>?_,x.kept,by rw[List.length_set]; exact x.ln,fun j st a' h n=>?_⟩
 .rcases z with z|z
  .exact x.lo p (List.mem_append_left _ hp) z
  .exact nd.2.2 p hp p z rfl
 .rcases hp with hp|⟨j,hp⟩
  .exact x.new p (.inl (List.mem_append_right _ hp))
  .rcases A2 hp with ⟨_,z⟩|⟨_,z⟩
   .exact x.new p (.inl (List.mem_append_left _ z))
   .exact x.new p (.inr ⟨j,z⟩)
 .obtain⟨a2,h2,e2,f2⟩:=x.stab j st a' h n
  have hj:j≠i:=by
   rintro rfl;exact n (ho st a2 h2)
  exact⟨a2,by rw[List.getElem?_set_ne (Ne.symm hj)]; exact h2,by rw[List.getElem?_set_ne (Ne.symm hj)]; exact e2,f2⟩
theorem Hz{v:V}{r:R}{a:A}(x:Post K O fp H Z Z1 U U L fp1 H1)(q:RR K (NN fp1 (ad O L)) H1 U v r L)(e:keep Z1 r=some (a,Z2)):
  ∃L2 fp2,Post K O fp H Z Z2 U U L2 fp2 H1/\Ap K (NN fp2 (ad O L2)) H1 v a L2:=by
 cases r with
 | val b =>
  simp only[keep,Option.some.injEq] at e;cases e;exact⟨L,fp1,x,q⟩
 | ref i =>
  simp only[keep,map_eq_some_iff] at e;obtain⟨⟨d,Z3⟩,e,e'⟩:=e;cases e';obtain⟨fp2,p,q2⟩:=Cc x q e;exact⟨[],fp2,p,Ej q2⟩
theorem Jp{i:Nat}{m:ME}(h:tS K (AG i m) D U H):NF (tE K m) (G1 i) D U H:=by
 obtain⟨Z,O,fp,rl,fl,e,w⟩:=h;simp only[AG,bind_eq_some_iff] at e;obtain⟨⟨r,Z1⟩,e1,⟨a,Z2⟩,e2,e3⟩:=e;split at e3
 .rename_i hf
  cases e3;refine⟨Z,O,fp,rl,r,Z1,e1,fun v H1 yy=>?_⟩
  obtain⟨L,fp1,p,q⟩:=yy;obtain⟨L2,fp2,p2,q2⟩:=Hz p q e2;exact w _ _ H1 (Post.store (L1:=L2) (L2:=[]) (by rw[List.append_nil]; exact p2) hf (by rw[List.append_nil]; exact q2))
 .cases e3
noncomputable def FK:List Nat->TGs
 | []=>XZ
 | i::is=>UN (G1 i) (FK is)
theorem J6{Q:St->Hp->Prop}:∀{is:List Nat} {as:List A} {vs:List V} {Z1 Z2:Ro} {σ1:St} {fp1:Nat->List Addr} {L:List Addr},Post K O fp H Z Z1 U σ1 L fp1 H1->An K (NN fp1 (ad O L)) H1 vs as L->BI is as Z1=some Z2 ->
  (∀σ' fp',Post K O fp H Z Z2 U σ' [] fp' H1->Q σ' H1)->FK is vs σ1 H1 Q:=by
 intro _l;induction _l with
 | nil =>
  intro _m;cases _m with
  | nil =>
   intro vs Z1 Z2 σ1 fp1 L x q e k;cases vs with
   | cons v vs=>simp only[An] at q
   | nil =>
    simp only[BI,Option.some.injEq] at e;subst e;exact⟨rfl,k σ1 fp1 x.drop0⟩
  | cons _ _ =>
   intro _ _ _ _ _ _ _ _ e _;simp[BI] at e
 | cons i is ih =>
  intro _m;cases _m with
  | nil =>
   intro _ _ _ _ _ _ _ _ e _;simp[BI] at e
  | cons a as =>
   intro vs Z1 Z2 σ1 fp1 L x q e k;cases vs with
   | nil=>simp only[An] at q
   | cons v vs =>
    simp only[An] at q;obtain⟨L1,L2,rfl,q1,q2⟩:=q;simp only[BI] at e;split at e
    .rename_i hf
     refine⟨v,vs,rfl,?_⟩;have p:=x.store hf q1;refine ih p (XE (fun p z=>?_) q2) e k;rcases z with ⟨j,z⟩|z|z
     .rcases A2 z with ⟨_,z⟩|⟨_,z⟩
      .exact .inr (.inr (List.mem_append_left _ z))
      .exact .inl ⟨j,z⟩
     .exact .inr (.inl z)
     .exact .inr (.inr (List.mem_append_right _ z))
    .cases e
theorem Ap.parts{v:V}{a:A}{as:List A}(q:Ap K N H v a L)(e:Fg a=some as):∃p vs,v=.ref p/\SqT K H p vs/\An K N H vs as L:=by
 cases a with
 | tup bs =>
  simp only[Fg,Option.some.injEq] at e;subst e;rw[Ap] at q;obtain⟨p,vs,rfl,h,hz,hs⟩:=q;exact⟨p,vs,rfl,.inl (.inl h),hs⟩
 | fz d =>
  cases d with
  | tup ds =>
   simp only[Fg,Option.some.injEq] at e;subst e;rw[Ap] at q;obtain⟨rfl,q⟩:=q;cases q with
   | tup h hz hl hr=>exact⟨_,_,rfl,.inl (.inl h),An.of (Ar.mk hl hr)⟩
  | _=>simp[Fg] at e
 | _=>simp[Fg] at e
theorem Ji:∀{is:List Nat} {as:List A} {Z1 Z2:Ro},BI is as Z1=some Z2->is.length=as.length:=by
 intro _l;induction _l with
 | nil =>
  intro _m;cases _m with
  | nil =>
   intro _ _ _;exact rfl
  | cons _ _ =>
   intro _ _ e;simp[BI] at e
 | cons i is ih =>
  intro _m;cases _m with
  | nil =>
   intro _ _ e;simp[BI] at e
  | cons a as =>
   intro _ _ e;simp only[BI] at e;split at e
   .simp[ih e]
   .cases e
theorem Xs{is:List Nat}{m:ME}(h:tS K (Mp is m) D U H):NF (tE K m) (VA K is.length (FK is)) D U H:=by
 obtain⟨Z,O,fp,rl,fl,e,w⟩:=h;simp only[Mp,bind_eq_some_iff,map_eq_some_iff] at e;obtain⟨⟨r,Z1⟩,e1,⟨a,Z2⟩,e2,as,e3,Z3,e4,e5⟩:=e;cases e5;refine⟨Z,O,fp,rl,r,Z1,e1,fun v H1 yy=>?_⟩;obtain⟨L,fp1,p,q⟩:=yy;obtain⟨L2,fp2,p2,q2⟩:=Hz p q e2;obtain⟨pa,vs,rfl,hS,hs⟩:=q2.parts e3;exact⟨pa,vs,rfl,hS,by rw[hs.len,Ji e4],J6 p2 hs e4 fun σ' fp' p'=>w σ' fp' H1 p'⟩
theorem R4{n:Nat}{c:MT}{b:MS}(h:tS K (K9 n c b) D U H):R5 (tT K c) (tS K b) D U H:=by
 obtain⟨Z,O,fp,rl,fl,e,w⟩:=h;refine⟨fun n σ' H'=>∃Z' fp',Post K O fp H Z Z' U σ' [] fp' H'/\Ds c b n Z'=some fl,⟨n,Z,fp,rl.post,e⟩,?_⟩;rintro n σ1 H1 ⟨Z1,fp1,p1,e1⟩;cases n with
 | zero=>simp[Ds] at e1
 | succ n =>
  simp only[Ds,bind_eq_some_iff] at e1;obtain⟨⟨c,Z2⟩,e2,e3⟩:=e1;refine⟨Z1,O,fp1,p1.rel0,c,Z2,e2,fun fp2 H2 p2=>?_⟩;have p12:=p1.next p2;cases c with
  | false =>
   simp at e3;subst e3;dsimp only;rw[if_neg Bool.false_ne_true];exact w _ _ _ p12
  | true =>
   simp only[if_true,bind_eq_some_iff] at e3;obtain⟨f,e4,e5⟩:=e3;dsimp only;rw[if_pos rfl];refine⟨_,fun σ' H' z=>⟨n,Nat.lt_succ_self n,z⟩,Z2,O,fp2,p12.rel0,f,e4,?_⟩;cases f with
   | next Z3=>exact fun σ' fp' H' p=>⟨Z3,fp',p12.next p,e5⟩
   | cnt Z3=>exact fun σ' fp' H' p=>⟨Z3,fp',p12.next p,e5⟩
   | brk Z3 =>
    cases e5;exact fun σ' fp' H' p=>w σ' fp' H' (p12.next p)
   | ret a Z3 =>
    cases e5;exact fun σ' v L fp' H' p q=>w σ' v L fp' H' (p12.next p) q
end
noncomputable def ItR(J:It)(C:(Addr->Prop)->Hp->Prop)(ds:List D):Prop:=∀N H,C N H->(∀i,i<ds.length->J.go i H)/\(∀i,ds.length<=i->J.stop i H)/\∀i x H' d,J.yld i H x H'->ds[i]? = some d->FD H H'/\RepA N H' x d
noncomputable def YR(H H':Hp):Prop:=∀p xs,H p=some (.tup xs)->H' p=some (.tup xs)
noncomputable def ItP(K:Frag)(O:Addr->Prop)(fp:Nat->List Addr)(H:Hp)(Z Z':Ro)(U:St)(ds:List D)(n:Option Nat)(J:It)(H':Hp):Prop:=
 ∃r v a L fp',Post K O fp H Z Z' U U L fp' H'/\RR K (NN fp' (ad O L)) H' U v r L/\n=nameOf r/\peek Z' r=some a/\ItR J (fun N H=>(∃L,Ap K N H v a L)/\YR H' H/\∀z dz,RepA (NN fp' (ad O L)) H' z dz->RepA N H z dz) ds
noncomputable def tI(K:Frag)(m:MI):TI:=fun U H R=>∃Z O fp,Rel K Z U H O fp/\∃ds n Z',m Z=some (ds,n,Z')/\∀J H',ItP K O fp H Z Z' U ds n J H'->R J H'
section
variable{K:Frag}{Z Z' Z1 Z2:Ro}{U σ' σ1 σ2:St}{H H' H1 H2:Hp}{O O' N:Addr->Prop}{fp fp' fp1 fp2:Nat->List Addr}{L L1 L2:List Addr}
theorem EH{n:Option Nat}{j:Nat}:(lock Z n)[j]? = match Z[j]? with
  | some (some (st,a))=>some (some (if n=some j then .ro else st,a))
  | x=>x:=by
 cases n with
 | none =>
  simp only[lock];split<;>simp_all
 | some i =>
  simp only[lock];split
  .rename_i st a e
   by_cases h:j=i
   .subst h
    rw[List.getElem?_set_self (Aq e),e];simp
   .rw[List.getElem?_set_ne (Ne.symm h)]
    split
    .have:¬(some i=some j):=fun z=>h (Option.some.inj z).symm
     simp[this, *]
    .rfl
  .rename_i hn
   by_cases h:j=i
   .subst h
    split
    .rename_i st a e
     exact absurd e (hn st a)
    .rfl
   .split
    .have:¬(some i=some j):=fun z=>h (Option.some.inj z).symm
     simp[this, *]
    .rfl
theorem Rel.lock{n:Option Nat}(r:Rel K Z U H O fp):Rel K (J.lock Z n) U H O fp where
 len:=by
  rw[<- r.len];cases n with
  | none=>rfl
  | some i=>simp only[J.lock]; split<;>simp
 slot:=fun i st a e=>by
  rw[EH] at e;split at e
  .rename_i st' a' e'
   simp only[Option.some.injEq,Prod.mk.injEq] at e;obtain⟨_,rfl⟩:=e;exact r.slot i _ _ e'
  .exact r.slot i _ _ e
 out:=fun i h=>r.out i fun st a e=>h (if n=some i then .ro else st) a (by rw[EH,e])
 nd:=r.nd
 inj:=r.inj
 off:=r.off
 al:=r.al
theorem Post.unlock{n:Option Nat}{a:A}(hn:∀i,n=some i->∃st,Z1[i]? = some (some (st,a)))(x:Post K O fp1 H1 (J.lock Z1 n) Z2 σ1 σ2 L fp2 H2):Post K O fp1 H1 Z1 (J.unlock Z1 Z2 n) σ1 σ2 L fp2 H2:=by
 cases n with
 | none=>exact x
 | some i =>
  obtain⟨st,e⟩:=hn i rfl;obtain⟨a',e2,es,ea⟩:=x.stab i .ro a (by rw[EH,e]; simp) (by decide);cases ea rfl;have eu:J.unlock Z1 Z2 (some i)=Z2.set i (some (st,a)):=by simp only[J.unlock,e]
  rw[eu];have get:∀j st' b,(Z2.set i (some (st,a)))[j]? = some (some (st',b))->∃st'',Z2[j]? = some (some (st'',b)):=fun j st' b q=>by
   by_cases h:j=i
   .subst h
    rw[List.getElem?_set_self (Aq e2)] at q;cases q;exact⟨_,e2⟩
   .rw[List.getElem?_set_ne (Ne.symm h)] at q
    exact⟨_,q⟩
  refine⟨⟨by rw[List.length_set]; exact x.rel.len,fun j st' b q=>?_,fun j h=>?_,x.rel.nd,x.rel.inj,x.rel.off,x.rel.al⟩,x.nd,x.lo,x.new,x.kept,x.ln,fun j st' b q hs=>?_⟩
  .obtain⟨st'',q⟩:=get j st' b q
   exact x.rel.slot j _ _ q
  .refine x.rel.out j fun st' b q=>?_
   by_cases hj:j=i
   .subst hj
    exact h st a (List.getElem?_set_self (Aq e2))
   .exact h st' b (by rw[List.getElem?_set_ne (Ne.symm hj)]; exact q)
  .by_cases hj:j=i
   .subst hj
    rw[e] at q;cases q;exact⟨a,List.getElem?_set_self (Aq e2),es,fun _=>rfl⟩
   .have q':(J.lock Z1 (some i))[j]? = some (some (st',b)):=by
     rw[EH,q];have:¬(some i=some j):=fun z=>hj (Option.some.inj z).symm;simp[this]
    obtain⟨b',q2,s2,f2⟩:=x.stab j st' b q' hs;exact⟨b',by rw[List.getElem?_set_ne (Ne.symm hj)]; exact q2,s2,f2⟩
noncomputable def OL(K:Frag)(is:List Nat):Bool->TG
 | true=>G1 (is.headD 0)
 | false=>VA K is.length (FK is)
theorem Ss{is:List Nat}{one:Bool}{d:D}{x:V}{Q:St->Hp->Prop}(p:Post K O fp H Z Z1 U σ1 [] fp1 H1)(q:RepA (NN fp1 O) H1 x d)(e:FE is one d Z1=some Z2)(k:∀σ' fp',Post K O fp H Z Z2 U σ' [] fp' H1->Q σ' H1):
  OL K is one x σ1 H1 Q:=by
 have q0:RepA (NN fp1 (ad O [])) H1 x d:=Ek (fun p z=>FR.mp z) q;cases one with
 | true =>
  unfold FE at e
  match is,e with
  | [i],e =>
   dsimp only at e;split at e
   .rename_i hf
    cases e;exact k _ _ (Post.store (L1:=[]) (L2:=[]) p hf (Ej (K:=K) q0))
   .cases e
  | [],e=>simp at e
  | _::_::_,e=>simp at e
 | false =>
  unfold FE at e;dsimp only at e;cases d with
  | tup ds =>
   dsimp only at e;cases q0 with
   | tup h hz hl hr =>
    refine⟨_,_,rfl,.inl (.inl h),?_,J6 p (An.of (Ar.mk hl hr)) e k⟩;have:=Ji e;rw[List.length_map] at this;rw[hl,this]
  | _=>simp at e
theorem Xc{r:R}{v:V}{a:A}{n:Option Nat}(hn:n=nameOf r)(hr:Rel K Z1 U H1 (ad O L) fp1)(q:RR K (NN fp1 (ad O L)) H1 U v r L)(e:peek Z1 r=some a)(p:Post K (ad O L) fp1 H1 (J.lock Z1 n) Z2 U σ2 [] fp2 H2):
  ∃L',Ap K (NN fp2 (ad O L)) H2 v a L':=by
 cases r with
 | val b =>
  simp only[peek,Option.some.injEq] at e;subst e;refine⟨L,Ap.tr (M:=Fp fp1) (fun p z=>.inl z) p.kept (fun x z=>?_) (fun x hx z=>?_) q⟩
  .rcases z with z|z
   .exact(p.new x (.inr z)).imp (fun y=>.inl y) id
   .exact .inl (.inr z)
  .obtain⟨i,hi⟩:=z
   exact hr.off i x hi (.inr hx)
 | ref i =>
  subst hn;simp only[peek] at e;split at e
  .rename_i st b hb
   cases e;obtain⟨a',e2,es,ea⟩:=p.stab i .ro a (by rw[EH,hb]; simp[nameOf]) (by decide);cases ea rfl;obtain⟨v',h1,h2⟩:=p.rel0.slot i _ _ e2;rw[es,q.2] at h1;cases h1;exact⟨_,h2⟩
  .cases e
theorem Post.stay{dz:D}{z:V}(p:Post K O fp1 H1 Z1 Z2 U σ2 [] fp2 H2)(q:RepA (NN fp1 O) H1 z dz):RepA (NN fp2 O) H2 z dz:=
 q.tr (M:=Fp fp1) (fun p z=>.inl z) p.kept fun x z=>by
  rcases z with z|z
  .exact(p.new x (.inr z)).imp (fun y=>.inl y) id
  .exact .inl (.inr z)
theorem Post.stayT{dz:D}{z:V}(p:Post K O fp1 H1 Z1 Z2 U σ2 L fp2 H2)(q:RepA (NN fp1 O) H1 z dz):RepA (NN fp2 (ad O L)) H2 z dz:=
 q.tr (M:=Fp fp1) (fun p z=>.inl z) p.kept fun x z=>by
  rcases z with z|z|z
  .exact(p.new x (.inr z)).imp (fun y=>.inl y) id
  .exact .inl (.inr z)
  .exact(p.new x (.inl z)).imp (fun y=>.inl y) id
theorem Xn{is:List Nat}{one:Bool}{it:MI}{b:MS}{D:Ends}(h:tS K (Ca is one it b) D U H):YF (tI K it) (OL K is one) (tS K b) D U H:=by
 obtain⟨Z,O,fp,rl,fl,e,w⟩:=h;simp only[Ca,bind_eq_some_iff,map_eq_some_iff] at e;obtain⟨⟨ds,n,Z1⟩,e1,f,e2,e3⟩:=e;subst e3;refine⟨Z,O,fp,rl,ds,n,Z1,e1,fun J H1 yy=>?_⟩;obtain⟨r,v,a,L,fp1,p1,q1,hn,ha,hJ⟩:=yy;have hlk:∀i,n=some i->∃st,Z1[i]? = some (some (st,a)):=fun i hi=>by
  rw[hn] at hi;cases r with
  | val b=>simp[nameOf] at hi
  | ref j =>
   simp only[nameOf,Option.some.injEq] at hi;subst hi;simp only[peek] at ha;split at ha
   .rename_i st b hb
    cases ha;exact⟨st,hb⟩
   .cases ha
 have rl1:Rel K (lock Z1 n) U H1 (ad O L) fp1:=p1.rel.lock
 -- what is wanted of the loop's end
 have w1:Py K (ad O L) fp1 H1 (lock Z1 n) U D f:=by
  have un:∀{Z2:Ro} {σ2:St} {L2:List Addr} {fp2:Nat->List Addr} {H2:Hp},Post K (ad O L) fp1 H1 (lock Z1 n) Z2 U σ2 L2 fp2 H2->Post K O fp H Z (unlock Z1 Z2 n) U σ2 L2 fp2 H2:=fun y=>(p1.then (y.unlock hlk)).drop;cases f with
  | next Z2=>exact fun σ' fp' H' p=>w σ' fp' H' (un p)
  | brk Z2=>exact fun σ' fp' H' p=>w σ' fp' H' (un p)
  | cnt Z2=>exact fun σ' fp' H' p=>w σ' fp' H' (un p)
  | ret b Z2=>exact fun σ' v L2 fp' H' p q=>w σ' v L2 fp' H' (un p) (Dd (fun x z=>by
    rcases z with z|z|z
    .exact .inl z
    .exact .inr (.inl (.inl z))
    .exact .inr (.inr z)) q)
 refine⟨fun i m σ' H'=>m=ds.length-i/\i<=ds.length/\∃Z' fp',Post K (ad O L) fp1 H1 (lock Z1 n) Z' U σ' [] fp' H'/\forL is one b (ds.drop i) Z'=some f,⟨ds.length,by simp,Nat.zero_le _,lock Z1 n,fp1,rl1.post,by simpa using e2⟩,?_⟩;rintro i m σ2 H2 ⟨rfl,hi,Z2,fp2,p2,e2⟩;obtain⟨L',src⟩:=Xc hn p1.rel q1 ha p2;obtain⟨go,stop,yld⟩:=hJ _ _ ⟨⟨L',src⟩,fun _ _ h=>p2.kept _ _ h (.inr rfl),fun _ _ q=>p2.stay q⟩;by_cases hlt:i<ds.length
 .refine .inr ⟨go i hlt,_,fun σ' H' z=>⟨ds.length-(i+1),by omega,rfl,hlt,z⟩,fun x H3 y=>?_⟩
  have hd:ds[i]? = some ds[i]:=by simp[hlt]
  obtain⟨sm,qx⟩:=yld i x H3 _ y hd;rw[List.drop_eq_getElem_cons hlt] at e2;simp only[forL,bind_eq_some_iff] at e2;obtain⟨Z3,e3,g,e4,e5⟩:=e2;have p3:Post K (ad O L) fp1 H1 (lock Z1 n) Z2 U σ2 [] fp2 H3:=p2.more sm List.nodup_nil (fun p hp=>by simp at hp);refine Ss p3 qx e3 fun σ4 fp4 p4=>?_;refine⟨Z3,ad O L,fp4,p4.rel0,g,e4,?_⟩;cases g with
  | next Z5=>exact fun σ' fp' H' p=>⟨Z5,fp',p4.next p,e5⟩
  | cnt Z5=>exact fun σ' fp' H' p=>⟨Z5,fp',p4.next p,e5⟩
  | brk Z5 =>
   cases e5;exact fun σ' fp' H' p=>w1 σ' fp' H' (p4.next p)
  | ret c Z5 =>
   cases e5;exact fun σ' v L fp' H' p q=>w1 σ' v L fp' H' (p4.next p) q
 .have:i=ds.length:=by omega
  subst this;simp only[List.drop_length,forL,Option.some.injEq] at e2;subst e2;exact .inl ⟨stop _ (Nat.le_refl _),w1 _ _ _ p2⟩
theorem G4{v:V}{a:A}{ds:List D}(q:Ap K N H v a L)(e:AH a=some ds):∃p vs,v=.ref p/\(SqL K H p vs\/SqT K H p vs)/\Ar N H vs ds:=by
 cases a with
 | fz d =>
  rw[Ap] at q;obtain⟨rfl,q⟩:=q;cases d with
  | lst es =>
   simp only[AH,Option.some.injEq] at e;subst e;cases q with
   | lst h hz hn hl hr=>exact⟨_,_,rfl,.inl (.inl (.inl h)),Ar.mk hl hr⟩
  | tup es =>
   simp only[AH,Option.some.injEq] at e;subst e;cases q with
   | tup h hz hl hr=>exact⟨_,_,rfl,.inr (.inl (.inl h)),Ar.mk hl hr⟩
  | _=>simp[AH] at e
 | lst as =>
  simp only[AH] at e;rw[Ap] at q;obtain⟨p,vs,L',rfl,rfl,h,hz,hs⟩:=q;exact⟨p,vs,rfl,.inl (.inl (.inl h)),(hs.fzs e).2⟩
 | scr ns =>
  simp only[AH,Option.some.injEq] at e;subst e;rw[Ap] at q;obtain⟨p,rfl,rfl,h,hz⟩:=q;refine⟨p,_,rfl,.inl (h H fun _ _ z=>z),Ar.mk (by simp) fun i v d e1 e2=>?_⟩;rw[List.getElem?_map] at e1 e2;cases q:ns[i]? with
  | none=>rw[q] at e1; cases e1
  | some k =>
   rw[q] at e1 e2;cases e1; cases e2;exact .int k
 | _=>simp[AH] at e
noncomputable def MO:A->Bool
 | .fz (.tup _)=>true
 | _=>false
theorem DW{v:V}{a:A}{ds:List D}(q:Ap K N H v a L)(e:AH a=some ds):∃p vs,v=.ref p/\(if MO a then SqT K H p vs else SqL K H p vs)/\Ar N H vs ds:=by
 cases a with
 | fz d =>
  rw[Ap] at q;obtain⟨rfl,q⟩:=q;cases d with
  | lst es =>
   simp only[AH,Option.some.injEq] at e;subst e;cases q with
   | lst h hz hn hl hr=>exact⟨_,_,rfl,.inl (.inl h),Ar.mk hl hr⟩
  | tup es =>
   simp only[AH,Option.some.injEq] at e;subst e;cases q with
   | tup h hz hl hr=>exact⟨_,_,rfl,.inl (.inl h),Ar.mk hl hr⟩
  | _=>simp[AH] at e
 | lst as =>
  simp only[AH] at e;rw[Ap] at q;obtain⟨p,vs,L',rfl,rfl,h,hz,hs⟩:=q;exact⟨p,vs,rfl,.inl (.inl h),(hs.fzs e).2⟩
 | scr ns =>
  obtain⟨p,vs,e1,e2,e3⟩:=G4 q e;rw[Ap] at q;obtain⟨p',rfl,rfl,h,hz⟩:=q;cases e1;refine⟨p,_,rfl,h H fun _ _ z=>z,?_⟩;simp only[AH,Option.some.injEq] at e;subst e;refine Ar.mk (by simp) fun i v d e1 e2=>?_;rw[List.getElem?_map] at e1 e2;cases q:ns[i]? with
  | none=>rw[q] at e1; cases e1
  | some k =>
   rw[q] at e1 e2;cases e1; cases e2;exact .int k
 | _=>simp[AH] at e
noncomputable def X2(K:Frag)(tl:TE):TI:=fun U H R=>tl U H fun x H1=>∃a,x=.ref a/\(((∃xs,SqL K H1 a xs)/\R (Itl K a) H1)\/((∃xs,SqT K H1 a xs)/\R (Itt K a) H1))
theorem SD{vs:List V}{ds:List D}(q:Ar N H vs ds){i:Nat}(h:i<ds.length):∃x,vs[i]? = some x:=⟨vs[i]'(by rw[q.len]; exact h),by simp⟩
theorem Xj{m:ME}{R:It->Hp->Prop}(h:tI K (BW m) U H R):X2 K (tE K m) U H R:=by
 obtain⟨Z,O,fp,rl,ds,n,Z',e,k⟩:=h;simp only[BW,bind_eq_some_iff,map_eq_some_iff] at e;obtain⟨⟨r,Z1⟩,e1,a,e2,ds',e3,e4⟩:=e;cases e4;refine⟨Z,O,fp,rl,r,Z1,e1,fun v H1 yy=>?_⟩;obtain⟨L,fp1,p,q⟩:=yy;obtain⟨L',q'⟩:=p.rel.peek q e2;obtain⟨pa,vs,rfl,hk,_⟩:=DW q' e3;refine⟨pa,rfl,?_⟩;cases hT:MO a with
 | false =>
  rw[hT] at hk;refine .inl ⟨⟨vs,hk⟩,k _ _ ⟨r,.ref pa,a,L,fp1,p,q,rfl,e2,fun N H2 yy=>?_⟩⟩;obtain⟨⟨L2,q2⟩,_⟩:=yy;obtain⟨pb,ws,e5,hk2,hd⟩:=DW q2 e3;cases e5;rw[hT] at hk2;have hk2:SqL K H2 pa ws:=hk2;refine⟨fun i hi=>?_,fun i hi=>⟨ws,hk2,by rw[hd.len]; exact hi⟩,fun i x H' d y e=>?_⟩
  .obtain⟨x,hx⟩:=SD hd hi
   exact⟨ws,x,hk2,hx⟩
  .obtain⟨rfl,y⟩:=y
   exact⟨fun _ _ z=>z,hd.get i x d (y ws hk2) e⟩
 | true =>
  rw[hT] at hk;refine .inr ⟨⟨vs,hk⟩,k _ _ ⟨r,.ref pa,a,L,fp1,p,q,rfl,e2,fun N H2 yy=>?_⟩⟩;obtain⟨⟨L2,q2⟩,_⟩:=yy;obtain⟨pb,ws,e5,hk2,hd⟩:=DW q2 e3;cases e5;rw[hT] at hk2;have hk2:SqT K H2 pa ws:=hk2;refine⟨fun i hi=>?_,fun i hi=>⟨ws,hk2,by rw[hd.len]; exact hi⟩,fun i x H' d y e=>?_⟩
  .obtain⟨x,hx⟩:=SD hd hi
   exact⟨ws,x,hk2,hx⟩
  .obtain⟨rfl,y⟩:=y
   exact⟨fun _ _ z=>z,hd.get i x d (y ws hk2) e⟩
end
noncomputable def UC(K:Frag):Nat->TU
 | 0=>R9
 | n+1=>fun v H vs=>∃a,v=.ref a/\SqT K H a vs/\vs.length=n+1
noncomputable def sh(n:Nat)(fp:Nat->List Addr):Nat->List Addr:=fun j=>if j<n then [] else fp (j-n)
section
variable{K:Frag}{Z Z' Z1 Z2:Ro}{U σ' σ1 σ2:St}{H H' H1 H2:Hp}{O O' N:Addr->Prop}{fp fp' fp1 fp2:Nat->List Addr}{L L1:List Addr}
theorem NZ{n:Nat}{p:Addr}:Fp (sh n fp) p↔Fp fp p:=by
 constructor
 .rintro ⟨j,h⟩
  unfold sh at h;split at h
  .simp at h
  .exact⟨_,h⟩
 .rintro ⟨j,h⟩
  refine⟨j+n,?_⟩;unfold sh;rw[if_neg (by lia),Nat.add_sub_cancel];exact h
theorem QV{n:Nat}{p:Addr}:NN (sh n fp) O p↔NN fp O p:=or_congr NZ Iff.rfl
theorem Rel.block{vs:List V}{bs:List D}(r:Rel K Z U H O fp)(q:Ar (NN fp O) H vs bs):Rel K (bs.map own++Z) (vs.map some++U) H O (sh bs.length fp) where
 len:=by simp[r.len,q.len]
 slot:=fun i st a e=>by
  by_cases hi:i<bs.length
  .rw[List.getElem?_append_left (by simpa using hi),List.getElem?_map] at e
   have hb:bs[i]? = some bs[i]:=by simp[hi]
   rw[hb] at e;simp only[Option.map_some,own,Option.some.injEq,Prod.mk.injEq] at e;obtain⟨rfl,rfl⟩:=e;have hv:vs[i]? = some (vs[i]'(by rw[q.len]; exact hi)):=by simp
   refine⟨_,by rw[List.getElem?_append_left (by simpa[q.len] using hi),List.getElem?_map,hv]; rfl,?_⟩;simp only[sh,hi,if_true];exact Ej (Ek (fun p z=>QV.mp z) (q.get i _ _ hv hb))
  .rw[List.getElem?_append_right (by simpa using hi),List.length_map] at e
   obtain⟨v,e1,q1⟩:=r.slot _ _ _ e;refine⟨v,by rw[List.getElem?_append_right (by simpa[q.len] using hi),List.length_map,q.len]; exact e1,?_⟩;simp only[sh,hi,if_false];exact Dd (fun p z=>QV.mp z) q1
 out:=fun i h=>by
  unfold sh;split
  .rfl
  .rename_i hi
   exact r.out _ fun st a e=>h st a (by rw[List.getElem?_append_right (by simpa using hi),List.length_map]; exact e)
 nd:=fun i=>by
  unfold sh;split
  .exact List.nodup_nil
  .exact r.nd _
 inj:=fun i j p h1 h2=>by
  unfold sh at h1 h2;split at h1
  .simp at h1
  .split at h2
   .simp at h2
   .have:=r.inj _ _ p h1 h2
    lia
 off:=fun i p h=>by
  unfold sh at h;split at h
  .simp at h
  .exact r.off _ p h
 al:=fun p z=>r.al p (QV.mp z)
theorem Post.unblock{vs:List V}{bs:List D}(hl:vs.length=bs.length)(x:Post K O (sh bs.length fp) H (bs.map own++Z) Z2 (vs.map some++U) (vs.map some++U) L fp2 H2):Post K O fp H Z (Z2.drop bs.length) U U L (fun j=>fp2 (j+bs.length)) H2 where
 rel:=by
  have nn:∀p,NN (fun j=>fp2 (j+bs.length)) (ad O L) p->NN fp2 (ad O L) p:=fun p z=>z.imp (fun⟨j,h⟩=>⟨_,h⟩) id;have hlen:=x.rel.len;rw[List.length_append,List.length_map,hl] at hlen;refine⟨by rw[List.length_drop,hlen]; lia,fun i st a e=>?_,fun i h=>?_,fun i=>x.rel.nd _,fun i j p h1 h2=>?_,fun i p h=>x.rel.off _ p h,fun p z=>x.rel.al p (nn p z)⟩
  .rw[List.getElem?_drop] at e
   obtain⟨v,e1,q⟩:=x.rel.slot _ _ _ e;refine⟨v,?_,Dd nn (by rw[Nat.add_comm]; exact q)⟩;rw[List.getElem?_append_right (by rw[List.length_map]; lia),List.length_map] at e1;rw[<- e1];congr 1;lia
  .exact x.rel.out _ fun st a e=>h st a (by rw[List.getElem?_drop,Nat.add_comm]; exact e)
  .have:=x.rel.inj _ _ p h1 h2
   lia
 nd:=x.nd
 lo:=x.lo
 new:=fun p hp=>(x.new p (hp.imp id fun⟨j,h⟩=>⟨_,h⟩)).imp NZ.mp id
 kept:=x.kept.mono fun p z=>NZ.mp z
 ln:=rfl
 stab:=fun j st a h n=>by
  have e:(bs.map own++Z)[j+bs.length]? = some (some (st,a)):=by rw[List.getElem?_append_right (by simp),List.length_map,Nat.add_sub_cancel]; exact h
  obtain⟨a',e1,_,f⟩:=x.stab _ _ _ e n;exact⟨a',by rw[List.getElem?_drop,Nat.add_comm]; exact e1,rfl,f⟩
theorem Post.updT{p:Addr}{o:HO}{ys:List V}(x:Post K O fp H Z Z1 U σ1 L fp1 H1)(hp:p∈L)(hn:H p=none)(hy:H1 p=some (.lst ys)):Post K O fp H Z Z1 U σ1 L fp1 (upd H1 p o):=by
 have off:∀i,p∉fp1 i:=fun i z=>x.rel.off i p z (.inr hp);have alp:∀q,H1 q≠none->upd H1 p o q≠none:=fun q z=>by
  by_cases e:q=p
  .subst e; rw[AE]; simp
  .rw[AF e]; exact z
 have k:Kept (fun q=>q=p) H1 (upd H1 p o):=fun b u e c=>by
  by_cases hb:b=p
  .subst hb
   rcases c with c|c
   .exact absurd rfl c
   .rw[hy] at e; cases e; cases c
  .rw[AF hb]; exact e
 refine⟨⟨x.rel.len,fun i st a e=>?_,x.rel.out,x.rel.nd,x.rel.inj,x.rel.off,fun q z=>alp q (x.rel.al q z)⟩,x.nd,x.lo,x.new,fun b u e c=>?_,x.ln,x.stab⟩
 .obtain⟨v,e1,q⟩:=x.rel.slot i st a e
  exact⟨v,e1,q.tr (M:=fun q=>q=p) (fun b z=>by rw[z]; exact .inr (.inr hp)) k (fun b z=>.inl z) fun b hb z=>off i (z ▸ hb)⟩
 .have hb:b≠p:=fun z=>by rw[z,hn] at e; cases e
  rw[AF hb];exact x.kept b u e c
theorem F9{p:Addr}{o:HO}{ys:List V}(hy:H p=some (.lst ys)):Kept (fun q=>q=p) H (upd H p o):=fun b u e c=>by
 by_cases hb:b=p
 .subst hb
  rcases c with c|c
  .exact absurd rfl c
  .rw[hy] at e; cases e; cases c
 .rw[AF hb]; exact e
theorem Post.ds{vs:List V}{ds:List D}(x:Post K O fp H Z Z1 U σ1 L fp1 H1)(q:Ar (NN fp O) H vs ds):Ar (NN fp1 (ad O L)) H1 vs ds:=
 q.tr (M:=Fp fp) (fun p z=>.inl z) x.kept fun p z=>by
  rcases z with z|z|z
  .exact(x.new p (.inr z)).imp (fun y=>.inl y) id
  .exact .inl (.inr z)
  .exact(x.new p (.inl z)).imp (fun y=>.inl y) id
theorem F4:∀{vs ws:List V} {ds es:List D},Ar N H vs ds->Ar N H ws es->Ar N H (vs++ws) (ds++es)
 | [],_,[],_,_,q=>q
 | [],_,_::_,_,r,_=>by simp only[Ar] at r
 | _::_,_,[],_,r,_=>by simp only[Ar] at r
 | v::vs,ws,d::ds,es,r,q=>⟨r.1,F4 r.2 q⟩
theorem Tt{n:Nat}{d:D}{bs:List D}{x:V}(q:RepA N H x d)(e:L6 n d=some bs):∃vs,UC K n x H vs/\Ar N H vs bs:=by
 cases n with
 | zero =>
  simp only[L6,Option.some.injEq] at e;subst e;exact⟨[x],rfl,q,trivial⟩
 | succ n =>
  simp only[L6] at e;cases d with
  | tup ds =>
   dsimp only at e;split at e
   .rename_i hl
    cases e;cases q with
    | tup h hz hl' hr=>exact⟨_,⟨_,rfl,.inl (.inl h),by rw[hl']; exact hl⟩,Ar.mk hl' hr⟩
   .cases e
  | _=>simp at e
theorem Uh{r:R}{v:V}{a:A}{n:Option Nat}{Lt:List Addr}(hn:n=nameOf r)(hr:Rel K Z1 U H1 (ad O L) fp1)(q:RR K (NN fp1 (ad O L)) H1 U v r L)(e:peek Z1 r=some a)(p:Post K (ad O L) fp1 H1 (J.lock Z1 n) Z2 U σ2 Lt fp2 H2):
  ∃L',Ap K (NN fp2 (ad (ad O L) Lt)) H2 v a L':=by
 cases r with
 | val b =>
  simp only[peek,Option.some.injEq] at e;subst e;refine⟨L,Ap.tr (M:=Fp fp1) (fun p z=>.inl z) p.kept (fun x z=>?_) (fun x hx z=>?_) q⟩
  .rcases z with z|z|z
   .exact(p.new x (.inr z)).imp (fun y=>.inl y) id
   .exact .inl (.inr z)
   .exact(p.new x (.inl z)).imp (fun y=>.inl y) id
  .obtain⟨i,hi⟩:=z
   exact hr.off i x hi (.inr hx)
 | ref i =>
  subst hn;simp only[peek] at e;split at e
  .rename_i st b hb
   cases e;obtain⟨a',e2,es,ea⟩:=p.stab i .ro a (by rw[EH,hb]; simp[nameOf]) (by decide);cases ea rfl;obtain⟨v',h1,h2⟩:=p.rel.slot i _ _ e2;rw[es,q.2] at h1;cases h1;exact⟨_,h2⟩
  .cases e
theorem F8{it:MI}{pat:Nat}{c:MT}{e:ME}{Q:VK}(h:tE K (AN it pat c e) U H Q):tLc (tI K it) (UC K pat) (tT K c) (tE K e) U H Q:=by
 obtain⟨Z,O,fp,rl,x,Z',h0,k⟩:=h;simp only[AN,bind_eq_some_iff] at h0;obtain⟨⟨ds,n,Z1⟩,e1,h0⟩:=h0;split at h0
 case isFalse=>cases h0
 rename_i hz;simp only[map_eq_some_iff] at h0;obtain⟨⟨es,Z8⟩,e2,e3⟩:=h0;cases e3;refine⟨Z,O,fp,rl,ds,n,Z1,e1,fun J H1 yy acc hacc=>?_⟩;obtain⟨r,v,a,L,fp1,p1,q1,hn,ha,hJ⟩:=yy;have hlk:∀i,n=some i->∃st,Z1[i]? = some (some (st,a)):=fun i hi=>by
  rw[hn] at hi;cases r with
  | val b=>simp[nameOf] at hi
  | ref j =>
   simp only[nameOf,Option.some.injEq] at hi;subst hi;simp only[peek] at ha;split at ha
   .rename_i st b hb
    cases ha;exact⟨st,hb⟩
   .cases ha
 have rl1:Rel K (lock Z1 n) U H1 (ad O L) fp1:=p1.rel.lock;have st0:Post K (ad O L) fp1 H1 (lock Z1 n) (lock Z1 n) U U [acc] fp1 (upd H1 acc (.lst [])):=rl1.post.more (Bm hacc) (by simp) fun p hp=>by
  have:p=acc:=by simpa using hp
  subst this;exact .inr ⟨hacc,by rw[AE]; simp⟩
 refine⟨fun i m ys H'=>m=ds.length-i/\i<=ds.length/\H' acc=some (.lst ys)/\ys.length<=i/\∃Z' fp' done rest,Post K (ad O L) fp1 H1 (lock Z1 n) Z' U U [acc] fp' H'/\Ar (NN fp' (ad (ad O L) [acc])) H' ys done/\EE pat c e (ds.drop i) Z'=some (rest,Z8)/\es=done++rest,
  ⟨ds.length,by simp,Nat.zero_le _,AE,by simp,lock Z1 n,fp1,[],es,st0,trivial,by simpa using e2,rfl⟩,?_⟩
 rintro i m ys H2 ⟨rfl,hi,hy,hyl,Z2,fp2,done,rest,p2,qd,e2,ees⟩;refine⟨hy,?_⟩;obtain⟨L',src⟩:=Uh hn p1.rel q1 ha p2;have offacc:∀j,acc∉fp2 j:=fun j z=>p2.rel.off j acc z (.inr (by simp));by_cases hlt:i<ds.length
 .obtain⟨go,stop,yld⟩:=hJ _ _ ⟨⟨L',src⟩,fun _ _ h=>p2.kept _ _ h (.inr rfl),fun _ _ q=>p2.stayT q⟩
  refine .inr ⟨go i hlt,fun x H3 y=>?_⟩;have hd:ds[i]? = some ds[i]:=by simp[hlt]
  obtain⟨sm,qx0⟩:=yld i x H3 _ y hd;have qx:RepA (NN fp2 (ad (ad O L) [acc])) H3 x ds[i]:=qx0;have p3:Post K (ad O L) fp1 H1 (lock Z1 n) Z2 U U [acc] fp2 H3:=p2.more sm p2.nd fun p hp=>.inl hp;have hy3:H3 acc=some (.lst ys):=sm _ _ hy;have qd3:Ar (NN fp2 (ad (ad O L) [acc])) H3 ys done:=qd.tr (M:=fun _=>False) (fun _ z=>z.elim) (FD.kept sm) fun p z=>.inl z;rw[List.drop_eq_getElem_cons hlt] at e2;simp only[EE,bind_eq_some_iff] at e2;obtain⟨bs,eb,⟨b,Z3⟩,ec,e4⟩:=e2;obtain⟨vs,hu,hvs⟩:=Tt (K:=K) qx eb;have rb:=p3.rel.block hvs;refine⟨vs,hu,_,_,_,rb,b,Z3,ec,fun fp4 H4 p4=>?_⟩;have keep:∀{Z5:Ro} {fp5:Nat->List Addr} {H5:Hp},Post K (ad (ad O L) [acc]) (sh bs.length fp2) H3 (bs.map own++Z2) Z5 (vs.map some++U) (vs.map some++U) [] fp5 H5 ->
    H5 acc=some (.lst ys)/\Post K (ad O L) fp1 H1 (lock Z1 n) (Z5.drop bs.length) U U [acc] (fun j=>fp5 (j+bs.length)) H5/\Ar (NN (fun j=>fp5 (j+bs.length)) (ad (ad O L) [acc])) H5 ys done:=fun {Z5 fp5 H5} p5=>by
   have u:=p5.unblock hvs.len;refine⟨p5.kept _ _ hy3 (.inl fun z=>?_),p3.then u,K8 (fun p z=>FR.mpr z) (u.ds qd3)⟩;obtain⟨j,z⟩:=NZ.mp z;exact offacc j z
  cases b with
  | false =>
   simp only[Bool.false_eq_true,if_false] at e4;dsimp only;rw[if_neg Bool.false_ne_true];obtain⟨h1,h2,h3⟩:=keep p4;exact⟨ds.length-(i+1),by lia,rfl,hlt,h1,by lia,_,_,done,rest,h2,h3,e4,ees⟩
  | true =>
   simp only[if_true,bind_eq_some_iff,map_eq_some_iff] at e4;obtain⟨⟨r5,Z5⟩,e5,⟨d6,Z6⟩,e6,⟨rest',Z7⟩,e7,e8⟩:=e4;cases e8;dsimp only;rw[if_pos rfl];refine⟨Z3,_,fp4,p4.rel0,r5,Z5,e5,fun y H5 yy=>?_⟩;obtain⟨L5,fp5,p5,q5⟩:=yy;obtain⟨fp6,p6,q6⟩:=Cc p5 q5 e6;obtain⟨h1,h2,h3⟩:=keep (p4.next p6);have hacc1:H1 acc=none:=hacc;refine⟨h1,Nat.lt_of_lt_of_le (Nat.lt_of_le_of_lt hyl hlt) hz,ds.length-(i+1),by lia,rfl,hlt,AE,by simp; lia,_,_,done++[d6],rest',h2.updT (by simp) hacc1 h1,?_,e7,by rw[ees]; simp⟩;have tr:∀{ws:List V} {fs:List D},Ar (NN (fun j=>fp6 (j+bs.length)) (ad (ad O L) [acc])) H5 ws fs->Ar (NN (fun j=>fp6 (j+bs.length)) (ad (ad O L) [acc])) (upd H5 acc (.lst (ys++[y]))) ws fs:=fun q =>
    q.tr (M:=fun q=>q=acc) (fun b z=>by rw[z]; exact .inr (.inr (by simp))) (F9 h1) fun p z=>.inl z
   refine tr (F4 h3 ⟨Ek (fun p z=>?_) q6,trivial⟩);exact FR.mpr (z.imp (fun⟨j,q⟩=>⟨_,q⟩) id)
 .have:i=ds.length:=by lia
  subst this;obtain⟨go,stop,yld⟩:=hJ _ _ ⟨⟨L',src⟩,fun _ _ h=>p2.kept _ _ h (.inr rfl),fun _ _ q=>p2.stayT q⟩;simp only[List.drop_length,EE,Option.some.injEq,Prod.mk.injEq] at e2;obtain⟨rfl,rfl⟩:=e2;refine .inl ⟨stop _ (Nat.le_refl _),k _ _ ?_⟩;have p3:=(p1.then (p2.unlock hlk)).drop;refine⟨[acc],fp2,p3,?_⟩;show Ap _ _ _ _ _ _;rw[Ap];rw[List.append_nil] at ees;subst ees;refine⟨acc,ys,[],rfl,rfl,hy,Nat.le_trans hyl hz,An.of (K8 (fun p z=>?_) qd)⟩;rcases z with z|z|z
  .exact .inl z
  .exact .inr (.inl (.inl z))
  .exact .inr (.inr z)
end
noncomputable def FW:List (Own×A)->List A->Ro
 | (st,_)::args,a::as=>(if st=.own then none else some (st,a))::FW args as
 | [],_=>[]
 | _::_,[]=>[]
noncomputable def XF(K:Frag)(O:Addr->Prop)(fp:Nat->List Addr)(H:Hp)(args:List (Own×A))(as':List A)(vs:List V)(a:A)(v:V)(H':Hp):Prop:=
 ∃L fp',Post K O fp H (args.map some) (FW args as') (vs.map some) (vs.map some) L fp' H'/\Ap K (NN fp' (ad O L)) H' v a L
noncomputable def spJ(K:Frag)(Φ:Fn)(np:Nat):Sp:=fun vs H Q _=>∃args O fp,vs.length=np/\Rel K (args.map some) (vs.map some) H O fp/\∃a as',Φ args=some (a,as')/\∀v H',XF K O fp H args as' vs a v H'->Q v H'
theorem IX:∀{args:List (Own×A)} {as:List A} {j:Nat} {st:Own} {a:A},(FW args as)[j]? = some (some (st,a))->∃a0,args[j]? = some (st,a0)/\st≠.own/\as[j]? = some a
 | [],_,j,st,a,h=>by simp[FW] at h
 | _::_,[],j,st,a,h=>by simp[FW] at h
 | (st0,a0)::args,b::as,0,st,a,h=>by
  simp only[FW,List.getElem?_cons_zero,Option.some.injEq] at h;split at h
  .cases h
  .rename_i hs
   cases h;exact⟨a0,rfl,hs,rfl⟩
 | (st0,a0)::args,b::as,j+1,st,a,h=>by
  simp only[FW,List.getElem?_cons_succ] at h;obtain⟨a1,h1,h2,h3⟩:=IX h;exact⟨a1,by simpa using h1,h2,by simpa using h3⟩
theorem Iu:∀{args:List (Own×A)} {as:List A} {j:Nat} {st:Own} {a0 a:A},args[j]? = some (st,a0)->st≠.own->as[j]? = some a->(FW args as)[j]? = some (some (st,a))
 | [],_,j,st,a0,a,h,_,_=>by simp at h
 | _::_,[],j,st,a0,a,_,_,h=>by simp at h
 | (st0,b0)::args,b::as,0,st,a0,a,h,hs,h2=>by
  simp at h h2;obtain⟨rfl,rfl⟩:=h;subst h2;simp[FW,hs]
 | (st0,b0)::args,b::as,j+1,st,a0,a,h,hs,h2=>by
  simp only[FW,List.getElem?_cons_succ];exact Iu (by simpa using h) hs (by simpa using h2)
theorem IY:∀{args:List (Own×A)} {as:List A},(FW args as).length=min args.length as.length
 | [],_=>by simp[FW]
 | _::_,[]=>by simp[FW]
 | (st,_)::args,a::as=>by simp[FW,IY]
section
variable{K:Frag}{Z Z' Z1 Z2:Ro}{U σ' σ1 σ2:St}{H H' H1 H2:Hp}{O O' N:Addr->Prop}{fp fp' fp1 fp2:Nat->List Addr}{L L1:List Addr}
theorem Md{args:List (Own×A)}{vs:List V}{n:Nat}(hl:vs.length=args.length)(x:Post K O fp H (args.map some++List.replicate n none) Z' (vs.map some++List.replicate n none) σ' L fp' H'):
  ∃fp2,Post K O fp H (args.map some) (FW args ((Z'.take args.length).map GB)) (vs.map some) (vs.map some) L fp2 H'/\∀p,NN fp2 (ad O L) p->NN fp' (ad O L) p:=by
 have hlen:args.length <= Z'.length:=by
  have:=x.rel.len;have:=x.ln;simp at this;lia
 have a0:∀{j:Nat} {st:Own} {a:A},args[j]? = some (st,a)->(args.map some++List.replicate n (none:Slot))[j]? = some (some (st,a)):=fun {j st a} e=>by
  rw[List.getElem?_append_left (by simpa using Aq e),List.getElem?_map,e]; rfl
 have v0:∀{j:Nat},j<args.length->(vs.map some++List.replicate n (none:Option V))[j]? = (vs.map some)[j]?:=fun {j} h=>by
  rw[List.getElem?_append_left (by rw[List.length_map,hl]; exact h)]
 -- where a lent name stands
 have key:∀{j:Nat} {st:Own} {a:A},args[j]? = some (st,a)->st≠.own->∃a',Z'[j]? = some (some (st,a'))/\σ'[j]? = (vs.map some)[j]?/\(st=.ro->a'=a)/\((Z'.take args.length).map GB)[j]? = some a':=fun {j st a} e h=>by
  obtain⟨a',e1,e2,e3⟩:=x.stab j st a (a0 e) h;refine⟨a',e1,by rw[e2,v0 (Aq e)],e3,?_⟩;rw[List.getElem?_map,List.getElem?_take_of_lt (Aq e),e1];rfl
 let fp2:Nat->List Addr:=fun j=>match (FW args ((Z'.take args.length).map GB))[j]? with
  | some (some _)=>fp' j
  | _=>[]
 have sub:∀j p,p∈fp2 j->p∈fp' j/\∃st a,(FW args ((Z'.take args.length).map GB))[j]? = some (some (st,a)):=fun j p h=>by
  simp only[fp2] at h;split at h
  .rename_i y e
   exact⟨h,y.1,y.2,e⟩
  .simp at h
 have nn:∀p,NN fp2 (ad O L) p->NN fp' (ad O L) p:=fun p z=>z.imp (fun⟨j,q⟩=>⟨j,(sub j p q).1⟩) id;refine⟨fp2,⟨⟨?_,fun j st a e=>?_,fun j h=>?_,fun j=>?_,fun i j p h1 h2=>x.rel.inj i j p (sub i p h1).1 (sub j p h2).1,fun j p h=>x.rel.off j p (sub j p h).1,fun p z=>x.rel.al p (nn p z)⟩,x.nd,x.lo,fun p hp=>x.new p (hp.imp id fun⟨j,q⟩=>⟨j,(sub j p q).1⟩),x.kept,rfl,fun j st a e h=>?_⟩,nn⟩
 .rw[IY]; simp[hl]; lia
 .obtain⟨a0,e1,e2,e3⟩:=IX e
  obtain⟨a',e4,e5,_,e6⟩:=key e1 e2;rw[e3] at e6; cases e6;obtain⟨v,e7,q⟩:=x.rel.slot j st a e4;refine⟨v,by rw[<- e5]; exact e7,?_⟩;have:fp2 j=fp' j:=by simp only[fp2,e]
  rw[this];exact Dd nn q
 .simp only[fp2]
  split
  .rename_i y e
   exact absurd e (h y.1 y.2)
  .rfl
 .simp only[fp2]
  split
  .exact x.rel.nd j
  .exact List.nodup_nil
 .rw[List.getElem?_map] at e
  cases q:args[j]? with
  | none=>rw[q] at e; cases e
  | some y =>
   rw[q] at e;cases e;obtain⟨a',e4,e5,e6,e7⟩:=key q h;exact⟨a',Iu q h e7,rfl,e6⟩
theorem Rel.start{args:List (Own×A)}{vs:List V}(r:Rel K (args.map some) (vs.map some) H O fp)(n:Nat):Rel K (args.map some++List.replicate n none) (vs.map some++List.replicate n none) H O fp where
 len:=by have:=r.len; simp at this |-; exact this
 slot:=fun i st a e=>by
  by_cases hi:i<args.length
  .rw[List.getElem?_append_left (by simpa using hi)] at e
   obtain⟨v,e1,q⟩:=r.slot i st a e;exact⟨v,by rw[List.getElem?_append_left (by simpa using Aq e1)]; exact e1,q⟩
  .rw[List.getElem?_append_right (by simpa using hi),List.getElem?_replicate] at e
   split at e<;>cases e
 out:=fun i h=>r.out i fun st a e=>h st a (by rw[List.getElem?_append_left (by simpa using Aq e)]; exact e)
 nd:=r.nd
 inj:=r.inj
 off:=r.off
 al:=r.al
theorem NS{np nn:Nat}{b:MS}{vs:List V}{Q:VK}{E:XK}(h:spJ K (fnM np nn b) np vs H Q E):tS K b { nx:=fun _ H'=>Q .non H',rt:=Q } (vs.map some++List.replicate (nn-np) none) H:=by
 obtain⟨args,O,fp,hl,rl,a,as',e,k⟩:=h;have hl2:vs.length=args.length:=by have:=rl.len; simp at this; exact this.symm
 simp only[fnM] at e;split at e
 .rename_i ha
  simp only[bind_eq_some_iff] at e;obtain⟨f,e1,e2⟩:=e;refine⟨_,O,fp,rl.start (nn-np),f,e1,?_⟩;cases f with
  | next Z' =>
   cases e2;intro σ' fp' H' p;obtain⟨fp2,p2,_⟩:=Md hl2 p;rw[ha] at p2;exact k _ _ ⟨[],fp2,p2,Ej .non⟩
  | ret b Z' =>
   cases e2;intro σ' v L fp' H' p q;obtain⟨fp2,p2,n2⟩:=Md hl2 p;rw[ha] at p2;exact k _ _ ⟨L,fp2,p2,Dd n2 q⟩
  | brk Z'=>cases e2
  | cnt Z'=>cases e2
 .cases e
theorem RRs.split:∀{rs:List R} {vs:List V} {L:List Addr},RRs K N H U vs rs L->L.Nodup->∃Ls:Nat->List Addr,(∀j v r,vs[j]? = some v->rs[j]? = some r->RR K N H U v r (Ls j))/\(∀j p,p∈Ls j->p∈L)/\(∀j,(Ls j).Nodup) /\
  (∀i j p,p∈Ls i->p∈Ls j->i=j)/\vs.length=rs.length/\∀j,rs.length<=j->Ls j=[]:=by
 intro _l;induction _l with
 | nil =>
  intro _m;cases _m with
  | nil =>
   intro L q nd;exact⟨fun _=>[],fun j v r h=>by simp at h,fun j p h=>by simp at h,fun _=>List.nodup_nil,fun i j p h=>by simp at h,rfl,fun _ _=>rfl⟩
  | cons _ _ =>
   intro _ q _;simp only[RRs] at q
 | cons r rs ih =>
  intro _m;cases _m with
  | nil =>
   intro _ q _;simp only[RRs] at q
  | cons v vs =>
   intro L q nd;simp only[RRs] at q;obtain⟨L1,L2,rfl,q1,q2⟩:=q;obtain⟨n1,n2,n3⟩:=List.nodup_append.mp nd;obtain⟨Ls,h1,h2,h3,h4,h5,h6⟩:=ih q2 n2;refine⟨fun j=>match j with|0=>L1|j+1=>Ls j,fun j w s e1 e2=>?_,fun j p h=>?_,fun j=>?_,fun i j p e1 e2=>?_,by simp[h5],fun j hj=>?_⟩
   .cases j with
    | zero=>simp at e1 e2; subst e1; subst e2; exact q1
    | succ j=>exact h1 j w s (by simpa using e1) (by simpa using e2)
   .cases j with
    | zero=>exact List.mem_append_left _ h
    | succ j=>exact List.mem_append_right _ (h2 j p h)
   .cases j with
    | zero=>exact n1
    | succ j=>exact h3 j
   .cases i with
    | zero =>
     cases j with
     | zero=>rfl
     | succ j=>exact absurd rfl (n3 p e1 p (h2 j p e2))
    | succ i =>
     cases j with
     | zero=>exact absurd rfl (n3 p e2 p (h2 i p e1))
     | succ j=>rw[h4 i j p e1 e2]
   .cases j with
    | zero=>simp at hj
    | succ j=>exact h6 j (by simpa using hj)
theorem EI:∀{rs:List R} {j i:Nat},rs[j]? = some (.ref i)->i∈refs rs
 | [],j,i,h=>by simp at h
 | .ref k::rs,0,i,h=>by simp at h; subst h; simp[refs]
 | .val a::rs,0,i,h=>by simp at h
 | .ref k::rs,j+1,i,h=>by simp only[refs]; exact List.mem_cons_of_mem _ (EI (by simpa using h))
 | .val a::rs,j+1,i,h=>by simp only[refs]; exact EI (by simpa using h)
theorem Je:∀{rs:List R},(refs rs).Nodup->∀{i j k:Nat},rs[i]? = some (.ref k)->rs[j]? = some (.ref k)->i=j
 | [],_,i,j,k,h,_=>by simp at h
 | .val a::rs,nd,0,_,_,h,_=>by simp at h
 | .val a::rs,nd,_+1,0,_,_,h=>by simp at h
 | .val a::rs,nd,i+1,j+1,k,h1,h2=>by
  have e:=Je (rs:=rs) nd (i:=i) (j:=j) (k:=k) (by simpa using h1) (by simpa using h2);rw[e]
 | .ref a::rs,nd,0,0,_,_,_=>rfl
 | .ref a::rs,nd,0,j+1,k,h1,h2=>by
  simp at h1; subst h1;simp only[refs,List.nodup_cons] at nd;exact absurd (EI (by simpa using h2)) nd.1
 | .ref a::rs,nd,i+1,0,k,h1,h2=>by
  simp at h2; subst h2;simp only[refs,List.nodup_cons] at nd;exact absurd (EI (by simpa using h1)) nd.1
 | .ref a::rs,nd,i+1,j+1,k,h1,h2=>by
  simp only[refs,List.nodup_cons] at nd;have e:=Je (rs:=rs) nd.2 (i:=i) (j:=j) (k:=k) (by simpa using h1) (by simpa using h2);rw[e]
theorem Jh{i k:Nat}{a:A}:(Ph Z k a)[i]? = if i=k then (match Z[i]? with|some (some (st,_))=>some (some (st,a))|x=>x) else Z[i]?:=by
 unfold Ph;split
 .rename_i st b e
  by_cases h:i=k
  .subst h
   rw[List.getElem?_set_self (Aq e),if_pos rfl,e]
  .rw[List.getElem?_set_ne (Ne.symm h),if_neg h]
 .rename_i hn
  by_cases h:i=k
  .subst h
   rw[if_pos rfl];split
   .rename_i st b e
    exact absurd e (hn st b)
   .rfl
  .rw[if_neg h]
theorem ED:∀{rs:List R} {as:List A} {Z:Ro} {i:Nat},i∉refs rs->(back rs as Z)[i]? = Z[i]?
 | [],as,Z,i,_=>by cases as<;>rfl
 | .ref k::rs,[],Z,i,_=>rfl
 | .val k::rs,[],Z,i,_=>rfl
 | .ref k::rs,a::as,Z,i,h=>by
  simp only[refs,List.mem_cons,not_or] at h;simp only[back];rw[ED h.2,Jh,if_neg h.1]
 | .val k::rs,a::as,Z,i,h=>by
  simp only[refs] at h;simp only[back];exact ED h
theorem GN:∀{rs:List R} {as:List A} {Z:Ro} {i j:Nat} {st:Own} {b a:A},(refs rs).Nodup->rs[j]? = some (.ref i)->as[j]? = some a -> Z[i]? = some (some (st,b))->(back rs as Z)[i]? = some (some (st,a))
 | [],as,Z,i,j,st,b,a,_,h,_,_=>by simp at h
 | _::_,[],Z,i,j,st,b,a,_,_,h,_=>by simp at h
 | .ref k::rs,c::as,Z,i,0,st,b,a,nd,h1,h2,h3=>by
  simp at h1 h2;subst h1; subst h2;simp only[refs,List.nodup_cons] at nd;simp only[back];rw[ED nd.1,Jh,if_pos rfl,h3]
 | .val k::rs,c::as,Z,i,0,st,b,a,nd,h1,h2,h3=>by simp at h1
 | .ref k::rs,c::as,Z,i,j+1,st,b,a,nd,h1,h2,h3=>by
  simp only[refs,List.nodup_cons] at nd;simp only[back];have hk:i≠k:=by
   rintro rfl;exact nd.1 (EI (by simpa using h1))
  exact GN nd.2 (by simpa using h1) (by simpa using h2) (by rw[Jh,if_neg hk]; exact h3)
 | .val k::rs,c::as,Z,i,j+1,st,b,a,nd,h1,h2,h3=>by
  simp only[refs] at nd;simp only[back];exact GN nd (by simpa using h1) (by simpa using h2) h3
theorem Il:∀{rs:List R} {as:List A} {Z:Ro},(back rs as Z).length=Z.length
 | [],as,Z=>by cases as<;>rfl
 | .ref k::rs,[],Z=>rfl
 | .val k::rs,[],Z=>rfl
 | .ref k::rs,a::as,Z=>by
  simp only[back];rw[Il];unfold Ph;split<;>simp
 | .val k::rs,a::as,Z=>by simp only[back]; exact Il
theorem args_get:∀{rs:List R} {args:List (Own×A)},De Z rs=some args->args.length=rs.length/\∀(j:Nat) (r:R),rs[j]? = some r->∃y,args[j]? = some y/\GL Z r=some y:=by
 intro _l;induction _l with
 | nil =>
  intro args h;simp only[De,Option.some.injEq] at h;subst h;exact⟨rfl,fun j r h=>by simp at h⟩
 | cons r rs ih =>
  intro args h;simp only[De,bind_eq_some_iff,map_eq_some_iff] at h;obtain⟨y,h1,ys,h2,rfl⟩:=h;obtain⟨e1,e2⟩:=ih h2;refine⟨by simp[e1],fun j s hj=>?_⟩;cases j with
  | zero=>simp at hj; subst hj; exact⟨y,rfl,h1⟩
  | succ j=>exact e2 j s (by simpa using hj)
theorem EC{i:Nat}{y:Own×A}(h:GL Z (.ref i)=some y):∃st,Z[i]? = some (some (st,y.2))/\y.1≠.own/\(st=.ro->y.1=.ro):=by
 simp only[GL] at h;split at h
 .rename_i a e
  cases h;exact⟨_,e,fun z=>(by cases z),fun _=>rfl⟩
 .rename_i st a hn e
  cases h;refine⟨_,e,fun z=>(by cases z),fun z=>?_⟩
  exact(hn z).elim
 .cases h
end
section
variable{K:Frag}{Z Z' Z1 Z2:Ro}{U σ' σ1 σ2:St}{H H' H1 H2:Hp}{O O' N:Addr->Prop}{fp fp' fp1 fp2:Nat->List Addr}{L L1:List Addr}
noncomputable def fpC(rs:List R)(Ls fp1:Nat->List Addr):Nat->List Addr:=fun j=>match rs[j]? with
 | some (.val _)=>Ls j
 | some (.ref i)=>fp1 i
 | none=>[]
noncomputable def ixR(rs:List R)(i:Nat):Option Nat:=rs.findIdx? fun r=>match r with
 | .ref k=>k==i
 | .val _=>false
theorem G6{rs:List R}{i j:Nat}(h:ixR rs i=some j):rs[j]? = some (.ref i):=by
 unfold ixR at h;obtain⟨hj,h1,_⟩:=List.findIdx?_eq_some_iff_getElem.mp h;cases e:rs[j] with
 | val a=>rw[e] at h1; simp at h1
 | ref k =>
  rw[e] at h1;have:k=i:=by simpa using h1
  subst this;rw[List.getElem?_eq_getElem hj,e]
theorem G5{rs:List R}{i:Nat}(h:ixR rs i=none):i∉refs rs:=by
 unfold ixR at h;rw[List.findIdx?_eq_none_iff] at h;intro hm;have:∀{rs:List R},i∈refs rs->R.ref i∈rs:=by
  intro rs;induction rs with
  | nil=>intro h; simp[refs] at h
  | cons r rs ih =>
   intro h;cases r with
   | val a=>simp only[refs] at h; exact List.mem_cons_of_mem _ (ih h)
   | ref k =>
    simp only[refs,List.mem_cons] at h;rcases h with rfl|h
    .exact List.mem_cons_self
    .exact List.mem_cons_of_mem _ (ih h)
 have:=h _ (this hm);simp at this
theorem Uo{Φ:Fn}{np:Nat}{m:MA}{Q:VK}{E:XK}(hnp:∀args y,Φ args=some y->args.length=np)(h:tE K (Am Φ m) U H Q):RW (spJ K Φ np) [] E (tA K m) U H Q:=by
 obtain⟨Z,O,fp,rl,x,Z',e,k⟩:=h;simp only[Am,bind_eq_some_iff] at e;obtain⟨⟨rs,Z1⟩,e1,args,e2,e3⟩:=e;split at e3
 case isFalse=>cases e3
 rename_i hnd;simp only[map_eq_some_iff] at e3;obtain⟨⟨a,as'⟩,e3,e4⟩:=e3;cases e4;refine⟨Z,O,fp,rl,rs,Z1,e1,fun vs H1 yy=>?_⟩;obtain⟨L,fp1,p,q⟩:=yy;obtain⟨Ls,s1,s2,s3,s4,s5,s6⟩:=q.split p.nd;obtain⟨g1,g2⟩:=args_get e2;rw[List.append_nil];have rs_of:∀{j:Nat} {y:Own×A},args[j]? = some y->∃r v,rs[j]? = some r/\vs[j]? = some v/\GL Z1 r=some y:=fun {j y} hy=>by
  have hj:j<rs.length:=by rw[<- g1]; exact Aq hy
  obtain⟨y',h1,h2⟩:=g2 j rs[j] (by simp[hj]);rw[hy] at h1; cases h1;exact⟨rs[j],vs[j]'(by rw[s5]; exact hj),by simp[hj],by simp,h2⟩
 -- what goes with the call
 have fpc:∀j pp,pp∈fpC rs Ls fp1 j->(∃a,rs[j]? = some (.val a)/\pp∈Ls j)\/(∃i,rs[j]? = some (.ref i)/\pp∈fp1 i):=fun j pp hp=>by
  unfold fpC at hp;split at hp
  .rename_i a e; exact .inl ⟨a,e,hp⟩
  .rename_i i e; exact .inr ⟨i,e,hp⟩
  .simp at hp
 have cN:∀pp,Fp (fpC rs Ls fp1) pp->NN fp1 (ad O L) pp:=fun pp ⟨j,hp⟩=>by
  rcases fpc j pp hp with ⟨_,_,hp⟩|⟨i,_,hp⟩
  .exact .inr (.inr (s2 j pp hp))
  .exact .inl ⟨i,hp⟩
 have oN:∀pp,O pp->¬Fp (fpC rs Ls fp1) pp:=fun pp ho ⟨j,hp⟩=>by
  rcases fpc j pp hp with ⟨_,_,hp⟩|⟨i,_,hp⟩
  .exact p.lo pp (s2 j pp hp) ho
  .exact p.rel.off i pp hp (.inl ho)
 have kN:∀i pp,pp∈fp1 i->i∉refs rs->¬Fp (fpC rs Ls fp1) pp:=fun i pp hp hi ⟨j,hq⟩=>by
  rcases fpc j pp hq with ⟨_,_,hq⟩|⟨i',hr,hq⟩
  .exact p.rel.off i pp hp (.inr (s2 j pp hq))
  .have:=p.rel.inj i i' pp hp hq
   subst this;exact hi (EI hr)
 let OC:Addr->Prop:=fun pp=>NN fp1 (ad O L) pp/\¬Fp (fpC rs Ls fp1) pp
 have cNN:∀pp,NN (fpC rs Ls fp1) OC pp->NN fp1 (ad O L) pp:=fun pp z=>z.elim (cN pp) fun z=>z.1;have relC:Rel K (args.map some) (vs.map some) H1 OC (fpC rs Ls fp1):=by
  refine⟨by simp[g1,s5],fun j st b hb=>?_,fun j h=>?_,fun j=>?_,fun i j pp h1 h2=>?_,fun j pp hp z=>z.2 ⟨j,hp⟩,fun pp z=>p.rel.al pp (cNN pp z)⟩
  .rw[List.getElem?_map] at hb
   cases hy:args[j]? with
   | none=>rw[hy] at hb; cases hb
   | some y =>
    rw[hy] at hb;cases hb;obtain⟨r,v,hr,hv,ha⟩:=rs_of hy;refine⟨v,by rw[List.getElem?_map,hv]; rfl,Dd cNN ?_⟩;have q1:=s1 j v r hv hr;cases r with
    | val c =>
     simp only[GL,Option.some.injEq] at ha;cases ha;have:fpC rs Ls fp1 j=Ls j:=by simp[fpC,hr]
     rw[this];exact q1
    | ref i =>
     obtain⟨st',h1,h2,_⟩:=EC ha;obtain⟨v',h3,h4⟩:=p.rel.slot i _ _ h1;rw[q1.2] at h3; cases h3;have:fpC rs Ls fp1 j=fp1 i:=by simp[fpC,hr]
     rw[this];exact h4
  .unfold fpC
   split
   .rename_i c e
    obtain⟨y,hy,_⟩:=g2 j _ e;exact absurd (by rw[List.getElem?_map,hy]; rfl) (h y.1 y.2)
   .rename_i c e
    obtain⟨y,hy,_⟩:=g2 j _ e;exact absurd (by rw[List.getElem?_map,hy]; rfl) (h y.1 y.2)
   .rfl
  .unfold fpC
   split
   .exact s3 j
   .exact p.rel.nd _
   .exact List.nodup_nil
  .rcases fpc i pp h1 with ⟨c1,r1,z1⟩|⟨i1,r1,z1⟩
   .rcases fpc j pp h2 with ⟨c2,r2,z2⟩|⟨i2,r2,z2⟩
    .exact s4 i j pp z1 z2
    .exact absurd (.inr (s2 i pp z1)) (p.rel.off i2 pp z2)
   .rcases fpc j pp h2 with ⟨c2,r2,z2⟩|⟨i2,r2,z2⟩
    .exact absurd (.inr (s2 j pp z2)) (p.rel.off i1 pp z1)
    .have:=p.rel.inj i1 i2 pp z1 z2
     subst this;exact Je hnd r1 r2
 refine⟨args,OC,fpC rs Ls fp1,by rw[s5,<- g1]; exact hnp _ _ e3,relC,a,as',e3,fun v H2 ⟨L',fpD,pc,qc⟩=>k v H2 ?_⟩
 -- behind the call
 have hlen:rs.length<=as'.length:=by
  have:=pc.rel.len;rw[IY] at this;simp at this;lia
 let fp2:Nat->List Addr:=fun i=>match ixR rs i with
  | some j=>fpD j
  | none=>fp1 i
 have fp2c:∀i pp,pp∈fp2 i->(∃j,rs[j]? = some (.ref i)/\pp∈fpD j)\/(i∉refs rs/\pp∈fp1 i):=fun i pp hp=>by
  simp only[fp2] at hp;split at hp
  .rename_i j e; exact .inl ⟨j,G6 e,hp⟩
  .rename_i e; exact .inr ⟨G5 e,hp⟩
 have oOC:∀pp,O pp->OC pp:=fun pp z=>⟨.inr (.inl z),oN pp z⟩;have fOC:∀i pp,pp∈fp1 i->i∉refs rs->OC pp:=fun i pp hp hi=>⟨.inl ⟨i,hp⟩,kN i pp hp hi⟩;have nD:∀pp,NN fp2 (ad O L') pp->NN fpD (ad OC L') pp:=fun pp z=>by
  rcases z with ⟨i,z⟩|z|z
  .rcases fp2c i pp z with ⟨j,_,z⟩|⟨hi,z⟩
   .exact .inl ⟨j,z⟩
   .exact .inr (.inl (fOC i pp z hi))
  .exact .inr (.inl (oOC pp z))
  .exact .inr (.inr z)
 have hnew:∀pp,(pp∈L'\/Fp fpD pp)->NN fp1 (ad O L) pp\/H1 pp=none:=fun pp z=>(pc.new pp z).imp (cN pp) id;have back1:∀pp,(Fp (fpC rs Ls fp1) pp\/H1 pp=none)->Fp fp pp\/H pp=none:=fun pp z=>by
  rcases z with ⟨j,z⟩|z
  .rcases fpc j pp z with ⟨_,_,z⟩|⟨i,_,z⟩
   .exact p.new pp (.inl (s2 j pp z))
   .exact p.new pp (.inr ⟨i,z⟩)
  .cases e:H pp with
   | none=>exact .inr rfl
   | some o =>
    by_cases hf:Fp fp pp
    .exact .inl hf
    .rw[p.kept pp o e (.inl hf)] at z; cases z
 have slot2:∀i st b,(back rs as' Z1)[i]? = some (some (st,b))->(∃j,ixR rs i=some j/\rs[j]? = some (.ref i)/\as'[j]? = some b/\∃c,Z1[i]? = some (some (st,c)))\/(ixR rs i=none/\i∉refs rs/\Z1[i]? = some (some (st,b))):=fun i st b hb=>by
  cases e:ixR rs i with
  | some j =>
   have hr:=G6 e;have hj:j<rs.length:=Aq hr;obtain⟨y,hy,ha⟩:=g2 j _ hr;obtain⟨st',h1,_,_⟩:=EC ha;have hb':=GN (as:=as') (a:=as'[j]'(by lia)) hnd hr (by simp) h1;rw[hb] at hb';cases hb';exact .inl ⟨j,rfl,hr,by simp,_,h1⟩
  | none =>
   have hi:=G5 e;rw[ED hi] at hb;exact .inr ⟨rfl,hi,hb⟩
 have rel2:Rel K (back rs as' Z1) U H2 (ad O L') fp2:=by
  refine⟨by rw[Il]; exact p.rel.len,fun i st b hb=>?_,fun i h=>?_,fun i=>?_,fun i1 i2 pp h1 h2=>?_,fun i pp h z=>?_,fun pp z=>pc.rel.al pp (nD pp z)⟩
  .rcases slot2 i st b hb with ⟨j,ej,hr,hb2,c,hc⟩|⟨ej,hi,hb2⟩
   .obtain⟨y,hy,ha⟩:=g2 j _ hr
    obtain⟨st',h1,h2,_⟩:=EC ha;obtain⟨v',h3,h4⟩:=pc.rel.slot j _ _ (Iu (st:=y.1) (a0:=y.2) hy h2 hb2);have hv:vs[j]? = some v':=by
     rw[List.getElem?_map] at h3;cases e:vs[j]? with
     | none=>rw[e] at h3; cases h3
     | some w=>rw[e] at h3; cases h3; rfl
    have q1:=s1 j v' _ hv hr;have:fp2 i=fpD j:=by simp only[fp2,ej]
    exact⟨v',q1.2,by rw[this]; exact Dd nD h4⟩
   .obtain⟨v',h3,h4⟩:=p.rel.slot i _ _ hb2
    have:fp2 i=fp1 i:=by simp only[fp2,ej]
    refine⟨v',h3,?_⟩;rw[this];refine h4.tr (M:=Fp (fpC rs Ls fp1)) cN pc.kept (fun pp z=>?_) fun pp hp=>kN i pp hp hi;rcases z with ⟨i',z⟩|z|z
    .rcases fp2c i' pp z with ⟨j,_,z⟩|⟨_,z⟩
     .exact hnew pp (.inr ⟨j,z⟩)
     .exact .inl (.inl ⟨i',z⟩)
    .exact .inl (.inr (.inl z))
    .exact hnew pp (.inl z)
  .simp only[fp2]
   split
   .rename_i j ej
    have hr:=G6 ej;have hj:j<rs.length:=Aq hr;obtain⟨y,hy,ha⟩:=g2 j _ hr;obtain⟨st',h1,_,_⟩:=EC ha;exact absurd (GN (as:=as') (a:=as'[j]'(by lia)) hnd hr (by simp) h1) (h _ _)
   .rename_i ej
    exact p.rel.out i fun st b hb=>h st b (by rw[ED (G5 ej)]; exact hb)
  .simp only[fp2]
   split
   .exact pc.rel.nd _
   .exact p.rel.nd _
  .rcases fp2c i1 pp h1 with ⟨j1,r1,z1⟩|⟨r1,z1⟩
   .rcases fp2c i2 pp h2 with ⟨j2,r2,z2⟩|⟨r2,z2⟩
    .have:=pc.rel.inj j1 j2 pp z1 z2
     subst this;rw[r1] at r2; cases r2; rfl
    .exact absurd (.inl (fOC i2 pp z2 r2)) (pc.rel.off j1 pp z1)
   .rcases fp2c i2 pp h2 with ⟨j2,r2,z2⟩|⟨r2,z2⟩
    .exact absurd (.inl (fOC i1 pp z1 r1)) (pc.rel.off j2 pp z2)
    .exact p.rel.inj i1 i2 pp z1 z2
  .rcases fp2c i pp h with ⟨j,r1,z1⟩|⟨r1,z1⟩
   .exact pc.rel.off j pp z1 (z.imp (oOC pp) id)
   .rcases z with z|z
    .exact p.rel.off i pp z1 (.inl z)
    .exact pc.lo pp z (fOC i pp z1 r1)
 refine⟨L',fp2,⟨rel2,pc.nd,fun pp hp z=>pc.lo pp hp (oOC pp z),fun pp hp=>?_,p.kept.trans pc.kept fun pp z=>back1 pp (.inl z),rfl,p.stab.trans fun i st b hb hs=>?_⟩,Dd nD qc⟩
 .rcases hp with hp|⟨i,hp⟩
  .exact back1 pp (pc.new pp (.inl hp))
  .rcases fp2c i pp hp with ⟨j,_,z⟩|⟨_,z⟩
   .exact back1 pp (pc.new pp (.inr ⟨j,z⟩))
   .exact p.new pp (.inr ⟨i,z⟩)
 .cases e:ixR rs i with
  | none=>exact⟨b,by rw[ED (G5 e)]; exact hb,rfl,fun _=>rfl⟩
  | some j =>
   have hr:=G6 e;have hj:j<rs.length:=Aq hr;obtain⟨y,hy,ha⟩:=g2 j _ hr;obtain⟨st',h1,h2,h3⟩:=EC ha;rw[hb] at h1; cases h1;refine⟨_,GN (as:=as') (a:=as'[j]'(by lia)) hnd hr (by simp) hb,rfl,fun z=>?_⟩;obtain⟨a',h4,_,h5⟩:=pc.stab j y.1 y.2 (by rw[List.getElem?_map,hy]; rfl) h2;obtain⟨_,_,_,h6⟩:=IX h4;have:as'[j]? = some (as'[j]'(by lia)):=by simp
   rw[this] at h6;have e5:=h5 (h3 z);have e6:as'[j]'(by lia)=a':=Option.some.inj h6;rw[e6,e5]
end
end J
end
section
namespace J
open PySem PySem.Spec PyProof.Rows L2
noncomputable def JE(X:Cx)(e:Expr)(m:ME):Prop:=PE X e (tE X.K m)
noncomputable def JT(X:Cx)(e:Expr)(m:MT):Prop:=PT X e (tT X.K m)
noncomputable def JW(X:Cx)(e:Expr)(m:MT):Prop:=PW X e (tT X.K m)
noncomputable def JA(X:Cx)(es:List Expr)(m:MA):Prop:=PA X es (tA X.K m)
noncomputable def JI(X:Cx)(tg e:Expr)(m:MI):Prop:=PI X tg e (tI X.K m)
noncomputable def JS(X:Cx)(s:Stmt)(m:MS):Prop:=PS X s (tS X.K m)
noncomputable def JSs(X:Cx)(s:List Stmt)(m:MS):Prop:=PSs X s (tS X.K m)
section
variable{X:Cx}{a b c e:Expr}{es:List Expr}{m m1 m2 m3:ME}{ms:MA}{mt mt2:MT}{mi:MI}{p pos pos':Pos}{x:Str}{s:Stmt}{ss:List Stmt}{w1 w2:MS}
theorem AA{t t':TE}(h:PE X e t)(w:∀U H Q,t' U H Q->t U H Q):PE X e t':=fun pins s U H Q I q=>h pins s U H Q I (w U H Q q)
theorem Hf{t t':TT}(h:PT X e t)(w:∀U H Q,t' U H Q->t U H Q):PT X e t':=fun pins s U H Q I q=>h pins s U H Q I (w U H Q q)
theorem TZ{t t':TT}(h:PW X e t)(w:∀U H Q,t' U H Q->t U H Q):PW X e t':=fun wh pins s U H Q I q=>h wh pins s U H Q I (w U H Q q)
theorem Of{t t':TA}(h:PA X es t)(w:∀U H Q,t' U H Q->t U H Q):PA X es t':=fun pp pins s U H Q I q=>h pp pins s U H Q I (w U H Q q)
theorem Br{t t':TS}(h:PS X s t)(w:∀D U H,t' D U H->t D U H):PS X s t':=fun pins s U H D I q=>h pins s U H D I (w D U H q)
theorem Mb{t t':TS}(h:PSs X ss t)(w:∀D U H,t' D U H->t D U H):PSs X ss t':=fun pins s U H D I q=>h pins s U H D I (w D U H q)
theorem F3{tg:Expr}{t t':TI}(h:PI X tg e t)(w:∀U H R,t' U H R->t U H R):PI X tg e t':=fun pins s U H R I q=>h pins s U H R I (w U H R q)
theorem VP(i:Nat)(hN:X.N[i]? = some x)(hv:Vis X.env.scope x)(hd:(x==("__debug__" : Str))=false)(hcd:(x==("__classdict__" : Str))=false):JE X (.Name x pos) (Aa i):=AA (Jb hN hv hd hcd) fun _ _ _ h=>R1 h
theorem Ag{i:Int}{j:Nat}:JE X (.Constant (.int i) j pos) (Ah (.int i)):=AA Wu fun _ _ _ h=>Jo (fun _ _=>.int i) h
theorem Fv{b:Bool}{j:Nat}:JE X (.Constant (.bool b) j pos) (Ah (.bl b)):=AA Ye fun _ _ _ h=>Jo (fun _ _=>.bl b) h
theorem MY{j:Nat}:JE X (.Constant .none j pos) (Ah .non):=AA WD fun _ _ _ h=>Jo (fun _ _=>.non) h
theorem Iw{z:Str}{j:Nat}(hz:z.length<=sizeLine):JE X (.Constant (.str z) j pos) (Ah (.str z)):=AA WH fun _ _ _ h=>Jo (fun _ _=>.str z hz) h
theorem Kz{n:Int}(G:GInt X.mg x n)(hg:Gl X x)(hd:(x==("__debug__" : Str))=false):JE X (.Name x pos) (Ah (.int n)):=AA (Tx G rfl hg hd) fun _ _ _ h=>Jo (fun _ _=>.int n) h
theorem AW(h:JE X e m):JE X e (AK m):=AA h fun _ _ _ h=>RZ h
theorem Af:JA X [] Aj:=Of Ff fun _ _ _ h=>FZ h
theorem Ab(hs:starEach (e::es) X.env=(false,eval e X.env)::starEach es X.env)(h:JE X e m)(t:JA X es ms):JA X (e::es) (Ac m ms):=Of (CZ h t hs) fun _ _ _ h=>DD h
noncomputable def r1L(r:V->Hp->VK->Prop):List V->Hp->VK->Prop:=fun xs H Q=>∃x,xs=[x]/\r x H Q
noncomputable def r2L(r:R2):List V->Hp->VK->Prop:=fun xs H Q=>∃x y,xs=[x,y]/\r x y H Q
noncomputable def m1L(m:ME):MA:=Ac m Aj
noncomputable def m2L(m m':ME):MA:=Ac m (Ac m' Aj)
theorem two{K:Frag}{f:List A->Option A}{r:R2}(ok:OpN K f (r2L r)){U:L2.St}{H:Hp}{Q:VK}(h:tE K (opM f (m2L m1 m2)) U H Q):tOp r (tE K m1) (tE K m2) U H Q:=by
 have h1:=DD (HR ok h);refine tE.mono h1 fun v H1 h2=>tE.mono (DD h2) fun u H2 h3=>?_;obtain⟨x,y,e,q⟩:=FZ h3;cases e;exact q
theorem one{K:Frag}{f:List A->Option A}{r:V->Hp->VK->Prop}(ok:OpN K f (r1L r)){U:L2.St}{H:Hp}{Q:VK}(h:tE K (opM f (m1L m)) U H Q):tUn r (tE K m) U H Q:=by
 refine tE.mono (DD (HR ok h)) fun v H1 h2=>?_;obtain⟨x,e,q⟩:=FZ h2;cases e;exact q
theorem Av{op:Operator}{f:List A->Option A}{r:R2}(ok:OpN X.K f (r2L r))(ho:OpR X (binaryOp op) r)(ha:JE X a m1)(hb:JE X b m2):JE X (.BinOp a op b pos) (opM f (m2L m1 m2)):=AA (Yg ho ha hb) fun _ _ _ h=>two ok h
theorem LA{op:UnaryOp}{f:List A->Option A}{r:V->Hp->VK->Prop}(ok:OpN X.K f (r1L r))(ho:UnR X (unaryOp op) r)(ha:JE X a m):JE X (.UnaryOp op a pos) (opM f (m1L m)):=AA (Yh ho ha) fun _ _ _ h=>one ok h
theorem EA{op:CmpOp}{f:List A->Option A}{r:R2}(ok:OpN X.K f (r2L r))(ho:OpR X (compareOp op) r)(hm:behindInMarks op b=false)(ha:JE X a m1)(hb:JE X b m2):JE X (.Compare a [op] [b] pos) (opM f (m2L m1 m2)):=AA (Tv ho ha hb hm) fun _ _ _ h=>two ok h
theorem By{op:CmpOp}{f:List A->Option A}{r:R2}(ok:OpN X.K f (r2L r))(ho:OpR X (compareOp op) r)(hm:behindInMarks op b=false)(ha:JE X a m1)(hb:JE X b m2):JT X (.Compare a [op] [b] pos) (AM (opM f (m2L m1 m2))):=
 Hf (TN ho ha hb hm) fun _ _ _ h=>two ok (Jq h)
theorem Ay{f:List A->Option A}{r:R2}(ok:OpN X.K f (r2L r))(ho:IxR X r)(hs:NO b)(ha:JE X a m1)(hb:JE X b m2):JE X (.Subscript a b pos) (opM f (m2L m1 m2)):=AA (Yf ho ha hb hs) fun _ _ _ h=>two ok h
theorem AJ{id:String}{f:List A->Option A}{r:List V->Hp->VK->Prop}(ok:OpN X.K f r)(hc:BJ X (.builtin id) r)(hm:X.mg x=none)(hv:bootBuiltins x=some (.builtin id))(hn:x ≠ "__name__")(hdb:(x==("__debug__" : Str))=false)(hg:Gl X x)(he:starEach (e::es) X.env=(false,eval e X.env)::starEach es X.env)(hpl:(backTo pos (starEach es X.env)).any (·.1)=false)(ha:JA X (e::es) ms):JE X (.Call (.Name x p) (e::es) [] pos) (opM f ms):=
 AA (J1 hc hm hv hn hdb hg he hpl ha) fun _ _ _ h=>HR ok h
theorem C8{T:String}{f:List A->Option A}{r:List V->Hp->VK->Prop}(ok:OpN X.K f r)(hc:BJ X (.type T) r)(hm:X.mg x=none)(hv:bootBuiltins x=some (.type T))(hn:x ≠ "__name__")(hdb:(x==("__debug__" : Str))=false)(hg:Gl X x)(he:starEach (e::es) X.env=(false,eval e X.env)::starEach es X.env)(hpl:(backTo pos (starEach es X.env)).any (·.1)=false)(ha:JA X (e::es) ms):JE X (.Call (.Name x p) (e::es) [] pos) (opM f ms):=
 AA (J3 hc hm hv hn hdb hg he hpl ha) fun _ _ _ h=>HR ok h
theorem Dp{op:BoolOp}(h:JE X a m):JE X (.BoolOp op [a] pos) m:=WG h
theorem CD(ha:JE X a m1)(hb:JE X (.BoolOp .And (b::es) pos) m2):JE X (.BoolOp .And (a::b::es) pos) (andM m1 m2):=AA (Ws ha hb) fun _ _ _ h=>Xf h
theorem Qp(ha:JE X a m1):JE X (.UnaryOp .Not a pos) (notM m1):=AA (WE ha) fun _ _ _ h=>Xi h
theorem MU(hc:JT X c mt)(ha:JE X a m1)(hb:JE X b m2):JE X (.IfExp c a b pos) (Kx mt m1 m2):=AA (Rk hc ha hb) fun _ _ _ h=>Xg h
theorem CF(he:∀whole,isTrue e X.env whole=(do let v <- whole; standAt e.pos; holding [v] (truthy v)))(h:JE X e m):JT X e (AM m):=Hf (TQ he h) fun _ _ _ h=>Jq h
theorem KA(ha:JT X a mt):JW X (.BoolOp .Or [a] pos) mt:=WX ha
theorem JY(ha:JT X a mt)(hb:JW X (.BoolOp .Or (b::es) pos) mt2):JW X (.BoolOp .Or (a::b::es) pos) (orT mt mt2):=TZ (Yk ha hb) fun _ _ _ h=>YN h
theorem Ia(h:JW X e mt):JT X e mt:=h.pt
theorem CP(ha:JT X a mt):JT X (.UnaryOp .Not a pos) (DZ mt):=Hf (WS ha) fun _ _ _ h=>Xt h
theorem RY{K:Frag}{f g:List A->Option A}{r r':R2}(ok:OpN K f (r2L r))(ok':OpN K g (r2L r')){U:L2.St}{H:Hp}{Q:VK}(h:tE K (GQ f g m1 m2 m3) U H Q):NG r r' (tE K m1) (tE K m2) (tE K m3) U H Q:=by
 obtain⟨Z,O,fp,rl,y,Z',h0,k⟩:=h;simp only[GQ,bind_eq_some_iff] at h0;obtain⟨⟨r1,Z1⟩,e1,⟨r2,Z2⟩,e2,as,e3,z,e4,kb,e5,e6⟩:=h0;refine⟨Z,O,fp,rl,r1,Z1,e1,fun v1 H1 yy=>?_⟩;obtain⟨L1,fp1,p1,q1⟩:=yy;refine⟨Z1,ad O L1,fp1,p1.rel,r2,Z2,e2,fun v2 H2 yy=>?_⟩;obtain⟨L2,fp2,p2,q2⟩:=yy;have p12:=p1.then p2;have q1':=p2.rr p1.rel q1 fun _ z=>z;have q2':RR K (NN fp2 (ad O (L1++L2))) H2 U v2 r2 L2:=by
  have e:ad (ad O L1) L2=ad O (L1++L2):=funext fun p=>propext EN;rw[<- e];exact q2
 have hs:Kd K (NN fp2 (ad O (L1++L2))) H2 [v1,v2] as:=p12.rel.peeks (rs:=[r1,r2]) (L:=L1++L2) ⟨L1,L2,rfl,q1',L2,[],by simp,q2',rfl⟩ e3;have key:=ok _ H2 [v1,v2] as z (fun u H3=>∃kk,u=.bl kk/\if kk=true then tE K m3 U H3 fun w H4=>r' v2 w H4 Q else Q (.bl false) H3) hs e4 ?_
 .obtain⟨x',y',e,q⟩:=key
  cases e;exact q
 intro u H3 o;obtain⟨sm,L3,q3,nd3,nw3⟩:=o;have hb:=RB q3 e5;refine⟨kb,hb,?_⟩;have p3:Post K O fp H Z Z2 U U (L1++L2) fp2 H3:=p12.more sm p12.nd fun p hp=>.inl hp;cases kb with
 | false =>
  rw[if_neg Bool.false_ne_true];simp at e6;obtain⟨rfl,rfl⟩:=e6;exact k _ H3 ⟨[],fp2,p3.drop0,Nr (.bl _)⟩
 | true =>
  rw[if_pos rfl];simp only[if_true,bind_eq_some_iff,map_eq_some_iff] at e6;obtain⟨⟨r3,Z3⟩,e7,bs,e8,z2,e9,e10⟩:=e6;cases e10;refine⟨Z2,ad O (L1++L2),fp2,p3.rel,r3,Z3,e7,fun v3 H4 yy=>?_⟩;obtain⟨L4,fp4,p4,q4⟩:=yy;have p34:=p3.then p4;have q2'':RR K (NN fp2 (ad O (L1++L2))) H3 U v2 r2 L2:=by
   cases r2 with
   | ref i=>exact q2'
   | val a=>exact Ap.tr (M:=fun _=>False) (fun _ z=>z.elim) (FD.kept sm) (fun p z=>.inl z) (fun _ _ z=>z) q2'
  have q2f:=p4.rr p3.rel q2'' fun p z=>List.mem_append_right _ z;have q4':RR K (NN fp4 (ad O ((L1++L2)++L4))) H4 U v3 r3 L4:=by
   have e:ad (ad O (L1++L2)) L4=ad O ((L1++L2)++L4):=funext fun p=>propext EN;rw[<- e];exact q4
  have hs2:Kd K (NN fp4 (ad O ((L1++L2)++L4))) H4 [v2,v3] bs:=p34.rel.peeks (rs:=[r2,r3]) (L:=L2++L4) ⟨L2,L4,rfl,q2f,L4,[],by simp,q4',rfl⟩ e8;obtain⟨x',y',e,q⟩:=ok' _ H4 [v2,v3] bs z2 Q hs2 e9 fun u H5 o=>k u H5 (p34.out o);cases e;exact q
theorem MQ{op op':CmpOp}{f g:List A->Option A}{r r':R2}(ok:OpN X.K f (r2L r))(ok':OpN X.K g (r2L r'))(ho:OpR X (compareOp op) r)(ho':OpR X (compareOp op') r')(hm:lastMarks [op,op'] [b,c]=false)(ha:JE X a m1)(hb:JE X b m2)(hc:JE X c m3):
  JE X (.Compare a [op,op'] [b,c] pos) (GQ f g m1 m2 m3):=AA (Rh ho ho' ha hb hc hm) fun _ _ _ h=>RY ok ok' h
theorem Qs{op op':CmpOp}{f g:List A->Option A}{r r':R2}(ok:OpN X.K f (r2L r))(ok':OpN X.K g (r2L r'))(ho:OpR X (compareOp op) r)(ho':OpR X (compareOp op') r')(hm:lastMarks [op,op'] [b,c]=false)(ha:JE X a m1)(hb:JE X b m2)(hc:JE X c m3):
  JT X (.Compare a [op,op'] [b,c] pos) (AM (GQ f g m1 m2 m3)):=Hf (Rv ho ho' ha hb hc hm) fun _ _ _ h=>RY ok ok' (Jq h)
theorem FP(h:JA X es ms):JE X (.List es pos) (lstM ms):=AA (WC h) fun _ _ _ h=>Xh h
theorem Al{P:Program}{w:World}{K:Frag}{mg:Str->Option Value}{base:Heap}{CX:CXT}{k j:Nat}{ps:List Str}{Φ:Fn}{np:Nat}{E:XK}(D:Def P w K mg base CX k x ps (spJ K Φ np))(hnp:∀args y,Φ args=some y->args.length=np)(hP:X.prog=P)(hw:X.w=w)(hK:X.K=K)(hm:X.mg=mg)(hb:X.base=base)(hr:Room j X.A)(hkj:k<=j)(hx:Passes CX X E)(hdb:(x==("__debug__" : Str))=false)(hg:Gl X x)(he:starEach (e::es) X.env=(false,eval e X.env)::starEach es X.env)(hpl:(backTo pos (starEach es X.env)).any (·.1)=false)(ha:JA X (e::es) ms):JE X (.Call (.Name x p) (e::es) [] pos) (Am Φ ms):=by
 subst hP hw hK hm hb;exact AA (Wt D hr hkj hx ha hg hdb he hpl) fun _ _ _ h=>Uo hnp h
noncomputable def JEc(X:Cx)(own:List Str)(scope:Scope)(e:Expr)(m:ME):Prop:=∀C s H fp pins,JE (cxC X own scope C s H fp pins) e m
noncomputable def JTc(X:Cx)(own:List Str)(scope:Scope)(ifs:List Expr)(m:MT):Prop:=∀C s H fp pins,PTs (cxC X own scope C s H fp pins) ifs (tT X.K m)
theorem Bd{own:List Str}{scope:Scope}:JTc X own scope [] Ce:=fun C s H fp pins=>fun _ _ _ H _ I h=>by
 obtain⟨Z,O,fp,r,x,Z',e,k⟩:=h;cases e;exact TR _ _ _ H _ I (k fp H r.post)
theorem S8{own:List Str}{scope:Scope}(h:∀C s H fp pins,JT (cxC X own scope C s H fp pins) c mt):JTc X own scope [c] mt:=fun C s H fp pins=>TX (h C s H fp pins)
theorem KS{own N:List Str}{sc sco:Scope}(hok:Bl own N sc sco=true):∀y∈own,y∉N:=fun y hy=>by
 simp only[Bl,Bool.and_eq_true,List.all_eq_true] at hok;have:=hok.2 y hy;simpa using this
theorem E6{scope:Scope}{iter elt:Expr}{ifs:List Expr}{px:Pos}(hok:Bl [x] X.N scope X.env.scope=true)(hc:X.calm=true)(hn:X.N.Nodup)(hx:scope.names.lookup x=some .local)(hs:∀z,foldedSetIterable iter X.env z=pure z)(hi:JI X (.Name x px) iter mi)(ht:JTc X [x] scope ifs mt)(he:JEc X [x] scope elt m):
  JE X (.ListComp elt [⟨.Name x px,iter,ifs,0⟩] scope pos) (AN mi 0 mt m):=
 AA (WB (te:=tE X.K m) hok hc ⟨hn⟩ rfl hx hs hi ht (fun C s H fp pins=>he C s H fp pins)) fun _ _ _ h=>F8 h
theorem MX{scope:Scope}{iter elt:Expr}{ifs:List Expr}{px py pt':Pos}{y:Str}{k:Nat}(hok:Bl [x,y] X.N scope X.env.scope=true)(hc:X.calm=true)(hn:X.N.Nodup)(hxy:x≠y)(hx:scope.names.lookup x=some .local)(hy:scope.names.lookup y=some .local)(hs:∀z,foldedSetIterable iter X.env z=pure z)(hi:JI X (.Tuple [.Name x px,.Name y py] k pt') iter mi)(ht:JTc X [x,y] scope ifs mt)(he:JEc X [x,y] scope elt m):
  JE X (.ListComp elt [⟨.Tuple [.Name x px,.Name y py] k pt',iter,ifs,0⟩] scope pos) (AN mi 2 mt m):=by
 have nw:=KS hok;refine AA (U4 (un:=UC X.K 2) hc hok hi (te:=tE X.K m) (fun C s H fp pins=>?_) ht (fun C s H fp pins=>he C s H fp pins) hs) fun _ _ _ h=>F8 h;have P:=L8 (X:=cxC X [x,y] scope C s H fp pins) (px:=px) (py:=py) (pos:=pt') (k:=k) hc rfl rfl (List.nodup_cons.mpr ⟨by
  intro z;rcases List.mem_cons.mp z with z|z
  .exact hxy z
  .exact nw x (by simp) z,List.nodup_cons.mpr ⟨nw y (by simp),hn⟩⟩) (lookup_relabel_local hx) (lookup_relabel_local hy)
 intro pins' s' σ0 U H' v u vs h0 I r hu;obtain⟨a,rfl,hq,hl⟩:=hu;obtain⟨v1,v2,rfl⟩:=Qy hl;exact P pins' s' σ0 U H' _ u _ h0 I r ⟨a,v1,v2,rfl,hq,rfl⟩
theorem WK{tg l:Expr}{tl:TE}(hl:PE X l tl):PI X tg l (X2 X.K tl):=by
 intro pins s U H R I h;refine thn (hl pins s U H _ I h) fun v s1 yy=>?_;obtain⟨y,H1,I1,r1,q1⟩:=yy;obtain⟨a,e,q1⟩:=q1;subst e;cases r1;rcases q1 with ⟨⟨xs,hq⟩,q⟩|⟨⟨xs,hq⟩,q⟩
 .obtain⟨its,rv,p,hz⟩:=I1.list hq
  refine wpAny_pyIter_list p.isList ?_;refine⟨s1.heap.objs.size,[s1.heap.objs.size],_,_,H1,rfl,I1.kept (t':=s1.toks) fun b o e=>Heap.get?_push_of_some _ e,Pn a _,⟨_,Heap.get?_push_size _ rfl,rfl,rfl⟩,fun b hb=>?_,q⟩;have e:b=s1.heap.objs.size:=by simpa using hb
  subst e;exact I1.fpOk (Nat.le_refl _) (I1.hok.fresh (Nat.le_refl _))
 .obtain⟨its,rv,p,hz⟩:=I1.tuple hq
  refine wpAny_pyIter_tuple (show s1.heap.IsTuple a its.toArray from p) ?_;refine⟨s1.heap.objs.size,[s1.heap.objs.size],_,_,H1,rfl,I1.kept (t':=s1.toks) fun b o e=>Heap.get?_push_of_some _ e,NK a _,⟨_,Heap.get?_push_size _ rfl,rfl,rfl⟩,fun b hb=>?_,q⟩;have e:b=s1.heap.objs.size:=by simpa using hb
  subst e;exact I1.fpOk (Nat.le_refl _) (I1.hok.fresh (Nat.le_refl _))
theorem Cb{tg:Expr}(h:JE X e m):JI X tg e (BW m):=F3 (WK h) fun _ _ _ h=>Xj h
theorem Xk{K:Frag}{U:L2.St}{H:Hp}{R:It->Hp->Prop}(h:tI K (ND m) U H R):X3 (tE K m) U H R:=by
 obtain⟨Z,O,fp,rl,ds,n,Z',e,k⟩:=h;simp only[ND,bind_eq_some_iff] at e;obtain⟨⟨r,Z1⟩,e1,e2⟩:=e;dsimp only at e2;split at e2
 .rename_i z
  split at e2
  .rename_i hz
   cases e2;refine⟨Z,O,fp,rl,_,_,e1,fun v H1 yy=>?_⟩
   obtain⟨L,fp1,p,q⟩:=yy;have q':Ap K (NN fp1 (ad O L)) H1 v (.fz (.str z)) L:=q;rw[Ap] at q';obtain⟨rfl,q'⟩:=q';cases q';refine⟨z,rfl,k _ _ ⟨.val (.fz .non),.non,.fz .non,[],fp1,p,Ej (K:=K) .non,rfl,rfl,fun N H2 _=>?_⟩⟩;have hl:(GF z).length=z.cps.size:=by simp[GF]
   refine⟨fun i hi=>by show i<z.cps.size; lia,fun i hi=>by show z.cps.size<=i; lia,fun i v H' d y e=>?_⟩;obtain⟨rfl,c,hc,rfl⟩:=y;refine⟨fun _ _ z=>z,?_⟩;have:d=.str ⟨#[c]⟩:=by
    simp only[GF,List.getElem?_map] at e;have hc':z.cps.toList[i]? = some c:=by simpa using hc
    rw[hc'] at e;cases e;rfl
   subst this;exact .str _ (by show 1<=sizeLine; decide)
  .cases e2
 .cases e2
theorem VQ{tg:Expr}(h:JE X e m):JI X tg e (ND m):=F3 (WL h) fun _ _ _ h=>Xk h
theorem Us{K:Frag}{U:L2.St}{H:Hp}{R:It->Hp->Prop}(h:tI K (Bh m) U H R):UR (BP (tE K m) GG) U H R:=by
 obtain⟨Z,O,fp,rl,ds,n,Z',e,k⟩:=h;simp only[Bh,bind_eq_some_iff] at e;obtain⟨⟨r,Z1⟩,e1,e2⟩:=e;dsimp only at e2;split at e2
 .rename_i j
  split at e2
  .rename_i hz
   cases e2;refine⟨Z,O,fp,rl,_,_,e1,fun v H1 yy=>?_⟩
   obtain⟨L,fp1,p,q⟩:=yy;have q':Ap K (NN fp1 (ad O L)) H1 v (.fz (.int j)) L:=q;rw[Ap] at q';obtain⟨rfl,q'⟩:=q';cases q';refine⟨j,rfl,hz.1,hz.2,k _ _ ⟨.val (.fz .non),.non,.fz .non,[],fp1,p,Ej (K:=K) .non,rfl,rfl,fun N H2 _=>?_⟩⟩;have hl:(D7 0 j.toNat).length=j.toNat:=by simp[D7]
   refine⟨fun i hi=>by show i<j.toNat; lia,fun i hi=>by show j.toNat<=i; lia,fun i v H' d y e=>?_⟩;obtain⟨rfl,rfl⟩:=y;refine⟨fun _ _ z=>z,?_⟩;have hi:i<j.toNat:=by have:=Aq e; lia
   simp only[D7,List.getElem?_map,List.getElem?_range hi,Option.map_some,Option.some.injEq] at e;subst e;exact .int _
  .cases e2
 .cases e2
theorem BK{tg:Expr}(hg:Gl X "range")(hm:X.mg "range" = none)(hs:starEach [a] X.env=[(false,eval a X.env)])(h:JE X a m):JI X tg (.Call (.Name "range" p) [a] [] pos) (Bh m):=F3 (O7 hg hm (CZ h Ff hs) hs) fun _ _ _ h=>Us h
theorem AS:JSs X [] A9:=Mb TL fun _ _ _ h=>Ux h
theorem Ai(h:JS X s w1):JSs X [s] w1:=TM h
theorem Ad(h:JS X s w1)(t:JSs X ss w2):JSs X (s::ss) (As w1 w2):=Mb (Ru h t) fun _ _ _ h=>Xr h
theorem Hy:JSs X ss D5:=fun _ _ _ _ _ _ y=>by
 obtain⟨_,_,_,_,_,h,_⟩:=y;cases h
theorem LC:JS X s D5:=fun _ _ _ _ _ _ y=>by
 obtain⟨_,_,_,_,_,h,_⟩:=y;cases h
theorem Iy(hs:swapsWith e none pos.line X.env=pure false)(h:JE X e m):JS X (.Expr e pos) (HU m):=Br (Oj h hs) fun _ _ _ h=>Xm h
theorem Aw(h:JE X e m):JS X (.Return (some e) pos) (retS m):=Br (WO h) fun _ _ _ h=>Xq h
theorem BC{st st':List Stmt}(hc:JT X c mt)(ha:JSs X st w1)(hb:JSs X st' w2):JS X (.If c st st' pos) (ifS mt w1 w2):=Br (Yj hc ha hb) fun _ _ _ h=>YL h
theorem AD(i:Nat)(hN:X.N.Nodup)(hi:X.N[i]? = some x)(hx:Loc X.env.scope x)(hf:X.fn x=true)(hs:swapsWith e (some (.Name x pos')) pos.line X.env=pure false)(h:JE X e m):JS X (.Assign [.Name x pos'] e pos) (AG i m):=
 Br (WQ hN hi hx h hs (.inl hf)) fun _ _ _ h=>Jp h
theorem Qr{st:List Stmt}(n:Nat)(hp:PassesOwn (model X.prog X.w) X.A X.env X.xe)(hc:JT X c mt)(hb:JSs X st w1):JS X (.While c st [] pos) (K9 n mt w1):=Br (Rt hp hc hb) fun _ _ _ h=>R4 h
theorem B0{tg iter:Expr}{st:List Stmt}{is:List Nat}{one:Bool}(hp:PassesOwn (model X.prog X.w) X.A X.env X.xe)(hc:X.calm=true)(hi:JI X tg iter mi)(hg:PG X tg (OL X.K is one))(hb:JSs X st w1)(hs:∀y,foldedSetIterable iter X.env y=pure y):JS X (.For tg iter st [] pos) (Ca is one mi w1):=Br (WN hp hc hi hg hb hs) fun _ _ _ h=>Xn h
theorem CU(i:Nat)(hN:X.N.Nodup)(hi:X.N[i]? = some x)(hx:Loc X.env.scope x)(hf:X.fn x=true):PG X (.Name x pos) (OL X.K [i] true):=Ie hN hi hx (.inl hf)
theorem Ig:PGs X [] (FK []):=Og
theorem Dc(i:Nat){is:List Nat}(hN:X.N.Nodup)(hi:X.N[i]? = some x)(hx:Loc X.env.scope x)(hf:X.fn x=true)(t:PGs X es (FK is))(hs:(assignEach (.Name x pos::es) X.env).map (·.2)=assign (.Name x pos) X.env::(assignEach es X.env).map (·.2)):PGs X (.Name x pos::es) (FK (i::is)):=Jc (Ie hN hi hx (.inl hf)) t hs
theorem Ic{is:List Nat}{k:Nat}(hc:X.calm=true)(h:PGs X es (FK is))(hn:(assignEach es X.env).length=is.length)(hst:(assignEach es X.env).findIdx? (·.1)=none):PG X (.Tuple es k pos) (OL X.K is false):=Rn hc h hn hst
theorem VS{tg:Expr}{is:List Nat}(hg:PG X tg (OL X.K is false))(hs:swapsWithSole [tg] e pos.line X.env=pure false)(hw:swappedStores [tg] e X.env=pure none)(h1:(assignEach [tg] X.env).map (·.2)=[assign tg X.env])(h:JE X e m):
  JS X (.Assign [tg] e pos) (Mp is m):=Br (Rr h hg hs hw h1) fun _ _ _ h=>Xs h
end
end J
end
section
namespace L2
open PySem PySem.Spec PyProof.Rows
section
variable{P:Program}{w:World}{H:Hp}{s:Shared}{N N':Addr->Prop}
theorem Rz(hok:HOk P w H s.heap){A:Around}{n:Nat}{x y:V}{d e:D}{v u:Value}(r:RepA N H x d)(q:RepA N' H y e)(rx:RelV x v)(ry:RelV y u)(hs:Sh n d)(hu:A.units+n<cLine):SeqAt.RcNeAt A s v u (!eqD d e):=by
 cases r with
 | non =>
  cases rx;cases q with
  | non=>cases ry; exact SeqAt.RcNeAt.none_none
  | bl b=>cases ry; exact SeqAt.RcNeAt.none_bool b
  | int b=>obtain⟨t,rfl⟩:=ry; exact SeqAt.RcNeAt.none_int b t
  | str b=>obtain⟨t,rfl⟩:=ry; exact SeqAt.RcNeAt.none_str b t
  | lst h=>cases ry; obtain⟨its,_,hl⟩:=AQ hok h; exact SeqAt.RcNeAt.none_list hl (lt0 hu)
  | tup h=>cases ry; obtain⟨its,_,hl⟩:=A5 hok h; exact SeqAt.RcNeAt.none_tuple hl (lt0 hu)
 | bl a =>
  cases rx;cases q with
  | non=>cases ry; exact SeqAt.RcNeAt.bool_none a
  | bl b=>cases ry; exact SeqAt.RcNeAt.bool_bool a b
  | int b=>obtain⟨t,rfl⟩:=ry; exact SeqAt.RcNeAt.bool_int a b t
  | str b=>obtain⟨t,rfl⟩:=ry; exact SeqAt.RcNeAt.bool_str a b t
  | lst h=>cases ry; obtain⟨its,_,hl⟩:=AQ hok h; exact SeqAt.RcNeAt.bool_list a hl (lt0 hu)
  | tup h=>cases ry; obtain⟨its,_,hl⟩:=A5 hok h; exact SeqAt.RcNeAt.bool_tuple a hl (lt0 hu)
 | int a =>
  obtain⟨t',rfl⟩:=rx;cases q with
  | non=>cases ry; exact SeqAt.RcNeAt.int_none a t'
  | bl b=>cases ry; exact SeqAt.RcNeAt.int_bool a t' b
  | int b=>obtain⟨t,rfl⟩:=ry; exact SeqAt.RcNeAt.int_int a t' b t
  | str b=>obtain⟨t,rfl⟩:=ry; exact SeqAt.RcNeAt.int_str a t' b t
  | lst h=>cases ry; obtain⟨its,_,hl⟩:=AQ hok h; exact SeqAt.RcNeAt.int_list a t' hl (lt0 hu)
  | tup h=>cases ry; obtain⟨its,_,hl⟩:=A5 hok h; exact SeqAt.RcNeAt.int_tuple a t' hl (lt0 hu)
 | str a =>
  obtain⟨t',rfl⟩:=rx;cases q with
  | non=>cases ry; exact SeqAt.RcNeAt.str_none a t'
  | bl b=>cases ry; exact SeqAt.RcNeAt.str_bool a t' b
  | int b=>obtain⟨t,rfl⟩:=ry; exact SeqAt.RcNeAt.str_int a t' b t
  | str b=>obtain⟨t,rfl⟩:=ry; exact SeqAt.RcNeAt.str_str a t' b t
  | lst h=>cases ry; obtain⟨its,_,hl⟩:=AQ hok h; exact SeqAt.RcNeAt.str_list a t' hl (lt0 hu)
  | tup h=>cases ry; obtain⟨its,_,hl⟩:=A5 hok h; exact SeqAt.RcNeAt.str_tuple a t' hl (lt0 hu)
 | @lst a vs ds h hz hn hl hr =>
  cases rx;obtain⟨its,rv,hil⟩:=AQ hok h;cases hs with
  | @lst n _ hs =>
   cases q with
   | non=>cases ry; exact SeqAt.RcNeAt.list_none hil (lt0 hu)
   | bl b=>cases ry; exact SeqAt.RcNeAt.list_bool b hil (lt0 hu)
   | int b=>obtain⟨t,rfl⟩:=ry; exact SeqAt.RcNeAt.list_int b t hil (lt0 hu)
   | str b=>obtain⟨t,rfl⟩:=ry; exact SeqAt.RcNeAt.list_str b t hil (lt0 hu)
   | @lst a' vs' es h' hz' hn' hl' hr' =>
    cases ry;obtain⟨its',rv',hil'⟩:=AQ hok h';have l1:=rv.length;have l2:=rv'.length;rw[Gi];by_cases hlen:ds.length=es.length
    .rw[C2 hlen,show ds.length=its.toArray.size by simp; lia]
     refine SeqAt.RcNeAt.lists hil hil' (by simp; lia) (lt0 hu) (EG rv rv' hl hl' fun i v d v' e u u' e1 e2 e3 e4 ru ru'=>?_);exact Ht hok (hr i v d e1 e2) (hr' i v' e e3 e4) ru ru' (hs d (List.mem_of_getElem? e2)) (lt1 hu)
    .have:D8 ds es=false:=by
      cases q:D8 ds es with
      | false=>rfl
      | true=>exact absurd (C3 q) hlen
     rw[this];exact SeqAt.RcNeAt.lists_lengths hil hil' (by simp; lia) (lt0 hu)
   | tup h' =>
    cases ry;obtain⟨its',_,hl'⟩:=A5 hok h';exact SeqAt.RcNeAt.list_tuple hil hl' (lt0 hu)
 | @tup a vs ds h hz hl hr =>
  cases rx;obtain⟨its,rv,hil⟩:=A5 hok h;cases hs with
  | @tup n _ hs =>
   cases q with
   | non=>cases ry; exact SeqAt.RcNeAt.tuple_none hil (lt0 hu)
   | bl b=>cases ry; exact SeqAt.RcNeAt.tuple_bool b hil (lt0 hu)
   | int b=>obtain⟨t,rfl⟩:=ry; exact SeqAt.RcNeAt.tuple_int b t hil (lt0 hu)
   | str b=>obtain⟨t,rfl⟩:=ry; exact SeqAt.RcNeAt.tuple_str b t hil (lt0 hu)
   | @tup a' vs' es h' hz' hl' hr' =>
    cases ry;obtain⟨its',rv',hil'⟩:=A5 hok h';have l1:=rv.length;have l2:=rv'.length;have q:=SeqAt.RcNeAt.tuples (A:=A) hil hil' (lt0 hu) (EG rv rv' hl hl' fun i v d v' e u u' e1 e2 e3 e4 ru ru'=>Ht hok (hr i v d e1 e2) (hr' i v' e e3 e4) ru ru' (hs d (List.mem_of_getElem? e2)) (lt1 hu))
    rw[FJ];by_cases hlen:ds.length=es.length
    .have e1:(its.toArray.size==its'.toArray.size)=true:=by simp; lia
     have e2:min its.toArray.size its'.toArray.size=ds.length:=by simp; lia
     rw[e1,e2,Bool.and_true,<- C2 hlen] at q;exact q
    .have e1:(its.toArray.size==its'.toArray.size)=false:=by simp; lia
     have e3:D8 ds es=false:=by
      cases q:D8 ds es with
      | false=>rfl
      | true=>exact absurd (C3 q) hlen
     rw[e1,Bool.and_false] at q;rw[e3];exact q
   | lst h' =>
    cases ry;obtain⟨its',_,hl'⟩:=AQ hok h';exact SeqAt.RcNeAt.tuple_list hil hl' (lt0 hu)
end
section
variable{X:Cx}{k:Nat}
noncomputable def Yq:R2:=fun x y H Q=>∃d e,Rep H x d/\Rep H y e/\Sh 16 d/\Q (.bl (!eqD d e)) H
theorem Q9(hr:Room k X.A):OpR X (compareOp .NotEq) Yq:=by
 intro pins s U H x y v u Q I rx ry h;obtain⟨d,e,r1,r2,hs,q⟩:=h;exact EqBoolInt.of_rcne (Rz I.hok r1 r2 rx ry hs (by have:=hr.units; lia)) ⟨.bl _,H,I,rfl,q⟩
end
end L2
namespace J
open PySem PySem.Spec PyProof.Rows L2
section
variable{K:Frag}{N:Addr->Prop}{H H':Hp}{L:List Addr}{v:V}{a:A}
theorem CH{d:D}:Ap K N H v (.fz d) L↔L=[]/\RepA N H v d:=by rw[Ap]
theorem Bf{i:Int}(h:Ap K N H v (.fz (.int i)) L):v=.int i:=by
 obtain⟨_,h⟩:=CH.mp h;cases h; rfl
theorem CI{z:Str}(h:Ap K N H v (.fz (.str z)) L):v=.str z/\z.length<=sizeLine:=by
 obtain⟨_,h⟩:=CH.mp h;cases h with
 | str z hz=>exact⟨rfl,hz⟩
theorem Fd{d:D}(h:RepA N H v d):Kb K N H (.fz d) v H:=⟨fun _ _ z=>z,[],Ej (K:=K) (Ek (fun p z=>z.elim id fun q=>by simp at q) h),List.nodup_nil,fun _ h=>by simp at h⟩
theorem CW{i:Int}:Kb K N H (.fz (.int i)) (.int i) H:=Fd (.int i)
theorem Dq{b:Bool}:Kb K N H (.fz (.bl b)) (.bl b) H:=Fd (.bl b)
theorem Hb{z:Str}(h:z.length<=sizeLine):Kb K N H (.fz (.str z)) (.str z) H:=Fd (.str z h)
theorem KQ{p:Addr}{vs:List V}{ds:List D}(hp:H p=none)(hz:vs.length<=sizeLine)(q:Ar N H vs ds):Kb K N H (.lst (ds.map A.fz)) (.ref p) (upd H p (.lst vs)):=by
 have sm:=Bm (o:=.lst vs) hp;refine⟨sm,[p],?_,by simp,fun b hb=>by simp at hb; rw[hb]; exact hp⟩;rw[Ap];refine⟨p,vs,[],rfl,rfl,AE,hz,An.of (q.tr (M:=fun _=>False) (fun _ z=>z.elim) (FD.kept sm) fun b z=>?_)⟩;rcases z with z|z
 .exact .inl z
 .simp at z; subst z; exact .inr hp
theorem Ts{p:Addr}{vs:List V}{ds:List D}(hp:H p=none)(hz:vs.length<=sizeLine)(q:Ar N H vs ds):Kb K N H (.fz (.tup ds)) (.ref p) (upd H p (.tup vs)):=by
 have sm:=Bm (o:=.tup vs) hp;refine⟨sm,[],Ej (K:=K) (Nq AE hz (q.tr (M:=fun _=>False) (fun _ z=>z.elim) (FD.kept sm) fun b z=>?_)),List.nodup_nil,fun _ h=>by simp at h⟩;rcases z with z|z
 .exact .inl z
 .simp at z
noncomputable def fzU:A->Option D
 | .fz d=>some d
 | .lst _ | .tup _ | .scr _ | .dic _ | .dct _ | .opq _ _=>none
noncomputable def FN:D->Option Int
 | .int i=>some i
 | .non | .bl _ | .str _ | .lst _ | .tup _=>none
noncomputable def Fx:D->Option Str
 | .str z=>some z
 | .non | .bl _ | .int _ | .lst _ | .tup _=>none
noncomputable def BB(a:A):Option Int:=(fzU a).bind FN
noncomputable def Ck(a:A):Option Str:=(fzU a).bind Fx
theorem Ir{a:A}{d:D}(h:fzU a=some d):a=.fz d:=by
 cases a with
 | fz d'=>cases h; rfl
 | _=>cases h
theorem AZ{a:A}{i:Int}(h:BB a=some i):a=.fz (.int i):=by
 obtain⟨d,h1,h2⟩:=bind_eq_some_iff.mp h;cases Ir h1;cases d with
 | int j=>cases h2; rfl
 | _=>cases h2
theorem B7{a:A}{z:Str}(h:Ck a=some z):a=.fz (.str z):=by
 obtain⟨d,h1,h2⟩:=bind_eq_some_iff.mp h;cases Ir h1;cases d with
 | str j=>cases h2; rfl
 | _=>cases h2
noncomputable def on1(f:A->Option A):List A->Option A
 | []=>none
 | [a]=>f a
 | _::_::_=>none
noncomputable def on2(f:A->A->Option A):List A->Option A
 | []=>none
 | [_]=>none
 | [a,b]=>f a b
 | _::_::_::_=>none
noncomputable def on3(f:A->A->A->Option A):List A->Option A
 | []=>none
 | [_]=>none
 | [_,_]=>none
 | [a,b,c]=>f a b c
 | _::_::_::_::_=>none
theorem D1{f:A->Option A}{as:List A}{c:A}(h:on1 f as=some c):∃a,as=[a]/\f a=some c:=by
 cases as with
 | nil=>cases h
 | cons a as=>cases as with
  | nil=>exact⟨a,rfl,h⟩
  | cons b as=>cases h
theorem Bz{f:A->A->Option A}{as:List A}{c:A}(h:on2 f as=some c):∃a b,as=[a,b]/\f a b=some c:=by
 cases as with
 | nil=>cases h
 | cons a as=>cases as with
  | nil=>cases h
  | cons b as=>cases as with
   | nil=>exact⟨a,b,rfl,h⟩
   | cons b as=>cases h
noncomputable def Ga:A->Option (List (Key×D))
 | .dic kvs=>some kvs
 | .fz _ | .lst _ | .tup _ | .scr _ | .dct _ | .opq _ _=>none
theorem NV{a:A}{kvs:List (Key×D)}(h:Ga a=some kvs):a=.dic kvs:=by
 cases a with
 | dic k=>cases h; rfl
 | _=>cases h
noncomputable def HC:A->Option Unit
 | .fz .non=>some ()
 | .fz (.bl _) | .fz (.int _) | .fz (.str _) | .fz (.lst _) | .fz (.tup _) | .lst _ | .tup _ | .scr _ | .dic _ | .dct _ | .opq _ _=>none
theorem Tg{a:A}{u:Unit}(h:HC a=some u):a=.fz .non:=by
 cases a with
 | fz d=>cases d with
  | non=>rfl
  | _=>cases h
 | _=>cases h
noncomputable def Gu(C:Int->Int->Bool)(g:Int->Int->Int):List A->Option A:=on2 fun a b=>(BB a).bind fun i=>(BB b).bind fun j=>if C i j then some (.fz (.int (g i j))) else none
noncomputable def Lw(g:Int->Int->Bool):List A->Option A:=on2 fun q1 q2=>(BB q1).bind fun i=>(BB q2).bind fun j=>some (.fz (.bl (g i j)))
theorem cons_of{xs:List V}{a:A}{as:List A}(h:Kd K N H xs (a::as)):∃x t L1,xs=x::t/\Ap K N H x a L1/\Kd K N H t as:=by
 cases xs with
 | nil=>cases h
 | cons x t =>
  obtain⟨⟨L,h⟩,q⟩:=h;exact⟨x,t,L,rfl,h,q⟩
theorem CG{xs:List V}{a:A}(h:Kd K N H xs [a]):∃x L1,xs=[x]/\Ap K N H x a L1:=by
 obtain⟨x,t,L1,rfl,h1,q⟩:=cons_of h;cases t with
 | nil=>exact⟨x,L1,rfl,h1⟩
 | cons y t=>cases q
theorem Bb{xs:List V}{a b:A}(h:Kd K N H xs [a,b]):∃x y L1 L2,xs=[x,y]/\Ap K N H x a L1/\Ap K N H y b L2:=by
 obtain⟨x,t,L1,rfl,h1,q⟩:=cons_of h;obtain⟨y,L2,rfl,h2⟩:=CG q;exact⟨x,y,L1,L2,rfl,h1,h2⟩
theorem G9{C:Int->Int->Bool}{C':Int->Int->Prop}{g:Int->Int->Int}(hC:∀i j,C i j=true->C' i j):OpN K (Gu C g) (r2L (rI C' fun i j=>.int (g i j))):=by
 intro N H xs as b Q hs e k
 replace e:=Bz e
 obtain⟨a1,b1,rfl,e⟩:=e;simp only[bind_eq_some_iff] at e;obtain⟨i,ei,j,ej,e⟩:=e;cases AZ ei;cases AZ ej;split at e
 .rename_i hc
  cases e;obtain⟨x,y,L1,L2,rfl,h1,h2⟩:=Bb hs;cases Bf h1;cases Bf h2;exact⟨_,_,rfl,i,j,rfl,rfl,hC i j hc,k _ _ CW⟩
 .cases e
theorem Ha{g:Int->Int->Int}:OpN K (Gu (fun _ _=>true) g) (r2L (rI0 fun i j=>.int (g i j))):=by
 intro N H xs as b Q hs e k
 replace e:=Bz e
 obtain⟨a1,b1,rfl,e⟩:=e;simp only[bind_eq_some_iff] at e;obtain⟨i,ei,j,ej,e⟩:=e;cases AZ ei;cases AZ ej;rw[if_pos trivial] at e;cases e;obtain⟨x,y,L1,L2,rfl,h1,h2⟩:=Bb hs;cases Bf h1;cases Bf h2;exact⟨_,_,rfl,i,j,rfl,rfl,k _ _ CW⟩
theorem LV{g:Int->Int->Bool}:OpN K (Lw g) (r2L (rI0 fun i j=>.bl (g i j))):=by
 intro N H xs as b Q hs e k
 replace e:=Bz e
 obtain⟨q1,q2,rfl,e⟩:=e
 replace e:=bind_eq_some_iff.mp e
 obtain⟨i,eq1,e⟩:=e;cases AZ eq1;clear eq1
 replace e:=bind_eq_some_iff.mp e
 obtain⟨j,eq2,e⟩:=e;cases AZ eq2;clear eq2;cases e;obtain⟨x,y,L1,L2,rfl,h1,h2⟩:=Bb hs;cases Bf h1;cases Bf h2;exact⟨_,_,rfl,i,j,rfl,rfl,k _ _ Dq⟩
noncomputable def D6:=Gu (fun _ _=>true) fun i j=>i-j
noncomputable def Ln:=Gu (fun _ j=>decide (0<j/\j<1099511627776)) fun i j=>i / j
noncomputable def LK:=Gu (fun _ j=>decide (0<j)) fun i j=>i % j
noncomputable def Rq:=Gu (fun i j=>decide (0<=j/\j<=1000000/\i.natAbs<2 ^ 64)) fun i j=>i ^ j.toNat
noncomputable def EK:=Gu (fun i j=>decide (0<=j/\j<=1000000/\i.natAbs<2 ^ 64)) fun i j=>i*2 ^ j.toNat
noncomputable def HY:=Gu (fun _ j=>decide (0<=j)) fun i j=>i / 2 ^ j.toNat
noncomputable def GO:=Gu (fun _ _=>true) fun i j=>Builtin.bitAnd i j
noncomputable def My:=Gu (fun _ _=>true) fun i j=>Builtin.bitOr i j
noncomputable def gtA:=Lw fun i j=>decide (j<i)
noncomputable def geA:=Lw fun i j=>decide (j<=i)
theorem Oc:OpN K Ln (r2L (rI Ve fun i j=>.int (i / j))):=G9 fun i j h=>by simpa[Ve] using h
theorem IJ:OpN K LK (r2L (rI (fun _ j=>0<j) fun i j=>.int (i % j))):=G9 fun i j h=>by simpa using h
theorem Q5:OpN K Rq (r2L (rI Oz fun i j=>.int (i ^ j.toNat))):=G9 fun i j h=>by simpa[Oz] using h
theorem Nf:OpN K EK (r2L (rI Oz fun i j=>.int (i*2 ^ j.toNat))):=G9 fun i j h=>by simpa[Oz] using h
theorem Wi:OpN K HY (r2L (rI (fun _ j=>0<=j) fun i j=>.int (i / 2 ^ j.toNat))):=G9 fun i j h=>by simpa using h
noncomputable def CS:A->Option (List D)
 | .fz (.lst ds)=>some ds
 | .lst as=>fzs as
 | .fz .non | .fz (.bl _) | .fz (.int _) | .fz (.str _) | .fz (.tup _) | .tup _ | .scr _ | .dic _ | .dct _ | .opq _ _=>none
theorem DY{ds:List D}(q:Ap K N H v a L)(e:CS a=some ds):∃p vs,v=.ref p/\H p=some (.lst vs)/\vs.length<=sizeLine/\Ar N H vs ds:=by
 cases a with
 | fz d =>
  obtain⟨_,q⟩:=CH.mp q;cases d with
  | lst es =>
   simp only[CS,Option.some.injEq] at e;subst e;cases q with
   | lst h hz hn hl hr=>exact⟨_,_,rfl,h,hz,Ar.mk hl hr⟩
  | _=>simp[CS] at e
 | lst as =>
  simp only[CS] at e;rw[Ap] at q;obtain⟨p,vs,L',rfl,rfl,h,hz,hs⟩:=q;exact⟨p,vs,rfl,h,hz,(hs.fzs e).2⟩
 | _=>simp[CS] at e
noncomputable def Bs:List A->Option A:=on2 fun a b=>((BB a).bind fun i=>(BB b).map fun j=>A.fz (.int (i+j))).or (((Ck a).bind fun x=>(Ck b).bind fun y=>if x.length+y.length<=LIM then some (.fz (.str (x++y))) else none).or ((CS a).bind fun xs=>(CS b).bind fun ys=>if xs.length+ys.length<=LIM then some (.lst ((xs++ys).map A.fz)) else none))
theorem Mk(x y:Str):(x++y).length=x.length+y.length:=strLen_append x y
theorem BO:OpN K Bs (r2L fun x y H Q=>(rI0 (fun i j=>.int (i+j))) x y H Q\/(∃i j,x=.str i/\y=.str j/\i.length+j.length<=sizeLine/\Q (.str (i++j)) H)\/WY x y H Q):=by
 intro N H xs as b Q hs e k
 replace e:=Bz e
 obtain⟨a,b,rfl,e⟩:=e;rcases Option.or_eq_some_iff.mp e with e|⟨_,e⟩
 .simp only[bind_eq_some_iff,map_eq_some_iff] at e
  obtain⟨i,ei,j,ej,rfl⟩:=e;cases AZ ei;cases AZ ej;obtain⟨x,y,L1,L2,rfl,h1,h2⟩:=Bb hs;cases Bf h1;cases Bf h2;exact⟨_,_,rfl,.inl ⟨i,j,rfl,rfl,k _ _ CW⟩⟩
 .rcases Option.or_eq_some_iff.mp e with e|⟨_,e⟩
  .simp only[bind_eq_some_iff] at e
   obtain⟨i,ei,j,ej,e9⟩:=e;cases B7 ei;cases B7 ej;split at e9
   .rename_i hz
    cases e9;obtain⟨x,y,L1,L2,rfl,h1,h2⟩:=Bb hs;obtain⟨rfl,_⟩:=CI h1;obtain⟨rfl,_⟩:=CI h2;exact⟨_,_,rfl,.inr (.inl ⟨i,j,rfl,rfl,hz,k _ _ (Hb (by rw[Mk]; exact hz))⟩)⟩
   .cases e9
  .simp only[bind_eq_some_iff] at e
   obtain⟨ds,e1,es,e2,e3⟩:=e;split at e3
   .rename_i hz
    cases e3;obtain⟨x,y,L1,L2,rfl,h1,h2⟩:=Bb hs;obtain⟨p,vs,rfl,hp,z1,q1⟩:=DY h1 e1;obtain⟨p',vs',rfl,hp',z2,q2⟩:=DY h2 e2;have hl:(vs++vs').length<=sizeLine:=by rw[List.length_append,q1.len,q2.len]; exact hz
    exact⟨_,_,rfl,.inr (.inr ⟨p,p',vs,vs',rfl,rfl,hp,hp',by rw[List.length_append] at hl; exact hl,fun q hq=>k _ _ (KQ hq hl (F4 q1 q2))⟩)⟩
   .cases e3
theorem Bp{X:Cx}:OpR X (binaryOp .Add) (fun x y H Q=>(rI0 (fun i j=>.int (i+j))) x y H Q\/(∃i j,x=.str i/\y=.str j/\i.length+j.length<=sizeLine/\Q (.str (i++j)) H)\/WY x y H Q):=Wj.or (Ng.or Wl)
noncomputable def E8:List A->Option A:=on2 fun q1 q2=>(BB q1).bind fun i=>(BB q2).bind fun j=>if (-(2 ^ 64)<i/\i<2 ^ 64)\/(-(2 ^ 64)<j/\j<2 ^ 64) then some (.fz (.int (i*j))) else none
theorem D0:OpN K E8 (r2L (rI Sf fun i j=>.int (i*j))):=by
 intro N H xs as b Q hs e k
 replace e:=Bz e
 obtain⟨q1,q2,rfl,e⟩:=e
 replace e:=bind_eq_some_iff.mp e
 obtain⟨i,eq1,e⟩:=e;cases AZ eq1;clear eq1
 replace e:=bind_eq_some_iff.mp e
 obtain⟨j,eq2,e⟩:=e;cases AZ eq2;clear eq2;split at e
 .rename_i hc
  cases e;obtain⟨x,y,L1,L2,rfl,h1,h2⟩:=Bb hs;cases Bf h1;cases Bf h2;exact⟨_,_,rfl,i,j,rfl,rfl,hc,k _ _ CW⟩
 .cases e
noncomputable def LL:List A->Option A:=on1 fun q1=>(BB q1).bind fun i=>some (.fz (.int (-i)))
theorem IL:OpN K LL (r1L (rU fun i=>.int (-i))):=by
 intro N H xs as b Q hs e k
 replace e:=D1 e
 obtain⟨q1,rfl,e⟩:=e
 replace e:=bind_eq_some_iff.mp e
 obtain⟨i,eq1,e⟩:=e;cases AZ eq1;clear eq1;cases e;obtain⟨x,L1,rfl,h1⟩:=CG hs;cases Bf h1;exact⟨_,rfl,i,rfl,k _ _ CW⟩
mutual
noncomputable def shB:Nat->D->Bool
 | _,.non=>true
 | _,.bl _=>true
 | _,.int _=>true
 | _,.str _=>true
 | 0,.lst _=>false
 | 0,.tup _=>false
 | n+1,.lst ds=>NA n ds
 | n+1,.tup ds=>NA n ds
noncomputable def NA:Nat->List D->Bool
 | _,[]=>true
 | n,d::ds=>shB n d&&NA n ds
end
mutual
theorem Jk:∀{n:Nat} {d:D},shB n d=true->Sh n d
 | _,.non,_=>.non
 | _,.bl b,_=>.bl b
 | _,.int i,_=>.int i
 | _,.str x,_=>.str x
 | 0,.lst _,h=>by simp[shB] at h
 | 0,.tup _,h=>by simp[shB] at h
 | n+1,.lst ds,h=>.lst (K1 (by simpa[shB] using h))
 | n+1,.tup ds,h=>.tup (K1 (by simpa[shB] using h))
theorem K1:∀{n:Nat} {ds:List D},NA n ds=true->∀d∈ds,Sh n d
 | _,[],_,d,hd=>by simp at hd
 | n,e::ds,h,d,hd=>by
  simp only[NA,Bool.and_eq_true] at h;rcases List.mem_cons.mp hd with q|hd
  .rw[q]; exact Jk h.1
  .exact K1 h.2 d hd
end
noncomputable def eqA:List A->Option A:=on2 fun a b=>(er a).bind fun d=>(er b).bind fun e=>if shB 16 d then some (.fz (.bl (eqD d e))) else none
noncomputable def neA:List A->Option A:=on2 fun a b=>(er a).bind fun d=>(er b).bind fun e=>if shB 16 d then some (.fz (.bl (!eqD d e))) else none
theorem Jf{d:D}(q:Ap K N H v a L)(e:er a=some d):Rep H v d:=(Ap.er q e).rep
theorem Gm:OpN K eqA (r2L Y4):=by
 intro N H xs as b Q hs e k
 replace e:=Bz e
 obtain⟨a,b,rfl,e⟩:=e;simp only[bind_eq_some_iff] at e;obtain⟨d,e1,d',e2,e3⟩:=e;split at e3
 .rename_i hz
  cases e3;obtain⟨x,y,L1,L2,rfl,h1,h2⟩:=Bb hs;exact⟨_,_,rfl,d,d',Jf h1 e1,Jf h2 e2,Jk hz,k _ _ Dq⟩
 .cases e3
theorem U2:OpN K neA (r2L Yq):=by
 intro N H xs as b Q hs e k
 replace e:=Bz e
 obtain⟨a,b,rfl,e⟩:=e;simp only[bind_eq_some_iff] at e;obtain⟨d,e1,d',e2,e3⟩:=e;split at e3
 .rename_i hz
  cases e3;obtain⟨x,y,L1,L2,rfl,h1,h2⟩:=Bb hs;exact⟨_,_,rfl,d,d',Jf h1 e1,Jf h2 e2,Jk hz,k _ _ Dq⟩
 .cases e3
noncomputable def ltA:List A->Option A:=on2 fun a b=>((BB a).bind fun i=>(BB b).map fun j=>A.fz (.bl (decide (i<j)))).or ((Ck a).bind fun x=>(Ck b).map fun y=>A.fz (.bl (decide (x.cps.toList<y.cps.toList))))
noncomputable def leA:List A->Option A:=on2 fun a b=>((BB a).bind fun i=>(BB b).map fun j=>A.fz (.bl (decide (i<=j)))).or ((Ck a).bind fun x=>(Ck b).map fun y=>A.fz (.bl (!decide (y.cps.toList<x.cps.toList))))
theorem II:OpN K ltA (r2L U8):=by
 intro N H xs as b Q hs e k
 replace e:=Bz e
 obtain⟨a,b,rfl,e⟩:=e;rcases Option.or_eq_some_iff.mp e with e|⟨_,e⟩
 .simp only[bind_eq_some_iff,map_eq_some_iff] at e
  obtain⟨i,ei,j,ej,rfl⟩:=e;cases AZ ei;cases AZ ej;obtain⟨x,y,L1,L2,rfl,h1,h2⟩:=Bb hs;cases Bf h1;cases Bf h2;exact⟨_,_,rfl,.inl ⟨i,j,rfl,rfl,k _ _ Dq⟩⟩
 .simp only[bind_eq_some_iff,map_eq_some_iff] at e
  obtain⟨i,ei,j,ej,rfl⟩:=e;cases B7 ei;cases B7 ej;obtain⟨x,y,L1,L2,rfl,h1,h2⟩:=Bb hs;obtain⟨rfl,_⟩:=CI h1;obtain⟨rfl,_⟩:=CI h2;exact⟨_,_,rfl,.inr ⟨i,j,rfl,rfl,k _ _ Dq⟩⟩
theorem HP:OpN K leA (r2L U6):=by
 intro N H xs as b Q hs e k
 replace e:=Bz e
 obtain⟨a,b,rfl,e⟩:=e;rcases Option.or_eq_some_iff.mp e with e|⟨_,e⟩
 .simp only[bind_eq_some_iff,map_eq_some_iff] at e
  obtain⟨i,ei,j,ej,rfl⟩:=e;cases AZ ei;cases AZ ej;obtain⟨x,y,L1,L2,rfl,h1,h2⟩:=Bb hs;cases Bf h1;cases Bf h2;exact⟨_,_,rfl,.inl ⟨i,j,rfl,rfl,k _ _ Dq⟩⟩
 .simp only[bind_eq_some_iff,map_eq_some_iff] at e
  obtain⟨i,ei,j,ej,rfl⟩:=e;cases B7 ei;cases B7 ej;obtain⟨x,y,L1,L2,rfl,h1,h2⟩:=Bb hs;obtain⟨rfl,_⟩:=CI h1;obtain⟨rfl,_⟩:=CI h2;exact⟨_,_,rfl,.inr ⟨i,j,rfl,rfl,k _ _ Dq⟩⟩
noncomputable def Cf:D->Bool
 | .lst _=>false
 | .tup _=>false
 | .non | .bl _ | .int _ | .str _=>true
theorem NY{d:D}(r:RepA N H v d)(h:Cf d=true):Gj v=true:=by
 cases r with
 | lst=>simp[Cf] at h
 | tup=>simp[Cf] at h
 | _=>rfl
theorem Vv{x y:V}{d e:D}(r:RepA N H x d)(q:RepA N H y e)(hd:Cf d=true)(he:Cf e=true):eqV x y=eqD d e:=by
 cases r with
 | lst=>simp[Cf] at hd
 | tup=>simp[Cf] at hd
 | _ =>
  cases q with
  | lst=>simp[Cf] at he
  | tup=>simp[Cf] at he
  | _=>rfl
noncomputable def inD(d:D)(ds:List D):Bool:=ds.any fun e=>eqD e d
theorem Qc{x:V}{d:D}(r:RepA N H x d)(hd:Cf d=true):∀{vs:List V} {ds:List D},Ar N H vs ds->ds.all Cf=true->vs.all Gj=true/\inV x vs=inD d ds
 | [],[],_,_=>⟨rfl,rfl⟩
 | [],_::_,q,_=>by simp only[Ar] at q
 | _::_,[],q,_=>by simp only[Ar] at q
 | v::vs,e::ds,q,h=>by
  simp only[List.all_cons,Bool.and_eq_true] at h;obtain⟨h1,h2⟩:=Qc r hd q.2 h.2;refine⟨by simp[NY q.1 h.1,h1],?_⟩;simp only[inV,inD,List.any_cons] at h2 |-;rw[h2,Vv q.1 r h.1 hd]
noncomputable def inA(neg:Bool):List A->Option A:=on2 fun a b=>((Ck a).bind fun x=>(Ck b).map fun y=>A.fz (.bl (if neg then !(!(Builtin.Str.occurrences y x 0 y.length 1).isEmpty) else !(Builtin.Str.occurrences y x 0 y.length 1).isEmpty))).or ((fzU a).bind fun d=>(AH b).bind fun ds=>if Cf d&&ds.all Cf then some (.fz (.bl (if neg then !inD d ds else inD d ds))) else none)
theorem Od(neg:Bool):OpN K (inA neg) (r2L fun x y H Q=>rIn K neg x y H Q\/∃i j,x=.str i/\y=.str j/\Q (.bl (if neg then !(!(Builtin.Str.occurrences j i 0 j.length 1).isEmpty) else !(Builtin.Str.occurrences j i 0 j.length 1).isEmpty)) H):=by
 intro N H xs as b Q hs e k
 replace e:=Bz e
 obtain⟨a,b,rfl,e⟩:=e;rcases Option.or_eq_some_iff.mp e with e|⟨_,e⟩
 .simp only[bind_eq_some_iff,map_eq_some_iff] at e
  obtain⟨i,ei,j,ej,rfl⟩:=e;cases B7 ei;cases B7 ej;obtain⟨x,y,L1,L2,rfl,h1,h2⟩:=Bb hs;obtain⟨rfl,_⟩:=CI h1;obtain⟨rfl,_⟩:=CI h2;exact⟨_,_,rfl,.inr ⟨i,j,rfl,rfl,k _ _ Dq⟩⟩
 .simp only[bind_eq_some_iff] at e
  obtain⟨d,ed,ds,e1,e2⟩:=e;cases Ir ed;split at e2
  .rename_i hz
   cases e2;simp only[Bool.and_eq_true] at hz;obtain⟨x,y,L1,L2,rfl,h1,h2⟩:=Bb hs;obtain⟨_,h1⟩:=CH.mp h1;obtain⟨p,vs,rfl,hp,q⟩:=G4 h2 e1;obtain⟨f1,f2⟩:=Qc h1 hz.1 q hz.2;refine⟨_,_,rfl,.inl ⟨p,vs,rfl,hp,NY h1 hz.1,f1,?_⟩⟩;rw[f2];exact k _ _ Dq
  .cases e2
theorem KP{X:Cx}:OpR X (compareOp .In) (fun x y H Q=>rIn X.K false x y H Q\/∃i j,x=.str i/\y=.str j/\Q (.bl (if false=true then !(!(Builtin.Str.occurrences j i 0 j.length 1).isEmpty) else !(Builtin.Str.occurrences j i 0 j.length 1).isEmpty)) H):=O2.or O3
noncomputable def ixA:List A->Option A:=on2 fun a b=>(BB b).bind fun i=>((Ck a).bind fun z=>(atI z.cps.toList i).map fun c=>A.fz (.str ⟨#[c]⟩)).or ((AH a).bind fun ds=>(atI ds i).map A.fz)
theorem Vn{vs:List V}{ds:List D}{i:Int}{d:D}(q:Ar N H vs ds)(e:atI ds i=some d):∃v,atI vs i=some v/\RepA N H v d:=by
 unfold atI at e |-;rw[q.len];simp only[bind_eq_some_iff] at e |-;obtain⟨j,e1,e2⟩:=e;obtain⟨v,hv⟩:=SD q (Aq e2);exact⟨v,⟨j,e1,hv⟩,q.get j v d hv e2⟩
theorem Az:OpN K ixA (r2L (rIx K)):=by
 intro N H xs as b Q hs e k
 replace e:=Bz e
 obtain⟨a,b,rfl,e⟩:=e;obtain⟨i,ei,e8⟩:=bind_eq_some_iff.mp e;cases AZ ei;rcases Option.or_eq_some_iff.mp e8 with e|⟨_,e⟩
 .simp only[bind_eq_some_iff,map_eq_some_iff] at e
  obtain⟨z,ez,c,e1,rfl⟩:=e;cases B7 ez;obtain⟨x,y,L1,L2,rfl,h1,h2⟩:=Bb hs;obtain⟨rfl,hz⟩:=CI h1;cases Bf h2;exact⟨_,_,rfl,.inr (.inr ⟨z,i,c,rfl,rfl,hz,e1,k _ _ (Hb (by show 1<=sizeLine; decide))⟩)⟩
 .simp only[bind_eq_some_iff,map_eq_some_iff] at e
  obtain⟨ds,e1,d,e2,rfl⟩:=e;obtain⟨x,y,L1,L2,rfl,h1,h2⟩:=Bb hs;cases Bf h2;obtain⟨p,vs,rfl,hp,q⟩:=G4 h1 e1;obtain⟨v,hv,q2⟩:=Vn q e2;rcases hp with hp|hp
  .exact⟨_,_,rfl,.inl ⟨p,vs,i,v,rfl,rfl,hp,hv,k _ _ (Fd q2)⟩⟩
  .exact⟨_,_,rfl,.inr (.inl ⟨p,vs,i,v,rfl,rfl,hp,hv,k _ _ (Fd q2)⟩)⟩
noncomputable def CQ:List A->Option A:=on1 fun a=>((Ck a).map fun z=>A.fz (.int z.length)).or ((AH a).map fun ds=>A.fz (.int ds.length))
theorem B1:OpN K CQ (Yp K):=by
 intro N H xs as b Q hs e k
 replace e:=D1 e
 obtain⟨a,rfl,e⟩:=e;rcases Option.or_eq_some_iff.mp e with e|⟨_,e⟩
 .obtain⟨z,ez,rfl⟩:=map_eq_some_iff.mp e
  cases B7 ez;obtain⟨x,L1,rfl,h1⟩:=CG hs;obtain⟨rfl,hz⟩:=CI h1;exact .inr ⟨z,rfl,hz,k _ _ CW⟩
 .obtain⟨ds,e1,rfl⟩:=map_eq_some_iff.mp e
  obtain⟨x,L1,rfl,h1⟩:=CG hs;obtain⟨p,vs,rfl,hp,q⟩:=G4 h1 e1;refine .inl ⟨p,vs,rfl,hp,?_⟩;rw[q.len];exact k _ _ CW
theorem AY{X:Cx}:BJ X (.builtin "len") (Yp X.K):=Ki.or Kj
noncomputable def Pz:List A->Option A:=on1 fun q1=>(BB q1).bind fun i=>some (.fz (.int (if i<0 then -i else i)))
theorem QZ:OpN K Pz (fun xs H Q=>∃i,xs=[.int i]/\Q (.int (if i<0 then -i else i)) H):=by
 intro N H xs as b Q hs e k
 replace e:=D1 e
 obtain⟨q1,rfl,e⟩:=e
 replace e:=bind_eq_some_iff.mp e
 obtain⟨i,eq1,e⟩:=e;cases AZ eq1;clear eq1;cases e;obtain⟨x,L1,rfl,h1⟩:=CG hs;cases Bf h1;exact⟨i,rfl,k _ _ CW⟩
noncomputable def Td:List A->Option A:=on2 fun q1 q2=>(BB q1).bind fun i=>(BB q2).bind fun j=>some (.fz (.int (if j > i then j else i)))
theorem Wg:OpN K Td (fun xs H Q=>∃i j,xs=[.int i,.int j]/\Q (.int (if j > i then j else i)) H):=by
 intro N H xs as b Q hs e k
 replace e:=Bz e
 obtain⟨q1,q2,rfl,e⟩:=e
 replace e:=bind_eq_some_iff.mp e
 obtain⟨i,eq1,e⟩:=e;cases AZ eq1;clear eq1
 replace e:=bind_eq_some_iff.mp e
 obtain⟨j,eq2,e⟩:=e;cases AZ eq2;clear eq2;cases e;obtain⟨x,y,L1,L2,rfl,h1,h2⟩:=Bb hs;cases Bf h1;cases Bf h2;exact⟨i,j,rfl,k _ _ CW⟩
noncomputable def Df:List D->Option (List Bool)
 | []=>some []
 | .bl b::ds=>(Df ds).map (b :: ·)
 | _::_=>none
theorem Lc:∀{vs:List V} {ds:List D} {bs:List Bool},Ar N H vs ds->Df ds=some bs->vs=DM bs:=by
 intro _l;induction _l with
 | nil =>
  intro _m;cases _m with
  | nil =>
   intro bs _ e;simp[Df] at e; subst e; rfl
  | cons _ _ =>
   intro _ q _;simp only[Ar] at q
 | cons v vs ih =>
  intro _m;cases _m with
  | nil =>
   intro _ q _;simp only[Ar] at q
  | cons d ds =>
   intro bs q e;cases d with
   | bl b =>
    simp only[Df,map_eq_some_iff] at e;obtain⟨bs',e1,rfl⟩:=e;have:=ih q.2 e1;obtain⟨q1,_⟩:=q;cases q1;subst this;rfl
   | _=>simp[Df] at e
noncomputable def Ju:List A->Option A:=on1 fun a=>(CS a).bind fun ds=>(Df ds).map fun bs=>.fz (.bl (bs.all id))
noncomputable def OB:List A->Option A:=on1 fun a=>(CS a).bind fun ds=>(Df ds).map fun bs=>.fz (.bl (bs.any id))
theorem KL:OpN K Ju (Y2 K):=by
 intro N H xs as b Q hs e k
 replace e:=D1 e
 obtain⟨a,rfl,e⟩:=e;simp only[bind_eq_some_iff,map_eq_some_iff] at e;obtain⟨ds,e1,bs,e2,rfl⟩:=e;obtain⟨x,L1,rfl,h1⟩:=CG hs;obtain⟨p,vs,rfl,hp,hz,q⟩:=DY h1 e1;cases Lc q e2;exact⟨p,bs,rfl,.inl (.inl hp),k _ _ Dq⟩
theorem V9:OpN K OB (Y3 K):=by
 intro N H xs as b Q hs e k
 replace e:=D1 e
 obtain⟨a,rfl,e⟩:=e;simp only[bind_eq_some_iff,map_eq_some_iff] at e;obtain⟨ds,e1,bs,e2,rfl⟩:=e;obtain⟨x,L1,rfl,h1⟩:=CG hs;obtain⟨p,vs,rfl,hp,hz,q⟩:=DY h1 e1;cases Lc q e2;exact⟨p,bs,rfl,.inl (.inl hp),k _ _ Dq⟩
noncomputable def Ez(f:D->Bool):List A->Option A:=on1 fun a=>(er a).map fun d=>.fz (.bl (f d))
theorem Wd{T:String}{f:D->Bool}:OpN K (Ez f) (r1L fun x H Q=>∃d,Rep H x d/\Q (.bl (f d)) H):=by
 intro N H xs as b Q hs e k
 replace e:=D1 e
 obtain⟨a,rfl,e⟩:=e;simp only[map_eq_some_iff] at e;obtain⟨d,e1,rfl⟩:=e;obtain⟨x,L1,rfl,h1⟩:=CG hs;exact⟨x,rfl,d,Jf h1 e1,k _ _ Dq⟩
theorem Jn{T:String}{f:D->Bool}{m:ME}{U:L2.St}{Q:VK}(h:tE K (opM (Ez f) (m1L m)) U H Q):tCB (rIs T f) (BP (tE K m) (BP (tC (.ty T)) GG)) U H Q:=by
 have h2:=one (Wd (T:=T)) h;exact tE.mono h2 fun x H1 ⟨d,r,q⟩=>⟨x,d,rfl,r,q⟩
end
end J
end
section
namespace L2
open PySem PySem.Spec PyProof.Rows
section
variable{X:Cx}
noncomputable def WZ:V->Option Int->Option Int->Hp->VK->Prop:=fun x lo hi H Q=>∃z,x=.str z/\z.length<=sizeLine/\Q (.str (Txt.slice z lo hi)) H
theorem Xb:SlR X WZ:=by
 intro pins s U H x v vl vu lo hi sl Q I rx hs pl pu h;obtain⟨z,rfl,hz,q⟩:=h;obtain⟨t,rfl⟩:=rx;refine⟨"str",_,F.slot_str_getitem.lookup,typeIs_str _ _ _,?_⟩;have fin:∀t' k,EP X pins U Q (.str (Txt.slice z lo hi) t') { s with toks:=k }:=fun t' k=>⟨.str _,H,I.tok k,⟨_,rfl⟩,q⟩;obtain⟨o,ho,hc,hd⟩:=hs;cases pl with
 | none =>
  cases pu with
  | none=>exact wpAny_getItem_str_slice (l:=none) (u:=none) (st:=none) ⟨o,ho,hc,hd⟩ rfl (post_val_or_str ⟨Nat.le_trans (Txt.slice_le z _ _) hz,fun t' k=>fin t' k⟩)
  | int j tj=>exact wpAny_getItem_str_slice (l:=none) (u:=some (j,tj)) (st:=none) ⟨o,ho,hc,hd⟩ rfl (post_val_or_str ⟨Nat.le_trans (Txt.slice_le z _ _) hz,fun t' k=>fin t' k⟩)
 | int i ti =>
  cases pu with
  | none=>exact wpAny_getItem_str_slice (l:=some (i,ti)) (u:=none) (st:=none) ⟨o,ho,hc,hd⟩ rfl (post_val_or_str ⟨Nat.le_trans (Txt.slice_le z _ _) hz,fun t' k=>fin t' k⟩)
  | int j tj=>exact wpAny_getItem_str_slice (l:=some (i,ti)) (u:=some (j,tj)) (st:=none) ⟨o,ho,hc,hd⟩ rfl (post_val_or_str ⟨Nat.le_trans (Txt.slice_le z _ _) hz,fun t' k=>fin t' k⟩)
end
end L2
namespace J
open PySem PySem.Spec PyProof.Rows L2
section
variable{X:Cx}{a b c e:Expr}{es:List Expr}{m m1 m2 m3:ME}{ms:MA}{p pos pos' p2 apos cpos q:Pos}{x:Str}
variable{K:Frag}{H:Hp}{U:L2.St}
theorem Qm(hg:Gl X "isinstance")(hg2:Gl X "int")(B:Blt X.mg X.K)(he:starEach [a,.Name "int" q] X.env=[(false,eval a X.env),(false,eval (.Name "int" q) X.env)])(he2:starEach [.Name "int" q] X.env=[(false,eval (.Name "int" q) X.env)])(ha:JE X a m):
  JE X (.Call (.Name "isinstance" p) [a,.Name "int" q] [] pos) (opM (Ez isInt) (m1L m)):=AA (Ww hg hg2 B he he2 ha) fun _ _ _ h=>Jn h
theorem Ql(hg:Gl X "isinstance")(hg2:Gl X "bool")(B:Blt X.mg X.K)(he:starEach [a,.Name "bool" q] X.env=[(false,eval a X.env),(false,eval (.Name "bool" q) X.env)])(he2:starEach [.Name "bool" q] X.env=[(false,eval (.Name "bool" q) X.env)])(ha:JE X a m):
  JE X (.Call (.Name "isinstance" p) [a,.Name "bool" q] [] pos) (opM (Ez isBool) (m1L m)):=AA (Wv hg hg2 B he he2 ha) fun _ _ _ h=>Jn h
theorem Qn(hg:Gl X "isinstance")(hg2:Gl X "list")(B:Blt X.mg X.K)(he:starEach [a,.Name "list" q] X.env=[(false,eval a X.env),(false,eval (.Name "list" q) X.env)])(he2:starEach [.Name "list" q] X.env=[(false,eval (.Name "list" q) X.env)])(ha:JE X a m):
  JE X (.Call (.Name "isinstance" p) [a,.Name "list" q] [] pos) (opM (Ez HM) (m1L m)):=AA (Wx hg hg2 B he he2 ha) fun _ _ _ h=>Jn h
theorem MV(hg:Gl X "isinstance")(hg2:Gl X "tuple")(B:Blt X.mg X.K)(he:starEach [a,.Name "tuple" q] X.env=[(false,eval a X.env),(false,eval (.Name "tuple" q) X.env)])(he2:starEach [.Name "tuple" q] X.env=[(false,eval (.Name "tuple" q) X.env)])(ha:JE X a m):
  JE X (.Call (.Name "isinstance" p) [a,.Name "tuple" q] [] pos) (opM (Ez isTup) (m1L m)):=AA (Wy hg hg2 B he he2 ha) fun _ _ _ h=>Jn h
theorem MW(hg:Gl X "isinstance")(hg2:Gl X "str")(B:Blt X.mg X.K)(he:starEach [a,.Name "str" q] X.env=[(false,eval a X.env),(false,eval (.Name "str" q) X.env)])(he2:starEach [.Name "str" q] X.env=[(false,eval (.Name "str" q) X.env)])(ha:JE X a m):
  JE X (.Call (.Name "isinstance" p) [a,.Name "str" q] [] pos) (opM (Ez isStr) (m1L m)):=AA (Wz hg hg2 B he he2 ha) fun _ _ _ h=>Jn h
noncomputable def slF(x:A)(lo hi:Option Int):Option A:=match x with
 | .fz (.str z)=>some (.fz (.str (Txt.slice z lo hi)))
 | _=>none
noncomputable def RQ:List A->Option A:=on2 fun x q2=>(BB q2).bind fun j=>slF x none (some j)
noncomputable def Y5:List A->Option A:=on2 fun x q2=>(BB q2).bind fun i=>slF x (some i) none
theorem Xa{N:Addr->Prop}{v:V}{a b:A}{L:List Addr}{lo hi:Option Int}{Q:VK}(h:Ap K N H v a L)(e:slF a lo hi=some b)(k:∀u H',Kb K N H b u H'->Q u H'):WZ v lo hi H Q:=by
 unfold slF at e;split at e
 .rename_i z
  cases e;obtain⟨rfl,hz⟩:=CI h;exact⟨z,rfl,hz,k _ _ (Hb (Nat.le_trans (Txt.slice_le z _ _) hz))⟩
 .cases e
theorem S3(ha:JE X a m1)(hb:JE X b m2):JE X (.Subscript a (.Slice none (some b) none p2) pos) (opM RQ (m2L m1 m2)):=by
 refine AA (Rm Xb ha TJ (TK hb)) fun U H Q h=>?_;have ok:OpN X.K RQ (r2L fun x y H Q=>∃j,y=.int j/\WZ x none (some j) H Q):=by
  intro N H xs as b Q hs e k
  replace e:=Bz e
  obtain⟨x,q2,rfl,e⟩:=e
  replace e:=bind_eq_some_iff.mp e
  obtain⟨j,eq2,e⟩:=e;cases AZ eq2;clear eq2;obtain⟨x,y,L1,L2,rfl,h1,h2⟩:=Bb hs;cases Bf h2;exact⟨_,_,rfl,j,rfl,Xa h1 e k⟩
 exact tE.mono (two ok h) fun x H1 h1=>tE.mono h1 fun y H2 ⟨j,e,q⟩=>⟨j,e,q⟩
noncomputable def HQ:List D->Option (List Str)
 | []=>some []
 | .str z::ds=>(HQ ds).map (z :: ·)
 | _::_=>none
theorem Uj{N:Addr->Prop}:∀{vs:List V} {ds:List D} {zs:List Str},Ar N H vs ds->HQ ds=some zs->vs=zs.map V.str:=by
 intro _l;induction _l with
 | nil =>
  intro _m;cases _m with
  | nil =>
   intro zs _ e;simp[HQ] at e; subst e; rfl
  | cons _ _ =>
   intro _ q _;simp only[Ar] at q
 | cons v vs ih =>
  intro _m;cases _m with
  | nil =>
   intro _ q _;simp only[Ar] at q
  | cons d ds =>
   intro zs q e;cases d with
   | str z =>
    simp only[HQ,map_eq_some_iff] at e;obtain⟨zs',e1,rfl⟩:=e;have:=ih q.2 e1;obtain⟨q1,_⟩:=q;cases q1;subst this;rfl
   | _=>simp[HQ] at e
theorem P7(zs:List Str):(glue zs).length=(zs.map (·.length)).sum:=by
 show(glue zs).cps.size=_;simp[glue,List.length_flatten,Function.comp_def];rfl
theorem Ue{sep:Str}(h:sep.length=0):sep=("" : Str):=by
 cases sep with
 | mk c =>
  have:c = #[]:=Array.eq_empty_of_size_eq_zero h;subst this;decide +kernel
noncomputable def K3(f:Str->List A->Option A)(m:ME)(ms:MA):ME:=fun Z=>(m Z).bind fun p=>match p.1 with
 | .val (.fz (.str z))=>(ms p.2).bind fun q=>(peeks q.2 q.1).bind fun as=>(f z as).map fun a=>(.val a,q.2)
 | _=>none
theorem R0{f:Str->List A->Option A}{r:V->List V->Hp->VK->Prop}{Q:VK}(ok:∀z,z.length<=sizeLine->OpN K (f z) fun xs H Q=>r (.str z) xs H Q)(h:tE K (K3 f m ms) U H Q):tBM K "str" r (tE K m) (tA K ms) U H Q:=by
 obtain⟨Z,O,fp,rl,y,Z',h0,k⟩:=h;simp only[K3,bind_eq_some_iff] at h0;obtain⟨⟨r1,Z1⟩,e1,h0⟩:=h0;dsimp only at h0;split at h0
 .rename_i z
  simp only[bind_eq_some_iff,map_eq_some_iff] at h0;obtain⟨⟨rs,Z2⟩,e2,as,e3,c,e4,e5⟩:=h0;cases e5;refine⟨Z,O,fp,rl,_,Z1,e1,fun v H1 yy=>?_⟩;obtain⟨L,fp1,p,q⟩:=yy;obtain⟨rfl,hz⟩:=CI (K:=K) q;have p':=p.drop0;refine⟨rfl,Z1,O,fp1,p'.rel0,rs,Z2,e2,fun vs H2 yy=>?_⟩;obtain⟨L2,fp2,p2,q2⟩:=yy;exact ok z hz _ H2 vs as c Q (p2.rel.peeks q2 e3) e4 fun u H3 o=>k u H3 ((p2.out o).pre p')
 .cases h0
noncomputable def JX(sep:Str):List A->Option A:=on1 fun b=>if sep.length=0 then (CS b).bind fun ds=>(HQ ds).bind fun zs=>if (zs.map (·.length)).sum<=16777216 then some (.fz (.str (glue zs))) else none else none
theorem Tp(sep:Str)(hz:sep.length<=sizeLine):OpN K (JX sep) fun xs H Q=>rJoin K (.str sep) xs H Q:=by
 intro N H xs as b Q hs e k
 replace e:=D1 e
 obtain⟨b,rfl,e⟩:=e;split at e
 .rename_i h0
  simp only[bind_eq_some_iff] at e;obtain⟨ds,e1,zs,e2,e3⟩:=e;split at e3
  .rename_i hl
   cases e3;obtain⟨x,L1,rfl,h1⟩:=CG hs;obtain⟨p,vs,rfl,hp,hz',q⟩:=DY h1 e1;cases Uj q e2;cases Ue h0;refine⟨_,p,zs,rfl,rfl,.inl (.inl hp),?_,?_⟩
   .have:("" : Str).length=0:=by decide +kernel
    rw[this,Nat.mul_zero,Nat.add_zero];exact hl
   .rw[MZ]
    exact k _ _ (Hb (by rw[P7]; exact hl))
  .cases e3
 .cases e
theorem S1(hbase:attributeBase a "join" X.env (eval a X.env)=eval a X.env)(hline:(apos.endLine==cpos.line)=true)(B:Blt X.mg X.K)(hs:starEach [e] X.env=[(false,eval e X.env)])(ha:JE X a m1)(he:JE X e m2):
  JE X (.Call (.Attribute a "join" apos) [e] [] cpos) (K3 JX m1 (m1L m2)):=by
 refine AA (TB rfl B hbase hline hs ha he) fun U H Q h=>?_;exact tE.mono (R0 Tp h) fun x H1 ⟨ty,q⟩=>⟨ty,DD q |> fun q=>tE.mono q fun y H2 q=>FZ q⟩
noncomputable def Iv(z:Str):List A->Option A:=on1 fun q1=>(Ck q1).bind fun y=>if 0<=Txt.find z y then some (.fz (.int (Txt.find z y))) else none
theorem Q2(z:Str)(hz:z.length<=sizeLine):OpN K (Iv z) fun xs H Q=>Np (.str z) xs H Q:=by
 intro N H xs as b Q hs e k
 replace e:=D1 e
 obtain⟨q1,rfl,e⟩:=e
 replace e:=bind_eq_some_iff.mp e
 obtain⟨y,eq1,e⟩:=e;cases B7 eq1;clear eq1;split at e
 .rename_i h0
  cases e;obtain⟨x,L1,rfl,h1⟩:=CG hs;obtain⟨rfl,_⟩:=CI h1;exact⟨z,y,rfl,rfl,h0,k _ _ CW⟩
 .cases e
theorem Qk(hbase:attributeBase a "index" X.env (eval a X.env)=eval a X.env)(hline:(apos.endLine==cpos.line)=true)(B:Blt X.mg X.K)(hc:X.calm=true)(hs:starEach [e] X.env=[(false,eval e X.env)])(ha:JE X a m1)(he:JE X e m2):
  JE X (.Call (.Attribute a "index" apos) [e] [] cpos) (K3 Iv m1 (m1L m2)):=by
 refine AA (Rl rfl B hc hbase hline hs ha he) fun U H Q h=>?_;exact tE.mono (R0 Q2 h) fun x H1 ⟨ty,q⟩=>⟨ty,DD q |> fun q=>tE.mono q fun y H2 q=>FZ q⟩
noncomputable def Qf:List D->Option (List Int)
 | []=>some []
 | .int z::ds=>(Qf ds).map (z :: ·)
 | _::_=>none
end
section
variable{K:Frag}{Z Z' Z1 Z2:Ro}{U σ' σ1 σ2:L2.St}{H H' H1 H2:Hp}{O O' N:Addr->Prop}{fp fp' fp1 fp2:Nat->List Addr}{L L1:List Addr}
theorem Post.mut{i:Nat}{st:Own}{a a':A}{v:V}{p:Addr}{o:HO}{vs:List V}{L':List Addr}(x:Post K O fp H Z Z1 U U L fp1 H1)(hi : Z1[i]? = some (some (st,a)))(hst:st≠.ro)(hv : U[i]? = some (some v))(hp:p∈fp1 i)(hy:H1 p=some (.lst vs))(hL:∀q∈L',q∈fp1 i\/q∈L)(nd:L'.Nodup)(hr:Ap K (NN fp1 (ad O L)) (upd H1 p o) v a' L'):Post K O fp H Z (Z1.set i (some (st,a'))) U U [] (pt fp1 i L') (upd H1 p o):=by
 have alp:∀q,H1 q≠none->upd H1 p o q≠none:=fun q z=>by
  by_cases e:q=p
  .subst e; rw[AE]; simp
  .rw[AF e]; exact z
 have k:=F9 (o:=o) hy
 -- first the heap,then the slot
 have nn:∀q,NN (pt fp1 i L') (ad O []) q->NN fp1 (ad O L) q:=fun q z=>by
  rcases z with ⟨j,z⟩|z|z
  .rcases A2 z with ⟨_,z⟩|⟨_,z⟩
   .rcases hL q z with z|z
    .exact .inl ⟨i,z⟩
    .exact .inr (.inr z)
   .exact .inl ⟨j,z⟩
  .exact .inr (.inl z)
  .simp at z
 have dis:∀q∈L',∀j,j≠i->q∉fp1 j:=fun q hq j hj z=>by
  rcases hL q hq with w|w
  .exact hj (x.rel.inj j i q z w)
  .exact x.rel.off j q z (.inr w)
 refine⟨⟨by rw[List.length_set]; exact x.rel.len,fun j st' b e=>?_,fun j h=>?_,fun j=>?_,fun j1 j2 q h1 h2=>?_,fun j q h z=>?_,fun q z=>alp q (x.rel.al q (nn q z))⟩,List.nodup_nil,fun q h=>by simp at h,fun q h=>?_,fun b u e c=>?_,rfl,fun j st' b e h=>?_⟩
 .by_cases hj:j=i
  .subst hj
   rw[List.getElem?_set_self (Aq hi)] at e;cases e;exact⟨v,hv,by rw[Ei]; exact Dd nn hr⟩
  .rw[List.getElem?_set_ne (Ne.symm hj)] at e
   obtain⟨w,e1,q⟩:=x.rel.slot j _ _ e;refine⟨w,e1,?_⟩;rw[FX hj];exact q.tr (M:=fun q=>q=p) (fun b z=>by rw[z]; exact .inl ⟨i,hp⟩) k (fun b z=>.inl (nn b z)) fun b hb z=>hj (x.rel.inj j i p (z ▸ hb) hp)
 .by_cases hj:j=i
  .subst hj
   exact absurd (List.getElem?_set_self (Aq hi)) (h st a')
  .rw[FX hj]
   exact x.rel.out j fun st' b e=>h st' b (by rw[List.getElem?_set_ne (Ne.symm hj)]; exact e)
 .by_cases hj:j=i
  .subst hj; rw[Ei]; exact nd
  .rw[FX hj]; exact x.rel.nd j
 .rcases A2 h1 with ⟨e1,z1⟩|⟨e1,z1⟩
  .rcases A2 h2 with ⟨e2,z2⟩|⟨e2,z2⟩
   .rw[e1,e2]
   .exact absurd z2 (dis q z1 j2 e2)
  .rcases A2 h2 with ⟨e2,z2⟩|⟨e2,z2⟩
   .exact absurd z1 (dis q z2 j1 e1)
   .exact x.rel.inj j1 j2 q z1 z2
 .have z':=Ij.mp z
  rcases A2 h with ⟨_,z1⟩|⟨_,z1⟩
  .rcases hL q z1 with w|w
   .exact x.rel.off i q w (.inl z')
   .exact x.lo q w z'
  .exact x.rel.off j q z1 (.inl z')
 .rcases h with h|⟨j,h⟩
  .simp at h
  .rcases A2 h with ⟨_,z1⟩|⟨_,z1⟩
   .rcases hL q z1 with w|w
    .exact x.new q (.inr ⟨i,w⟩)
    .exact x.new q (.inl w)
   .exact x.new q (.inr ⟨j,z1⟩)
 .have e1:=x.kept b u e c
  by_cases hb:b=p
  .subst hb
   rw[hy] at e1;cases e1;rcases c with c|c
   .rcases x.new b (.inr ⟨i,hp⟩) with z|z
    .exact absurd z c
    .rw[e] at z; cases z
   .cases c
  .rw[AF hb]; exact e1
 .obtain⟨b',e1,_,f⟩:=x.stab j st' b e h
  by_cases hj:j=i
  .subst hj
   rw[hi] at e1;cases e1;exact⟨a',List.getElem?_set_self (Aq hi),rfl,fun z=>absurd z hst⟩
  .exact⟨b',by rw[List.getElem?_set_ne (Ne.symm hj)]; exact e1,rfl,f⟩
theorem An.app:∀{vs ws:List V} {as bs:List A} {L1 L2:List Addr},An K N H vs as L1->An K N H ws bs L2->An K N H (vs++ws) (as++bs) (L1++L2)
 | [],ws,[],bs,L1,L2,r,q=>by
  simp only[An] at r;subst r;exact q
 | [],_,_::_,_,_,_,r,_=>by simp only[An] at r
 | _::_,_,[],_,_,_,r,_=>by simp only[An] at r
 | v::vs,ws,a::as,bs,L1,L2,r,q=>by
  simp only[An] at r;obtain⟨M1,M2,rfl,h1,h2⟩:=r;simp only[List.cons_append,An];exact⟨M1,M2++L2,by simp,h1,An.app h2 q⟩
noncomputable def C7(Z:Ro)(i:Nat):Option (Own×List A):=match Z[i]? with
 | some (some (.ro,_))=>none
 | some (some (st,.lst as))=>some (st,as)
 | _=>none
theorem H0{i:Nat}{st:Own}{as:List A}(h:C7 Z i=some (st,as)): Z[i]? = some (some (st,.lst as))/\st≠.ro:=by
 unfold C7 at h;split at h
 .cases h
 .rename_i st' as' hn e
  cases h;exact⟨e,fun z=>hn z⟩
 .cases h
noncomputable def GK(i:Nat)(m:ME):MS:=fun Z=>(C7 Z i).bind fun _=>(m Z).bind fun p=>(keep p.2 p.1).bind fun q=>(C7 q.2 i).bind fun h=>if h.2.length<LIM then some (.next (q.2.set i (some (h.1,.lst (h.2++[q.1]))))) else none
theorem Xl{i:Nat}{m:ME}{D:Ends}(h:tS K (GK i m) D U H):RX (tBM K "list" Om (Pl i) (BP (tE K m) GG)) D U H:=by
 obtain⟨Z,O,fp,rl,fl,e,w⟩:=h;simp only[GK,bind_eq_some_iff] at e;obtain⟨⟨st0,as0⟩,e0,⟨r,Z1⟩,e1,⟨a,Z2⟩,e2,⟨st,as⟩,e3,e4⟩:=e;split at e4
 .rename_i hz
  cases e4;obtain⟨g0,_⟩:=H0 e0;obtain⟨v,hv,q0⟩:=rl.slot i _ _ g0;rw[Ap] at q0;obtain⟨p0,vs0,_,rfl,_,hp0,_,_⟩:=q0;refine⟨_,hv,.inl ⟨rfl,vs0,.inl (.inl hp0)⟩,Z,O,fp,rl,r,Z1,e1,fun y H1 yy=>?_⟩
  obtain⟨L,fp1,p,q⟩:=yy;obtain⟨L2,fp2,p2,q2⟩:=Hz p q e2;obtain⟨g,gst⟩:=H0 e3;obtain⟨v',hv',qi⟩:=p2.rel.slot i _ _ g;rw[hv] at hv'; cases hv';rw[Ap] at qi;obtain⟨pa,vs,L',e5,e6,hp,hz',hs⟩:=qi;cases e5;have hlen:=hs.len;refine⟨p0,vs,y,rfl,rfl,hp,by rw[hlen]; exact hz,w _ _ _ (p2.mut (a':=.lst (as++[a])) (L':=p0::(L'++L2)) g gst hv (by rw[e6]; simp) hp (fun b hb=>?_) ?_ ?_)⟩
  .rcases List.mem_cons.mp hb with rfl|hb
   .rw[e6]; simp
   .rcases List.mem_append.mp hb with hb|hb
    .rw[e6]; simp[hb]
    .exact .inr hb
  .have n1:=p2.rel.nd i
   rw[e6] at n1;have n2:(p0::L').Nodup:=n1;have:((p0::L')++L2).Nodup:=List.nodup_append.mpr ⟨n2,p2.nd,fun b hb c hc e=>by
    subst e;exact p2.rel.off i b (by rw[e6]; exact hb) (.inr hc)⟩
   simpa using this
  .rw[Ap]
   have k:=F9 (o:=.lst (vs++[y])) hp;have pn:NN fp2 (ad O L2) p0:=.inl ⟨i,by rw[e6]; simp⟩;have n1:=p2.rel.nd i;rw[e6] at n1;have h1:An K (NN fp2 (ad O L2)) (upd H1 p0 (.lst (vs++[y]))) vs as L':=hs.tr (M:=fun b=>b=p0) (fun b z=>z ▸ pn) k (fun b z=>.inl z) fun b hb z=>by
    subst z;exact(List.nodup_cons.mp n1).1 hb
   have h2:Ap K (NN fp2 (ad O L2)) (upd H1 p0 (.lst (vs++[y]))) y a L2:=q2.tr (M:=fun b=>b=p0) (fun b z=>z ▸ pn) k (fun b z=>.inl z) fun b hb z=>by
    subst z;exact p2.rel.off i b (by rw[e6]; simp) (.inr hb)
   have h3:An K (NN fp2 (ad O L2)) (upd H1 p0 (.lst (vs++[y]))) [y] [a] L2:=by
    simp only[An];exact⟨L2,[],by simp,h2,rfl⟩
   refine⟨p0,vs++[y],L'++L2,rfl,rfl,AE,?_,An.app h1 h3⟩;rw[List.length_append,hlen];exact hz
 .cases e4
noncomputable def YW(i:Nat)(m:ME):MS:=fun Z=>(C7 Z i).bind fun _=>(m Z).bind fun p=>(peek p.2 p.1).bind fun b=>(CS b).bind fun ds=>(C7 p.2 i).bind fun h=>if h.2.length+ds.length<=LIM then some (.next (p.2.set i (some (h.1,.lst (h.2++ds.map A.fz))))) else none
noncomputable def Gb(i:Nat)(mk me:ME):MS:=fun Z=>(me Z).bind fun p=>(share p.2 p.1).bind fun s=>(C7 s.2 i).bind fun _=>(mk s.2).bind fun t=>match t.1 with
 | .val (.fz (.int k))=>(C7 t.2 i).bind fun h=>(ixN h.2.length k).map fun j=>.next (t.2.set i (some (h.1,.lst (h.2.set j (.fz s.1)))))
 | _=>none
theorem An.setFz:∀{vs:List V} {as:List A} {L:List Addr} {j:Nat} {v:V} {d:D},An K N H vs as L->RepA N H v d->∃L',An K N H (vs.set j v) (as.set j (.fz d)) L'/\(∀q∈L',q∈L)/\(L.Nodup->L'.Nodup)
 | [],[],L,j,v,d,r,_=>⟨L,by simpa using r,fun _ h=>h,id⟩
 | [],_::_,_,_,_,_,r,_=>by simp only[An] at r
 | _::_,[],_,_,_,_,r,_=>by simp only[An] at r
 | x::vs,a::as,L,0,v,d,r,q=>by
  simp only[An] at r;obtain⟨M1,M2,rfl,h1,h2⟩:=r;refine⟨M2,?_,fun b h=>List.mem_append_right _ h,fun h=>(List.nodup_append.mp h).2.1⟩;simp only[List.set_cons_zero,An];exact⟨[],M2,rfl,Ej q,h2⟩
 | x::vs,a::as,L,j+1,v,d,r,q=>by
  simp only[An] at r;obtain⟨M1,M2,rfl,h1,h2⟩:=r;obtain⟨L',g1,g2,g3⟩:=An.setFz (j:=j) h2 q;refine⟨M1++L',?_,fun b h=>?_,fun h=>?_⟩
  .simp only[List.set_cons_succ,An]
   exact⟨M1,L',rfl,h1,g1⟩
  .rcases List.mem_append.mp h with h|h
   .exact List.mem_append_left _ h
   .exact List.mem_append_right _ (g2 b h)
  .obtain⟨n1,n2,n3⟩:=List.nodup_append.mp h
   exact List.nodup_append.mpr ⟨n1,g3 n2,fun b hb c hc e=>n3 b hb c (g2 c hc) e⟩
theorem Xp{i:Nat}{mk me:ME}{D:Ends}(h:tS K (Gb i mk me) D U H):NF (tE K me) (X0 (Pl i) (tE K mk) U9) D U H:=by
 obtain⟨Z,O,fp,rl,fl,e,w⟩:=h;simp only[Gb,bind_eq_some_iff] at e;obtain⟨⟨r,Z1⟩,e1,⟨d,Z2⟩,e2,⟨st0,as0⟩,e0,⟨r3,Z3⟩,e3,e4⟩:=e;dsimp only at e4;split at e4
 .rename_i kk
  simp only[bind_eq_some_iff,map_eq_some_iff] at e4;obtain⟨⟨st,as⟩,e5,j,e6,e7⟩:=e4;cases e7;refine⟨Z,O,fp,rl,r,Z1,e1,fun y H1 yy=>?_⟩;obtain⟨L,fp1,p,q⟩:=yy;obtain⟨fp2,p2,q2⟩:=Cc p q e2;obtain⟨g0,_⟩:=H0 e0;obtain⟨v,hv,q0⟩:=p2.rel.slot i _ _ g0;rw[Ap] at q0;obtain⟨p0,vs0,_,rfl,_,hp0,_,_⟩:=q0;refine⟨_,hv,Z2,O,fp2,p2.rel0,_,Z3,e3,fun y2 H2 yy=>?_⟩;obtain⟨L3,fp3,p3,q3⟩:=yy;cases Bf (K:=K) q3;have p4:=(p2.next p3).drop0;obtain⟨g,gst⟩:=H0 e5;obtain⟨v',hv',qi⟩:=p4.rel.slot i _ _ g;rw[hv] at hv'; cases hv';rw[Ap] at qi;obtain⟨pa,vs,L',e8,e9,hp,hz',hs⟩:=qi;cases e8;have hlen:=hs.len;have qy:RepA (NN fp3 (ad O [])) H2 y d:=(Ek (fun b z=>FR.mpr z) q2).tr (M:=Fp fp2) (fun b z=>.inl z) p3.kept fun b z=>by
   rcases z with z|z|z
   .exact(p3.new b (.inr z)).imp (fun y=>.inl y) id
   .exact .inl (.inr z)
   .simp at z
  have k:=F9 (o:=.lst (vs.set j y)) hp;have pn:NN fp3 (ad O []) p0:=.inl ⟨i,by rw[e9]; simp⟩;have n1:=p4.rel.nd i;rw[e9] at n1;have h1:An K (NN fp3 (ad O [])) (upd H2 p0 (.lst (vs.set j y))) vs as L':=hs.tr (M:=fun b=>b=p0) (fun b z=>z ▸ pn) k (fun b z=>.inl z) fun b hb z=>by
   subst z;exact(List.nodup_cons.mp n1).1 hb
  have h2:RepA (NN fp3 (ad O [])) (upd H2 p0 (.lst (vs.set j y))) y d:=qy.tr (M:=fun b=>b=p0) (fun b z=>z ▸ pn) k fun b z=>.inl z;obtain⟨L4,g1,g2,g3⟩:=An.setFz (j:=j) h1 h2;refine⟨p0,vs,kk,j,rfl,rfl,hp,by rw[hlen]; exact e6,w _ _ _ (p4.mut (a':=.lst (as.set j (.fz d))) (L':=p0::L4) g gst hv (by rw[e9]; simp) hp (fun b hb=>?_) ?_ ?_)⟩
  .rcases List.mem_cons.mp hb with rfl|hb
   .exact .inl (by rw[e9]; simp)
   .exact .inl (by rw[e9]; simp[g2 b hb])
  .exact List.nodup_cons.mpr ⟨fun z=>(List.nodup_cons.mp n1).1 (g2 _ z),g3 (List.nodup_cons.mp n1).2⟩
  .rw[Ap]
   exact⟨p0,vs.set j y,L4,rfl,rfl,AE,by rw[List.length_set]; exact hz',g1⟩
 .cases e4
end
section
variable{X:Cx}{a b c e:Expr}{es:List Expr}{m m1 m2 m3:ME}{ms:MA}{p pos pos' p2 apos cpos q npos:Pos}{x:Str}
theorem M0(i:Nat)(hN:X.N[i]? = some x)(hv:Vis X.env.scope x)(hd:(x==("__debug__" : Str))=false)(hcd:(x==("__classdict__" : Str))=false)(hbase:attributeBase (.Name x npos) "append" X.env (eval (.Name x npos) X.env)=eval (.Name x npos) X.env)(hline:(apos.endLine==cpos.line)=true)(hs:starEach [e] X.env=[(false,eval e X.env)])(hw:swapsWith (.Call (.Attribute (.Name x npos) "append" apos) [e] [] cpos) none pos.line X.env=pure false)(he:JE X e m):JS X (.Expr (.Call (.Attribute (.Name x npos) "append" apos) [e] [] cpos) pos) (GK i m):=
 Br (Oj (Rg PySem.F.plainAttrs_list PySem.F.slot_list_append PySem.F.type_list_append JZ (Jb hN hv hd hcd) (CZ he Ff hs) hbase (by rw[hs]; rfl) hline hs rfl) hw) fun _ _ _ h=>Xl h
theorem Gw(i:Nat)(hN:X.N[i]? = some x)(hv:Vis X.env.scope x)(hd:(x==("__debug__" : Str))=false)(hcd:(x==("__classdict__" : Str))=false)(ha:∀v,assign (.Subscript (.Name x npos) b pos') X.env v=(do
   let ov <- holding [v] (eval (.Name x npos) X.env)
   let iv <- holding [v,ov] (eval b X.env)
   standAt pos'
   holding [v,ov,iv] (setItem ov iv v)
   release [v,ov,iv] []))(hs:swapsWithSole [.Subscript (.Name x npos) b pos'] e pos.line X.env=pure false)(hw:swappedStores [.Subscript (.Name x npos) b pos'] e X.env=pure none)(h1:(assignEach [.Subscript (.Name x npos) b pos'] X.env).map (·.2)=[assign (.Subscript (.Name x npos) b pos') X.env])(hk:JE X b m1)(he:JE X e m2):JS X (.Assign [.Subscript (.Name x npos) b pos'] e pos) (Gb i m1 m2):=
 Br (Rr he (WJ (Jb hN hv hd hcd) hk set_list ha) hs hw h1) fun _ _ _ h=>Xp h
end
end J
end
section
namespace PySem
open Sem (wp)
theorem JD.miss_keys:typeLookup (.type "list") "keys" = pure none:=am_miss_of_fast dK
theorem JD.entry_loop:entryFor table "dict.update.loop" = some Builtin.«dict.update.loop»:=entryFor_of_tree (by kernel_rfl)
theorem JD.plain_loop:plainId "dict.update.loop" = true:=by decide +kernel
theorem JD.getAttrQ_miss{prog:Program}{w:World}{A:Around}{E:Value->Shared->Prop}{s:Shared}{a:Addr}{o:Obj}{xs:Array Value}{k:Nat}{name:Str}{Q:Option Value->Shared->Prop}(hx:s.heap.get? a=some o)(hc:o.cls=.type "list")(hdat:o.data=.seq xs k)(hd:o.dict=none)(hmiss:typeLookup (.type "list") name=pure none)(hname:(["__module__","__name__","__qualname__","__doc__","__annotations__"]:List Str).contains name=false)(hA:A.handled=none)(h:∀h' tk e,Heap.NewExcOf s.heap h' e "AttributeError" -> Q none { s with heap:=h',toks:=tk })(hsz:name.length+100<=sizeLine:=by size_fits):
  wpAny (model prog w) A (getAttr? (.ref a) name) Q E s:=by
 obtain⟨c,dct,dat,sl⟩:=o;simp only at hc hdat hd;subst hc hdat hd;obtain⟨hp,g,d,tk,os⟩:=s;have hT:∀tk',(⟨hp,g,d,tk',os⟩:Shared).TypeIs (.ref a) "list" := fun _=>⟨_,hx,rfl⟩;have f1:=sub_AttributeError;have f3:=F.slot_list_getattribute.lookup;have f4:=F.slot_list_getattribute.bind (.ref a);have f5:=am_list_getattr_none;unfold getAttr? getAttrBy? getAttrBy;repeat (any_goals (first|assumption|exact hT _|((with_reducible show wpAny _ _ (call (Value.builtin "list.__getattribute__") _ _) _ _ _); refine call_meets F.slot_list_getattribute (hT _) am_entry_list_getattribute (F.args_list_getattribute_2 _ _) (meets_getattribute_miss_list a xs k sl name _ hmiss hname hsz) ⟨hx,hA,fun h' tk' e hx'=>?_⟩)|wp_step))
 obtain⟨t',u',he⟩:=hx'.there;show wpAny _ _ (getattributeRaised _ _ _ _ _ _ _) _ _ _;unfold getattributeRaised;repeat (any_goals (first|assumption|wp_step))
 exact h _ _ _ hx'.of
theorem JD.dict_keep{prog:Program}{w:World}{Kk:Type}[DecidableEq Kk]{knd:KeyKind prog w Kk}{h h':Heap}{d:Addr}{kvs:List (Kk×Value)}(hd:h.DictOf knd d kvs)(k:∀o,h.get? d=some o->h'.get? d=some o):h'.DictOf knd d kvs:=by
 obtain⟨o,es,ep,ho,r⟩:=hd;exact⟨o,es,ep,k o ho,r⟩
section
variable{prog:Program}{w:World}{Kk:Type}[DecidableEq Kk]{knd:KeyKind prog w Kk}{A:Around}{E:Value->Shared->Prop}{R:Result->Shared->Prop}
theorem JD.pairItems{s:Shared}{t:Addr}{its:Array Value}{Q:List Value->Shared->Prop}(ht:PyProof.Rows.IsTup s.heap t its)(h:Q its.toList s):wpAny (model prog w) A (Builtin.Dict.pairItems (.ref t)) Q E s:=by
 obtain⟨o,ho,hc,n,hd⟩:=ht;unfold Builtin.Dict.pairItems;refine wpAny_bind (wpAny_typeOf (T := "tuple") ⟨o,ho,hc⟩ ?_);rw[if_pos (by decide)];unfold seqItems?;refine wpAny_bind (wpAny_bind (wpAny_load ho ?_));rw[hd];exact wpAny_pure (wpAny_pure h)
theorem JD.stored_new{kvs:List (Kk×Value)}{i:Nat}(hi:i<kvs.length)(nd:(kvs.map (·.1)).Nodup):stored (kvs.take i) (kvs[i]).1 (kvs[i]).2=kvs.take (i+1):=by
 unfold stored;rw[if_neg]
 .rw[List.take_succ,List.getElem?_eq_getElem hi]
  rfl
 .intro h
  rw[List.any_eq_true] at h;obtain⟨x,hx,he⟩:=h;obtain⟨j,hj,rfl⟩:=List.mem_iff_getElem.mp hx;rw[List.length_take] at hj;have hj':j<i:=by lia
  have e1:(kvs.take i)[j]=kvs[j]:=by simp
  rw[e1] at he;have e2:(kvs[j]).1=(kvs[i]).1:=by simpa using he
  have n:=List.pairwise_iff_getElem.mp nd j i (by simpa using(by lia:j<kvs.length)) (by simpa using hi) hj';simp at n;exact n e2
theorem JD.loop{I l d:Addr}{items:Array Value}{kvs:List (Kk×Value)}(hA:A.handled=none)(hIl:l≠I)(hId:d≠I)(hld:d≠l)(hsz:kvs.length<=sizeLine)(hnd:(kvs.map (·.1)).Nodup)(hlen:items.size=kvs.length)(ts:Nat->Addr)(hit:∀i (h:i<kvs.length),items[i]? = some (.ref (ts i)))(htd:∀i,i<kvs.length->ts i≠d/\ts i≠I):
  ∀(k i:Nat) (s:Shared) (tk:Tok),kvs.length-i=k->i<=kvs.length->s.heap.IsListIter I l i->s.heap.IsList l items->s.heap.DictOf knd d (kvs.take i) ->
   (∀j (h:j<kvs.length),∃key,knd.is (kvs[j]).1 key=true/\PyProof.Rows.IsTup s.heap (ts j) #[key,(kvs[j]).2]) ->
   (∀h' tk',h'.DictOf knd d kvs->(∀b o,b≠I->b≠d->s.heap.get? b=some o->h'.get? b=some o)->R (.ok (.ret .none)) { s with heap:=h',toks:=tk' }) ->
   codeAny (model prog w) A (.builtin "dict.update.loop" ⟨[.ref d,.ref I,.int (i:Int) tk,.none],[]⟩) R s:=by
 intro k;induction k with
 | zero =>
  intro i s tk hk hi hst hl hd ht hR;have hin:i=kvs.length:=by lia
  subst hin;refine codeAny_builtin JD.entry_loop ?_;rw[Around.under_plainId JD.plain_loop _];have W:=Walks.list (prog:=prog) (w:=w) (A:=A.in1) (by exact hA) I l hIl items;show wpAny _ A.in1 (pyNext (.ref I) >>= _) _ _ s;refine wpAny_bind (W.done s _ _ ⟨by rw[hlen]; exact hst,hl⟩ fun h' tk' hk'=>?_);have hd':h'.DictOf knd d kvs:=by
   rw[List.take_length] at hd;exact JD.dict_keep hd fun o e=>hk' d o (by simpa using hId) e
  show wpAny _ _ (Builtin.Dict.addKeywords d [] >>= fun _=>ret Value.none) _ _ _;exact wpAny_bind (wpAny_pure (wpAny_pure (hR h' tk' hd' fun b o hb _ e=>hk' b o (by simpa using hb) e)))
 | succ k ih =>
  intro i s tk hk hi hst hl hd ht hR;have hlt:i<kvs.length:=by lia
  refine codeAny_builtin JD.entry_loop ?_;rw[Around.under_plainId JD.plain_loop _];have W:=Walks.list (prog:=prog) (w:=w) (A:=A.in1) (by exact hA) I l hIl items;show wpAny _ A.in1 (pyNext (.ref I) >>= _) _ _ s;refine wpAny_bind (W.item i s _ _ (by rw[hlen]; exact hlt) ⟨hst,hl⟩ fun v h' tk' hv st' hk'=>?_);rw[hit i hlt] at hv;cases hv;have keepI:∀b o,b≠I->s.heap.get? b=some o->h'.get? b=some o:=fun b o hb e=>hk' b o (by simpa using hb) e;have ht':∀j (h:j<kvs.length),∃key,knd.is (kvs[j]).1 key=true/\PyProof.Rows.IsTup h' (ts j) #[key,(kvs[j]).2]:=fun j h=>by
   obtain⟨key,h1,o,h2,h3⟩:=ht j h;exact⟨key,h1,o,keepI _ o (htd j h).2 h2,h3⟩
  have hd':h'.DictOf knd d (kvs.take i):=JD.dict_keep hd fun o e=>keepI d o hId e;obtain⟨key,hkey,htup⟩:=ht' i hlt;refine wpAny_bind (wpAny_holding ?_);refine wpAny_bind (wpAny_tryCatch (JD.pairItems (s:={ s with heap:=h',toks:=tk' }) htup ?_));show wpAny _ _ (holding [key,(kvs[i]).2] (dictSet d key (kvs[i]).2)) _ _ _;have hl2:(kvs.take i).length<=sizeLine:=by rw[List.length_take]; lia
  refine wpAny_holding (wpAny_dictSet_pairs (s:={ s with heap:=h',toks:=tk' }) (hsz:=hl2) hkey hd' fun h2 hd2 hs2=>?_);rw[JD.stored_new hlt hnd] at hd2;have keep2:∀b o,b≠d->h'.get? b=some o->h2.get? b=some o:=fun b o hb e=>(hs2.2 b hb).trans e;refine wpAny_pure ⟨plainId_quiet JD.plain_loop _,?_⟩;have e1:rawInt ((i:Int)+1)=.int (((i+1:Nat)):Int) 0:=rfl;rw[e1];refine ih (i+1) { s with heap:=h2,toks:=tk'+1 } 0 (by lia) hlt ?_ ?_ hd2 (fun j h=>?_) fun h3 tk3 hd3 hk3=>?_
  .exact st'.1.at fun o e=>keep2 I o (Ne.symm hId) e
  .exact st'.2.at fun o e=>keep2 l o (Ne.symm hld) e
  .obtain⟨key,h1,o,h2',h3'⟩:=ht' j h
   exact⟨key,h1,o,keep2 _ o (htd j h).1 h2',h3'⟩
  .exact hR h3 tk3 hd3 fun b o hb hb2 e=>hk3 b o hb hb2 (keep2 b o hb2 (keepI b o hb e))
theorem JD.call{s:Shared}{l:Addr}{items:Array Value}{kvs:List (Kk×Value)}{Q:Value->Shared->Prop}{ol:Obj}{nl:Nat}(hA:A.handled=none)(hol:s.heap.get? l=some ol)(hcl:ol.cls=.type "list")(hdl:ol.data=.seq items nl)(hdd:ol.dict=none)(hsz:kvs.length<=sizeLine)(hnd:(kvs.map (·.1)).Nodup)(hlen:items.size=kvs.length)(ts:Nat->Addr)(hit:∀i (h:i<kvs.length),items[i]? = some (.ref (ts i)))(ht:∀j (h:j<kvs.length),∃key,knd.is (kvs[j]).1 key=true/\PyProof.Rows.IsTup s.heap (ts j) #[key,(kvs[j]).2])(h:∀h' tk',h'.DictOf knd s.heap.objs.size kvs->(∀b o,s.heap.get? b=some o->h'.get? b=some o)->Q (.ref s.heap.objs.size) { s with heap:=h',toks:=tk' }):
  wpAny (model prog w) A (call (.type "dict") [.ref l]) Q E s:=by
 refine callType_codes (Q₁:=fun obj s₁=>obj=.ref s.heap.objs.size/\s₁={ s with heap:=s.heap.push { cls:=.type "dict",data:=.dict #[] } }) F.kt_called_dict (F.kt_typeCall_dict_1 _) F.entry_dict_init (kt_code_dict_new _ ⟨rfl,rfl⟩) ?_;rintro obj s₁ ⟨rfl,rfl⟩;have hnew:(s.heap.push { cls:=.type "dict",data:=.dict #[] }).DictOf knd s.heap.objs.size []:=Heap.DictOf.new s.heap;have hol':(s.heap.push { cls:=.type "dict",data:=.dict #[] }).get? l=some ol:=Heap.get?_push_of_some _ hol;have hdo:l≠s.heap.objs.size:=fun e=>absurd (Heap.lt_size hol) (by rw[e]; exact Nat.lt_irrefl _);have hts:∀i,i<kvs.length->ts i<s.heap.objs.size:=fun i hi=>by
  obtain⟨_,_,o,ho,_⟩:=ht i hi;exact Heap.lt_size ho
 refine⟨hnew.typeIs,F.args_dict_init_2 _ _,?_⟩;unfold Builtin.«dict.__init__»;refine wpAny_bind ?_;unfold Builtin.Dict.selfAndRest;refine wpAny_bind (wpAny_notOrdered_dict hnew.typeIs ?_);show wpAny _ _ (pure (s.heap.objs.size,[Value.ref l])) _ _ _;refine wpAny_pure ?_;show wpAny _ _ (Builtin.Dict.updateFrom "dict.__init__" s.heap.objs.size (.ref l) [] .none) _ _ _;unfold Builtin.Dict.updateFrom;refine wpAny_bind (wpAny_typeOf (T := "list") ⟨ol,hol',hcl⟩ ?_);rw[if_pos (by decide)];refine wpAny_bind (JD.getAttrQ_miss hol' hcl hdl hdd JD.miss_keys dK (by exact hA) (fun h1 tk1 e x=>?_) dK);simp only[Option.isNone_none,if_true];have keep1:∀b o,s.heap.get? b=some o->h1.get? b=some o:=fun b o e=>x.keeps b o (Heap.get?_push_of_some _ e);have hbig:s.heap.objs.size<h1.objs.size:=by
  obtain⟨o,_,_,ho,_⟩:=hnew;exact Heap.lt_size (x.keeps _ _ ho)
 refine wpAny_bind (wpAny_rule (wpAny_bind (wpAny_pyIter_list (items:=items) ⟨ol,keep1 _ _ hol,hcl,nl,hdl⟩ ?_)));refine wpAny_pure ⟨plainId_quiet JD.plain_loop _,?_⟩;have e1:rawInt 0=.int (((0:Nat)):Int) 0:=rfl;rw[e1];have hIs:∀b,b<h1.objs.size->b≠h1.objs.size:=fun b hb=>Nat.ne_of_lt hb;have hl1:l<h1.objs.size:=Heap.lt_size (keep1 _ _ hol);refine JD.loop (knd:=knd) (I:=h1.objs.size) (l:=l) (d:=s.heap.objs.size) (kvs:=kvs) (items:=items) (by exact hA) (hIs _ hl1) (hIs _ hbig) (Ne.symm hdo) hsz hnd hlen ts hit (fun i hi=>⟨Nat.ne_of_lt (hts i hi),hIs _ (Nat.lt_trans (hts i hi) hbig)⟩) kvs.length 0 _ 0 (by lia) (Nat.zero_le _) ?_ ?_ ?_ ?_ ?_
 .exact⟨_,Heap.get?_push_size _ rfl,rfl,rfl⟩
 .exact⟨ol,Heap.get?_push_of_some _ (keep1 _ _ hol),hcl,nl,hdl⟩
 .rw[List.take_zero]
  exact JD.dict_keep hnew fun o e=>Heap.get?_push_of_some _ (x.keeps _ _ e)
 .intro j hj
  obtain⟨key,h1',o,h2,h3⟩:=ht j hj;exact⟨key,h1',o,Heap.get?_push_of_some _ (keep1 _ _ h2),h3⟩
 .intro h' tk' hd' hk'
  refine⟨rfl,h h' tk' hd' fun b o e=>?_⟩;have lt:=Heap.lt_size e;exact hk' b o (hIs _ (Nat.lt_trans lt hbig)) (Nat.ne_of_lt lt) (Heap.get?_push_of_some _ (keep1 _ _ e))
end
end PySem
end
section
namespace L2
open PySem PySem.Spec PyProof.Rows
theorem KR.rep{N:Addr->Prop}{H:Hp}{v:V}{d:D}(r:KR H v d):RepA N H v d:=by
 induction r with
 | non=>exact .non
 | int i=>exact .int i
 | str x hx=>exact .str x hx
 | tup h hz hl _ ih=>exact .tup h hz hl ih
mutual
noncomputable def Qu:D->Bool
 | .non=>true
 | .int _=>true
 | .str _=>true
 | .tup ds=>N7 ds
 | .bl _=>false
 | .lst _=>false
noncomputable def N7:List D->Bool
 | []=>true
 | d::ds=>Qu d&&N7 ds
end
theorem OS{ds:List D}(h:N7 ds=true):∀{i:Nat} {d:D},ds[i]? = some d->Qu d=true:=by
 induction ds with
 | nil=>intro i d e; simp at e
 | cons x xs ih =>
  intro i d e;have h':(Qu x&&N7 xs)=true:=h;rw[Bool.and_eq_true] at h';cases i with
  | zero=>simp at e; subst e; exact h'.1
  | succ i=>exact ih h'.2 (by simpa using e)
theorem KR.of{N:Addr->Prop}{H:Hp}{v:V}{d:D}(r:RepA N H v d):Qu d=true->KR H v d:=by
 induction r with
 | non=>exact fun _=>.non
 | bl b=>exact fun h=>nomatch h
 | int i=>exact fun _=>.int i
 | str x hx=>exact fun _=>.str x hx
 | lst _ _ _ _ _ _=>exact fun h=>nomatch h
 | tup h hz hl hr ih=>exact fun hk=>.tup h hz hl fun i v d e1 e2=>ih i v d e1 e2 (OS hk e2)
theorem PR:∀{H:Hp} {v:V} {d:D},KR H v d->∀{v':V} {e:D},KR H v' e->eqD d e=decide (d=e):=by
 intro H v d r;have key:∀{d e:D},eqD d e=true->d=e->eqD d e=decide (d=e):=fun h1 h2=>by rw[h1,decide_eq_true h2]
 have kf:∀{d e:D},eqD d e=false->d≠e->eqD d e=decide (d=e):=fun h1 h2=>by rw[h1,decide_eq_false h2]
 induction r with
 | non=>intro v' e q; cases q<;>first|exact key rfl rfl|exact kf rfl (fun z=>nomatch z)
 | int i =>
  intro v' e q;cases q with
  | int j =>
   rw[Gh];by_cases h:i=j
   .subst h; simp
   .rw[decide_eq_false (fun z=>h (by injection z)),beq_eq_false_iff_ne.mpr h]
  | _=>exact kf rfl (fun z=>nomatch z)
 | str x hx =>
  intro v' e q;cases q with
  | str y hy =>
   rw[GV];by_cases h:x=y
   .subst h; simp
   .rw[decide_eq_false (fun z=>h (by injection z)),beq_eq_false_iff_ne.mpr h]
  | _=>exact kf rfl (fun z=>nomatch z)
 | @tup a vs ds h hz hl hr ih =>
  intro v' e q;cases q with
  | @tup a' vs' es h' hz' hl' hr' =>
   rw[FJ];by_cases hlen:ds.length=es.length
   .rw[C2 hlen]
    by_cases hde:ds=es
    .subst hde
     rw[decide_eq_true rfl,List.all_eq_true];intro i _;exact DR _
    .rw[decide_eq_false (fun z=>hde (by injection z)),Bool.eq_false_iff]
     intro z;rw[List.all_eq_true] at z;refine hde (List.ext_getElem? fun i=>?_);by_cases hi:i<ds.length
     .have z1:=z i (List.mem_range.mpr hi)
      have g3:ds.getD i .non=ds[i]:=by simp[List.getD,hi]
      have hi':i<es.length:=by lia
      have g4:es.getD i .non=es[i]:=by simp[List.getD,hi']
      rw[g3,g4] at z1;have c:=ih i (vs[i]'(by lia)) ds[i] (by simp) (by simp) (hr' i (vs'[i]'(by lia)) es[i] (by simp) (by simp));rw[c] at z1;rw[List.getElem?_eq_getElem hi,List.getElem?_eq_getElem hi',of_decide_eq_true z1]
     .rw[List.getElem?_eq_none (by lia),List.getElem?_eq_none (by lia)]
   .rw[decide_eq_false (fun z=>hlen (by injection z with z; rw[z])),Bool.eq_false_iff]
    exact fun z=>hlen (C3 z)
  | _=>exact kf rfl (fun z=>nomatch z)
section
variable{P:Program}{w:World}{H:Hp}{A:Around}{E:Value->Shared->Prop}
theorem ML:∀{ds:List D} {i:Nat} {d:D},ds[i]? = some d->(Hx w ds)[i]? = some (Dv w d):=by
 intro ds;induction ds with
 | nil=>intro i d e; simp at e
 | cons x xs ih =>
  intro i d e;cases i with
  | zero=>simp at e; subst e; rfl
  | succ i=>exact ih (by simpa using e)
theorem MM:∀{ds:List D},(Hx w ds).length=ds.length:=by
 intro ds;induction ds with
 | nil=>rfl
 | cons x xs ih=>show(Hx w xs).length+1=_; rw[ih]; rfl
theorem KR.hash{x:V}{d:D}(r:KR H x d):∀{A:Around} {n:Nat} {v:Value} {s:Shared} {Q:Int->Shared->Prop},HOk P w H s.heap->RelV x v->Sh n d->A.units+n<cLine->(∀tk,Q (Dv w d) { s with toks:=tk }) ->
  wpAny (model P w) A (pyHash v) Q E s:=by
 induction r with
 | non =>
  intro A n v s Q hok rx hs hu h;cases rx;exact PySem.W.pyHash_slot (T := "NoneType") rfl F.slot_NoneType_hash F.entry_NoneType_hash (F.args_NoneType_hash_1 _) (beq_builtin_none _) (.inr (by lia)) (wpAny_bind (wpAny_pure (wpAny_bind (wpAny_mkInt (wpAny_pure ⟨_,_,rfl,h _⟩)))))
 | int i=>intro A n v s Q hok rx hs hu h; obtain⟨t,rfl⟩:=rx; exact wpAny_pyHash_int (h _)
 | str y hy=>intro A n v s Q hok rx hs hu h; obtain⟨t,rfl⟩:=rx; exact wpAny_pyHash_str (h _)
 | @tup a vs ds hH hz hl hr ih =>
  intro A n v s Q hok rx hs hu h;cases rx;cases hs with
  | @tup n _ hs =>
   obtain⟨_,its,rv,o,ho,hc,k,hd⟩:=(show Bg P w H s.heap a (.tup vs) from hok a _ hH);have hlen:=rv.length;refine PySem.W.pyHash_slot (T := "tuple") ⟨_,ho,hc⟩ F.slot_tuple_hash F.entry_tuple_hash (F.args_tuple_hash_1 _) (beq_builtin_none _) (.inr (lt0 hu)) ?_;show wpAny _ _ (Builtin.Tuple.tupleItemsOf (.ref a) >>= _) _ _ s;refine wpAny_bind (wpAny_tupleItemsOf ho hd ?_);refine wpAny_bind ?_;rw[<- Array.forIn_toList];refine wpAny_forIn_list _ (fun rest (b:Array Int) s'=>∃j tk,rest=its.drop j/\b.toList=(Hx w ds).take j/\j<=its.length/\s'={ s with toks:=tk }) _ ?_ ?_ _ _ ⟨0,s.toks,by simp,by simp,Nat.zero_le _,rfl⟩
   .rintro u rest b s' ⟨j,tk,hj,hb,hjl,rfl⟩
    have hlt:j<its.length:=by
     rcases Nat.lt_or_ge j its.length with z|z
     .exact z
     .rw[List.drop_eq_nil_of_le z] at hj; cases hj
    rw[List.drop_eq_getElem_cons hlt] at hj;injection hj with e1 e2
    have d1:ds[j]? = some (ds[j]'(by lia)):=by simp
    have v1:vs[j]? = some (vs[j]'(by lia)):=by simp
    obtain⟨u',hu',ru⟩:=rv.get v1;rw[List.getElem?_eq_getElem hlt,<- e1] at hu';injection hu' with hu';subst hu';refine wpAny_bind (ih j _ _ v1 d1 (A:=A.in1) (n:=n) (s:={ s with toks:=tk }) hok ru (hs _ (List.mem_of_getElem? d1)) (lt1 hu) fun tk'=>?_);refine wpAny_bind (wpAny_pure (wpAny_pure ⟨j+1,tk',e2,?_,hlt,rfl⟩));rw[Array.toList_push,hb,List.take_succ,ML d1];rfl
   .rintro b s' ⟨j,tk,hj,hb,hjl,rfl⟩
    have hjj:j=its.length:=by
     have:=congrArg List.length hj;simp at this;lia
    show wpAny _ _ (retInt (Builtin.Tuple.tupleHashOf b.toList)) _ _ _;rw[hb,hjj,<- hlen,hl,List.take_of_length_le (by rw[MM]; exact Nat.le_refl _)];exact wpAny_bind (wpAny_mkInt (wpAny_pure ⟨_,_,rfl,h _⟩))
theorem KR.quiet{x:V}{d:D}(r:KR H x d):∀{A:Around} {n:Nat} {v:Value} {s:Shared} {Q:Bool->Shared->Prop},HOk P w H s.heap->RelV x v->Sh n d->Q true s->wpAny (model P w) A (eqIsQuiet n v) Q E s:=by
 induction r with
 | non=>intro A n v s Q hok rx hs h; cases rx; rw[eqIsQuiet_byValue _ rfl]; exact wpAny_pure h
 | int i=>intro A n v s Q hok rx hs h; obtain⟨t,rfl⟩:=rx; rw[eqIsQuiet_byValue _ rfl]; exact wpAny_pure h
 | str y hy=>intro A n v s Q hok rx hs h; obtain⟨t,rfl⟩:=rx; rw[eqIsQuiet_byValue _ rfl]; exact wpAny_pure h
 | @tup a vs ds hH hz hl hr ih =>
  intro A n v s Q hok rx hs h;cases rx;cases hs with
  | @tup n _ hs =>
   obtain⟨_,its,rv,o,ho,hc,k,hd⟩:=(show Bg P w H s.heap a (.tup vs) from hok a _ hH);have hlen:=rv.length;have hT:s.TypeIs (.ref a) "tuple" := ⟨_,ho,hc⟩;unfold eqIsQuiet;refine wpAny_bind (wpAny_specialOf hT F.slot_tuple_eq.lookup ?_);show wpAny _ _ (isInstance (.ref a) (.type "tuple") >>= _) _ _ s;refine wpAny_bind (wpAny_isInstance hT isSubtype_tuple_tuple ?_);simp only[Bool.not_true,Bool.false_eq_true,if_false];refine wpAny_bind (wpAny_seqItems ho hd ?_);refine wpAny_bind ?_;show wpAny _ _ (forIn its.toArray _ _) _ _ s;rw[<- Array.forIn_toList];refine wpAny_forIn_list _ (fun rest r s'=>r.1=none/\s'=s/\∃j,rest=its.drop j) _ ?_ ?_ _ _ ⟨rfl,rfl,0,by simp⟩
   .rintro u rest r s' ⟨hr',rfl,j,hj⟩
    have hlt:j<its.length:=by
     rcases Nat.lt_or_ge j its.length with z|z
     .exact z
     .rw[List.drop_eq_nil_of_le z] at hj; cases hj
    rw[List.drop_eq_getElem_cons hlt] at hj;injection hj with e1 e2
    have d1:ds[j]? = some (ds[j]'(by lia)):=by simp
    have v1:vs[j]? = some (vs[j]'(by lia)):=by simp
    obtain⟨u',hu',ru⟩:=rv.get v1;rw[List.getElem?_eq_getElem hlt,<- e1] at hu';injection hu' with hu';subst hu';refine wpAny_bind (ih j _ _ v1 d1 (n:=n) hok ru (hs _ (List.mem_of_getElem? d1)) ?_);simp only[Bool.not_true,Bool.false_eq_true,if_false];exact wpAny_pure ⟨rfl,rfl,j+1,e2⟩
   .rintro ⟨r1,r2⟩ s' ⟨hr',rfl,_⟩
    simp only at hr';subst hr';exact wpAny_pure h
end
section
variable{P:Program}{w:World}{A:Around}{E:Value->Shared->Prop}{s:Shared}{R:D->Value->Prop}
structure KeyRel (P:Program) (w:World) (A:Around) (s:Shared) (R:D->Value->Prop):Prop where
 eq:∀{d e:D} {u v:Value},R d u->R e v->SeqAt.EqAt A s u v (decide (d=e))
 quiet:∀{d:D} {u:Value} {E:Value->Shared->Prop} {Q:Bool->Shared->Prop},R d u->Q true s->wpAny (model P w) A (eqIsQuiet 8 u) Q E s
 inj:∀{d e:D} {u:Value},R d u->R e u->d=e
 str:∀{d:D} {x:Str} {t:Tok},R d (.str x t)->d=.str x
 txt:∀{x:Str} {u:Value},R (.str x) u->∃t,u=.str x t
noncomputable def Bv(xs:List (D×Value×Value))(k:D):Option Nat:=xs.findIdx? fun x=>decide (x.1=k)
theorem Eh{xs:List (D×Value×Value)}{k:D}{j:Nat}{p:Value×Value}(hn:(xs.map (·.1)).Nodup)(hj:xs[j]? = some (k,p)):Bv xs k=some j:=by
 unfold Bv;rw[List.findIdx?_eq_some_iff_getElem];obtain⟨hlt,he⟩:=List.getElem?_eq_some_iff.mp hj;refine⟨hlt,by rw[he]; simp,fun i hi=>?_⟩;have hne:¬(xs[i]'(by lia)).1=k:=fun e=>by
  have h1:(xs.map (·.1))[i]? = some k:=by rw[List.getElem?_map,List.getElem?_eq_getElem (by lia)]; simp[e]
  have h2:(xs.map (·.1))[j]? = some k:=by rw[List.getElem?_map,hj]; rfl
  have:=(List.getElem?_inj (List.getElem?_eq_some_iff.mp h1).1 hn).mp (h1.trans h2.symm);lia
 simpa using hne
theorem L9{xs:List (D×Value×Value)}{k:D}(h:∀(j:Nat) p,xs[j]? ≠ some (k,p)):Bv xs k=none:=by
 unfold Bv;rw[List.findIdx?_eq_none_iff];intro x hx;obtain⟨j,hj⟩:=List.mem_iff_getElem?.mp hx;simp only[decide_eq_false_iff_not];exact fun e=>h j x.2 (by rw[hj,<- e])
theorem GH(K:KeyRel P w A s R){key:Value}{k:D}{stored:List Value}{Q:Bool->Shared->Prop}(hkey:R k key)(hst:∀v∈stored,∃d,R d v)(h:Q false s):wpAny (model P w) A (tableMayTell key stored) Q E s:=by
 unfold tableMayTell;split
 .exact wpAny_pure h
 .refine wpAny_bind (K.quiet hkey ?_)
  simp only[Bool.not_true,Bool.false_eq_true,if_false];refine wpAny_bind (wpAny_forIn_list _ (fun rest r s'=>s'=s/\r=(none,())/\∀v∈rest,∃d,R d v) _ ?_ ?_ _ _ ⟨rfl,rfl,hst⟩)
  .rintro x rest r s' ⟨rfl,rfl,hr⟩
   obtain⟨d,hb⟩:=hr x List.mem_cons_self;refine wpAny_bind (K.quiet hb ?_);simp only[Bool.not_true,Bool.false_eq_true,if_false];exact wpAny_pure ⟨rfl,rfl,fun v hv=>hr v (List.mem_cons_of_mem _ hv)⟩
  .rintro r s' ⟨rfl,rfl,_⟩
   exact wpAny_pure h
theorem FO{α:Type}{M:Model}{c:Bool}{a b:Sem α}{Q:α -> Shared->Prop}(h1:wpAny M A a Q E s)(h2:wpAny M A b Q E s):wpAny M A (if c=true then a else b) Q E s:=by
 cases c
 .exact h2
 .exact h1
theorem MG{α:Type}{p q:α -> Bool}{l:List α}(h:∀x∈l,p x=q x):l.findIdx? p=l.findIdx? q:=by
 induction l with
 | nil=>rfl
 | cons x l ih=>rw[List.findIdx?_cons,List.findIdx?_cons,h x List.mem_cons_self,ih fun y hy=>h y (List.mem_cons_of_mem _ hy)]
structure EntG (w:World) (R:D->Value->Prop) (es:Array DictEntry) (xs:List (D×Value×Value)):Prop where
 es:es.toList=xs.map (HS w)
 rel:∀x∈xs,R x.1 x.2.1
 nd:(xs.map (·.1)).Nodup
theorem EntG.at{es:Array DictEntry}{xs:List (D×Value×Value)}(h:EntG w R es xs)(j:Nat):es[j]? = (xs[j]?).map (HS w):=by
 rw[<- Array.getElem?_toList,h.es,List.getElem?_map]
theorem EntG.size{es:Array DictEntry}{xs:List (D×Value×Value)}(h:EntG w R es xs):es.size=xs.length:=by
 rw[<- Array.length_toList,h.es,List.length_map]
theorem PY(K:KeyRel P w A s R){d:Addr}{o:Obj}{es ep}{xs:List (D×Value×Value)}{k:D}{key:Value}{Q:Option Nat->Shared->Prop}(hkey:R k key)(ho:s.heap.get? d=some o)(hd:o.data=.dict es ep)(he:EntG w R es xs)(h:Q (Bv xs k) s):wpAny (model P w) A (dictFind d key (Dv w k)) Q E s:=by
 have hsz:=he.size;have hpl:∀j,j∈placesWithHash es.size (fun i=>es[i]?.map (·.hash)) (Dv w k)↔j<xs.length/\∃x,xs[j]? = some x/\Dv w x.1=Dv w k:=by
  intro j;unfold placesWithHash;rw[List.mem_filter,List.mem_range,hsz];refine and_congr_right fun hj=>?_;dsimp only;rw[he.at,List.getElem?_eq_getElem hj];simp[HS]
 have hmem:∀j x,xs[j]? = some x->es[j]? = some (HS w x):=fun j x e=>by rw[he.at,e]; rfl
 have hend:(∀j∈placesWithHash es.size (fun i=>es[i]?.map (·.hash)) (Dv w k),∀p,xs[j]? ≠ some (k,p))->Bv xs k=none:=fun z=>L9 fun j p e=>z j ((hpl j).mpr ⟨(List.getElem?_eq_some_iff.mp e).1,_,e,rfl⟩) p e;have hst:∀v∈(placesWithHash es.size (fun i=>es[i]?.map (·.hash)) (Dv w k)).filterMap (fun i=>es[i]?.map (·.key)),∃d',R d' v:=by
  intro v hv;obtain⟨i,hi,e⟩:=List.mem_filterMap.mp hv;obtain⟨_,x,hx,_⟩:=(hpl i).mp hi;rw[hmem i x hx] at e;obtain rfl:x.2.1=v:=by simpa[HS] using e
  exact⟨x.1,he.rel x (List.mem_of_getElem? hx)⟩
 generalize hP:placesWithHash es.size (fun i=>es[i]?.map (·.hash)) (Dv w k)=pl at hpl hend hst;have old:wpAny (model P w) A (dictWalkPlain d key (Dv w k) es pl) Q E s:=by
  refine wpAny_bind (wpAny_forIn_list _ (fun rest b s'=>s'=s/\b=(none,())/\(∀j∈rest,j∈pl)/\∀j∈pl,j∈rest\/∀p,xs[j]? ≠ some (k,p)) _ ?_ ?_ _ _ ⟨rfl,rfl,fun _ h=>h,fun _ h=>.inl h⟩)
  .rintro x rest b s' ⟨rfl,rfl,h1,h2⟩
   obtain⟨hlt,y,hy,hh⟩:=(hpl x).mp (h1 x List.mem_cons_self);have hyr:=he.rel y (List.mem_of_getElem? hy);have next:¬y.1=k->((∀j∈rest,j∈pl)/\∀j∈pl,j∈rest\/∀p,xs[j]? ≠ some (k,p)):=fun hne=>⟨fun j hj=>h1 j (List.mem_cons_of_mem _ hj),fun j hj=>by
    rcases h2 j hj with z|z
    .rcases List.mem_cons.mp z with rfl|z
     .exact .inr fun p e=>by rw[hy] at e; injection e with e; exact hne (by rw[e])
     .exact .inl z
    .exact .inr z⟩
   rw[hmem x y hy];dsimp only[HS];rw[if_pos (by rw[hh]; exact beq_self_eq_true _)];refine wpAny_bind (wpAny_dictEpoch ho hd (wpAny_bind (K.eq hyr hkey P w E _ (wpAny_bind (wpAny_dictEpoch ho hd ?_)))));show wpAny _ _ (if (ep != ep)=true then _ else _) _ E _;rw[if_neg (by simp)];by_cases hkk:y.1=k
   .rw[decide_eq_true hkk]
    rw[Eh he.nd (show xs[x]? = some (k,y.2) by rw[hy,<- hkk])] at h;exact wpAny_bind (wpAny_rule (wpAny_pure (wpAny_pure h)))
   .rw[decide_eq_false hkk]
    exact wpAny_bind (wpAny_rule (wpAny_pure ⟨rfl,rfl,next hkk⟩))
  .rintro b s' ⟨rfl,rfl,h1,h2⟩
   rw[hend fun j hj=>(h2 j hj).resolve_left (by simp)] at h;exact wpAny_pure h
 have hany:∀a,key=.ref a->¬(es.any fun e=>e.key==Value.ref a&&e.hash != Dv w k)=true:=by
  rintro a rfl;rw[<- Array.any_toList,List.any_eq_true];rintro ⟨e,hin,hc⟩;rw[he.es] at hin;obtain⟨x,hx,rfl⟩:=List.mem_map.mp hin;simp only[HS,Bool.and_eq_true,beq_iff_eq,bne_iff_ne,ne_eq] at hc;have:=he.rel x hx;rw[hc.1] at this;exact hc.2 (by rw[K.inj this hkey])
 have body:∀stored:List Value,(∀v∈stored,∃d',R d' v)->∀tells:Bool,tells=false->wpAny (model P w) A (do
   if tells&&stored.length ≥ 2 then unsupported "dict.find:order-among-keys-of-one-hash"
   let mut hit:Option Nat:=none
   for i in pl do
    if let some e:=es[i]? then
     if e.hash==Dv w k then
      let before <- dictEpoch d (keyPart key)
      let same <- eqBool e.key key
      if (<- dictEpoch d (keyPart key)) != before then unsupported "dict.changed-during-lookup"
      if same then
       if hit.isSome then unsupported "dict.find:order-among-keys-of-one-hash"
       rule "dict.find.hit"
       if stored.length<2 then return some i
       hit:=some i
      else
       rule "dict.find.same-hash-other-key"
       if tells&&!(0<=Dv w k&&Dv w k<32) then unsupported "dict.find:asked-again-or-not-hangs-on-the-table"
   return hit) Q E s:=by
  intro stored hs tells ht;subst ht;rw[if_neg (by simp)];refine wpAny_bind ?_;refine wpAny_forIn_list _ (fun rest b s'=>s'=s/\b.1=none/\rest.Nodup/\(∀j∈rest,j∈pl)/\(∀j∈pl,j∈rest\/(∀p,xs[j]? ≠ some (k,p))\/b.2=some j)/\∀j,b.2=some j->j∉rest/\∃p,xs[j]? = some (k,p)) _ ?_ ?_ _ _ ⟨rfl,rfl,by rw[<- hP]; exact List.Pairwise.filter _ List.nodup_range,fun _ h=>h,fun _ h=>.inl h,fun _ h=>nomatch h⟩
  .rintro x rest ⟨b1,hit⟩ s' ⟨rfl,rfl,hnd,h1,h2,h3⟩
   rw[List.nodup_cons] at hnd;obtain⟨hlt,y,hy,hh⟩:=(hpl x).mp (h1 x List.mem_cons_self);have hyr:=he.rel y (List.mem_of_getElem? hy);rw[hmem x y hy];dsimp only[HS];rw[if_pos (by rw[hh]; exact beq_self_eq_true _)];refine wpAny_bind (wpAny_dictEpoch ho hd (wpAny_bind (K.eq hyr hkey P w E _ (wpAny_bind (wpAny_dictEpoch ho hd ?_)))));show wpAny _ _ (if (ep != ep)=true then _ else _) _ E _;rw[if_neg (by simp)];by_cases hkk:y.1=k
   .rw[decide_eq_true hkk]
    have hxk:xs[x]? = some (k,y.2):=by rw[hy,<- hkk]
    have hp:=Eh he.nd hxk;have hn:hit=none:=by
     cases hit with
     | none=>rfl
     | some j =>
      obtain⟨q1,p,q2⟩:=h3 j rfl;have:=(Eh he.nd q2).symm.trans hp;injection this with this;subst this;exact absurd List.mem_cons_self q1
    subst hn;rw[if_pos rfl];simp only[Option.isSome_none,Bool.false_eq_true,if_false];refine wpAny_bind (wpAny_rule ?_);split
    .rw[hp] at h
     exact wpAny_pure (wpAny_pure h)
    .refine wpAny_pure ⟨rfl,rfl,hnd.2,fun j hj=>h1 j (List.mem_cons_of_mem _ hj),fun j hj=>?_,fun j hj=>?_⟩
     .rcases h2 j hj with z|z|z
      .rcases List.mem_cons.mp z with rfl|z
       .exact .inr (.inr rfl)
       .exact .inl z
      .exact .inr (.inl z)
      .cases z
     .injection hj with hj
      subst hj;exact⟨hnd.1,_,hxk⟩
   .rw[decide_eq_false hkk]
    simp only[Bool.false_eq_true,if_false];refine wpAny_bind (wpAny_rule ?_);have step:(fun(b:Option (Option Nat)×Option Nat) (s'':Shared)=>s''=s'/\b.1=none/\rest.Nodup/\(∀j∈rest,j∈pl)/\(∀j∈pl,j∈rest\/(∀p,xs[j]? ≠ some (k,p))\/b.2=some j)/\∀j,b.2=some j->j∉rest/\∃p,xs[j]? = some (k,p)) (none,hit) s':=by
     refine⟨rfl,rfl,hnd.2,fun j hj=>h1 j (List.mem_cons_of_mem _ hj),fun j hj=>?_,fun j hj=>?_⟩
     .rcases h2 j hj with z|z
      .rcases List.mem_cons.mp z with rfl|z
       .exact .inr (.inl fun p e=>by rw[hy] at e; injection e with e; exact hkk (by rw[e]))
       .exact .inl z
      .exact .inr z
     .obtain⟨q1,q2⟩:=h3 j hj
      exact⟨fun z=>q1 (List.mem_cons_of_mem _ z),q2⟩
    first
     | exact wpAny_pure step
     | exact wpAny_bind (wpAny_pure (wpAny_pure step))
     | (rw[if_neg (by simp)]; exact wpAny_pure step)
     | (rw[if_neg (by simp)]; exact wpAny_bind (wpAny_pure (wpAny_pure step)))
  .rintro ⟨b1,hit⟩ s' ⟨rfl,rfl,_,h1,h2,h3⟩
   cases hit with
   | none =>
    rw[hend fun j hj=>((h2 j hj).resolve_left (by simp)).resolve_right (fun z=>nomatch z)] at h;exact wpAny_pure h
   | some j =>
    obtain⟨_,p,q2⟩:=h3 j rfl;rw[Eh he.nd q2] at h;exact wpAny_pure h
 unfold dictFind;try with_reducible refine wpAny_holding ?_
 refine wpAny_bind (wpAny_dictEntries ho hd ?_);dsimp only;rw[hP];cases key with
 | str x t =>
  dsimp only;refine FO ?_ ?_
  .have hkx:=K.str hkey
   subst hkx;have hfi:es.findIdx? (·.key.isStr x)=Bv xs (.str x):=by
    have e1:es.findIdx? (·.key.isStr x)=es.toList.findIdx? (·.key.isStr x):=by obtain⟨l⟩:=es; simp
    rw[e1,he.es,List.findIdx?_map];unfold Bv;refine MG fun y hy=>?_;have hyr:=he.rel y hy;show y.2.1.isStr x=decide (y.1=.str x);cases hk:decide (y.1=D.str x) with
    | true =>
     have e:=of_decide_eq_true hk;rw[e] at hyr;obtain⟨t',e'⟩:=K.txt hyr;rw[e'];exact beq_self_eq_true x
    | false =>
     cases hv:y.2.1 with
     | str z t' =>
      rw[hv] at hyr;have:=K.str hyr;rw[this] at hk;have hne:¬z=x:=fun e=>by rw[e] at hk; simp at hk
      exact beq_eq_false_iff_ne.mpr hne
     | _=>rfl
   unfold foundByValue;rw[hfi];cases hpq:Bv xs (.str x) with
   | none=>rw[hpq] at h; exact wpAny_pure h
   | some i =>
    rw[hpq] at h;unfold Bv at hpq;obtain⟨hlt,hi,_⟩:=List.findIdx?_eq_some_iff_getElem.mp hpq;have hy:xs[i]? = some xs[i]:=List.getElem?_eq_getElem hlt;dsimp only;rw[hmem i _ hy];refine wpAny_bind (wpAny_dictEpoch ho hd (wpAny_bind (K.eq (he.rel _ (List.getElem_mem hlt)) hkey P w E _ (wpAny_bind (wpAny_dictEpoch ho hd ?_)))));show wpAny _ _ (if (ep != ep)=true then _ else _) _ E _;rw[if_neg (by simp),hi];exact wpAny_bind (wpAny_rule (wpAny_pure h))
  .exact FO old (FO (wpAny_bind (wpAny_pure (body _ hst false rfl))) (wpAny_bind (GH K hkey hst (body _ hst false rfl))))
 | ref a =>
  dsimp only;refine FO old ?_;rw[if_neg (hany a rfl)];exact FO (wpAny_bind (wpAny_pure (body _ hst false rfl))) (wpAny_bind (GH K hkey hst (body _ hst false rfl)))
 | _=>exact FO old (FO (wpAny_bind (wpAny_pure (body _ hst false rfl))) (wpAny_bind (GH K hkey hst (body _ hst false rfl))))
end
section
variable{P:Program}{w:World}{H:Hp}{A:Around}{E:Value->Shared->Prop}{s:Shared}{a:Addr}{kvs:List (D×V)}{k:D}{y v:V}{u r:Value}
noncomputable def KU(H:Hp)(d:D)(u:Value):Prop:=Sh 8 d/\∃y,KR H y d/\RelV y u
theorem KU.rel(hok:HOk P w H s.heap)(hu:A.units+8<cLine):KeyRel P w A s (KU H) where
 eq:=fun⟨h1,y1,k1,r1⟩ ⟨_,y2,k2,r2⟩=>by
  rw[<- PR k1 k2];exact Ht (N:=fun _=>False) (N':=fun _=>False) hok k1.rep k2.rep r1 r2 h1 hu
 quiet:=fun⟨h1,y1,k1,r1⟩ h=>k1.quiet hok r1 h1 h
 inj:=fun⟨_,y1,k1,r1⟩ ⟨_,y2,k2,r2⟩=>by
  cases r1.inj r2;exact(k1.rep (N:=fun _=>False)).inj (k2.rep (N:=fun _=>False))
 str:=fun {d x t} ⟨_,y1,k1,r1⟩=>by
  cases r1.inj (show RelV (.str x) (.str x t) from⟨t,rfl⟩);cases k1;rfl
 txt:=fun⟨_,y1,k1,r1⟩=>by
  cases k1;exact r1
noncomputable def K7(xs:List (D×Value×Value))(k:D):Option Value:=(xs.find? fun x=>decide (x.1=k)).map (·.2.2)
theorem NM{xs:List (D×Value×Value)}{k:D}:K7 xs k=(Bv xs k).bind fun i=>(xs[i]?).map (·.2.2):=by
 unfold K7 Bv;induction xs with
 | nil=>rfl
 | cons x xs ih =>
  rw[List.find?_cons,List.findIdx?_cons];by_cases h:x.1=k
  .simp[h]
  .simp only[decide_eq_false h,Bool.false_eq_true,if_false]
   rw[ih];cases xs.findIdx? fun x=>decide (x.1=k)<;>rfl
structure RawG (w:World) (H:Hp) (h:Heap) (a:Addr) (kvs:List (D×V)) (o:Obj) (es:Array DictEntry) (ep:Nat) (xs:List (D×Value×Value)):Prop where
 sz:kvs.length<=sizeLine
 nm:(a==sysModules)=false
 pr:Paired (fun(p:D×V) (q:D×Value×Value)=>p.1=q.1/\RelV p.2 q.2.2) kvs xs
 ob:h.get? a=some o
 ex:o.ExactDict
 dt:o.data=.dict es ep
 en:EntG w (KU H) es xs
theorem RawG.of(x:Bg P w H s.heap a (.dT kvs)):∃o es ep xs,RawG w H s.heap a kvs o es ep xs:=by
 obtain⟨z,y,xs,r,o,es,ep,h1,h2,h3,h4,h5⟩:=x;refine⟨o,es,ep,xs,z,y,Paired.mapP r fun _ _ q=>⟨q.1,q.2.2⟩,h1,h2,h3,h4,?_,h5⟩;clear h4 h5 z;induction r with
 | nil=>intro x hx; exact nomatch hx
 | @cons p q ps qs hq t ih =>
  intro x hx;rcases List.mem_cons.mp hx with e|hx
  .subst e; rw[<- hq.1]; exact hq.2.1
  .exact ih x hx
theorem RawG.back{h':Heap}{kvs:List (D×V)}{o:Obj}{es:Array DictEntry}{ep:Nat}{xs:List (D×Value×Value)}(x:RawG w H h' a kvs o es ep xs):Bg P w H h' a (.dT kvs):=by
 refine⟨x.sz,x.nm,xs,?_,o,es,ep,x.ob,x.ex,x.dt,x.en.es,x.en.nd⟩;have h:=x.en.rel;have q:=x.pr;clear x;induction q with
 | nil=>exact .nil
 | @cons p q ps qs hq t ih=>exact .cons ⟨hq.1,by rw[hq.1]; exact h q List.mem_cons_self,hq.2⟩ (ih fun z hz=>h z (List.mem_cons_of_mem _ hz))
theorem Oh{kvs:List (D×V)}{xs:List (D×Value×Value)}(q:Paired (fun(p:D×V) (q:D×Value×Value)=>p.1=q.1/\RelV p.2 q.2.2) kvs xs)(k:D):Ii ((kvs.find? fun kv=>decide (kv.1=k)).map (·.2)) (K7 xs k):=by
 unfold K7;induction q with
 | nil=>exact True.intro
 | @cons p q ps qs h t ih =>
  rw[List.find?_cons,List.find?_cons];by_cases e:p.1=k
  .rw[decide_eq_true e,decide_eq_true (h.1.symm.trans e)]; exact h.2
  .rw[decide_eq_false e,decide_eq_false fun z=>e (h.1.trans z)]; exact ih
theorem UO(hok:HOk P w H s.heap)(hu:A.units+8<cLine){o:Obj}{es ep xs}(g:RawG w H s.heap a kvs o es ep xs)(hk:KU H k u){Q:Option Value->Shared->Prop}(h:∀tk,Q (K7 xs k) { s with toks:=tk }):
  wpAny (model P w) A (dictGet a u) Q E s:=by
 obtain⟨hs,y,ky,ry⟩:=hk;unfold dictGet;try with_reducible refine wpAny_holding ?_
 refine wpAny_bind (ky.hash hok ry hs hu fun tk=>wpAny_bind (PY (s:={ s with toks:=tk }) (KU.rel hok hu) ⟨hs,y,ky,ry⟩ g.ob g.dt g.en ?_));have h:=h tk;rw[NM] at h;cases hp:Bv xs k with
 | none=>rw[hp] at h; exact wpAny_pure h
 | some i =>
  rw[hp] at h;refine wpAny_bind (wpAny_dictEntries (s:={ s with toks:=tk }) g.ob g.dt ?_);refine wpAny_pure ?_;rw[g.en.at];have e:Option.map (·.val) (Option.map (HS w) xs[i]?)=Option.map (·.2.2) xs[i]?:=by cases xs[i]? <;> rfl
  rw[e];exact h
noncomputable def KY(xs:List (D×Value×Value))(k:D)(u v:Value):List (D×Value×Value):=if (Bv xs k).isSome then xs.map fun x=>if x.1=k then (x.1,x.2.1,v) else x else xs++[(k,u,v)]
theorem O8{kvs:List (D×V)}{xs:List (D×Value×Value)}(q:Paired (fun(p:D×V) (q:D×Value×Value)=>p.1=q.1/\RelV p.2 q.2.2) kvs xs):(kvs.any fun kv=>decide (kv.1=k))=(Bv xs k).isSome:=by
 unfold Bv;induction q with
 | nil=>rfl
 | @cons p q ps qs h t ih =>
  rw[List.any_cons,List.findIdx?_cons,h.1];by_cases e:q.1=k
  .simp[e]
  .rw[decide_eq_false e,Bool.false_or,ih]; simp
theorem M7{xs:List (D×Value×Value)}(hn:(xs.map (·.1)).Nodup){j:Nat}{p:Value×Value}(hj:xs[j]? = some (k,p)):(xs.map (HS w)).modify j (fun e=>{ e with val:=r })=(xs.map fun x=>if x.1=k then (x.1,x.2.1,r) else x).map (HS w):=by
 induction xs generalizing j with
 | nil=>simp at hj
 | cons x rest ih =>
  rw[List.map_cons,List.nodup_cons] at hn;cases j with
  | zero =>
   simp only[List.getElem?_cons_zero,Option.some.injEq] at hj;subst hj;have e:rest.map (fun x=>if x.1=k then (x.1,x.2.1,r) else x)=rest:=by
    refine(List.map_congr_left (g:=id) fun y hy=>?_).trans (List.map_id _);rw[if_neg fun e=>hn.1 (List.mem_map.mpr ⟨y,hy,e⟩)];rfl
   rw[List.map_cons,List.map_cons,List.map_cons,e,if_pos rfl];rfl
  | succ j =>
   simp only[List.getElem?_cons_succ] at hj;have hne:¬x.1=k:=fun e=>hn.1 (List.mem_map.mpr ⟨(k,p),List.mem_of_getElem? hj,e.symm⟩);rw[List.map_cons,List.map_cons,List.map_cons,if_neg hne,<- ih hn.2 hj];rfl
theorem WW{kvs:List (D×V)}{xs:List (D×Value×Value)}(q:Paired (fun(p:D×V) (q:D×Value×Value)=>p.1=q.1/\RelV p.2 q.2.2) kvs xs)(rv:RelV v r):
  Paired (fun(p:D×V) (q:D×Value×Value)=>p.1=q.1/\RelV p.2 q.2.2) (if (kvs.any fun kv=>decide (kv.1=k))=true then kvs.map (fun kv=>if kv.1=k then (kv.1,v) else kv) else kvs++[(k,v)]) (KY xs k u r):=by
 unfold KY;rw[O8 q];cases (Bv xs k).isSome with
 | true =>
  rw[if_pos rfl,if_pos rfl];induction q with
  | nil=>exact .nil
  | @cons p q ps qs h t ih =>
   refine .cons ?_ ih;dsimp only;by_cases e:p.1=k
   .rw[if_pos e,if_pos (h.1.symm.trans e)]; exact⟨h.1,rv⟩
   .rw[if_neg e,if_neg fun z=>e (h.1.trans z)]; exact h
 | false =>
  rw[if_neg Bool.false_ne_true,if_neg Bool.false_ne_true];induction q with
  | nil=>exact .cons ⟨rfl,rv⟩ .nil
  | cons h t ih=>exact .cons h ih
theorem KU.up{H':Hp}(ht:∀b xs,H b=some (.tup xs)->H' b=some (.tup xs)){d:D}{u:Value}(h:KU H d u):KU H' d u:=⟨h.1,h.2.imp fun y z=>⟨z.1.mono ht,z.2⟩⟩
theorem YB(hok:HOk P w H s.heap)(hu:A.units+8<cLine){o:Obj}{es ep xs}(g:RawG w H s.heap a kvs o es ep xs)(hk:KU H k u){Q:Unit->Shared->Prop}(h:∀h' tk o' es' ep',h'.get? a=some o'->o'.ExactDict->o'.data=.dict es' ep'->EntG w (KU H) es' (KY xs k u r)->Heap.SameBut a s.heap h'->Q () { s with heap:=h',toks:=tk }):
  wpAny (model P w) A (dictSet a u r) Q E s:=by
 obtain⟨hs,y,ky,ry⟩:=hk;have hz:es.size<=sizeLine:=by rw[g.en.size,<- Paired.length g.pr]; exact g.sz
 unfold dictSet;try with_reducible refine wpAny_holding ?_
 refine wpAny_bind (ky.hash hok ry hs hu fun tk=>?_);unfold dictSetHashed;try with_reducible refine wpAny_holding ?_
 refine wpAny_bind (PY (s:={ s with toks:=tk }) (KU.rel hok hu) ⟨hs,y,ky,ry⟩ g.ob g.dt g.en ?_);cases hp:Bv xs k with
 | none =>
  have ee:KY xs k u r=xs++[(k,u,r)]:=by unfold KY; rw[hp]; rfl
  have hnot:k∉xs.map (·.1):=fun hm=>by
   unfold Bv at hp;rw[List.findIdx?_eq_none_iff] at hp;obtain⟨x,hx,e⟩:=List.mem_map.mp hm;have:=hp x hx;rw[decide_eq_true e] at this;cases this
  refine wpAny_bind (wpAny_rule (wpAny_updateDictKeys (hz:=hz) (s:={ s with toks:=tk }) g.ob g.dt (h _ _ _ _ _ (Heap.get?_update_self _ g.ob (Obj.isFreed_of_dict (Obj.data_mapDictKeys g.dt _))) (g.ex.mapDictKeys _) (Obj.data_mapDictKeys g.dt _) ⟨?_,?_,?_⟩ (Heap.SameBut.update ..))))
  .rw[ee,Array.toList_push,g.en.es,List.map_append]; rfl
  .rw[ee]
   intro x hx;rcases List.mem_append.mp hx with hx|hx
   .exact g.en.rel x hx
   .simp only[List.mem_singleton] at hx
    subst hx;exact⟨hs,y,ky,ry⟩
  .rw[ee,List.map_append,List.nodup_append]
   refine⟨g.en.nd,by simp,fun x hx z hz' e=>?_⟩;simp only[List.map_cons,List.map_nil,List.mem_singleton] at hz';subst hz';exact hnot (e ▸ hx)
 | some j =>
  have ee:KY xs k u r=xs.map fun x=>if x.1=k then (x.1,x.2.1,r) else x:=by unfold KY; rw[hp]; rfl
  have hj:∃p,xs[j]? = some (k,p):=by
   unfold Bv at hp;obtain⟨hlt,hi,_⟩:=List.findIdx?_eq_some_iff_getElem.mp hp;exact⟨xs[j].2,by rw[List.getElem?_eq_getElem hlt,<- of_decide_eq_true hi]⟩
  obtain⟨p,hj⟩:=hj;refine wpAny_bind (wpAny_rule (wpAny_bind (wpAny_updateDict (s:={ s with toks:=tk }) g.ob g.dt (wpAny_point (h _ _ _ _ _ (Heap.get?_update_self _ g.ob (Obj.isFreed_of_dict (Obj.data_mapDict g.dt _))) (g.ex.mapDict _) (Obj.data_mapDict g.dt _) ⟨?_,?_,?_⟩ (Heap.SameBut.update ..))))))
  .rw[ee,<- M7 g.en.nd hj,<- g.en.es]
   obtain⟨l⟩:=es;simp
  .rw[ee]
   intro x hx;obtain⟨z,hz',rfl⟩:=List.mem_map.mp hx;split
   .exact g.en.rel z hz'
   .exact g.en.rel z hz'
  .rw[ee,List.map_map]
   have e:(fun x:D×Value×Value=>x.1) ∘ (fun x=>if x.1=k then (x.1,x.2.1,r) else x)=fun x=>x.1:=by
    funext x;dsimp only[Function.comp];split<;>rfl
   rw[e];exact g.en.nd
theorem RawG.ty{o:Obj}{es ep xs}(g:RawG w H s.heap a kvs o es ep xs):s.TypeIs (.ref a) "dict" := ⟨o,g.ob,g.ex.1⟩
theorem lt8{n c:Nat}(h:n+10<c):n+1+8<c:=by lia
theorem YY(hok:HOk P w H s.heap)(hu:A.units+10<cLine){o:Obj}{es ep xs}(g:RawG w H s.heap a kvs o es ep xs)(hk:KU H k u){Q:Bool->Shared->Prop}(h:∀tk,Q (K7 xs k).isSome { s with toks:=tk }):
  wpAny (model P w) A (contains (.ref a) u) Q E s:=by
 unfold contains;try with_reducible refine wpAny_holding ?_
 refine wpAny_bind (wpAny_specialOf g.ty slot_dict_contains.lookup ?_);show wpAny _ _ (if (some (Value.builtin "dict.__contains__")==some Value.none)=true then _ else _) _ E s;rw[if_neg (by rw[beq_builtin_none]; exact Bool.false_ne_true)];refine wpAny_bind (wpAny_callSpecialUnlessNone?_slot (name:=Str.ofString "__contains__") g.ty slot_dict_contains (wpAny_call_entry slot_dict_contains g.ty entry_dict_contains ?_ (args_dict_contains _ _)));show wpAny _ _ (dictGet a u >>= _) _ _ s;refine wpAny_bind (UO (A:=A.in1) hok (lt8 hu) g hk fun tk=>?_);have h:=h tk;cases hf:K7 xs k with
 | some p =>
  rw[hf] at h;show wpAny _ _ (ret (.bool true)) _ _ _;exact wpAny_pure ⟨_,rfl,wpAny_truthy_bool h⟩
 | none =>
  rw[hf] at h;show wpAny _ _ (Builtin.Dict.pendingKey? a u >>= _) _ _ _;exact wpAny_bind (wpAny_pendingKey_other g.nm (wpAny_pure ⟨_,rfl,wpAny_truthy_bool h⟩))
theorem VI(hok:HOk P w H s.heap)(hu:A.units+10<cLine){o:Obj}{es ep xs}(g:RawG w H s.heap a kvs o es ep xs)(hk:KU H k u)(hv:K7 xs k=some r){Q:Value->Shared->Prop}(h:∀tk,Q r { s with toks:=tk }):
  wpAny (model P w) A (getItem (.ref a) u) Q E s:=by
 unfold getItem;try with_reducible refine wpAny_holding ?_
 refine wpAny_bind (wpAny_sequenceKey g.ty (by decide) ?_);refine wpAny_bind (wpAny_callSpecial?_slot (name:=Str.ofString "__getitem__") g.ty slot_dict_getitem (wpAny_call_entry slot_dict_getitem g.ty entry_dict_getitem ?_ (args_dict_getitem _ _)));show wpAny _ _ (dictGet a u >>= _) _ _ s;refine wpAny_bind (UO (A:=A.in1) hok (lt8 hu) g hk fun tk=>?_);rw[hv];exact wpAny_pure ⟨r,rfl,wpAny_pure (h tk)⟩
theorem Ui(hok:HOk P w H s.heap)(hu:A.units+10<cLine){o:Obj}{es ep xs}(g:RawG w H s.heap a kvs o es ep xs)(hk:KU H k u){Q:Unit->Shared->Prop}(h:∀h' tk o' es' ep',h'.get? a=some o'->o'.ExactDict->o'.data=.dict es' ep'->EntG w (KU H) es' (KY xs k u r)->Heap.SameBut a s.heap h'->Q () { s with heap:=h',toks:=tk }):
  wpAny (model P w) A (setItem (.ref a) u r) Q E s:=by
 unfold setItem;try with_reducible refine wpAny_holding ?_
 refine wpAny_bind (wpAny_sequenceKey g.ty (by decide) ?_);refine wpAny_bind (wpAny_callSpecial?_slot (name:=Str.ofString "__setitem__") g.ty slot_dict_setitem (wpAny_call_entry slot_dict_setitem g.ty entry_dict_setitem ?_ (args_dict_setitem _ _ _)));show wpAny _ _ (Builtin.Dict.notOrdered "__setitem__" ⟨[.ref a,u,r],[]⟩ >>= _) _ _ s;refine wpAny_bind (wpAny_notOrdered_dict g.ty ?_);show wpAny _ _ (dictSet a u r >>= _) _ _ s;exact wpAny_bind (YB (A:=A.in1) hok (lt8 hu) g hk fun h' tk o' es' ep' e1 e2 e3 e4 e5=>wpAny_pure ⟨.none,rfl,wpAny_pure (h h' tk o' es' ep' e1 e2 e3 e4 e5)⟩)
end
section
variable{κ:Type}[DecidableEq κ]
noncomputable def Hk(kvs:List (κ×V))(k : κ):Option V:=(kvs.find? fun kv=>decide (kv.1=k)).map (·.2)
noncomputable def putK(kvs:List (κ×V))(k : κ)(v:V):List (κ×V):=
 if (kvs.any fun kv=>decide (kv.1=k))=true then kvs.map (fun kv=>if kv.1=k then (kv.1,v) else kv) else kvs++[(k,v)]
theorem Se{p : κ×V}{r:List (κ×V)}{k : κ}(e:p.1=k):Hk (p::r) k=some p.2:=by simp[Hk,List.find?_cons,e]
theorem Sd{p : κ×V}{r:List (κ×V)}{k : κ}(e:¬p.1=k):Hk (p::r) k=Hk r k:=by simp[Hk,List.find?_cons,e]
theorem Ee(kvs:List (κ×V))(k : κ)(v:V):(putK kvs k v).length<=kvs.length+1:=by
 unfold putK;split
 .rw[List.length_map]; lia
 .rw[List.length_append,List.length_cons,List.length_nil]; lia
theorem Ii.isSome_eq{o:Option V}{u:Option Value}(r:Ii o u):o.isSome=u.isSome:=by
 cases o with
 | none=>cases u with
  | none=>rfl
  | some _=>exact(show False from r).elim
 | some _=>cases u with
  | none=>exact(show False from r).elim
  | some _=>rfl
theorem KV.val{kvs:List (κ×V)}{vs:List (κ×Value)}(r:KV kvs vs)(k : κ):Ii (Hk kvs k) (valueAt vs k):=by
 unfold KV at r;induction r with
 | nil=>exact True.intro
 | @cons p q ps qs h t ih =>
  obtain⟨h1,h2⟩:=h;by_cases e:p.1=k
  .have e':q.1=k:=h1.symm.trans e
   have b:valueAt (q::qs) k=some q.2:=by simp[valueAt,List.find?_cons,e']
   rw[Se e,b]; exact h2
  .have e':¬q.1=k:=fun z=>e (h1.trans z)
   have b:valueAt (q::qs) k=valueAt qs k:=by simp[valueAt,List.find?_cons,e']
   rw[Sd e,b]; exact ih
theorem KV.any{kvs:List (κ×V)}{vs:List (κ×Value)}(r:KV kvs vs)(k : κ):(kvs.any fun kv=>decide (kv.1=k))=vs.any fun kv=>decide (kv.1=k):=by
 unfold KV at r;induction r with
 | nil=>rfl
 | cons h t ih=>rw[List.any_cons,List.any_cons,ih,h.1]
theorem KV.repl{kvs:List (κ×V)}{vs:List (κ×Value)}(r:KV kvs vs)(k : κ){y:V}{u:Value}(ry:RelV y u):
  KV (kvs.map fun kv=>if kv.1=k then (kv.1,y) else kv) (vs.map fun kv=>if kv.1=k then (kv.1,u) else kv):=by
 unfold KV at r |-;induction r with
 | nil=>exact .nil
 | @cons p q ps qs h t ih =>
  rw[List.map_cons,List.map_cons];refine .cons ?_ ih;obtain⟨h1,h2⟩:=h;by_cases e:p.1=k
  .rw[if_pos e,if_pos (h1.symm.trans e)]; exact⟨h1,ry⟩
  .rw[if_neg e,if_neg (fun z=>e (h1.trans z))]; exact⟨h1,h2⟩
theorem KV.put{kvs:List (κ×V)}{vs:List (κ×Value)}(r:KV kvs vs)(k : κ){y:V}{u:Value}(ry:RelV y u):KV (putK kvs k y) (stored vs k u):=by
 unfold putK stored;rw[r.any k];by_cases e:(vs.any fun kv=>decide (kv.1=k))=true
 .rw[if_pos e,if_pos e]; exact r.repl k ry
 .rw[if_neg e,if_neg e]; exact Paired.snoc r ⟨rfl,ry⟩
theorem KV.keys{kvs:List (κ×V)}{vs:List (κ×Value)}(r:KV kvs vs):kvs.map (·.1)=vs.map (·.1):=by
 unfold KV at r;induction r with
 | nil=>rfl
 | cons h t ih=>rw[List.map_cons,List.map_cons,ih,h.1]
theorem KV.length{kvs:List (κ×V)}{vs:List (κ×Value)}(r:KV kvs vs):kvs.length=vs.length:=Paired.length r
end
theorem N6{P:Program}{w:World}{k:Key}{u:Value}(r:RelV (kV k) u):(B6 P w).is k u=true:=by
 cases k with
 | inl i=>obtain⟨t,e⟩:=(show ∃t,u=Value.int i t from r); subst e; exact LH P w i t
 | inr x=>obtain⟨t,e⟩:=(show ∃t,u=Value.str x t from r); subst e; exact LJ P w x t
section
variable{P:Program}{w:World}{H:Hp}{h:Heap}{a:Addr}
theorem Oo{u:HO}(ok:HOk P w H h)(e:Rd H a u):Bg P w H h a u:=e.ok ok
theorem NW{kvs:List (Key×V)}(ok:HOk P w H h)(e:Rd H a (.dK kvs)):kvs.length<=sizeLine/\(a==sysModules)=false/\∃vs,KV kvs vs/\h.DictOf (B6 P w) a vs:=
 show Bg P w H h a (.dK kvs) from Oo ok e
theorem UK{kvs:List (Key×V)}(ok:HOk P w H h)(e:H a=some (.dK kvs)):kvs.length<=sizeLine/\(a==sysModules)=false/\∃vs,KV kvs vs/\h.DictOf (B6 P w) a vs:=NW ok (.inl e)
end
noncomputable def Hl(H:Hp)(a:Addr)(y:V)(r:Option V):Prop:=
 (∃kvs k,Rd H a (.dK kvs)/\y=kV k/\r=Hk kvs k)\/∃kvs k,Rd H a (.dT kvs)/\KR H y k/\Sh 8 k/\r=Hk kvs k
noncomputable def XG(H:Hp)(a:Addr)(y v:V)(H':Hp):Prop:=
 (∃kvs k,H a=some (.dK kvs)/\y=kV k/\kvs.length<sizeLine/\H'=upd H a (.dK (putK kvs k v)))\/∃kvs k,H a=some (.dT kvs)/\KR H y k/\Sh 8 k/\kvs.length<sizeLine/\H'=upd H a (.dT (putK kvs k v))
theorem Hl.k{H:Hp}{a:Addr}{kvs:List (Key×V)}{k:Key}(e:H a=some (.dK kvs)):Hl H a (kV k) (Hk kvs k):=.inl ⟨kvs,k,.inl e,rfl,rfl⟩
section
variable{X:Cx}{pins:List (Addr×Obj)}{U:St}{H:Hp}{s:Shared}{a:Addr}{y v:V}{u r:Value}{o:Option V}{A:Around}{E:Value->Shared->Prop}
theorem Inv.big(I:Inv X pins U H s):sysModules<s.heap.objs.size:=by
 have h:mainGlobals<s.heap.objs.size:=(I.mod.glob.keeps I.bk).lt;exact Nat.lt_trans (by decide) h
theorem OH{Q:Value->Shared->Prop}(hu:A.units+10<cLine)(I:Inv X pins U H s)(g:Hl H a y (some v))(ry:RelV y u)(h:∀w' s',Inv X pins U H s'->RelV v w'->Q w' s'):
  wpAny (model X.prog X.w) A (getItem (.ref a) u) Q E s:=by
 rcases g with ⟨kvs,k,e,ey,l⟩|g
 .subst ey
  obtain⟨z,hd,vs,rel,dd⟩:=NW I.hok e;obtain⟨w',hw,rw'⟩:=Ii.some_of (v:=v) (o:=valueAt vs k) (by rw[l]; exact rel.val k);exact wpAny_getItem_of (N6 ry) dd.mapOf hw (h w' _ (I.tok _) rw')
 .obtain⟨kvs,k,e,ky,hs,l⟩:=g
  obtain⟨ob,es,ep,xs,g⟩:=RawG.of (Oo I.hok e);obtain⟨w',hw,rw'⟩:=Ii.some_of (v:=v) (o:=K7 xs k) (by rw[l]; exact Oh g.pr k);exact VI I.hok hu g ⟨hs,_,ky,ry⟩ hw fun tk=>h w' _ (I.tok _) rw'
theorem YV{Q:Value->Shared->Prop}(hu:A.units+10<cLine)(I:Inv X pins U H s)(g:Hl H a y o)(ry:RelV y u)(h:∀s',Inv X pins U H s'->Q (.bool o.isSome) s'):
  wpAny (model X.prog X.w) A (compareOp .In u (.ref a)) Q E s:=by
 rcases g with ⟨kvs,k,e,ey,l⟩|g
 .subst ey
  obtain⟨z,hd,vs,rel,dd⟩:=NW I.hok e;refine wpAny_in_of (N6 ry) hd dd.mapOf ?_;rw[<- (rel.val k).isSome_eq,<- l];exact h _ (I.tok _)
 .obtain⟨kvs,k,e,ky,hs,l⟩:=g
  obtain⟨ob,es,ep,xs,g⟩:=RawG.of (Oo I.hok e);show wpAny _ _ (do return .bool (<- contains (.ref a) u)) Q E s;refine wpAny_bind (YY I.hok hu g ⟨hs,_,ky,ry⟩ fun tk=>wpAny_pure ?_);rw[<- (Oh g.pr k).isSome_eq];have h:=h { s with toks:=tk } (I.tok _);rw[l] at h;exact h
theorem NU{h':Heap}{t':Nat}{ob:HO}(I:Inv X pins U H s)(mu:Mut (H a))(hs:Heap.SameBut a s.heap h')(he:∃q,h'.get? a=some q)(new:Bg X.prog X.w (upd H a ob) h' a ob):
  Inv X pins U (upd H a ob) { s with heap:=h',toks:=t' }:=
 I.write (x:=a) (e:=a) mu (.inl rfl) (fun b q hb z=>(hs.2 b hb).trans z) he new
theorem Vt{P:Program}{w:World}{H':Hp}{h':Heap}{kvs:List (Key×V)}{vs:List (Key×Value)}(z:kvs.length<=sizeLine)(hd:(a==sysModules)=false)(rel:KV kvs vs)(dd:h'.DictOf (B6 P w) a vs):
  Bg P w H' h' a (.dK kvs):=⟨z,hd,vs,rel,dd⟩
theorem OI{H':Hp}{Q:Unit->Shared->Prop}(hu:A.units+10<cLine)(I:Inv X pins U H s)(g:XG H a y v H')(ry:RelV y u)(rv:RelV v r)(h:∀s',Inv X pins U H' s'->Q () s'):
  wpAny (model X.prog X.w) A (setItem (.ref a) u r) Q E s:=by
 rcases g with ⟨kvs,k,e,ey,l,eH⟩|g
 .subst ey eH
  obtain⟨z,hd,vs,rel,dd⟩:=UK I.hok e;have hz:vs.length<=sizeLine:=by rw[<- rel.length]; exact z
  have hl:(putK kvs k v).length<=sizeLine:=by have:=Ee kvs k v; lia
  refine wpAny_setItem_pairs (hsz:=hz) (N6 ry) dd fun h' dd' hs=>h _ ?_;have he:∃q,h'.get? a=some q:=let⟨q,_,_,hq,_⟩:=dd'; ⟨q,hq⟩;exact NU I (by rw[e]; exact True.intro) hs he (Vt hl hd (rel.put k rv) dd')
 .obtain⟨kvs,k,e,ky,hs,l,eH⟩:=g
  subst eH;obtain⟨ob,es,ep,xs,g⟩:=RawG.of (show Bg X.prog X.w H s.heap a (.dT kvs) from I.hok a _ e);have hl:(putK kvs k v).length<=sizeLine:=by have:=Ee kvs k v; lia
  refine Ui I.hok hu g ⟨hs,_,ky,ry⟩ fun h' tk o' es' ep' e1 e2 e3 e4 e5=>h _ ?_;have ht:∀b xs,H b=some (.tup xs)->upd H a (.dT (putK kvs k v)) b=some (.tup xs):=fun c ys ec=>by
   rw[AF (X6 ec e (fun z=>nomatch z))];exact ec
  exact NU I (by rw[e]; exact True.intro) e5 ⟨_,e1⟩ (RawG.back ⟨hl,g.nm,WW g.pr rv,e1,e2,e3,e4.es,fun x hx=>(e4.rel x hx).up ht,e4.nd⟩)
end
section
variable{X:Cx}{pins:List (Addr×Obj)}{U:St}{H:Hp}{s:Shared}{a:Addr}{kvs:List (Key×V)}{k:Key}{u:Value}{A:Around}{E:Value->Shared->Prop}
end
noncomputable def Vg(i:Expr):Prop:=∀ov iv,subscripted i false ov iv=operate [ov,iv] (getItem ov iv)
theorem Uk{prog:Program}{w:World}{A:Around}{E:Value->Shared->Prop}{s:Shared}{env:Env}{value slice:Expr}{pos:Pos}{T id:String}{Q:Value->Shared->Prop}(hl:typeLookup (.type T) "__getitem__" = pure (some (.builtin id)))(hs:Vg slice)(h:wpAny (model prog w) A (eval value env) (fun o s₁=>wpAny (model prog w) A (eval slice env) (fun i s₂=>s₂.TypeIs o T/\wpAny (model prog w) A (getItem o i) Q E s₂) E s₁) E s):
  wpAny (model prog w) A (eval (.Subscript value slice pos) env) Q E s:=by
 refine Subscript_ (wpAny_mono h (fun o s₁ h₁=>wpAny_mono h₁ (fun i s₂ h₂=>?_) fun _ _ x=>x) fun _ _ x=>x);obtain⟨hT,h₂⟩:=h₂;unfold subscriptTail;refine wpAny_bind ?_;rw[getitemInPython_of_ne hT.not_modules];refine wpAny_bind (wpAny_specialOf hT hl ?_);have fin:wpAny (model prog w) A (subscripted slice false o i) (fun r s₃=>wpAny (model prog w) A (letTemporaryGo value o r >>= fun _=>pure r) Q E s₃) E s₂:=by
  rw[hs o i];exact wpAny_operating (wpAny_mono h₂ (fun r s₃ h₃=>wpAny_bind (wpAny_letTemporaryGo (wpAny_pure h₃))) fun _ _ x=>x)
 first
  | exact wpAny_pure (wpAny_bind fin)
  | exact wpAny_bind (wpAny_pure (wpAny_bind fin))
  | exact wpAny_bind fin
theorem Lk{X:Cx}{pins:List (Addr×Obj)}{U:St}{H:Hp}{s:Shared}{a:Addr}{y:V}{o:Option V}(I:Inv X pins U H s)(g:Hl H a y o):s.TypeIs (.ref a) "dict" := by
 rcases g with ⟨kvs,k,e,_,_⟩|g
 .obtain⟨_,_,vs,_,dd⟩:=NW I.hok e
  exact dd.typeIs
 .obtain⟨kvs,k,e,_⟩:=g
  obtain⟨ob,es,ep,xs,g⟩:=RawG.of (Oo I.hok e);exact g.ty
noncomputable def YE(td ty:TE):TE:=fun U H Q=>td U H fun x H1=>ty U H1 fun y H2=>∃a v,x=.ref a/\Hl H2 a y (some v)/\Q v H2
noncomputable def Y7(ty td:TE):TE:=fun U H Q=>ty U H fun y H1=>td U H1 fun x H2=>∃a o,x=.ref a/\Hl H2 a y o/\Q (.bl o.isSome) H2
noncomputable def RJ(td ty tv:TE):TS:=fun D U H=>tv U H fun v H1=>td U H1 fun x H2=>ty U H2 fun y H3=>∃a H4,x=.ref a/\XG H3 a y v H4/\D.nx U H4
section
variable{X:Cx}{o i e value:Expr}{pos pos' tpos:Pos}{td ty tv:TE}
theorem Tw(hu:X.A.units+10<cLine)(ho:PE X o td)(hi:PE X i ty)(hs:Vg i):PE X (.Subscript o i pos) (YE td ty):=by
 intro pins s U H Q I h;refine Uk PySem.F.slot_dict_getitem.lookup hs (thn (ho pins s U H _ I h) fun u s1 ⟨x,H1,I1,rx,q1⟩=>thn (hi pins s1 U H1 _ I1 q1) fun iv s2 yy=>?_);obtain⟨y,H2,I2,ry,a,v,ex,g,q2⟩:=yy;subst ex;obtain rfl:u=Value.ref a:=rx;exact⟨Lk I2 g,OH hu I2 g ry fun w' s3 I3 rw'=>⟨v,H2,I3,rw',q2⟩⟩
theorem Wr(hu:X.A.units+10<cLine)(hi:PE X i ty)(ho:PE X o td):PC X .In i o (Y7 ty td):=by
 intro pins s U H Q I h;refine thn (hi pins s U H _ I h) fun iv s1 ⟨y,H1,I1,ry,q1⟩=>thn (ho pins s1 U H1 _ I1 q1) fun u s2 yy=>?_;obtain⟨x,H2,I2,rx,a,ov,ex,g,q2⟩:=yy;subst ex;obtain rfl:u=Value.ref a:=rx;exact YV hu I2 g ry fun s3 I3=>⟨.bl ov.isSome,H2,I3,rfl,q2⟩
theorem Oi(hu:X.A.units+10<cLine)(ho:PE X o td)(hi:PE X i ty)(hv:PE X value tv)(hs:swapsWith value (some (.Subscript o i pos')) pos.line X.env=pure false):
  PS X (.Assign [.Subscript o i pos'] value pos) (RJ td ty tv):=by
 intro pins s U H D I h;refine wpAny_Assign_Subscript (thn (hv pins s U H _ I h) fun r s1 ⟨v,H1,I1,rv,q1⟩=>thn (ho pins s1 U H1 _ I1 q1) fun u s2 ⟨x,H2,I2,rx,q2⟩=>thn (hi pins s2 U H2 _ I2 q2) fun iv s3 yy=>?_) hs;obtain⟨y,H3,I3,ry,a,H4,ex,g,q3⟩:=yy;subst ex;obtain rfl:u=Value.ref a:=rx;exact OI hu I3 g ry rv fun s4 I4=>⟨U,H4,I4,q3⟩
end
theorem PM{P:Program}{w:World}{H:Hp}(h:Heap)(hb:sysModules<h.objs.size):Bg P w H (h.push { cls:=.type "dict",data:=.dict #[] }) h.objs.size (.dK []):=
 ⟨Nat.zero_le _,beq_eq_false_iff_ne.mpr (Ne.symm (Nat.ne_of_lt hb)),[],.nil,Heap.DictOf.new h⟩
theorem PN{P:Program}{w:World}{H:Hp}(h:Heap)(hb:sysModules<h.objs.size):Bg P w H (h.push { cls:=.type "dict",data:=.dict #[] }) h.objs.size (.dT []):=
 ⟨Nat.zero_le _,beq_eq_false_iff_ne.mpr (Ne.symm (Nat.ne_of_lt hb)),[],.nil,_,#[],0,Heap.get?_push_size _ rfl,⟨rfl,rfl,rfl⟩,rfl,rfl,List.nodup_nil⟩
noncomputable def Xd:TE:=fun _ H Q=>∀p,H p=none->Q (.ref p) (upd H p (.dK []))
noncomputable def Xe:TE:=fun _ H Q=>∀p,H p=none->Q (.ref p) (upd H p (.dT []))
section
variable{X:Cx}{pos:Pos}
theorem Ri:PE X (.Dict [] [] pos) Xd:=fun pins s U H Q I h =>
 wpAny_Dict_empty ⟨.ref s.heap.objs.size,_,I.laid (a:=s.heap.objs.size) (o:=.dK []) (t':=s.toks) (fun _ _ q=>Heap.get?_push_of_some _ q) (Nat.le_refl _) (PM s.heap I.big),rfl,h _ (I.hok.fresh (Nat.le_refl _))⟩
theorem Rj:PE X (.Dict [] [] pos) Xe:=fun pins s U H Q I h =>
 wpAny_Dict_empty ⟨.ref s.heap.objs.size,_,I.laid (a:=s.heap.objs.size) (o:=.dT []) (t':=s.toks) (fun _ _ q=>Heap.get?_push_of_some _ q) (Nat.le_refl _) (PN s.heap I.big),rfl,h _ (I.hok.fresh (Nat.le_refl _))⟩
end
structure M1 (X:Cx) (o:Expr) (m:Str) (apos:Pos) (e:Expr) (cpos:Pos):Prop where
 base:attributeBase o m X.env (eval o X.env)=eval o X.env
 few:((backTo cpos (starEach [e] X.env)).all (fun x=>!x.1)&&(backToKw cpos (keywordEach [] X.env)).all (fun x=>x.1.isSome)
  && decide (([e]:List Expr).length+([]:List Keyword).length+(if ([]:List Keyword).isEmpty then 0 else 1)<30))=true
 line:(apos.endLine==cpos.line)=true
 trees:backTo cpos (starEach [e] X.env)=[(false,eval e X.env)]
structure M2 (X:Cx) (o:Expr) (m:Str) (apos:Pos) (e f:Expr) (cpos:Pos):Prop where
 base:attributeBase o m X.env (eval o X.env)=eval o X.env
 few:((backTo cpos (starEach [e,f] X.env)).all (fun x=>!x.1)&&(backToKw cpos (keywordEach [] X.env)).all (fun x=>x.1.isSome)
  && decide (([e,f]:List Expr).length+([]:List Keyword).length+(if ([]:List Keyword).isEmpty then 0 else 1)<30))=true
 line:(apos.endLine==cpos.line)=true
 trees:backTo cpos (starEach [e,f] X.env)=[(false,eval e X.env),(false,eval f X.env)]
section
variable{X:Cx}{pins:List (Addr×Obj)}{U:St}{H:Hp}{s:Shared}{a:Addr}{y d:V}{u r:Value}{o:Option V}{A:Around}{E:Value->Shared->Prop}
end
section
variable{X:Cx}{o e f:Expr}{apos cpos:Pos}{td ty tx:TE}
end
section
variable{X:Cx}{pins:List (Addr×Obj)}{U:St}{H:Hp}{s:Shared}{a:Addr}{kvs:List (Key×V)}{A:Around}{E:Value->Shared->Prop}
end
section
variable{X:Cx}{pins:List (Addr×Obj)}{U:St}{H:Hp}{s:Shared}{a:Addr}{y:V}{u:Value}{A:Around}{E:Value->Shared->Prop}
end
section
variable{X:Cx}
end
section
variable{X:Cx}
noncomputable def Kc(K:Frag)(H:Hp):List V->List (Key×V)->Prop:=Paired fun v u=>∃t,v=.ref t/\SqT K H t [kV u.1,u.2]
noncomputable def U5(K:Frag):List V->Hp->VK->Prop:=fun xs H Q=>∃(p:Addr) (vs:List V) (us:List (Key×V)),xs=[.ref p]/\SqL K H p vs/\Kc K H vs us/\(us.map (·.1)).Nodup/\∀l,H l=none->Q (.ref l) (upd H l (.dK us))
theorem Nl{pins:List (Addr×Obj)}{U:St}{H:Hp}{s:Shared}(I:Inv X pins U H s){vs:List V}{us:List (Key×V)}(hp:Kc X.K H vs us):∃kvs:List (Key×Value),KV us kvs/\∀(i:Nat) v (h:i<kvs.length),vs[i]? = some v->∃t key,v=.ref t/\(B6 X.prog X.w).is (kvs[i]).1 key=true/\IsTup s.heap t #[key,(kvs[i]).2]:=by
 induction hp with
 | nil=>exact⟨[],.nil,fun i v h=>by simp at h⟩
 | @cons v u vs us r t ih =>
  obtain⟨kvs,h1,h2⟩:=ih;obtain⟨tp,rfl,hq⟩:=r;obtain⟨its,rv,ht,_⟩:=I.tuple hq;obtain⟨k',u',rfl,rk,ru⟩:=rv.two;refine⟨(u.1,u')::kvs,.cons ⟨rfl,ru⟩ h1,fun i w h e=>?_⟩;cases i with
  | zero =>
   simp at e;subst e;exact⟨tp,k',rfl,N6 rk,ht⟩
  | succ i=>exact h2 i w (by simpa using h) (by simpa using e)
theorem Mz(hc:X.calm=true):BJ X (.type "dict") (U5 X.K):=by
 intro pins s U H xs us' Q I r h;obtain⟨p,vs,us,rfl,hq,hp,nd,q⟩:=h;obtain⟨u,rfl,ru⟩:=r.one;cases ru;obtain⟨its,rv,pl,hz⟩:=I.list hq;obtain⟨kvs,hkv,hall⟩:=Nl I hp;have l1:vs.length=us.length:=hp.length;have l2:us.length=kvs.length:=hkv.length;have l3:=rv.length;obtain⟨ol,nl,hol,hcl,hdd,hdl⟩:=pl;have keys:kvs.map (·.1)=us.map (·.1):=hkv.keys.symm;have key:∀(i:Nat) (h:i<kvs.length),∃t key,vs[i]? = some (.ref t)/\its.toArray[i]? = some (.ref t)/\(B6 X.prog X.w).is (kvs[i]).1 key=true/\IsTup s.heap t #[key,(kvs[i]).2]:=fun i h=>by
  have hv:vs[i]? = some (vs[i]'(by lia)):=by simp
  obtain⟨t,key,e1,e2,e3⟩:=hall i _ h hv;obtain⟨u,hu,ru⟩:=rv.get hv;rw[e1] at hv ru;cases ru;exact⟨t,key,hv,by simpa using hu,e2,e3⟩
 refine JD.call (knd:=B6 X.prog X.w) (kvs:=kvs) (items:=its.toArray) (I.ok.hd hc) hol hcl hdl hdd (by lia) (by rw[keys]; exact nd) (by simp; lia) (fun i=>match vs[i]? with|some (.ref t)=>t|_=>0) (fun i h=>?_) (fun i h=>?_) fun h' tk' hd hk=>?_
 .obtain⟨t,key,e1,e2,e3,e4⟩:=key i h
  rw[e1];exact e2
 .obtain⟨t,key,e1,e2,e3,e4⟩:=key i h
  rw[e1];exact⟨key,e3,e4⟩
 .have hS:(s.heap.objs.size==sysModules)=false:=by
   have:=I.big;have hne:s.heap.objs.size≠sysModules:=fun z=>by rw[z] at this; exact Nat.lt_irrefl _ this
   simpa using hne
  have hlz:us.length<=sizeLine:=by lia
  refine⟨.ref s.heap.objs.size,_,I.laid (t':=tk') (o:=.dK us) hk (Nat.le_refl _) ?_,rfl,q _ (I.hok.fresh (Nat.le_refl _))⟩;exact⟨hlz,hS,kvs,hkv,hd⟩
end
end L2
namespace J
open PySem PySem.Spec PyProof.Rows L2
section
variable{X:Cx}{a b c e:Expr}{es:List Expr}{m m1 m2 m3:ME}{ms:MA}{p pos pos' p2 apos cpos q npos:Pos}{x:Str}
variable{K:Frag}{N:Addr->Prop}{H:Hp}{U:L2.St}{v:V}{L:List Addr}
noncomputable def Iz:D->Option Key
 | .int i=>some (.inl i)
 | .str z=>some (.inr z)
 | .non | .bl _ | .lst _ | .tup _=>none
noncomputable def GD:List D->Option (List (Key×D))
 | []=>some []
 | .tup [k,d]::ds=>(Iz k).bind fun k=>(GD ds).map ((k,d) :: ·)
 | _::_=>none
noncomputable def Lj:List A->Option A:=on1 fun a=>(CS a).bind fun ds=>(GD ds).bind fun kvs=>if (kvs.map (·.1)).Nodup then some (.dic kvs) else none
theorem M3{d:D}{k:Key}(r:RepA N H v d)(e:Iz d=some k):v=kV k:=by
 cases d with
 | int i=>simp only[Iz,Option.some.injEq] at e; subst e; cases r; rfl
 | str z=>simp only[Iz,Option.some.injEq] at e; subst e; cases r; rfl
 | _=>simp[Iz] at e
theorem Rf:∀{vs:List V} {ds:List D} {kvs:List (Key×D)},Ar N H vs ds->GD ds=some kvs->∃us:List (Key×V),Kc K H vs us/\Paired (fun(u:Key×V) (k:Key×D)=>u.1=k.1/\RepA N H u.2 k.2) us kvs:=by
 intro _l;induction _l with
 | nil =>
  intro _m;cases _m with
  | nil =>
   intro kvs _ e;simp only[GD,Option.some.injEq] at e;subst e;exact⟨[],.nil,.nil⟩
  | cons _ _ =>
   intro _ q _;simp only[Ar] at q
 | cons v vs ih =>
  intro _m;cases _m with
  | nil =>
   intro _ q _;simp only[Ar] at q
  | cons d ds =>
   intro kvs q e;unfold GD at e;split at e
   .rename_i h; cases h
   .rename_i k' d' ds' h
    cases h;simp only[bind_eq_some_iff,map_eq_some_iff] at e;obtain⟨k,e1,kvs',e2,rfl⟩:=e;obtain⟨us,h1,h2⟩:=ih q.2 e2;have q1:=q.1;cases q1 with
    | @tup a ws _ hh hz hl hr =>
     obtain⟨w1,w2,rfl⟩:=Qy hl;have r1:=hr 0 w1 k' rfl rfl;have r2:=hr 1 w2 d' rfl rfl;have ek:=M3 r1 e1;refine⟨(k,w2)::us,.cons ⟨a,rfl,.inl (.inl ?_)⟩ h1,.cons ⟨rfl,r2⟩ h2⟩;rw[hh,ek]
   .cases e
theorem LZ{us:List (Key×V)}{kvs:List (Key×D)}(hp:Paired (fun(u:Key×V) (k:Key×D)=>u.1=k.1/\RepA N H u.2 k.2) us kvs):us.map (·.1)=kvs.map (·.1):=by
 induction hp with
 | nil=>rfl
 | cons r t ih=>rw[List.map_cons,List.map_cons,r.1,ih]
theorem To:OpN K Lj (U5 K):=by
 intro N H xs as b Q hs e k
 replace e:=D1 e
 obtain⟨a,rfl,e⟩:=e;simp only[bind_eq_some_iff] at e;obtain⟨ds,e1,kvs,e2,e3⟩:=e;split at e3
 .rename_i hn
  cases e3;obtain⟨x,L1,rfl,h1⟩:=CG hs;obtain⟨p,vs,rfl,hp,hz,q⟩:=DY h1 e1;obtain⟨us,g1,g2⟩:=Rf (K:=K) q e2;refine⟨p,vs,us,rfl,.inl (.inl hp),g1,by rw[LZ g2]; exact hn,fun l hl=>k _ _ ?_⟩
  have sm:=Bm (o:=.dK us) hl;refine⟨sm,[l],?_,by simp,fun b hb=>by simp at hb; rw[hb]; exact hl⟩;rw[Ap];have hlen:us.length<=sizeLine:=by
   have:=Paired.length g1;lia
  refine⟨l,us,rfl,rfl,AE,hlen,Paired.mapQ g2 fun u kd r=>⟨r.1,r.2.tr (M:=fun _=>False) (fun _ z=>z.elim) (FD.kept sm) fun b z=>?_⟩⟩;rcases z with z|z
  .exact .inl z
  .simp at z; subst z; exact .inr hl
 .cases e3
noncomputable def Pq(kvs:List (Key×D))(k:Key):Option D:=(kvs.find? fun kv=>decide (kv.1=k)).map (·.2)
theorem XD{k:Key}{us:List (Key×V)}{kvs:List (Key×D)}(hp:Paired (fun(u:Key×V) (k:Key×D)=>u.1=k.1/\RepA N H u.2 k.2) us kvs){d:D}(e:Pq kvs k=some d):∃v,Hk us k=some v/\RepA N H v d:=by
 induction hp with
 | nil=>simp[Pq] at e
 | @cons u kd us kvs r t ih =>
  simp only[Pq,Hk,List.find?_cons] at e |-;by_cases h:kd.1=k
  .have h':u.1=k:=r.1.trans h
   simp only[h,decide_true,Option.map_some,Option.some.injEq] at e;simp only[h',decide_true,Option.map_some,Option.some.injEq,exists_eq_left'];subst e;exact r.2
  .have h':¬u.1=k:=fun z=>h (r.1.symm.trans z)
   simp only[h,decide_false] at e;simp only[h',decide_false];exact ih e
noncomputable def OJ:List A->Option A:=on2 fun q1 q2=>(Ga q1).bind fun kvs=>(fzU q2).bind fun d=>(Iz d).bind fun k=>(Pq kvs k).map A.fz
theorem Wb:OpN K OJ (r2L fun x y H Q=>∃a v,x=.ref a/\Hl H a y (some v)/\Q v H):=by
 intro N H xs as b Q hs e k
 replace e:=Bz e
 obtain⟨q1,q2,rfl,e⟩:=e
 replace e:=bind_eq_some_iff.mp e
 obtain⟨kvs,eq1,e⟩:=e;cases NV eq1;clear eq1
 replace e:=bind_eq_some_iff.mp e
 obtain⟨d,eq2,e⟩:=e;cases Ir eq2;clear eq2;simp only[bind_eq_some_iff,map_eq_some_iff] at e;obtain⟨ky,e1,d',e2,rfl⟩:=e;obtain⟨x,y,L1,L2,rfl,h1,h2⟩:=Bb hs;rw[Ap] at h1;obtain⟨a,us,rfl,rfl,ha,hz,hp⟩:=h1;obtain⟨_,h2⟩:=CH.mp h2;cases M3 h2 e1;obtain⟨v,hv,rv⟩:=XD hp e2;refine⟨_,_,rfl,a,v,rfl,?_,k _ _ (Fd rv)⟩;rw[<- hv];exact Hl.k ha
theorem VN{k:Nat}(hr:Room k X.A)(hs:Vg b)(ha:JE X a m1)(hb:JE X b m2):JE X (.Subscript a b pos) (opM OJ (m2L m1 m2)):=by
 refine AA (Tw (Lv hr) ha hb hs) fun U H Q h=>?_;exact tE.mono (two Wb h) fun x H1 h1=>tE.mono h1 fun y H2 h2=>h2
end
section
variable{P:Program}{w:World}{K:Frag}{mg:Str->Option Value}{base:Heap}
theorem A0{x qual:Str}{st:Stmt}{f:Addr}{fd:FuncData}{N ps:List Str}{k:Nat}{m:MS}(F:Fun K x qual st f fd)(S:FnScope N ps (A6 st))(hb:∀(cdv:Value) (A:Around) (outer:List Env) (s:Shared) (H:Hp) (E:XK),Room k (A.deeper (envOfC qual (A6 st) s.heap.objs.size f cdv))->JSs (Li CX0 P w K mg base N qual (A6 st) f cdv A outer s H E).nox (Cr st) m):
  FnOk P w K mg base CX0 (k+1) f fd ps (spJ K (fnM ps.length N.length m) ps.length):=by
 refine F.ok S (fun vs H Q E h=>?_) fun cdv A outer s H vs Q E hr h=>⟨_,hb cdv A outer s H E hr,?_⟩
 .obtain⟨_,_,_,h,_⟩:=h
  exact h
 .have hl:vs.length=ps.length:=by
   obtain⟨_,_,_,h,_⟩:=h;exact h
  have:=NS h;unfold L2.start;rw[hl];exact this
theorem Ak{np nn:Nat}{b:MS}:∀args y,fnM np nn b args=some y->args.length=np:=fun args y e=>by
 unfold fnM at e;split at e
 .rename_i h; exact h
 .cases e
theorem VZ{Φ:Fn}{H:Hp}{a:Addr}{ns:List Int}{as':List A}{E:XK}(hl:ns.length<=63)(hO:Sj H)(hS:SqL K H a (ns.map V.int))(e : Φ [(.ro,.scr ns)]=some (.fz (.bl true),as')):spJ K Φ 1 [.ref a] H (fun v _=>v=.bl true) E:=by
 refine⟨[(.ro,.scr ns)],fun _=>False,fun _=>[],rfl,⟨rfl,fun i st b h=>?_,fun _ _=>rfl,fun _=>List.nodup_nil,fun i j p h=>by simp at h,fun i p h=>by simp at h,fun p z=>?_⟩,_,_,e,fun v H' ⟨L,fp',p,q⟩=>?_⟩
 .cases i with
  | zero =>
   simp at h;obtain⟨rfl,rfl⟩:=h;refine⟨.ref a,rfl,?_⟩;rw[Ap];refine⟨a,rfl,rfl,fun H' k=>?_,Nat.le_trans hl (by decide)⟩;rcases hS with (h|⟨o,h⟩)|h
   .rcases hO a with z|⟨o,xs,z⟩|⟨ps,z⟩
    .rw[z] at h; cases h
    .rw[z] at h; cases h
    .rw[z] at h; cases h
   .exact .inl (.inr ⟨o,k _ _ h⟩)
   .exact .inr h
  | succ i=>simp at h
 .rcases z with ⟨i,z⟩|z
  .simp at z
  .exact z.elim
 .exact RB q rfl
end
end J
end
section
namespace J
open PySem PySem.Spec PyProof.Rows L2
noncomputable def moves:List R->Ro->Option (List A×Ro)
 | [],Z=>some ([],Z)
 | r::rs,Z=>(move Z r).bind fun p=>(moves rs p.2).map fun q=>(p.1::q.1,q.2)
noncomputable def Gd(m:MA):ME:=fun Z=>(m Z).bind fun p=>(moves p.1 p.2).bind fun q=>if q.1.length<=LIM then some (.val (mkT q.1),q.2) else none
section
variable{K:Frag}{Z Z' Z1 Z2:Ro}{U σ' σ1 σ2:L2.St}{H H' H1 H2:Hp}{O O' N:Addr->Prop}{fp fp' fp1 fp2:Nat->List Addr}{L L1:List Addr}
theorem Post.perm{L':List Addr}(x:Post K O fp H Z Z1 U σ1 L fp1 H1)(h:∀p,p∈L'↔p∈L)(nd:L'.Nodup):Post K O fp H Z Z1 U σ1 L' fp1 H1:=
 ⟨x.rel.congr fun p=>or_congr Iff.rfl (h p).symm,nd,fun p hp=>x.lo p ((h p).mp hp),fun p hp=>x.new p (hp.imp (h p).mp id),x.kept,x.ln,x.stab⟩
theorem Post.give{i:Nat}{a:A}{v:V}(x:Post K O fp H Z Z1 U U L fp1 H1)(ha : Z1[i]? = some (some (.own,a)))(hv : U[i]? = some (some v)):
  Post K O fp H Z (Z1.set i none) U U (L++fp1 i) (pt fp1 i []) H1/\Ap K (NN fp1 (ad O L)) H1 v a (fp1 i)/\∀p,NN (pt fp1 i []) (ad O (L++fp1 i)) p↔NN fp1 (ad O L) p:=by
 obtain⟨v',hv',q⟩:=x.rel.slot i _ _ ha;rw[hv] at hv'; cases hv';have nn:∀p,NN (pt fp1 i []) (ad O (L++fp1 i)) p↔NN fp1 (ad O L) p:=fun p=>by
  constructor
  .intro z
   rcases z with ⟨j,z⟩|z|z
   .rcases A2 z with ⟨_,z⟩|⟨_,z⟩
    .simp at z
    .exact .inl ⟨j,z⟩
   .exact .inr (.inl z)
   .rcases List.mem_append.mp z with z|z
    .exact .inr (.inr z)
    .exact .inl ⟨i,z⟩
  .intro z
   rcases z with ⟨j,z⟩|z|z
   .by_cases hj:j=i
    .subst hj; exact .inr (.inr (List.mem_append_right _ z))
    .exact .inl ⟨j,by rw[FX hj]; exact z⟩
   .exact .inr (.inl z)
   .exact .inr (.inr (List.mem_append_left _ z))
 have nd:(L++fp1 i).Nodup:=List.nodup_append.mpr ⟨x.nd,x.rel.nd i,fun a ha b hb e=>by subst e; exact x.rel.off i a hb (.inr ha)⟩;have R:=x.rel.set (i:=i) (s:=none) (o:=some v) (L:=[]) (O':=ad O (L++fp1 i)) (Aq ha) (fun p z=>(nn p).mp (.inr z)) (fun p hp=>by simp at hp) List.nodup_nil (fun p hp=>by simp at hp) (fun p hp=>by simp at hp)
  (fun j p hj h z=>by
   rcases z with z|z
   .exact x.rel.off j p h (.inl z)
   .rcases List.mem_append.mp z with z|z
    .exact x.rel.off j p h (.inr z)
    .exact hj (x.rel.inj j i p h z)) (fun st a e=>by cases e) (fun _=>rfl)
 rw[Jj hv] at R;refine⟨⟨R,nd,fun p hp z=>?_,fun p hp=>?_,x.kept,rfl,fun j st a' h n=>?_⟩,q,nn⟩
 .rcases List.mem_append.mp hp with hp|hp
  .exact x.lo p hp z
  .exact x.rel.off i p hp (.inl z)
 .rcases hp with hp|⟨j,hp⟩
  .rcases List.mem_append.mp hp with hp|hp
   .exact x.new p (.inl hp)
   .exact x.new p (.inr ⟨i,hp⟩)
  .rcases A2 hp with ⟨_,z⟩|⟨_,z⟩
   .simp at z
   .exact x.new p (.inr ⟨j,z⟩)
 .obtain⟨a2,h2,_,f2⟩:=x.stab j st a' h n
  refine⟨a2,?_,rfl,f2⟩;rw[List.getElem?_set_ne]
  .exact h2
  .rintro rfl
   rw[ha] at h2; cases h2; exact n rfl
theorem RRs.weak(h:∀p,O' p->N p):∀{vs:List V} {rs:List R} {L:List Addr},RRs K N H U vs rs L->RRs K O' H U vs rs L
 | [],[],_,q=>q
 | [],_::_,_,q=>by simp only[RRs] at q
 | _::_,[],_,q=>by simp only[RRs] at q
 | v::vs,r::rs,L,q=>by
  simp only[RRs] at q |-;obtain⟨L1,L2,rfl,h1,h2⟩:=q;refine⟨L1,L2,rfl,?_,RRs.weak h h2⟩;cases r with
  | val a=>exact Dd h h1
  | ref i=>exact h1
theorem M8:∀{rs:List R} {vs:List V} {as:List A} {Z1 Z2:Ro} {fp1:Nat->List Addr} {Lacc L:List Addr},Post K O fp H Z Z1 U U (Lacc++L) fp1 H1->RRs K (NN fp1 (ad O (Lacc++L))) H1 U vs rs L->moves rs Z1=some (as,Z2) ->
  ∃L2 fp2,Post K O fp H Z Z2 U U (Lacc++L2) fp2 H1/\An K (NN fp2 (ad O (Lacc++L2))) H1 vs as L2/\∀p,NN fp2 (ad O (Lacc++L2)) p↔NN fp1 (ad O (Lacc++L)) p:=by
 intro _l;induction _l with
 | nil =>
  intro _m;cases _m with
  | nil =>
   intro as Z1 Z2 fp1 Lacc L x q e;simp only[moves,Option.some.injEq,Prod.mk.injEq] at e;obtain⟨rfl,rfl⟩:=e;simp only[RRs] at q;subst q;exact⟨[],fp1,x,by simp[An],fun p=>Iff.rfl⟩
  | cons _ _ =>
   intro _ _ _ _ _ _ _ q _;simp only[RRs] at q
 | cons r rs ih =>
  intro _m;cases _m with
  | nil =>
   intro _ _ _ _ _ _ _ q _;simp only[RRs] at q
  | cons v vs =>
   intro as Z1 Z2 fp1 Lacc L x q e;simp only[RRs] at q;obtain⟨L1,L2,rfl,h1,h2⟩:=q;simp only[moves,bind_eq_some_iff,map_eq_some_iff] at e;obtain⟨⟨a,Z3⟩,e1,⟨as',Z4⟩,e2,e3⟩:=e;cases e3;cases r with
   | val b =>
    simp only[move,Option.some.injEq,Prod.mk.injEq] at e1;obtain⟨rfl,rfl⟩:=e1;rw[<- List.append_assoc] at x h1 h2;obtain⟨L3,fp3,p3,q3,n3⟩:=ih (Lacc:=Lacc++L1) x h2 e2;rw[List.append_assoc] at p3 q3 n3;refine⟨L1++L3,fp3,p3,?_,fun p=>by rw[n3 p,List.append_assoc]⟩;simp only[An];exact⟨L1,L3,rfl,Dd (fun p z=>by have:=(n3 p).mp z; rw[List.append_assoc]; rw[List.append_assoc] at this; exact this) h1,q3⟩
   | ref i =>
    obtain⟨rfl,hv⟩:=h1;rw[List.nil_append] at x h2;simp only[move] at e1;split at e1
    .rename_i a' ha
     cases e1;obtain⟨g1,g2,g3⟩:=x.give ha hv;have nd:((Lacc++fp1 i)++L2).Nodup:=by
      have:=g1.nd;rw[List.append_assoc] at this |-;exact(List.perm_append_comm.append_left Lacc).nodup this
     have g1':Post K O fp H Z (Z1.set i none) U U ((Lacc++fp1 i)++L2) (pt fp1 i []) H1:=g1.perm (fun p=>by simp; exact⟨fun z=>by rcases z with z|z|z; exact .inl z; exact .inr (.inr z); exact .inr (.inl z),fun z=>by rcases z with z|z|z; exact .inl z; exact .inr (.inr z); exact .inr (.inl z)⟩) nd;have nn:∀p,NN (pt fp1 i []) (ad O ((Lacc++fp1 i)++L2)) p↔NN fp1 (ad O (Lacc++L2)) p:=fun p=>by
      rw[<- g3 p];refine or_congr Iff.rfl (or_congr Iff.rfl ?_);simp;exact⟨fun z=>by rcases z with z|z|z; exact .inl z; exact .inr (.inr z); exact .inr (.inl z),fun z=>by rcases z with z|z|z; exact .inl z; exact .inr (.inr z); exact .inr (.inl z)⟩
     obtain⟨L3,fp3,p3,q3,n3⟩:=ih (Lacc:=Lacc++fp1 i) g1' (RRs.weak (fun p z=>(nn p).mp z) h2) e2;rw[List.append_assoc] at p3 q3 n3;refine⟨fp1 i++L3,fp3,p3,?_,fun p=>by rw[n3 p,nn p]; simp⟩;simp only[An];exact⟨fp1 i,L3,rfl,Dd (fun p z=>(nn p).mp ((n3 p).mp z)) g2,q3⟩
    .cases e1
theorem Uq{m:MA}{Q:VK}(h:tE K (Gd m) U H Q):YO (tA K m) U H Q:=by
 obtain⟨Z,O,fp,rl,x,Z',e,k⟩:=h;simp only[Gd,bind_eq_some_iff] at e;obtain⟨⟨rs,Z1⟩,e1,⟨as,Z2⟩,e2,e3⟩:=e;split at e3
 .rename_i hz
  cases e3;refine⟨Z,O,fp,rl,rs,_,e1,fun vs H1 yy=>?_⟩
  obtain⟨L,fp1,p,q⟩:=yy;obtain⟨L2,fp2,p2,q',_⟩:=M8 (Lacc:=[]) p q e2;rw[List.nil_append] at p2 q';have hl:=q'.len;refine⟨by rw[hl]; exact hz,fun a ha=>k _ _ ?_⟩;have s:=Bm (o:=.tup vs) ha;have q2:An K (NN fp2 (ad O L2)) (upd H1 a (.tup vs)) vs as L2:=q'.tr (M:=fun _=>False) (fun _ z=>z.elim) (FD.kept s) (fun p z=>.inl z) fun _ _ z=>z;show JK _ _ _ _ _ _ _ (.val (mkT as)) _ _;unfold mkT;split
  .rename_i ds hd
   obtain⟨rfl,qd⟩:=q2.fzs hd;exact⟨[],fp2,p2.more s List.nodup_nil (fun p hp=>by simp at hp),Nr (Nq AE (by rw[hl]; exact hz) qd)⟩
  .refine⟨L2,fp2,p2.more s p2.nd (fun p hp=>.inl hp),?_⟩
   show Ap _ _ _ _ _ _;rw[Ap];exact⟨a,vs,rfl,AE,by rw[hl]; exact hz,q2⟩
 .cases e3
end
section
variable{X:Cx}{a b c e:Expr}{es:List Expr}{m m1 m2 m3:ME}{ms:MA}{p pos pos' p2 apos cpos q npos:Pos}{x:Str}{K:Frag}
theorem G7{k:Nat}(h:JA X es ms):JE X (.Tuple es k pos) (Gd ms):=AA (WI h) fun _ _ _ h=>Uq h
theorem IQ:OpN K D6 (r2L (rI0 fun i j=>.int (i-j))):=Ha
theorem Tn:OpN K GO (r2L (rI0 fun i j=>.int (Builtin.bitAnd i j))):=Ha
theorem Wa:OpN K My (r2L (rI0 fun i j=>.int (Builtin.bitOr i j))):=Ha
theorem U1:OpN K gtA (r2L (rI0 fun i j=>.bl (decide (j<i)))):=LV
theorem Q0:OpN K geA (r2L (rI0 fun i j=>.bl (decide (j<=i)))):=LV
end
end J
end
section
namespace L2
open PySem PySem.Spec PyProof.Rows
section
variable{X:Cx}{pins:List (Addr×Obj)}{U:St}{H:Hp}{s:Shared}{h':Heap}
theorem Inv.turnedT{t':Nat}{T:Addr}{xs:List V}{ch:List Addr}(I:Inv X pins U H s)(hf:∀b∈ch,FC X pins H b)(k:∀b o,b∉ch->s.heap.get? b=some o->h'.get? b=some o)(hT:s.heap.objs.size<=T)(new:Bg X.prog X.w (upd H T (.tup xs)) h' T (.tup xs)):Inv X pins U (upd H T (.tup xs)) { s with heap:=h',toks:=t' }:=by
 have hn:H T=none:=I.hok.fresh hT;have nch:∀b u,H b=some u->b∉ch:=fun b u e z=>by rw[(hf b z).1] at e; cases e
 have neT:∀b u,H b=some u->b≠T:=fun b u e z=>by rw[z,hn] at e; cases e
 refine I.step (g':=s.gens) (d':=s.drawn) (ch:=ch) (fun b hb=>?_) (fun b o _ _ hc e _=>k b o hc e) (fun b o _ _ hc e _=>⟨o.slots,k b o hc e⟩) (fun b o hc e n=>?_)
  (fun b o hc e=>⟨o,k b o hc e⟩) (fun b xs e=>by rw[AF (neT b _ e)]; exact e) (fun b o u e=>by rw[AF (neT b _ e)]; exact e) (fun b ps e=>⟨#[],by rw[AF (neT b _ e),e]; simp⟩) (fun m hm=>?_) (fun b u e=>?_) I.bare
 .obtain⟨f0,f1,f2,f3,f4,f5⟩:=hf b hb
  exact⟨f3,f1,f4,f5⟩
 .rw[AF (Nat.ne_of_lt (Nat.lt_of_lt_of_le (Heap.lt_size e) hT))]; exact n
 .obtain⟨o,es,ep,ho,r⟩:=hm
  exact⟨o,es,ep,k _ o (fun z=>(hf _ z).2.1 rfl) ho,r⟩
 .by_cases hb:b=T
  .subst hb; rw[AE] at e; cases e; exact new
  .rw[AF hb] at e
   refine(I.hok b u e).stay (fun c v hc q=>k c v ?_ q) (fun c q=>by rw[AF (neT c _ q)]; exact q) fun c ys q=>by rw[AF (neT c _ q)]; exact q
   rcases hc with z|z
   .rw[z]; exact nch b u e
   .exact nch c _ z
end
noncomputable def Ite(z:Str):It:=⟨fun i _=>i<z.cps.size,fun i H v H'=>∃c T,z.cps[i]? = some c/\H T=none/\v=.ref T/\H'=upd H T (.tup [.int i,.str ⟨#[c]⟩]),fun i _=>z.cps.size<=i⟩
theorem JR{P:Program}{w:World}{A:Around}(hh:A.handled=none)(it:Addr)(z:Str)(t:Tok):Draws P w A it [it] z.cps.size (fun i v=>∃c u,z.cps[i]? = some c/\v=.str ⟨#[c]⟩ u) (fun i h=>h.IsStrIter it (strIterType z) z t i):=by
 cases ha:z.cps.all (· < 128)
 .have e:strIterType z = "str_iterator" := by simp[strIterType,ha]
  rw[e];exact Draws.strWide hh it z t
 .have e:strIterType z = "str_ascii_iterator" := by simp[strIterType,ha]
  rw[e];exact Draws.strAscii hh it z t
theorem Pm{P:Program}{w:World}{K:Frag}{ts:List Expr}{k:Nat}{pos:Pos}(e it:Addr)(hne:e≠it)(z:Str)(t:Tok):
  Turn P w K (.Tuple ts k pos) (Ite z) [e,it] e (fun i h=>i<=z.cps.size/\(∃old,IsEnum h e it ((i:Nat):Int) old)/\h.IsStrIter it (strIterType z) z t i) where
 mem:=by simp
 obj:=fun i h st b hb=>by
  obtain⟨_,⟨old,he⟩,o,ho,c,d⟩:=st;simp only[List.mem_cons,List.not_mem_nil,or_false] at hb;rcases hb with rfl|rfl
  .exact⟨_,he,fun v q=>by cases q⟩
  .exact⟨o,ho,fun v q=>by rw[d] at q; cases q⟩
 keep:=fun i h h' st kk=>by
  obtain⟨le,⟨old,he⟩,o,ho,r⟩:=st;exact⟨le,⟨old,kk e (by simp) _ he⟩,o,kk it (by simp) _ ho,r⟩
 item:=by
  intro X hP hw hK hc i pins s U H E I hf st hg;subst hP hw hK;obtain⟨le,⟨old,he⟩,hs⟩:=st;have D:=JR (P:=X.prog) (w:=X.w) (A:=X.A.in1) (I.ok.hd hc) it z t;have elt:e<s.heap.objs.size:=Heap.lt_size he;have ilt:it<s.heap.objs.size:=by obtain⟨o,ho,_⟩:=hs; exact Heap.lt_size ho
  refine wpAny_pyNext_enum_itemD D he hs hg hne (by simpa using hne) fun x h1 tk hx ho hs1 hT hsz hk=>?_;obtain⟨c,u,hcc,rfl⟩:=hx;refine⟨_,rfl,wpAny_letOwnedTupleGo_enum ho fun h2 he2 hs2=>?_⟩;have hs2':Heap.SameBut e h1 h2:=hs2;have g2:h2.get? s.heap.objs.size=some { cls:=.type "tuple",data:=.seq #[.int i tk,.str ⟨#[c]⟩ u] }:=(hs2'.2 _ (Nat.ne_of_gt elt)).trans hT;have I2:Inv X pins U (upd H s.heap.objs.size (.tup [.int i,.str ⟨#[c]⟩])) { s with heap:=h2,toks:=tk+1 }:=by
   refine I.turnedT (ch:=[e,it]) hf (fun b o hb q=>?_) (Nat.le_refl _) ?_
   .simp only[List.mem_cons,List.not_mem_nil,or_false,not_or] at hb
    exact(hs2'.2 b hb.1).trans (hk b o hb.1 hb.2 q)
   .exact⟨by show 2<=sizeLine; decide,[.int i tk,.str ⟨#[c]⟩ u],.cons ⟨_,rfl⟩ (.cons ⟨_,rfl⟩ .nil),_,g2,rfl,_,rfl⟩
  refine⟨.ref s.heap.objs.size,_,I2,rfl,⟨c,_,hcc,I.hok.fresh (Nat.le_refl _),rfl,rfl⟩,⟨hg,⟨_,by simpa using he2⟩,?_⟩,fun b hb=>?_⟩
  .obtain⟨o,ho1,r⟩:=hs1
   exact⟨o,(hs2'.2 it (Ne.symm hne)).trans ho1,r⟩
  .have hlt:b<s.heap.objs.size:=by
    simp only[List.mem_cons,List.not_mem_nil,or_false] at hb;rcases hb with rfl|rfl
    .exact elt
    .exact ilt
   rw[AF (Nat.ne_of_lt hlt)];exact(hf b hb).1
 done:=by
  intro X hP hw hK hc i pins s U H E I hf st hg;subst hP hw hK;obtain⟨le,⟨old,he⟩,hs⟩:=st;have D:=JR (P:=X.prog) (w:=X.w) (A:=X.A.in1) (I.ok.hd hc) it z t;have hg':z.cps.size<=i:=hg;obtain⟨f0,f1,f2,f3,f4,f5⟩:=hf it (by simp);have e0:i=z.cps.size:=by lia
  subst e0;exact wpAny_pyNext_enum_endD D he hs fun h1 eb=>⟨rfl,I.turned (t':=s.toks) (fun b o hb q=>eb b o hb q) f0 f1 f3 f4 f5⟩
 self:=fun _ _ _ _ _ st h=>by
  obtain⟨_,⟨old,he⟩,_⟩:=st;exact wpAny_pyIter_enum he h
section
variable{X:Cx}
noncomputable def UQ(tl:TA):TI:=fun U H R=>tl U H fun vs H1=>∃z,vs=[.str z]/\R (Ite z) H1
theorem TC{ts:List Expr}{k:Nat}{tpos:Pos}{a:Expr}{ta:TA}{p pos:Pos}(hg:Gl X "enumerate")(hm:X.mg "enumerate" = none)(ha:PA X [a] ta)(hs:starEach [a] X.env=[(false,eval a X.env)]):
  PI X (.Tuple ts k tpos) (.Call (.Name "enumerate" p) [a] [] pos) (UQ ta):=by
 intro pins s U H R I h;refine Call_ (Gx I hg hm boot_enumerate (PyProof.Rows.callWith_type1 (thn (ha pos pins s U H _ I h) fun us s1 yy=>?_) hs rfl));obtain⟨vs,H1,I1,r1,q1⟩:=yy;obtain⟨z,e,q⟩:=q1;subst e;obtain⟨u,rfl,ru⟩:=r1.one;obtain⟨t,rfl⟩:=ru;refine call_enumerate_str fun h1 he hit hsz hk=>?_;refine wpAny_pyIter_enum he ?_;have I2:Inv X pins U H1 { s1 with heap:=h1 }:=I1.kept (t':=s1.toks) hk;refine⟨_,[s1.heap.objs.size+1,s1.heap.objs.size],_,_,H1,rfl,I2,Pm _ _ (Nat.succ_ne_self _) z t,⟨Nat.zero_le _,⟨_,he⟩,hit⟩,fun b hb=>?_,q⟩;simp only[List.mem_cons,List.not_mem_nil,or_false] at hb;rcases hb with rfl|rfl
 .exact I1.fpOk (Nat.le_succ _) (I1.hok.fresh (Nat.le_succ _))
 .exact I1.fpOk (Nat.le_refl _) (I1.hok.fresh (Nat.le_refl _))
end
end L2
namespace J
open PySem PySem.Spec PyProof.Rows L2
section
variable{X:Cx}{a b c e:Expr}{es:List Expr}{m m1 m2 m3:ME}{ms:MA}{p pos pos' p2 apos cpos q npos:Pos}{x:Str}
variable{K:Frag}{N:Addr->Prop}{H:Hp}{U:L2.St}{v:V}{L:List Addr}
noncomputable def HN(z:Str):List D:=(List.range z.cps.size).map fun(i:Nat)=>D.tup [.int (i:Int),.str ⟨#[z.cps.getD i 0]⟩]
noncomputable def Io(m:ME):MI:=fun Z=>(m Z).bind fun p=>match p.1 with
 | .val (.fz (.str z))=>if z.length<=LIM then some (HN z,none,p.2) else none
 | _=>none
theorem Ur{R:It->Hp->Prop}(h:tI K (Io m) U H R):UQ (BP (tE K m) GG) U H R:=by
 obtain⟨Z,O,fp,rl,ds,n,Z',e,k⟩:=h;simp only[Io,bind_eq_some_iff] at e;obtain⟨⟨r,Z1⟩,e1,e2⟩:=e;dsimp only at e2;split at e2
 .rename_i z
  split at e2
  .rename_i hz
   cases e2;refine⟨Z,O,fp,rl,_,_,e1,fun v H1 yy=>?_⟩
   obtain⟨L,fp1,p,q⟩:=yy;have q':Ap K (NN fp1 (ad O L)) H1 v (.fz (.str z)) L:=q;rw[Ap] at q';obtain⟨rfl,q'⟩:=q';cases q';refine⟨z,rfl,k _ _ ⟨.val (.fz .non),.non,.fz .non,[],fp1,p,Ej (K:=K) .non,rfl,rfl,fun N H2 _=>?_⟩⟩;have hl:(HN z).length=z.cps.size:=by simp[HN]
   refine⟨fun i hi=>by show i<z.cps.size; lia,fun i hi=>by show z.cps.size<=i; lia,fun i v H' d y e=>?_⟩;obtain⟨c,T,hc,hT,rfl,rfl⟩:=y;have hi:i<z.cps.size:=by have:=Aq e; lia
   have hd:d=.tup [.int i,.str ⟨#[c]⟩]:=by
    have ec:z.cps.getD i 0=c:=by
     rw[Array.getD_eq_getD_getElem?,hc]; rfl
    simp only[HN,List.getElem?_map,List.getElem?_range hi,Option.map_some,Option.some.injEq] at e;rw[<- e,ec]
   subst hd;refine⟨Bm hT,.tup AE (by show 2<=sizeLine; decide) rfl fun j v d h1 h2=>?_⟩
   match j with
   | 0=>simp at h1 h2; subst h1 h2; exact .int _
   | 1=>simp at h1 h2; subst h1 h2; exact .str _ (by show 1<=sizeLine; decide)
   | j+2=>simp at h1
  .cases e2
 .cases e2
theorem S4{ts:List Expr}{tk:Nat}{tpos:Pos}(hg:Gl X "enumerate")(hm:X.mg "enumerate" = none)(hs:starEach [a] X.env=[(false,eval a X.env)])(h:JE X a m):JI X (.Tuple ts tk tpos) (.Call (.Name "enumerate" p) [a] [] pos) (Io m):=F3 (TC hg hm (CZ h Ff hs) hs) fun _ _ _ h=>Ur h
theorem LB(i:Nat){y:Str}{py spos:Pos}{scope:Scope}{iter elt:Expr}{ifs:List Expr}{px:Pos}{mi:MI}{mt:MT}(nd:X.N.Nodup)(hiN:X.N[i]? = some y)(hy:X.env.scope.names.lookup y=some .local)(hok:Bl [x] X.N scope X.env.scope=true)(hc:X.calm=true)(hx:scope.names.lookup x=some .local)(hs:∀z,foldedSetIterable iter X.env z=pure z)(hsw:swapsWith (.ListComp elt [⟨.Name x px,iter,ifs,0⟩] scope pos) (some (.Name y py)) spos.line X.env=pure true)(hi:JI X (.Name x px) iter mi)(ht:JTc X [x] scope ifs mt)(he:JEc X [x] scope elt m):
  JS X (.Assign [.Name y py] (.ListComp elt [⟨.Name x px,iter,ifs,0⟩] scope pos) spos) (AG i (AN mi 0 mt m)):=by
 have hnx:x∉X.N:=fun hy=>by
  simp only[Bl,Bool.and_eq_true,List.all_eq_true] at hok;have:=hok.2 x (by simp);simp[hy] at this
 exact Br (Ma (un:=R9) (te:=tE X.K m) nd hiN hy hc hok hi (fun C s H fp pins=>Hd rfl (List.nodup_cons.mpr ⟨hnx,nd⟩) (lookup_relabel_local hx)) ht (fun C s H fp pins=>he C s H fp pins) hs hsw) fun _ _ _ h=>F8 (Jp h)
end
end J
end
section
namespace Sg
open PySem
noncomputable def Up(xs:Array Nat):Prop:=xs.toList.Pairwise (· < ·)
theorem Up.lt{xs:Array Nat}(u:Up xs){i k:Nat}(h:i<k)(hk:k<xs.size):xs.getD i 0<xs.getD k 0:=by
 have q:=List.pairwise_iff_getElem.mp u i k (by simpa using Nat.lt_trans h hk) (by simpa using hk) h;have h1:i<xs.size:=Nat.lt_trans h hk;simpa[Array.getD,h1,hk] using q
theorem getD_in{xs:Array Nat}{i:Nat}(h:i<xs.size)(d:Nat):xs.getD i d=xs.getD i 0:=by simp[Array.getD,h]
theorem P9{xs:Array Nat}{j:Nat}(u:Up xs):∀(f lo hi:Nat),lo<=hi->hi<=xs.size->hi-lo<=f->(∀i,i<lo->xs.getD i 0<j)->(∀i,hi<=i->i<xs.size->j<=xs.getD i 0) ->
  (∀i,i<SetTable.below.go xs j f lo hi->xs.getD i 0<j)/\(∀i,SetTable.below.go xs j f lo hi<=i->i<xs.size->j<=xs.getD i 0)/\SetTable.below.go xs j f lo hi<=xs.size
 | 0,lo,hi,h1,h2,h3,a,b=>by
  have:lo=hi:=by lia
  subst this;simp only[SetTable.below.go];exact⟨a,b,h2⟩
 | f+1,lo,hi,h1,h2,h3,a,b=>by
  rw[SetTable.below.go];by_cases hl:lo<hi
  .rw[if_pos hl]
   have hm:(lo+hi) / 2<xs.size:=by lia
   dsimp only;rw[getD_in hm];by_cases q:xs.getD ((lo+hi) / 2) 0<j
   .rw[if_pos q]
    refine P9 u f _ hi (by lia) h2 (by lia) (fun i hi'=>?_) b;by_cases e:i=(lo+hi) / 2
    .rw[e]; exact q
    .exact Nat.lt_trans (u.lt (by lia) hm) q
   .rw[if_neg q]
    refine P9 u f lo _ (by lia) (by lia) (by lia) a fun i h4 h5=>?_;by_cases e:i=(lo+hi) / 2
    .rw[e]; lia
    .have:=u.lt (i:=(lo+hi) / 2) (k:=i) (by lia) h5
     lia
  .rw[if_neg hl]
   have:lo=hi:=by lia
   subst this;exact⟨a,b,h2⟩
theorem Im{xs:Array Nat}{j:Nat}(u:Up xs):(∀i,i<SetTable.below xs j->xs.getD i 0<j)/\(∀i,SetTable.below xs j<=i->i<xs.size->j<=xs.getD i 0)/\SetTable.below xs j<=xs.size:=
 P9 u _ 0 _ (Nat.zero_le _) (Nat.le_refl _) (by lia) (fun i h=>by lia) (fun i h1 h2=>by lia)
theorem Xz{xs:Array Nat}{j:Nat}(u:Up xs)(h:xs[SetTable.below xs j]? ≠ some j):Up (SetTable.insertAt xs (SetTable.below xs j) j):=by
 obtain⟨a,b,c⟩:=Im (j:=j) u;generalize SetTable.below xs j=p at a b c h;unfold Up;rw[SetTable.toList_insertAt];have ul:xs.toList.Pairwise (· < ·):=u;have get:∀i (hi:i<xs.size),xs.toList[i]'(by simpa using hi)=xs.getD i 0:=fun i hi=>by simp[Array.getD,hi]
 rw[List.pairwise_append];refine⟨ul.sublist (List.take_sublist _ _),?_,fun x hx y hy=>?_⟩
 .rw[List.pairwise_cons]
  refine⟨fun y hy=>?_,ul.sublist (List.drop_sublist _ _)⟩;obtain⟨k,hk,rfl⟩:=List.mem_iff_getElem.mp hy;rw[List.getElem_drop];have hk':p+k<xs.size:=by simp at hk; lia
  rw[get _ hk'];have h1:=b (p+k) (by lia) hk';by_cases hp:xs.getD p 0=j
  .exfalso
   apply h;have hps:p<xs.size:=by lia
   rw[Array.getElem?_eq_getElem hps];simpa[Array.getD,hps] using hp
  .have hpp:=b p (Nat.le_refl _) (by lia)
   by_cases e:k=0
   .subst e; simp only[Nat.add_zero] at *; lia
   .have:=u.lt (i:=p) (k:=p+k) (by lia) hk'
    lia
 .obtain⟨k,hk,rfl⟩:=List.mem_iff_getElem.mp hx
  rw[List.getElem_take];have hk1:k<p/\k<xs.size:=by simp at hk; lia
  rw[get _ hk1.2];have h1:=a k hk1.1;rcases List.mem_cons.mp hy with rfl|hy
  .exact h1
  .obtain⟨m,hm,rfl⟩:=List.mem_iff_getElem.mp hy
   rw[List.getElem_drop];have hm':p+m<xs.size:=by simp at hm; lia
   rw[get _ hm'];have:=b (p+m) (by lia) hm';lia
theorem Kt(j:Nat):SetTable.has #[] j=false:=by simp[SetTable.has]
theorem K2{t:SetTable}(h:t.dummies = #[])(j:Nat):t.slot j≠.dummy:=by
 unfold SetTable.slot;dsimp only;split
 .intro z; cases z
 .rw[h,Kt]; simp
theorem NC{t:SetTable}{j:Nat}(h:t.slot j=.empty):t.place[SetTable.below t.place j]? ≠ some j:=by
 unfold SetTable.slot at h;dsimp only at h;split at h
 .cases h
 .rename_i q
  intro z;rw[z] at q;simp at q
section
variable{P:Program}{w:World}{A:Around}{E:Value->Shared->Prop}{s:Shared}
theorem Ol{h:Heap}{a:Addr}{o:Obj}{es es':Array (Int×Value)}{ep:Nat}{t t':SetTable}(e1:h.get? a=some o)(e2:o.data=.set es ep t):(h.update a (Obj.putSet es' t')).get? a=some { o with data:=.set es' (ep+1) t' }:=by
 have q:=Heap.get?_update_self (Obj.putSet es' t') e1 (by rw[putSet_of es' t' e2]; rfl)
 rwa [putSet_of es' t' e2] at q
end
theorem J9:entryFor table "set.update.loop" = some Builtin.«set.update.loop»:=entryFor_of_tree (by kernel_rfl)
theorem HF:plainId "set.update.loop" = true:=by decide +kernel
noncomputable def dd(ks:List Int)(k:Int):List Int:=if k∈ks then ks else ks++[k]
section
variable{P:Program}{w:World}{A:Around}{E:Value->Shared->Prop}
end
section
variable{P:Program}{w:World}{A:Around}{E:Value->Shared->Prop}{s:Shared}
noncomputable abbrev byT(w:World):Bool:=w.params.followText "set-order"
end
section
variable{P:Program}{w:World}{A:Around}{E:Value->Shared->Prop}{s:Shared}
end
section
variable{P:Program}{w:World}{A:Around}{E:Value->Shared->Prop}{s:Shared}
end
end Sg
end
section
namespace Sg
open PySem PyProof.Rows
section
variable{P:Program}{w:World}{A:Around}{E:Value->Shared->Prop}{s:Shared}
noncomputable abbrev E3(led:Bool):Obj:={ cls:=.type "set",dict:=none,data:=.set #[] 0 (.fresh 0 0 led) }
theorem PK(x:Value){Q1:Value->Shared->Prop}(h:Q1 (.ref s.heap.objs.size) { s with heap:=s.heap.push (E3 (!byT w)) }):
  codeAny (model P w) A (.call (.builtin "set.__new__") ⟨[.type "set",x],[]⟩) (wants Q1 E) s:=by
 refine codeAny_of_tree ?_;show wpAny _ A.in1 (do checkBuiltinCall "set.__new__" ⟨[.type "set",x],[]⟩; again (.builtin "set.__new__" ⟨[.type "set",x],[]⟩)) _ _ s;refine wpAny_bind (wpAny_of_eq (F.newCall_set_1 x) (wpAny_pure ⟨plainId_quiet F.plain_set_new _,codeAny_builtin F.entry_set_new ?_⟩));rw[Around.under_plainId F.plain_set_new];unfold Builtin.«set.__new__» Builtin.Frozenset.newClass;have sub0:=sub_set_self;obtain⟨hp,g0,d0,tk0,os0⟩:=s;dsimp only
 wp_walk
 refine wpAny_askSetting (wpAny_pure ?_);dsimp only;simp only[newObj];exact wpAny_bind (wpAny_alloc (wpAny_pure (wpAny_pure h)))
end
section
variable{P:Program}{w:World}{A:Around}{E:Value->Shared->Prop}{s:Shared}
end
end Sg
end
section
namespace L2
open PySem PySem.Spec PyProof.Rows Sg
section
variable{X:Cx}
end
end L2
namespace J
open PySem PySem.Spec PyProof.Rows L2 Sg
section
variable{X:Cx}{a b c e:Expr}{es:List Expr}{m m1 m2 m3:ME}{ms:MA}{p pos pos' p2 apos cpos q npos:Pos}{x:Str}
variable{K:Frag}{N:Addr->Prop}{H:Hp}{U:L2.St}{v:V}{L:List Addr}
end
end J
end
section
namespace J
open PySem PySem.Spec PyProof.Rows L2
section
variable{K:Frag}{Z Z' Z1 Z2:Ro}{U σ' σ1 σ2:L2.St}{H H' H1 H2:Hp}{O O' N:Addr->Prop}{fp fp' fp1 fp2:Nat->List Addr}{L L1:List Addr}
end
section
variable{X:Cx}{a b c e:Expr}{es:List Expr}{m m1 m2 m3:ME}{ms:MA}{p pos pos' p2 apos cpos q npos:Pos}{x:Str}
end
end J
end
section
namespace L2
open PySem PySem.Spec PyProof.Rows
section
variable{X:Cx}{pins:List (Addr×Obj)}{U:St}{H:Hp}{s:Shared}
end
section
variable{P:Program}{w:World}{A:Around}{E:Value->Shared->Prop}{s:Shared}
theorem nx{n k j:Nat}(h:k≠j:=by decide):n+k≠n+j:=fun e=>h (Nat.add_left_cancel e)
end
theorem Inv.turnedL{X:Cx}{pins:List (Addr×Obj)}{U:St}{H:Hp}{s:Shared}{h':Heap}{t':Nat}{ch:List Addr}(I:Inv X pins U H s)(hf:∀b∈ch,FC X pins H b)(k:∀b o,b∉ch->s.heap.get? b=some o->h'.get? b=some o):
  Inv X pins U H { s with heap:=h',toks:=t' }:=by
 have nch:∀b u,H b=some u->b∉ch:=fun b u e z=>by rw[(hf b z).1] at e; cases e
 refine I.step (g':=s.gens) (d':=s.drawn) (ch:=ch) (fun b hb=>?_) (fun b o _ _ hc e _=>k b o hc e) (fun b o _ _ hc e _=>⟨o.slots,k b o hc e⟩) (fun _ _ _ _ n=>n) (fun b o hc e=>⟨o,k b o hc e⟩) (fun _ _ e=>e) (fun _ _ _ e=>e) (fun b ps e=>⟨#[],by rw[e]; simp⟩) (fun m hm=>?_) (fun b u e=>?_) I.bare
 .obtain⟨f0,f1,f2,f3,f4,f5⟩:=hf b hb
  exact⟨f3,f1,f4,f5⟩
 .obtain⟨o,es,ep,ho,r⟩:=hm
  exact⟨o,es,ep,k _ o (fun z=>(hf _ z).2.1 rfl) ho,r⟩
 .refine(I.hok b u e).stay (fun c v hc q=>k c v ?_ q) (fun c q=>q) fun c ys q=>q
  rcases hc with z|z
  .rw[z]; exact nch b u e
  .exact nch c _ z
end L2
namespace L2
open PySem PySem.Spec PyProof.Rows
section
variable{X:Cx}
theorem boot_zip:bootBuiltins "zip" = some (.type "zip"):=by decide +kernel
end
end L2
namespace J
open PySem PySem.Spec PyProof.Rows L2
section
variable{X:Cx}{a b c e:Expr}{es:List Expr}{m m1 m2 m3:ME}{ms:MA}{p pos pos' p2 apos cpos q npos:Pos}{x:Str}
variable{K:Frag}{N:Addr->Prop}{H:Hp}{U:L2.St}{v:V}{L:List Addr}
noncomputable def isS:D->Bool
 | .str _=>true
 | .int _=>true
 | _=>false
noncomputable def Pu(ds es:List D):List D:=List.zipWith (fun d e=>D.tup [d,e]) ds es
theorem OR(i:Nat){y z:Str}{py spos:Pos}{scope:Scope}{iter elt:Expr}{ifs:List Expr}{px pz pt':Pos}{k:Nat}{mi:MI}{mt:MT}(nd:X.N.Nodup)(hiN:X.N[i]? = some y)(hy:X.env.scope.names.lookup y=some .local)(hok:Bl [x,z] X.N scope X.env.scope=true)(hc:X.calm=true)(hxz:x≠z)(hx:scope.names.lookup x=some .local)(hz:scope.names.lookup z=some .local)(hs:∀w,foldedSetIterable iter X.env w=pure w)(hsw:swapsWith (.ListComp elt [⟨.Tuple [.Name x px,.Name z pz] k pt',iter,ifs,0⟩] scope pos) (some (.Name y py)) spos.line X.env=pure true)(hi:JI X (.Tuple [.Name x px,.Name z pz] k pt') iter mi)(ht:JTc X [x,z] scope ifs mt)(he:JEc X [x,z] scope elt m):
  JS X (.Assign [.Name y py] (.ListComp elt [⟨.Tuple [.Name x px,.Name z pz] k pt',iter,ifs,0⟩] scope pos) spos) (AG i (AN mi 2 mt m)):=by
 have nw:=KS hok;refine Br (Ma (un:=UC X.K 2) (te:=tE X.K m) nd hiN hy hc hok hi (fun C s H fp pins=>?_) ht (fun C s H fp pins=>he C s H fp pins) hs hsw) fun _ _ _ h=>F8 (Jp h);have P:=L8 (X:=cxC X [x,z] scope C s H fp pins) (px:=px) (py:=pz) (pos:=pt') (k:=k) hc rfl rfl (List.nodup_cons.mpr ⟨by
  intro w;rcases List.mem_cons.mp w with w|w
  .exact hxz w
  .exact nw x (by simp) w,List.nodup_cons.mpr ⟨nw z (by simp),nd⟩⟩) (lookup_relabel_local hx) (lookup_relabel_local hz)
 intro pins' s' σ0 U H' v u vs h0 I r hu;obtain⟨a,rfl,hq,hl⟩:=hu;obtain⟨v1,v2,rfl⟩:=Qy hl;exact P pins' s' σ0 U H' _ u _ h0 I r ⟨a,v1,v2,rfl,hq,rfl⟩
end
end J
end
section
namespace Ug
open PySem Sg
section
variable{P:Program}{w:World}{A:Around}{E:Value->Shared->Prop}{s:Shared}
end
section
variable{P:Program}{w:World}{A:Around}{E:Value->Shared->Prop}
end
section
variable{P:Program}{w:World}{A:Around}{E:Value->Shared->Prop}{s:Shared}
end
section
variable{P:Program}{w:World}{A:Around}{E:Value->Shared->Prop}{s:Shared}
end
section
variable{P:Program}{w:World}{A:Around}{E:Value->Shared->Prop}{s:Shared}
end
end Ug
end
section
namespace Ug
open PySem Sg PyProof.Rows
section
variable{P:Program}{w:World}{A:Around}{E:Value->Shared->Prop}{s:Shared}
end
end Ug
end
section
namespace L2
open PySem PySem.Spec PyProof.Rows Sg
section
variable{X:Cx}
end
end L2
namespace J
open PySem PySem.Spec PyProof.Rows L2 Sg
section
variable{X:Cx}{a b c e:Expr}{es:List Expr}{m m1 m2 m3:ME}{ms:MA}{p pos pos' p2 apos cpos q npos:Pos}{x:Str}
variable{K:Frag}{N:Addr->Prop}{H:Hp}{U:L2.St}{v:V}{L:List Addr}
theorem three{f:List A->Option A}{r:V->V->V->Hp->VK->Prop}(ok:OpN K f (fun xs H Q=>∃x y z,xs=[x,y,z]/\r x y z H Q)){Q:VK}(h:tE K (opM f (Ac m1 (Ac m2 (Ac m3 Aj)))) U H Q):
  tE K m1 U H fun x H1=>tE K m2 U H1 fun y H2=>tE K m3 U H2 fun z H3=>r x y z H3 Q:=by
 have h1:=DD (HR ok h);refine tE.mono h1 fun v H1 h2=>tE.mono (DD h2) fun u H2 h3=>tE.mono (DD h3) fun w H3 h4=>?_;obtain⟨x,y,z,e,q⟩:=FZ h4;cases e;exact q
noncomputable def DV:A->Bool
 | .fz .non=>true
 | _=>false
end
end J
end
section
namespace Lm
open PySem PyProof.Rows
section
variable{prog:Program}{w:World}{A:Around}{E:Value->Shared->Prop}{s:Shared}{h₀:Heap}{l q I S:Addr}{vs:List Value}{R:Result->Shared->Prop}{Q:Value->Shared->Prop}
end
end Lm
end
section
namespace L2
open PySem PySem.Spec PyProof.Rows PySem.W
section
variable{X:Cx}{pins:List (Addr×Obj)}{U:St}{H:Hp}{s:Shared}{h':Heap}
end
end L2
namespace L2
open PySem PySem.Spec PyProof.Rows PySem.W
end L2
end
section
namespace J
open PySem PySem.Spec PyProof.Rows L2 PySem.W
section
variable{X:Cx}{a b c e:Expr}{es:List Expr}{m m1 m2 m3:ME}{ms:MA}{p pos pos' p1 p2 p3 lp kp:Pos}{x y:Str}
variable{K:Frag}{N:Addr->Prop}{H:Hp}{U:L2.St}{v:V}{L:List Addr}
end
section
variable{X:Cx}{K:Frag}
end
section
variable{P:Program}{w:World}{K:Frag}{mg:Str->Option Value}{base:Heap}
theorem Sy{f c b:Addr}{oc:Value}{od:Option Addr}{fd:FuncData}{osl:Array (Option Value)}(n:nsIn K mainGlobals A8=some (some (.ref f)))(lk:K.lookup f=some ⟨oc,od,.func fd,osl⟩)(t:tabIn K A8=some (c,b)):fd.code=.ref c:=by
 unfold tabIn at t;rw[n] at t;dsimp only at t;rw[lk] at t;dsimp only at t;split at t
 .rename_i c' hc
  split at t
  .split at t
   .cases t; exact hc
   .cases t
  .cases t
 .cases t
theorem Vx{st:Stmt}{f c b:Addr}{fd:FuncData}{N ps:List Str}{k:Nat}{m:MS}(F:Fun K A8 A8 st f fd)(hn:nsIn K mainGlobals A8=some (some (.ref f)))(ht:tabIn K A8=some (c,b))(S:FnScope N ps (A6 st))(hb:∀(A:Around) (outer:List Env) (s:Shared) (H:Hp) (E:XK),Room k (A.deeper (envOfC A8 (A6 st) s.heap.objs.size f (.ref c)))->JSs (Li CX0 P w K mg base N A8 (A6 st) f (.ref c) A outer s H E).nox (Cr st) m):
  FnOk P w K mg base CX0 (k+1) f fd ps (spJ K (fnM ps.length N.length m) ps.length):=by
 obtain⟨oc,od,kV,doc,pm,an,cdv,ct,osl,rfl,lk,hcd⟩:=F.ex;have ec:cdv=.ref c:=Sy hn lk ht;subst ec;refine UM lk hcd S (fun vs H Q E h=>?_) fun A outer s H vs Q E hr h=>?_
 .obtain⟨_,_,_,h,_⟩:=h
  exact h
 .have hl:vs.length=ps.length:=by
   obtain⟨_,_,_,h,_⟩:=h;exact h
  have:=NS h;refine⟨_,PSs.nox (hb A outer s H E hr),?_⟩;unfold L2.start;rw[hl];exact this
end
end J
end
section
namespace L2
open PySem PySem.Spec PyProof.Rows
section
variable{X:Cx}{a e:Expr}{ta te:TE}{apos cpos:Pos}
theorem Nj{α β:Type}{R:α -> β -> Prop}:∀{l:List α} {l':List β},l.length=l'.length->(∀(k:Nat) a b,l[k]? = some a->l'[k]? = some b->R a b)->Paired R l l':=by
 intro l;induction l with
 | nil =>
  intro l' h _;cases l' with
  | nil=>exact .nil
  | cons b l'=>cases h
 | cons a l ih =>
  intro l' h q;cases l' with
  | nil=>cases h
  | cons b l'=>exact .cons (q 0 a b rfl rfl) (ih (by simpa using h) fun k x y e1 e2=>q (k+1) x y e1 e2)
end
end L2
namespace J
open PySem PySem.Spec PyProof.Rows L2
section
variable{X:Cx}{a b c e:Expr}{es:List Expr}{m m1 m2 m3:ME}{ms:MA}{p pos pos' p2 apos cpos q npos:Pos}{x:Str}
variable{K:Frag}{N:Addr->Prop}{H:Hp}{U:L2.St}{v:V}{L:List Addr}
noncomputable def UL:ME:=opM (fun _=>some (.dic [])) Aj
theorem SY:JE X (.Dict [] [] pos) UL:=by
 refine AA Ri fun U H Q h=>?_;have ok:OpN X.K (fun _=>some (.dic [])) (fun _ H Q=>∀p,H p=none->Q (.ref p) (upd H p (.dK []))):=by
  intro N H xs as b Q hs e k;cases e;intro p hp;refine k _ _ ⟨Bm hp,[p],?_,by simp,fun b hb=>by simp at hb; rw[hb]; exact hp⟩;rw[Ap];exact⟨p,[],rfl,rfl,AE,Nat.zero_le _,.nil⟩
 exact FZ (HR ok h)
noncomputable def JU(Z:Ro)(i:Nat):Option (Own×List (Key×D)):=match Z[i]? with
 | some (some (.ro,_))=>none
 | some (some (st,.dic kvs))=>some (st,kvs)
 | _=>none
noncomputable def putD(kvs:List (Key×D))(k:Key)(d:D):List (Key×D):=if kvs.any fun kv=>decide (kv.1=k) then kvs.map fun kv=>if kv.1=k then (kv.1,d) else kv else kvs++[(k,d)]
end
section
variable{K:Frag}{Z Z' Z1 Z2:Ro}{U σ' σ1 σ2:L2.St}{H H' H1 H2:Hp}{O O' N:Addr->Prop}{fp fp' fp1 fp2:Nat->List Addr}{L L1:List Addr}
theorem HE{p:Addr}{o oo:HO}(him:imm oo=false)(hy:H p=some oo):Kept (fun q=>q=p) H (upd H p o):=fun b u e c=>by
 by_cases hb:b=p
 .subst hb
  rcases c with c|c
  .exact absurd rfl c
  .rw[hy] at e; cases e; rw[him] at c; cases c
 .rw[AF hb]; exact e
theorem Post.mutD{i:Nat}{st:Own}{a a':A}{v:V}{p:Addr}{o oo:HO}{L':List Addr}(him:imm oo=false)(x:Post K O fp H Z Z1 U U L fp1 H1)(hi : Z1[i]? = some (some (st,a)))(hst:st≠.ro)(hv : U[i]? = some (some v))(hp:p∈fp1 i)(hy:H1 p=some oo)(hL:∀q∈L',q∈fp1 i\/q∈L)(nd:L'.Nodup)(hr:Ap K (NN fp1 (ad O L)) (upd H1 p o) v a' L'):Post K O fp H Z (Z1.set i (some (st,a'))) U U [] (pt fp1 i L') (upd H1 p o):=by
 have alp:∀q,H1 q≠none->upd H1 p o q≠none:=fun q z=>by
  by_cases e:q=p
  .subst e; rw[AE]; simp
  .rw[AF e]; exact z
 have k:=HE (o:=o) him hy
 -- first the heap,then the slot
 have nn:∀q,NN (pt fp1 i L') (ad O []) q->NN fp1 (ad O L) q:=fun q z=>by
  rcases z with ⟨j,z⟩|z|z
  .rcases A2 z with ⟨_,z⟩|⟨_,z⟩
   .rcases hL q z with z|z
    .exact .inl ⟨i,z⟩
    .exact .inr (.inr z)
   .exact .inl ⟨j,z⟩
  .exact .inr (.inl z)
  .simp at z
 have dis:∀q∈L',∀j,j≠i->q∉fp1 j:=fun q hq j hj z=>by
  rcases hL q hq with w|w
  .exact hj (x.rel.inj j i q z w)
  .exact x.rel.off j q z (.inr w)
 refine⟨⟨by rw[List.length_set]; exact x.rel.len,fun j st' b e=>?_,fun j h=>?_,fun j=>?_,fun j1 j2 q h1 h2=>?_,fun j q h z=>?_,fun q z=>alp q (x.rel.al q (nn q z))⟩,List.nodup_nil,fun q h=>by simp at h,fun q h=>?_,fun b u e c=>?_,rfl,fun j st' b e h=>?_⟩
 .by_cases hj:j=i
  .subst hj
   rw[List.getElem?_set_self (Aq hi)] at e;cases e;exact⟨v,hv,by rw[Ei]; exact Dd nn hr⟩
  .rw[List.getElem?_set_ne (Ne.symm hj)] at e
   obtain⟨w,e1,q⟩:=x.rel.slot j _ _ e;refine⟨w,e1,?_⟩;rw[FX hj];exact q.tr (M:=fun q=>q=p) (fun b z=>by rw[z]; exact .inl ⟨i,hp⟩) k (fun b z=>.inl (nn b z)) fun b hb z=>hj (x.rel.inj j i p (z ▸ hb) hp)
 .by_cases hj:j=i
  .subst hj
   exact absurd (List.getElem?_set_self (Aq hi)) (h st a')
  .rw[FX hj]
   exact x.rel.out j fun st' b e=>h st' b (by rw[List.getElem?_set_ne (Ne.symm hj)]; exact e)
 .by_cases hj:j=i
  .subst hj; rw[Ei]; exact nd
  .rw[FX hj]; exact x.rel.nd j
 .rcases A2 h1 with ⟨e1,z1⟩|⟨e1,z1⟩
  .rcases A2 h2 with ⟨e2,z2⟩|⟨e2,z2⟩
   .rw[e1,e2]
   .exact absurd z2 (dis q z1 j2 e2)
  .rcases A2 h2 with ⟨e2,z2⟩|⟨e2,z2⟩
   .exact absurd z1 (dis q z2 j1 e1)
   .exact x.rel.inj j1 j2 q z1 z2
 .have z':=Ij.mp z
  rcases A2 h with ⟨_,z1⟩|⟨_,z1⟩
  .rcases hL q z1 with w|w
   .exact x.rel.off i q w (.inl z')
   .exact x.lo q w z'
  .exact x.rel.off j q z1 (.inl z')
 .rcases h with h|⟨j,h⟩
  .simp at h
  .rcases A2 h with ⟨_,z1⟩|⟨_,z1⟩
   .rcases hL q z1 with w|w
    .exact x.new q (.inr ⟨i,w⟩)
    .exact x.new q (.inl w)
   .exact x.new q (.inr ⟨j,z1⟩)
 .have e1:=x.kept b u e c
  by_cases hb:b=p
  .subst hb
   rw[hy] at e1;cases e1;rcases c with c|c
   .rcases x.new b (.inr ⟨i,hp⟩) with z|z
    .exact absurd z c
    .rw[e] at z; cases z
   .rw[him] at c; cases c
  .rw[AF hb]; exact e1
 .obtain⟨b',e1,_,f⟩:=x.stab j st' b e h
  by_cases hj:j=i
  .subst hj
   rw[hi] at e1;cases e1;exact⟨a',List.getElem?_set_self (Aq hi),rfl,fun z=>absurd z hst⟩
  .exact⟨b',by rw[List.getElem?_set_ne (Ne.symm hj)]; exact e1,rfl,f⟩
theorem Lr{i:Nat}{st:Own}{kvs:List (Key×D)}(h:JU Z i=some (st,kvs)): Z[i]? = some (some (st,.dic kvs))/\st≠.ro:=by
 unfold JU at h;split at h
 .cases h
 .rename_i st' as' hn e
  cases h;exact⟨e,fun z=>hn z⟩
 .cases h
noncomputable def JQ(i:Nat)(mk me:ME):MS:=fun Z=>(me Z).bind fun p=>(share p.2 p.1).bind fun s=>(JU s.2 i).bind fun _=>(mk s.2).bind fun t=>match t.1 with
 | .val (.fz kd)=>(JU t.2 i).bind fun h=>(Iz kd).bind fun k=>if h.2.length<LIM then some (.next (t.2.set i (some (h.1,.dic (putD h.2 k s.1))))) else none
 | _=>none
theorem WV{k:Key}{y:V}{d:D}{us:List (Key×V)}{kvs:List (Key×D)}(hp:Paired (fun(u:Key×V) (k:Key×D)=>u.1=k.1/\RepA N H u.2 k.2) us kvs)(r:RepA N H y d):Paired (fun(u:Key×V) (k:Key×D)=>u.1=k.1/\RepA N H u.2 k.2) (putK us k y) (putD kvs k d):=by
 have ha:(us.any fun kv=>decide (kv.1=k))=kvs.any fun kv=>decide (kv.1=k):=by
  induction hp with
  | nil=>rfl
  | cons q t ih=>rw[List.any_cons,List.any_cons,ih,q.1]
 unfold putK putD;rw[ha];cases (kvs.any fun kv=>decide (kv.1=k)) with
 | true =>
  simp only[if_true];clear ha;induction hp with
  | nil=>exact .nil
  | @cons u kd us kvs q t ih =>
   refine .cons ?_ ih;dsimp only;by_cases h:kd.1=k
   .rw[if_pos h,if_pos (q.1.trans h)]; exact⟨q.1,r⟩
   .rw[if_neg h,if_neg fun z=>h (q.1.symm.trans z)]; exact q
 | false =>
  simp only[Bool.false_eq_true,if_false];clear ha;induction hp with
  | nil=>exact .cons ⟨rfl,r⟩ .nil
  | cons q t ih=>exact .cons q ih
theorem Uv{i:Nat}{mk me:ME}{D:Ends}(h:tS K (JQ i mk me) D U H):RJ (Pl i) (tE K mk) (tE K me) D U H:=by
 obtain⟨Z,O,fp,rl,fl,e,w⟩:=h;simp only[JQ,bind_eq_some_iff] at e;obtain⟨⟨r,Z1⟩,e1,⟨d,Z2⟩,e2,⟨st0,as0⟩,e0,⟨r3,Z3⟩,e3,e4⟩:=e;dsimp only at e4;split at e4
 .rename_i kd
  simp only[bind_eq_some_iff] at e4;obtain⟨⟨st,kvs⟩,e5,ky,e6,e7⟩:=e4;split at e7
  .rename_i hlen
   cases e7;refine⟨Z,O,fp,rl,r,Z1,e1,fun y H1 yy=>?_⟩
   obtain⟨L,fp1,p,q⟩:=yy;obtain⟨fp2,p2,q2⟩:=Cc p q e2;obtain⟨g0,_⟩:=Lr e0;obtain⟨v,hv,q0⟩:=p2.rel.slot i _ _ g0;rw[Ap] at q0;obtain⟨p0,us0,rfl,_,hp0,_,_⟩:=q0;refine⟨_,hv,Z2,O,fp2,p2.rel0,_,Z3,e3,fun y2 H2 yy=>?_⟩;obtain⟨L3,fp3,p3,q3⟩:=yy;obtain⟨_,q3⟩:=(CH (K:=K)).mp q3;cases M3 q3 e6;have p4:=(p2.next p3).drop0;obtain⟨g,gst⟩:=Lr e5;obtain⟨v',hv',qi⟩:=p4.rel.slot i _ _ g;rw[hv] at hv'; cases hv';rw[Ap] at qi;obtain⟨pa,us,e8,e9,hp,hz',hs⟩:=qi;cases e8;have hlu:=Paired.length hs;have qy:RepA (NN fp3 (ad O [])) H2 y d:=(Ek (fun b z=>FR.mpr z) q2).tr (M:=Fp fp2) (fun b z=>.inl z) p3.kept fun b z=>by
    rcases z with z|z|z
    .exact(p3.new b (.inr z)).imp (fun y=>.inl y) id
    .exact .inl (.inr z)
    .simp at z
   have k:=HE (o:=.dK (putK us ky y)) rfl hp;have pn:NN fp3 (ad O []) p0:=.inl ⟨i,by rw[e9]; simp⟩;have h1:Paired (fun(u:Key×V) (k:Key×L2.D)=>u.1=k.1/\RepA (NN fp3 (ad O [])) (upd H2 p0 (.dK (putK us ky y))) u.2 k.2) us kvs:=Paired.mapQ hs fun u kd r=>⟨r.1,r.2.tr (M:=fun b=>b=p0) (fun b z=>z ▸ pn) k fun b z=>.inl z⟩;have h2:RepA (NN fp3 (ad O [])) (upd H2 p0 (.dK (putK us ky y))) y d:=qy.tr (M:=fun b=>b=p0) (fun b z=>z ▸ pn) k fun b z=>.inl z;have hlz:LIM<=sizeLine:=by decide
   have hl3:us.length<sizeLine:=by have:kvs.length<LIM:=hlen; lia
   refine⟨p0,upd H2 p0 (.dK (putK us ky y)),rfl,.inl ⟨us,ky,hp,rfl,hl3,rfl⟩,w _ _ _ (Post.mutD (a':=.dic (putD kvs ky d)) (L':=[p0]) rfl p4 g gst hv (by rw[e9]; simp) hp (fun b hb=>?_) (by simp) ?_)⟩
   .simp at hb; subst hb; exact .inl (by rw[e9]; simp)
   .rw[Ap]
    have:=Ee us ky y;exact⟨p0,putK us ky y,rfl,rfl,AE,by lia,WV h1 h2⟩
  .cases e7
 .cases e4
end
section
variable{X:Cx}{a b c e:Expr}{es:List Expr}{m m1 m2 m3:ME}{ms:MA}{p pos pos' p2 apos cpos q npos:Pos}{x:Str}
theorem S6{k:Nat}(i:Nat)(hr:Room k X.A)(hN:X.N[i]? = some x)(hv:Vis X.env.scope x)(hd:(x==("__debug__" : Str))=false)(hcd:(x==("__classdict__" : Str))=false)(hs:swapsWith e (some (.Subscript (.Name x npos) b pos')) pos.line X.env=pure false)(hk:JE X b m1)(he:JE X e m2):JS X (.Assign [.Subscript (.Name x npos) b pos'] e pos) (JQ i m1 m2):=
 Br (L2.Oi (Lv hr) (Jb hN hv hd hcd) hk he hs) fun _ _ _ h=>Uv h
end
end J
end
section
namespace J
open PySem PySem.Spec PyProof.Rows L2
noncomputable abbrev MR:=Ro->Option Str
noncomputable abbrev FnR:=List (Own×A)->Option Str
noncomputable def Yz(a:MS)(r:MR):MR:=fun Z=>(a Z).bind fun f=>match f with
 | .next Z1=>r Z1
 | _=>none
noncomputable def ifR(c:MT)(r:MR):MR:=fun Z=>(c Z).bind fun p=>if p.1 then r p.2 else none
noncomputable def KW:List (Own×A)->Bool
 | []=>true
 | (.own,.fz _)::as=>KW as
 | _=>false
noncomputable def UJ(Ψ:FnR)(m:MA):MR:=fun Z=>(m Z).bind fun p=>(De p.2 p.1).bind fun args=>if KW args then Ψ args else none
section
variable{K:Frag}{XC:Str->Addr}{E:XK}{U:L2.St}{H:Hp}{D:Ends}{r:MR}{a:MS}{c:MT}
end
section
variable{X:Cx}{K:Frag}{XC:Str->Addr}{E:XK}{r:MR}{w1:MS}{s:Stmt}{ss st st':List Stmt}{mt:MT}{c:Expr}{pos:Pos}
end
section
variable{P:Program}{w:World}{K:Frag}{mg:Str->Option Value}{base:Heap}{XC:Str->Addr}
section
variable{N:List Str}{qual:Str}{scope:Scope}{f:Addr}{cd:Value}{A:Around}{outer:List Env}{s:Shared}{H:Hp}{E:XK}
end
end
end J
end
section
namespace PySem
section
variable{M:Model}{A:Around}{E:Value->Shared->Prop}
variable{nm q nm' q':Str}{C N B N':Addr}{bs bm bs' bm':List Value}{hdct hdct':Bool}{sn sn':List Str}{sub sub':List Value}{ab ab':Bool}{col col':Option Bool}{dd dd':Option Addr}{k0 k1 k2 k3 k5 j0 j1 j2 j3 j5:Option Value}{newId newId':String}
end
section
variable{prog:Program}{w:World}{A:Around}{E:Value->Shared->Prop}{s:Shared}{env:Env}
end
end PySem
end
section
namespace L2
open PySem PySem.Spec PyProof.Rows
section
variable{P:Program}{w:World}{outer:List Env}{H H':Hp}{s s':Shared}{a C:Addr}{a0:Value}{B:Heap}
end
section
variable{X:Cx}{pins:List (Addr×Obj)}{U:St}{H H':Hp}{s s':Shared}{a C:Addr}{a0:Value}{B:Heap}
end
section
variable{X:Cx}{body:List Stmt}{h0:ExceptHandler}{hs:List ExceptHandler}{pos:Pos}{t:TS}
end
section
variable{X:Cx}{k j:Nat}{x:Str}{ps:List Str}{sp:Sp}{E:XK}{p cpos pos:Pos}{e:Expr}{es:List Expr}{t:TA}{pins:List (Addr×Obj)}{U:St}{H:Hp}{s:Shared}
end
section
variable{X:Cx}{pins:List (Addr×Obj)}{U:St}{H H':Hp}{s s':Shared}{a C:Addr}{a0:Value}{B:Heap}
end
end L2
end
section
namespace PySem
end PySem
namespace L2
open PySem PySem.Spec PyProof.Rows
section
variable{X:Cx}{pins:List (Addr×Obj)}{U:St}{H H':Hp}{s s3:Shared}{a C:Addr}{a0:Value}{B:Heap}
end
end L2
end
section
namespace L2
open PySem PySem.Spec PyProof.Rows
section
variable{prog:Program}{w:World}{A:Around}{E:Value->Shared->Prop}{s:Shared}
end
section
variable{prog:Program}{w:World}{A:Around}{E:Value->Shared->Prop}{s:Shared}
end
end L2
end
section
namespace J
open PySem PySem.Spec PyProof.Rows L2
section
variable{X:Cx}{a b c e:Expr}{m m1 m2 m3:ME}{p pos pos' p2:Pos}
variable{K:Frag}{N:Addr->Prop}{H:Hp}{v:V}
end
end J
end
section
namespace L2
open PySem PySem.Spec PyProof.Rows
section
variable{X:Cx}
noncomputable def Rw:List V->Hp->VK->Prop:=fun xs H Q=>∃(a:Addr) (kvs:List (Key×V)),xs=[.ref a]/\H a=some (.dK kvs)/\∀l,H l=none->Q (.ref l) (upd H l (.lst (kvs.map fun kv=>kV kv.1)))
theorem VU{P:Program}{w:World}{k:Key}{v:Value}(h:(B6 P w).is k v=true):RelV (kV k) v:=by
 have h:IA k v=true:=h;cases k with
 | inl i=>exact Value.isInt_shape h
 | inr i=>exact Value.isStrOf_shape h
theorem MB(hc:X.calm=true):BJ X (.type "list") Rw:=by
 intro pins s U H xs us Q I r h;obtain⟨a,kvs,rfl,ha,q⟩:=h;obtain⟨u,rfl,ru⟩:=r.one;cases ru;obtain⟨z,hd,vs,rel,dd⟩:=UK I.hok ha;obtain⟨ep,dat⟩:=dd.dictAt;have hl:=rel.length;refine PySem.W.kdl_call (PySem.W.kdl_dict (knd:=B6 X.prog X.w) (kvs:=vs) (ep:=ep) hd) (I.ok.hd hc) dat (by rw[<- hl]; exact z) fun h' tk acc c' kk hg hi=>?_;refine⟨.ref s.heap.objs.size,_,I.laid (t':=tk) (o:=.lst (kvs.map fun kv=>kV kv.1)) kk (Nat.le_refl _) ⟨by rw[List.length_map]; exact z,acc.toList,c',?_,?_⟩,rfl,q _ (I.hok.fresh (Nat.le_refl _))⟩
 .obtain⟨h1,h2⟩:=hi
  refine Nj (by simp[h1,hl]) fun k v u e1 e2=>?_;simp only[List.getElem?_map,map_eq_some_iff] at e1;obtain⟨kv,e1,rfl⟩:=e1;obtain⟨k',x,e3,e4⟩:=h2 k u (by simpa using e2);have hk:=congrArg (fun l=>l[k]?) rel.keys;simp only[List.getElem?_map,e1,e3,Option.map_some,Option.some.injEq] at hk;rw[hk];exact VU e4
 .rw[hg]
end
end L2
namespace J
open PySem PySem.Spec PyProof.Rows L2
section
variable{X:Cx}{a b c e:Expr}{es:List Expr}{m m1 m2 m3:ME}{ms:MA}{p pos pos' p2 apos cpos q npos:Pos}{x:Str}
variable{K:Frag}{N:Addr->Prop}{H:Hp}{U:L2.St}{v:V}{L:List Addr}
noncomputable def kD:Key->D
 | .inl i=>.int i
 | .inr z=>.str z
noncomputable def kSh:Key->Bool
 | .inl _=>true
 | .inr z=>decide (z.length<=LIM)
noncomputable def LF:List A->Option A:=on1 fun q1=>(Ga q1).bind fun kvs=>if kvs.all fun kv=>kSh kv.1 then some (.lst ((kvs.map fun kv=>kD kv.1).map A.fz)) else none
theorem Q4:OpN K LF Rw:=by
 intro N H xs as b Q hs e k
 replace e:=D1 e
 obtain⟨q1,rfl,e⟩:=e
 replace e:=bind_eq_some_iff.mp e
 obtain⟨kvs,eq1,e⟩:=e;cases NV eq1;clear eq1;split at e
 .rename_i hl
  cases e;obtain⟨x,L1,rfl,h1⟩:=CG hs;rw[Ap] at h1;obtain⟨a,us,rfl,rfl,ha,hz,hp⟩:=h1;refine⟨a,us,rfl,ha,fun l hl2=>k _ _ (KQ hl2 (by rw[List.length_map]; exact hz) ?_)⟩
  rw[List.all_eq_true] at hl;clear ha hz hs k;induction hp with
  | nil=>trivial
  | @cons u kd us kvs r t ih =>
   refine⟨?_,ih fun z hz=>hl z (by simp[hz])⟩;have:=hl kd (by simp);show RepA N H (kV u.1) (kD kd.1);rw[r.1];cases hk:kd.1 with
   | inl i=>exact .int i
   | inr z =>
    rw[hk] at this;simp only[kSh,decide_eq_true_iff] at this;have:LIM<=sizeLine:=by decide
    exact .str z (by lia)
 .cases e
noncomputable def SR:List A->Option A:=on2 fun a q2=>(HC q2).bind fun _u=>some (.fz (.bl (DV a)))
theorem Q3:OpN K SR (r2L fun x y H Q=>y=.non/\Q (.bl (decide (x=.non))) H):=by
 intro N H xs as b Q hs e k
 replace e:=Bz e
 obtain⟨a,q2,rfl,e⟩:=e
 replace e:=bind_eq_some_iff.mp e
 obtain⟨_u,eq2,e⟩:=e;cases Tg eq2;clear eq2;cases e;obtain⟨x,y,L1,L2,rfl,h1,h2⟩:=Bb hs;obtain⟨_,h2⟩:=CH.mp h2;cases h2;refine⟨_,_,rfl,rfl,k _ _ ?_⟩;have:decide (x=V.non)=DV a:=by
  cases a with
  | fz d =>
   obtain⟨_,h1⟩:=CH.mp h1;cases h1<;>simp[DV]
  | lst as=>rw[Ap] at h1; obtain⟨_,_,_,rfl,_⟩:=h1; simp[DV]
  | tup as=>rw[Ap] at h1; obtain⟨_,_,rfl,_⟩:=h1; simp[DV]
  | scr ns=>rw[Ap] at h1; obtain⟨_,rfl,_⟩:=h1; simp[DV]
  | dic kvs=>rw[Ap] at h1; obtain⟨_,_,rfl,_⟩:=h1; simp[DV]
  | dct kvs=>rw[Ap] at h1; obtain⟨_,_,rfl,_⟩:=h1; simp[DV]
  | opq _ _=>rw[Ap] at h1; obtain⟨rfl,_⟩:=h1; simp[DV]
 rw[this];exact Fd (.bl _)
noncomputable def Sk:List A->Option A:=Gu (fun _ _=>true) fun i j=>i+j
noncomputable def Vo(i:Nat)(m:ME):MS:=AG i (opM Sk (m2L (Aa i) m))
theorem VR(i:Nat)(hN:X.N.Nodup)(hi:X.N[i]? = some x)(hx:Loc X.env.scope x)(hf:X.fn x=true)(h:JE X e m):JS X (.AugAssign (.Name x pos') .Add e pos) (Vo i m):=
 Br (WM hN hi hx h VF (.inl hf)) fun D U H h=>by
  have h1:tE X.K (opM Sk (m2L (Aa i) m)) U H fun z H2=>D.nx (U.set i (some z)) H2:=Jp h;obtain⟨v,e1,q⟩:=R1 (two Ha h1);refine⟨v,e1,tE.mono q fun y H1 h2=>?_⟩;obtain⟨i',j',a1,a2,a3⟩:=h2;exact⟨i',j',a1,a2,a3⟩
end
end J
end
section
namespace L2
open PySem PySem.Spec PyProof.Rows
section
variable{X:Cx}{pins:List (Addr×Obj)}{U:St}{H:Hp}{s:Shared}
noncomputable abbrev withN(X:Cx)(N':List Str):Cx:={ X with N:=N' }
noncomputable def HL(N' N:List Str)(sco:Scope):Bool:=(N'.length==N.length)&&(N'.zip N).all fun p=>p.1==p.2 || (sco.names.lookup p.1).isNone
theorem SM:∀{N' N:List Str} {sco:Scope},HL N' N sco=true->∀(i:Nat) (x:Str),N'[i]? = some x->Vis sco x->N[i]? = some x:=by
 intro N' N sco h i x e v;simp only[HL,Bool.and_eq_true,beq_iff_eq,List.all_eq_true] at h;obtain⟨hl,ha⟩:=h;have hi:i<N'.length:=(List.getElem?_eq_some_iff.mp e).1;have hi2:i<N.length:=by rw[<- hl]; exact hi
 have hz:(N'.zip N)[i]? = some (x,N[i]):=by
  rw[List.getElem?_zip_eq_some];exact⟨e,List.getElem?_eq_getElem hi2⟩
 have:=ha _ (List.mem_of_getElem? hz);simp only[Bool.or_eq_true,beq_iff_eq,Option.isNone_iff_eq_none] at this;rcases this with z|z
 .rw[List.getElem?_eq_getElem hi2,<- z]
 .rcases v with v|v|v<;>rw[z] at v<;>cases v
theorem Cx.Ok.withN{N':List Str}(ok:X.Ok):(withN X N').Ok:=⟨ok.mod,ok.kind,ok.glob,ok.blt,ok.above,ok.inj,ok.has,ok.cab,ok.hd,ok.frames,ok.stk,ok.exf,ok.bs,ok.bsz,ok.noex,ok.exfs,ok.funs,ok.frf,ok.tb⟩
theorem Inv.hide{N':List Str}(h:HL N' X.N X.env.scope=true)(I:Inv X pins U H s):Inv (withN X N') pins U H s:=by
 refine⟨I.ok.withN,I.os,I.bare,I.base,?_,I.cell,I.free,I.freeC,I.pin,I.hok,?_⟩
 .obtain⟨m,hn,q⟩:=I.loc
  exact⟨m,hn,fun i x v e1 e2 vis=>q i x v (SM h i x e1 vis) e2 vis⟩
 .simp only[HL,Bool.and_eq_true,beq_iff_eq] at h
  exact I.len.trans h.1.symm
theorem Inv.blank{N':List Str}(I:Inv (withN X N') pins U H s):Inv X pins (List.replicate X.N.length none) H s:=by
 have ok:X.Ok:=⟨I.ok.mod,I.ok.kind,I.ok.glob,I.ok.blt,I.ok.above,I.ok.inj,I.ok.has,I.ok.cab,I.ok.hd,I.ok.frames,I.ok.stk,I.ok.exf,I.ok.bs,I.ok.bsz,I.ok.noex,I.ok.exfs,I.ok.funs,I.ok.frf,I.ok.tb⟩;refine⟨ok,I.os,I.bare,I.base,?_,I.cell,I.free,I.freeC,I.pin,I.hok,by rw[List.length_replicate]⟩;obtain⟨m,hn,_⟩:=I.loc;refine⟨m,hn,fun i x v e1 e2 vis=>?_⟩;rw[List.getElem?_replicate] at e2;split at e2<;>simp at e2
theorem WA{N':List Str}{own:List Str}{scope:Scope}{target iter elt:Expr}{ifs:List Expr}{pos:Pos}{wi:TI}{un:TU}{tc:TT}{te:TE}(hid:HL N' X.N X.env.scope=true)(hc:X.calm=true)(hok:Bl own N' scope X.env.scope=true)(hi:PI X target iter wi)(hg:∀C s H fp pins,PGo (cxC (withN X N') own scope C s H fp pins) target own.length un)(ht:∀C s H fp pins,PTs (cxC (withN X N') own scope C s H fp pins) ifs tc)(he:∀C s H fp pins,PE (cxC (withN X N') own scope C s H fp pins) elt te)(hs:∀x,foldedSetIterable iter X.env x=pure x:=by intro _; rfl):PE X (.ListComp elt [⟨target,iter,ifs,0⟩] scope pos) (tLc wi un tc te):=by
 intro pins s U H Q I h;have hok':Bl own (withN X N').N scope (withN X N').env.scope=true:=hok;rw[eval_ListComp];refine wpAny_comprehension_free (use:=none) rfl hs (Km (env:=X.env) (Bl.free (X:=withN X N') hok' (I.hide hid))) (Bl.kind hok) (Bl.names hok) ?_;refine thn (hi pins s U H _ I h) fun v s1 h1=>thn h1 fun itv s2 h2=>?_;obtain⟨it,fp,tn,J,H2,e,I2,T,st2,f2,q⟩:=h2;subst e;obtain⟨W,w0,turn⟩:=q s2.heap.objs.size I2.fresh;refine wpAny_newObj_type (hd:=by size_fits) ?_;have I3:Inv X pins U (upd H2 s2.heap.objs.size (.lst [])) { s2 with heap:=s2.heap.push { cls:=.type "list",data:=.seq ([]:List Value).toArray } }:=I2.lnew (its:=[]) (t':=s2.toks) .nil (Nat.zero_le _);have st3:tn 0 (s2.heap.push { cls:=.type "list",data:=.seq ([]:List Value).toArray }):=T.keep _ _ _ st2 fun b _ o e=>Heap.get?_push_of_some _ e;have f3:∀b∈fp,FC X pins (upd H2 s2.heap.objs.size (.lst [])) b:=fun b hb=>by
  obtain⟨o,e,_⟩:=T.obj _ _ st2 b hb;exact⟨by rw[AF (Nat.ne_of_lt (Heap.lt_size e))]; exact(f2 b hb).1,(f2 b hb).2⟩
 refine thn (F5 (X:=withN X N') (iter:=iter) (pos:=pos) (R:=compPost (model X.prog X.w) X.A X.xe none (EP X pins U Q) (.ref s2.heap.objs.size) (s2.heap.push { cls:=.type "list",data:=.seq ([]:List Value).toArray }).objs.size) hc hok' hg ht he (I3.hide hid) T st3 f3 W w0 turn fun s' σ' H' J' q'=>?_) fun cenv s4 ⟨el,h4⟩=>?_
 .obtain⟨m,hn,_⟩:=J'.loc
  have J2:=Inv.blank (X:=cxC X own scope (s2.heap.push { cls:=.type "list",data:=.seq ([]:List Value).toArray }).objs.size _ _ fp pins) (N':=own++N') J';exact⟨m,hn,fun h' hs'=>⟨.ref s2.heap.objs.size,H',Ed I3 f3 J2 hs',rfl,q'⟩⟩
 .have el':cenv.locals=(s2.heap.push { cls:=.type "list",data:=.seq ([]:List Value).toArray }).objs.size:=el
  rw[<- el'] at h4;exact h4
end
end L2
namespace J
open PySem PySem.Spec PyProof.Rows L2
section
variable{X:Cx}{x:Str}{pos:Pos}{mi:MI}{mt:MT}{m:ME}
theorem Qo(N':List Str){scope:Scope}{iter elt:Expr}{ifs:List Expr}{px:Pos}(hid:HL N' X.N X.env.scope=true)(hok:Bl [x] N' scope X.env.scope=true)(hc:X.calm=true)(hn:N'.Nodup)(hx:scope.names.lookup x=some .local)(hs:∀z,foldedSetIterable iter X.env z=pure z)(hi:JI X (.Name x px) iter mi)(ht:JTc (withN X N') [x] scope ifs mt)(he:JEc (withN X N') [x] scope elt m):
  JE X (.ListComp elt [⟨.Name x px,iter,ifs,0⟩] scope pos) (AN mi 0 mt m):=by
 have hnx:∀y∈N',x≠y:=fun y hy z=>by
  simp only[Bl,Bool.and_eq_true,List.all_eq_true] at hok;have:=hok.2 x (by simp);rw[z] at this;simp[hy] at this
 exact AA (WA (te:=tE X.K m) hid hc hok hi (fun C s H fp pins=>Hd rfl (List.nodup_cons.mpr ⟨fun z=>hnx x z rfl,hn⟩) (lookup_relabel_local hx)) ht (fun C s H fp pins=>he C s H fp pins) hs) fun _ _ _ h=>F8 h
end
end J
end
section
namespace L2
open PySem PySem.Spec PyProof.Rows
section
variable{X:Cx}{tg:Expr}
end
section
variable{X:Cx}{pins:List (Addr×Obj)}{U:St}{H:Hp}{s:Shared}
end
section
variable{X:Cx}
end
section
variable{prog:Program}{w:World}{A:Around}{E:Value->Shared->Prop}{h:Heap}{g:Array GenState}{d:Drawn}{t:Nat}{os:OsState}{a C:Addr}{o:Obj}{K:Frag}
end
end L2
end
section
namespace J
open PySem PySem.Spec PyProof.Rows L2
section
variable{X:Cx}{a:Expr}{m:ME}{p pos q:Pos}{K:Frag}{H:Hp}{U:L2.St}
end
section
variable{X:Cx}{a b c e:Expr}{m:ME}{mt:MT}{mi:MI}{p pos:Pos}{x:Str}
end
end J
end
section
namespace L2
open PySem PySem.Spec PyProof.Rows
section
variable{X:Cx}{CX:CXT}{k:Nat}{f C:Addr}{fd:FuncData}{ps:List Str}{sp:Sp}{dvs:List V}{ds:List Value}{E:XK}{x m:Str}{p pos apos:Pos}{e o:Expr}{es:List Expr}{ta:TE}{t:TA}
end
end L2
namespace J
open PySem PySem.Spec PyProof.Rows L2
section
variable{P:Program}{w:World}{K:Frag}{mg:Str->Option Value}{base:Heap}
end
section
variable{X:Cx}{e:Expr}{es:List Expr}{ms:MA}{p pos:Pos}{x:Str}
end
end J
end
section
namespace L2
open PySem PySem.Spec PyProof.Rows PySem.W
section
variable{P:Program}{w:World}{K:Frag}{mg:Str->Option Value}{base:Heap}
end
section
variable{X:Cx}{pins:List (Addr×Obj)}{U:St}{H:Hp}{s:Shared}{a:Addr}{o:Obj}
end
end L2
end
section
namespace J
open PySem PySem.Spec PyProof.Rows L2
section
variable{P:Program}{w:World}{K:Frag}{mg:Str->Option Value}{base:Heap}
end
end J
end
section
namespace J
open PySem PySem.Spec PyProof.Rows L2 PySem.W
section
variable{P:Program}{w:World}{K:Frag}{mg:Str->Option Value}{base:Heap}
end
section
variable{X:Cx}{scope:Scope}{pins:List (Addr×Obj)}{U:L2.St}{H H2:Hp}{s:Shared}{Z:Ro}{O:Addr->Prop}{fp:Nat->List Addr}
end
end J
end
section
namespace L2
open PySem PySem.Spec PyProof.Rows
section
variable{X:Cx}
end
end L2
namespace J
open PySem PySem.Spec PyProof.Rows L2
section
variable{X:Cx}{a b c e:Expr}{m:ME}{mt:MT}{mi:MI}{p pos apos cpos q:Pos}{x:Str}{K:Frag}
end
end J
end
section
namespace J
open PySem PySem.Spec PyProof.Rows L2 PySem.W
section
variable{P:Program}{w:World}{K:Frag}{mg:Str->Option Value}{base:Heap}
end
noncomputable def D9(x:Str)(n:Nat):Str:=⟨(List.replicate n x.cps).foldl (· ++ ·) #[]⟩
theorem P0(x:Array Nat):∀(n:Nat) (a:Array Nat),((List.replicate n x).foldl (· ++ ·) a).toList=a.toList++(List.replicate n x.toList).flatten:=by
 intro n;induction n with
 | zero=>intro a; simp
 | succ n ih=>intro a; rw[List.replicate_succ,List.foldl_cons,ih]; simp[List.replicate_succ]
theorem J4(x:Str)(n:Nat):(D9 x n).cps.toList=(List.replicate n x.cps.toList).flatten:=by
 unfold D9;exact(P0 x.cps n #[]).trans (by simp)
theorem Mc(x:Str)(n:Nat):(D9 x n).length=n*x.length:=by
 have h:(D9 x n).length=(D9 x n).cps.toList.length:=by simp[Str.length]
 rw[h,J4];simp[Str.length]
theorem RD(x:Str):D9 x 1=x:=by
 obtain⟨c⟩:=x;simp[D9]
theorem RC{x:Str}(h:x.length=0)(n:Nat):D9 x n=x:=by
 obtain⟨⟨c⟩⟩:=x;have:c=[]:=List.eq_nil_of_length_eq_zero (by simpa[Str.length] using h);subst this;have e:=J4 ⟨#[]⟩ n;have:(D9 ⟨#[]⟩ n).cps.toList=[]:=by rw[e]; simp
 generalize D9 ⟨#[]⟩ n=y at this;obtain⟨⟨d⟩⟩:=y;simp at this;subst this;rfl
theorem IU{X:Cx}:OpR X (binaryOp .Mult) (fun x y H Q=>∃z i,x=.str z/\y=.int i/\(z.length<=1000/\0<=i/\i<=1000)/\Q (.str (D9 z i.toNat)) H):=by
 intro pins s U H x y v u Q I rx ry h;obtain⟨z,i,rfl,rfl,⟨h1,h2,h3⟩,q⟩:=h;obtain⟨t,rfl⟩:=rx;obtain⟨t',rfl⟩:=ry;have hz:z.length*i.toNat<=1000000:=Nat.le_trans (Nat.mul_le_mul h1 (show i.toNat<=1000 by omega)) (by decide);have hlim:1000000<=sizeLine:=by decide
 refine P.mul_str (by rw[decide_eq_false (by omega),decide_eq_false (by omega)]; rfl) (fun a b=>?_) (fun a b=>?_) ?_
 .have:1000<=(2 ^ 63-1:Int) / i:=Int.le_ediv_of_mul_le (by omega) (by omega)
  omega
 .unfold Builtin.Str.tooLong
  exact decide_eq_false (by omega)
 .split
  .rename_i hi
   have:i.toNat=0:=by omega
   rw[this] at q;exact⟨by decide,⟨.str (D9 z 0),H,I.tok _,⟨_,rfl⟩,q⟩⟩
  .split
   .rename_i hc
    have:D9 z i.toNat=z:=by
     simp only[Bool.or_eq_true,beq_iff_eq] at hc;rcases hc with hc|hc
     .rw[hc]; exact RD z
     .exact RC hc _
    rw[this] at q;exact⟨.str z,H,I,⟨_,rfl⟩,q⟩
   .exact⟨by rw[show(⟨(List.replicate i.toNat z.cps).foldl (· ++ ·) #[]⟩:Str)=D9 z i.toNat from rfl,Mc,Nat.mul_comm]; omega,⟨.str (D9 z i.toNat),H,I.tok _,⟨_,rfl⟩,q⟩⟩
section
variable{K:Frag}
noncomputable def T3:List A->Option A:=on2 fun q1 q2=>(Ck q1).bind fun x=>(BB q2).bind fun i=>if x.length<=1000/\0<=i/\i<=1000 then some (.fz (.str (D9 x i.toNat))) else none
theorem Wh:OpN K T3 (r2L fun x y H Q=>∃z i,x=.str z/\y=.int i/\(z.length<=1000/\0<=i/\i<=1000)/\Q (.str (D9 z i.toNat)) H):=by
 intro N H xs as b Q hs e k
 replace e:=Bz e
 obtain⟨q1,q2,rfl,e⟩:=e;simp only[bind_eq_some_iff] at e;obtain⟨z,eq1,i,eq2,e⟩:=e;cases B7 eq1;cases AZ eq2;split at e
 .rename_i hc
  cases e;obtain⟨x,y,L1,L2,rfl,h1,h2⟩:=Bb hs;obtain⟨rfl,_⟩:=CI h1;cases Bf h2;have hlim:1000000<=sizeLine:=by decide
  have hz:i.toNat*z.length<=1000000:=Nat.le_trans (Nat.mul_le_mul (show i.toNat<=1000 by omega) hc.1) (by decide);exact⟨_,_,rfl,z,i,rfl,rfl,hc,k _ _ (Hb (by rw[Mc]; omega))⟩
 .cases e
end
section
variable{X:Cx}{K:Frag}{a b:Expr}{m1 m2:ME}{p2 pos:Pos}{N:Addr->Prop}{H:Hp}
end
end J
end
section
namespace J
open PySem PySem.Spec PyProof.Rows L2
section
variable{X:Cx}
end
section
variable{K:Frag}{U:L2.St}{H:Hp}
end
section
variable{X:Cx}{p pos apos cpos npos npos2:Pos}{x y:Str}
end
end J
end
section
namespace L2
open PySem PySem.Spec PyProof.Rows
section
variable{X:Cx}
theorem Pa{N':List Str}{i:Nat}{y:Str}{py spos:Pos}{own:List Str}{scope:Scope}{target iter elt:Expr}{ifs:List Expr}{pos:Pos}{wi:TI}{un:TU}{tc:TT}{te:TE}(nd:X.N.Nodup)(hiN:X.N[i]? = some y)(hy:X.env.scope.names.lookup y=some .local)(hid:HL N' X.N X.env.scope=true)(hc:X.calm=true)(hok:Bl own N' scope X.env.scope=true)(hi:PI X target iter wi)(hg:∀C s H fp pins,PGo (cxC (withN X N') own scope C s H fp pins) target own.length un)(ht:∀C s H fp pins,PTs (cxC (withN X N') own scope C s H fp pins) ifs tc)(he:∀C s H fp pins,PE (cxC (withN X N') own scope C s H fp pins) elt te)(hs:∀x,foldedSetIterable iter X.env x=pure x:=by intro _; rfl)(hsw:swapsWith (.ListComp elt [⟨target,iter,ifs,0⟩] scope pos) (some (.Name y py)) spos.line X.env=pure true:=by rfl):
  PS X (.Assign [.Name y py] (.ListComp elt [⟨target,iter,ifs,0⟩] scope pos) spos) (NF (tLc wi un tc te) (G1 i)):=by
 intro pins s U H D I h;have hok':Bl own (withN X N').N scope (withN X N').env.scope=true:=hok;rw[exec_Assign_Name_used _ _ _ _ hsw];refine wpAny_bind (wpAny_standAt (wpAny_bind ?_));show wpAny _ X.A (do let _ <- comprehension (.ListComp elt [⟨target,iter,ifs,0⟩] scope pos) scope X.env _ (newList []) false (eval iter X.env) (some (assign (.Name y py) X.env))) _ _ s;refine wpAny_bind (wpAny_mono (wpAny_comprehension_free (use:=some (assign (.Name y py) X.env)) (Q:=fun _ s'=>SP X pins D .next s') rfl hs (Km (env:=X.env) (Bl.free (X:=withN X N') hok' (I.hide hid))) (Bl.kind hok) (Bl.names hok) ?_) (fun _ s' hq=>wpAny_pure (wpAny_pure hq)) fun _ _ e=>e);refine thn (hi pins s U H _ I h) fun v s1 h1=>thn h1 fun itv s2 h2=>?_;obtain⟨it,fp,tn,J,H2,e,I2,T,st2,f2,q⟩:=h2;subst e;obtain⟨W,w0,turn⟩:=q s2.heap.objs.size I2.fresh;refine wpAny_newObj_type (hd:=by size_fits) ?_;have I3:Inv X pins U (upd H2 s2.heap.objs.size (.lst [])) { s2 with heap:=s2.heap.push { cls:=.type "list",data:=.seq ([]:List Value).toArray } }:=I2.lnew (its:=[]) (t':=s2.toks) .nil (Nat.zero_le _);have st3:tn 0 (s2.heap.push { cls:=.type "list",data:=.seq ([]:List Value).toArray }):=T.keep _ _ _ st2 fun b _ o e=>Heap.get?_push_of_some _ e;have f3:∀b∈fp,FC X pins (upd H2 s2.heap.objs.size (.lst [])) b:=fun b hb=>by
  obtain⟨o,e,_⟩:=T.obj _ _ st2 b hb;exact⟨by rw[AF (Nat.ne_of_lt (Heap.lt_size e))]; exact(f2 b hb).1,(f2 b hb).2⟩
 generalize hS:({ s2 with heap:=s2.heap.push { cls:=.type "list",data:=.seq ([]:List Value).toArray } }:Shared)=s3 at I3 st3;have st3':tn 0 s3.heap:=by rw[<- hS]; exact st3
 refine thn (F5 (X:=withN X N') (iter:=iter) (pos:=pos) (acc:=s2.heap.objs.size) (Q:=fun x H1=>G1 i x U H1 D.nx) (R:=compPost (model X.prog X.w) X.A X.xe (some (assign (.Name y py) X.env)) (fun _ s'=>SP X pins D .next s') (.ref s2.heap.objs.size) s3.heap.objs.size) hc hok' hg ht he (I3.hide hid) T st3' f3 W w0 turn fun s' σ' H' J' q'=>?_) fun cenv s4 ⟨el,h4⟩=>?_
 .have J2:=Inv.blank (X:=cxC X own scope s3.heap.objs.size _ _ fp pins) (N':=own++N') J'
  have I4:Inv X pins U H' s':=Ed I3 f3 J2 (h':=s'.heap) (.refl ..);obtain⟨m,⟨oC,es,ep,hoC,hdC,hrC⟩,_⟩:=J'.loc;have hCL:s3.heap.objs.size≠X.env.locals:=Nat.ne_of_gt I3.lt;have hfs:s3.heap.objs.size∉X.fs:=I3.nofs (Nat.le_refl _);have hCc:∀x c,X.env.cells.lookup x=some c->c≠s3.heap.objs.size:=fun x c e=>by
   obtain⟨v,z⟩:=I3.cell x c e;exact Nat.ne_of_lt z.lt
  have hCp:∀p∈X.pn++pins,p.1≠s3.heap.objs.size:=fun p hp=>Nat.ne_of_lt (Heap.lt_size (I3.pin p hp).1);have I5:Inv X (pins++[(s3.heap.objs.size,oC)]) U H' s':=I4.pins_of fun p hp=>(List.mem_append.mp hp).elim (fun z=>I4.pin p (List.mem_append_right _ z)) fun z=>by
   have z':p=(s3.heap.objs.size,oC):=by simpa using z
   subst z';exact⟨hoC,J'.free,hCL,hfs,fun v=>by rw[hdC]; intro z; cases z⟩
  show wpAny _ X.A (assign (.Name y py) X.env (.ref s2.heap.objs.size)) _ _ s';refine wpAny_assign_Name (EL I5 nd hiN (.inl hy) (v:=.ref s2.heap.objs.size) rfl (fun s6 I6=>?_) (.inr hy));have hp:=I6.pin (s3.heap.objs.size,oC) (List.mem_append_right _ (List.mem_append_right _ (by simp)));refine⟨m,⟨oC,es,ep,hp.1,hdC,hrC⟩,fun h' hs'=>?_⟩;exact⟨_,H',I6.unpinned.turned (h':=h') (t':=s6.toks) (it:=s3.heap.objs.size) (fun b o hb e=>(hs'.2 b hb).trans e) hp.2.1 hCL (.inr I3.sz) hCc hCp,q'⟩
 .have el':cenv.locals=s3.heap.objs.size:=el
  rw[<- el'] at h4;exact h4
end
end L2
namespace J
open PySem PySem.Spec PyProof.Rows L2
section
variable{X:Cx}{x:Str}{pos:Pos}{m:ME}
end
end J
end
section
namespace L2
open PySem PySem.Spec PyProof.Rows
section
variable{X:Cx}
noncomputable def Rx(K:Frag):List V->Hp->VK->Prop:=fun xs H Q=>∃p ys,xs=[.ref p]/\SqL K H p ys/\∀l,H l=none->Q (.ref l) (upd H l (.tup ys))
theorem CN:BJ X (.type "tuple") (Rx X.K):=by
 intro pins s U H xs us Q I r h;obtain⟨p,ys,rfl,hq,q⟩:=h;obtain⟨u,rfl,ru⟩:=r.one;cases ru;obtain⟨its,rv,pl,hz⟩:=I.list hq;have hlen:=rv.length;refine call_tuple_list pl.isList (fun h' kk=>?_) (by simp; lia);have I1:Inv X pins U H { s with heap:=h',toks:=s.toks }:=I.kept kk;exact⟨.ref h'.objs.size,_,I1.laid (t':=s.toks) (o:=.tup ys) (fun b o e=>Heap.get?_push_of_some _ e) (Nat.le_refl _) ⟨hz,its,rv,⟨_,Heap.get?_push_size _ rfl,rfl,_,rfl⟩⟩,rfl,q _ (I1.hok.fresh (Nat.le_refl _))⟩
end
end L2
namespace J
open PySem PySem.Spec PyProof.Rows L2
section
variable{X:Cx}{e:Expr}{es:List Expr}{m:ME}{ms:MA}{p pos:Pos}{K:Frag}
noncomputable def K6:List A->Option A:=on1 fun a=>(CS a).bind fun ds=>if ds.length<=LIM then some (.fz (.tup ds)) else none
theorem F2:OpN K K6 (Rx K):=by
 intro N H xs as b Q hs e k
 replace e:=D1 e
 obtain⟨a,rfl,e⟩:=e;simp only[bind_eq_some_iff] at e;obtain⟨ds,e1,e2⟩:=e;split at e2
 .rename_i hz
  cases e2;obtain⟨x,L1,rfl,h1⟩:=CG hs;obtain⟨p,vs,rfl,hp,hz',q⟩:=DY h1 e1;exact⟨p,vs,rfl,.inl (.inl hp),fun l hl=>k _ _ (Ts hl hz' q)⟩
 .cases e2
end
end J
end
section
namespace J
open PySem PySem.Spec PyProof.Rows L2
section
variable{P:Program}{w:World}{K:Frag}{mg:Str->Option Value}{base:Heap}{XC:Str->Addr}
variable{N:List Str}{qual:Str}{scope:Scope}{f:Addr}{cd:Value}{A:Around}{outer:List Env}{s:Shared}{H:Hp}{E:XK}
end
end J
namespace L2
open PySem PySem.Spec PyProof.Rows
section
variable{X:Cx}
end
end L2
namespace J
open PySem PySem.Spec PyProof.Rows L2
section
variable{K:Frag}{H:Hp}{N:Addr->Prop}
theorem Pc{vs:List V}{ds:List D}(q:Ar N H vs ds):∀k:Nat,Ar N H (List.replicate k vs).flatten (List.replicate k ds).flatten:=by
 intro k;induction k with
 | zero=>simp only[List.replicate_zero,List.flatten_nil,Ar]
 | succ k ih=>rw[List.replicate_succ,List.replicate_succ,List.flatten_cons,List.flatten_cons]; exact F4 q ih
noncomputable def Oa:List A->Option A:=on2 fun x q2=>(BB q2).bind fun j=>(CS x).bind fun ds=>if 0<=j/\j<=1000/\ds.length<=1000 then some (.lst ((List.replicate j.toNat ds).flatten.map A.fz)) else none
theorem KO:OpN K Oa (r2L Yr):=by
 intro N H xs as b Q hs e k
 replace e:=Bz e
 obtain⟨q1,q2,rfl,e⟩:=e
 replace e:=bind_eq_some_iff.mp e
 obtain⟨j,eq2,e⟩:=e;cases AZ eq2;simp only[bind_eq_some_iff] at e;obtain⟨ds,e1,e⟩:=e;split at e
 .rename_i hc
  cases e;obtain⟨x,y,L1,L2,rfl,h1,h2⟩:=Bb hs;cases Bf h2;obtain⟨p,vs,rfl,hp,hz,q⟩:=DY h1 e1;have hl:=q.len;have big:1000000<=sizeLine:=by decide
  have h3:vs.length*j.toNat<=1000*1000:=Nat.mul_le_mul (by omega) (by omega);refine⟨_,_,rfl,p,j,vs,rfl,rfl,hp,by omega,by omega,by omega,fun p' hp'=>k _ _ (KQ hp' ?_ (Pc q _))⟩;rw[len_rep,Nat.mul_comm]; omega
 .cases e
end
section
variable{X:Cx}{a b:Expr}{m m1 m2:ME}{p2 pos:Pos}
end
end J
end
section
namespace J
open PySem PySem.Spec PyProof.Rows L2
noncomputable def gk(d:D):Bool:=Qu d&&shB 8 d
noncomputable def XX:A->Option (List (D×D))
 | .dct kvs=>some kvs
 | .fz _ | .lst _ | .tup _ | .scr _ | .dic _ | .opq _ _=>none
theorem Sz{a:A}{kvs:List (D×D)}(h:XX a=some kvs):a=.dct kvs:=by
 cases a with
 | dct k=>cases h; rfl
 | _=>cases h
noncomputable def HG(kvs:List (D×D))(k:D):Option D:=(kvs.find? fun kv=>decide (kv.1=k)).map (·.2)
noncomputable def Hg(kvs:List (D×D))(k:D)(d:D):List (D×D):=if kvs.any fun kv=>decide (kv.1=k) then kvs.map fun kv=>if kv.1=k then (kv.1,d) else kv else kvs++[(k,d)]
section
variable{N:Addr->Prop}{H:Hp}{us:List (D×V)}{kvs:List (D×D)}{k d:D}{y:V}
noncomputable abbrev PrE(N:Addr->Prop)(H:Hp):List (D×V)->List (D×D)->Prop:=Paired (fun(u:D×V) (k:D×D)=>u.1=k.1/\RepA N H u.2 k.2)
theorem P6(r:RepA N H y d)(h:gk d=true):KR H y d/\Sh 8 d:=by
 unfold gk at h;rw[Bool.and_eq_true] at h;exact⟨KR.of r h.1,Jk h.2⟩
theorem Pr(hp:PrE N H us kvs):(Hk us k).isSome=(HG kvs k).isSome:=by
 induction hp with
 | nil=>rfl
 | @cons u kd us kvs r t ih =>
  simp only[HG,Hk,List.find?_cons] at ih |-;by_cases h:kd.1=k
  .have h':u.1=k:=r.1.trans h
   simp only[h,h',decide_true,Option.map_some,Option.isSome_some]
  .have h':¬u.1=k:=fun z=>h (r.1.symm.trans z)
   simp only[h,h',decide_false];exact ih
theorem TY(hp:PrE N H us kvs)(r:RepA N H y d):PrE N H (putK us k y) (Hg kvs k d):=by
 have ha:(us.any fun kv=>decide (kv.1=k))=kvs.any fun kv=>decide (kv.1=k):=by
  induction hp with
  | nil=>rfl
  | cons q t ih=>rw[List.any_cons,List.any_cons,ih,q.1]
 unfold putK Hg;rw[ha];cases (kvs.any fun kv=>decide (kv.1=k)) with
 | true =>
  simp only[if_true];clear ha;induction hp with
  | nil=>exact .nil
  | @cons u kd us kvs q t ih =>
   refine .cons ?_ ih;dsimp only;by_cases h:kd.1=k
   .rw[if_pos h,if_pos (q.1.trans h)]; exact⟨q.1,r⟩
   .rw[if_neg h,if_neg fun z=>h (q.1.symm.trans z)]; exact q
 | false =>
  simp only[Bool.false_eq_true,if_false];clear ha;induction hp with
  | nil=>exact .cons ⟨rfl,r⟩ .nil
  | cons q t ih=>exact .cons q ih
theorem Hl.g{a:Addr}{us:List (D×V)}{k:D}(e:H a=some (.dT us))(ky:KR H y k/\Sh 8 k):Hl H a y (Hk us k):=.inr ⟨us,k,.inl e,ky.1,ky.2,rfl⟩
end
section
variable{X:Cx}{a b c e:Expr}{m m1 m2 m3:ME}{p pos pos' p2 apos cpos npos:Pos}{x:Str}
variable{K:Frag}{N:Addr->Prop}{H:Hp}{v:V}
noncomputable def UP:ME:=opM (fun _=>some (.dct [])) Aj
theorem S0:JE X (.Dict [] [] pos) UP:=by
 refine AA Rj fun U H Q h=>?_;have ok:OpN X.K (fun _=>some (.dct [])) (fun _ H Q=>∀p,H p=none->Q (.ref p) (upd H p (.dT []))):=by
  intro N H xs as b Q hs e k;cases e;intro p hp;refine k _ _ ⟨Bm hp,[p],?_,by simp,fun b hb=>by simp at hb; rw[hb]; exact hp⟩;rw[Ap];exact⟨p,[],rfl,rfl,AE,Nat.zero_le _,.nil⟩
 exact FZ (HR ok h)
noncomputable def VB(neg:Bool):List A->Option A:=on2 fun q1 q2=>(fzU q1).bind fun d=>(XX q2).bind fun kvs=>if gk d then some (.fz (.bl ((HG kvs d).isSome != neg))) else none
theorem Wc(neg:Bool):OpN K (VB neg) (r2L fun y x H Q=>∃a o,x=.ref a/\Hl H a y o/\Q (.bl (o.isSome != neg)) H):=by
 intro N H xs as b Q hs e k
 replace e:=Bz e
 obtain⟨q1,q2,rfl,e⟩:=e
 replace e:=bind_eq_some_iff.mp e
 obtain⟨d,eq1,e⟩:=e;cases Ir eq1;clear eq1
 replace e:=bind_eq_some_iff.mp e
 obtain⟨kvs,eq2,e⟩:=e;cases Sz eq2;clear eq2;split at e
 .rename_i hk
  cases e;obtain⟨x,y,L1,L2,rfl,h1,h2⟩:=Bb hs;obtain⟨_,h1⟩:=CH.mp h1;rw[Ap] at h2;obtain⟨a,us,rfl,rfl,ha,hz,hp⟩:=h2;refine⟨_,_,rfl,a,_,rfl,Hl.g ha (P6 h1 hk),?_⟩;rw[Pr hp];exact k _ _ (Fd (.bl _))
 .cases e
theorem VT{k:Nat}(hr:Room k X.A)(hm:behindInMarks .In b=false)(ha:JE X a m1)(hb:JE X b m2):JT X (.Compare a [.In] [b] pos) (AM (opM (VB false) (m2L m1 m2))):=by
 refine Hf (WR (Wr (Lv hr) ha hb) hm) fun U H Q h=>?_;exact tE.mono (two (Wc false) (Jq h)) fun x H1 h1=>tE.mono h1 fun y H2 ⟨a,o,e,g,q⟩=>⟨a,o,e,g,by simpa using q⟩
end
noncomputable def JV(Z:Ro)(i:Nat):Option (Own×List (D×D)):=match Z[i]? with
 | some (some (.ro,_))=>none
 | some (some (st,.dct kvs))=>some (st,kvs)
 | _=>none
section
variable{K:Frag}{Z Z' Z1 Z2:Ro}{U σ' σ1 σ2:L2.St}{H H' H1 H2:Hp}{O O' N:Addr->Prop}{fp fp' fp1 fp2:Nat->List Addr}{L L1:List Addr}
theorem Lu{i:Nat}{st:Own}{kvs:List (D×D)}(h:JV Z i=some (st,kvs)): Z[i]? = some (some (st,.dct kvs))/\st≠.ro:=by
 unfold JV at h;split at h
 .cases h
 .rename_i st' as' hn e
  cases h;exact⟨e,fun z=>hn z⟩
 .cases h
noncomputable def G2(i:Nat)(mk me:ME):MS:=fun Z=>(me Z).bind fun p=>(share p.2 p.1).bind fun s=>(JV s.2 i).bind fun _=>(mk s.2).bind fun t=>match t.1 with
 | .val (.fz kd)=>(JV t.2 i).bind fun h=>if gk kd/\h.2.length<LIM then some (.next (t.2.set i (some (h.1,.dct (Hg h.2 kd s.1))))) else none
 | _=>none
theorem Uw{i:Nat}{mk me:ME}{D:Ends}(h:tS K (G2 i mk me) D U H):RJ (Pl i) (tE K mk) (tE K me) D U H:=by
 obtain⟨Z,O,fp,rl,fl,e,w⟩:=h;simp only[G2,bind_eq_some_iff] at e;obtain⟨⟨r,Z1⟩,e1,⟨d,Z2⟩,e2,⟨st0,as0⟩,e0,⟨r3,Z3⟩,e3,e4⟩:=e;dsimp only at e4;split at e4
 .rename_i kd
  simp only[bind_eq_some_iff] at e4;obtain⟨⟨st,kvs⟩,e5,e7⟩:=e4;split at e7
  .rename_i hlen
   obtain⟨hgk,hlen⟩:=hlen;cases e7;refine⟨Z,O,fp,rl,r,Z1,e1,fun y H1 yy=>?_⟩;obtain⟨L,fp1,p,q⟩:=yy;obtain⟨fp2,p2,q2⟩:=Cc p q e2;obtain⟨g0,_⟩:=Lu e0;obtain⟨v,hv,q0⟩:=p2.rel.slot i _ _ g0;rw[Ap] at q0;obtain⟨p0,us0,rfl,_,hp0,_,_⟩:=q0;refine⟨_,hv,Z2,O,fp2,p2.rel0,_,Z3,e3,fun y2 H2 yy=>?_⟩;obtain⟨L3,fp3,p3,q3⟩:=yy;obtain⟨_,q3⟩:=(CH (K:=K)).mp q3;have ky:=P6 q3 hgk;have p4:=(p2.next p3).drop0;obtain⟨g,gst⟩:=Lu e5;obtain⟨v',hv',qi⟩:=p4.rel.slot i _ _ g;rw[hv] at hv'; cases hv';rw[Ap] at qi;obtain⟨pa,us,e8,e9,hp,hz',hs⟩:=qi;cases e8;have hlu:=Paired.length hs;have qy:RepA (NN fp3 (ad O [])) H2 y d:=(Ek (fun b z=>FR.mpr z) q2).tr (M:=Fp fp2) (fun b z=>.inl z) p3.kept fun b z=>by
    rcases z with z|z|z
    .exact(p3.new b (.inr z)).imp (fun y=>.inl y) id
    .exact .inl (.inr z)
    .simp at z
   have k:=HE (o:=.dT (putK us kd y)) rfl hp;have pn:NN fp3 (ad O []) p0:=.inl ⟨i,by rw[e9]; simp⟩;have h1:PrE (NN fp3 (ad O [])) (upd H2 p0 (.dT (putK us kd y))) us kvs:=Paired.mapQ hs fun u kd r=>⟨r.1,r.2.tr (M:=fun b=>b=p0) (fun b z=>z ▸ pn) k fun b z=>.inl z⟩;have h2:RepA (NN fp3 (ad O [])) (upd H2 p0 (.dT (putK us kd y))) y d:=qy.tr (M:=fun b=>b=p0) (fun b z=>z ▸ pn) k fun b z=>.inl z;have hlz:LIM<=sizeLine:=by decide
   have hl3:us.length<sizeLine:=by have:kvs.length<LIM:=hlen; lia
   refine⟨p0,upd H2 p0 (.dT (putK us kd y)),rfl,.inr ⟨us,kd,hp,ky.1,ky.2,hl3,rfl⟩,w _ _ _ (Post.mutD (a':=.dct (Hg kvs kd d)) (L':=[p0]) rfl p4 g gst hv (by rw[e9]; simp) hp (fun b hb=>?_) (by simp) ?_)⟩
   .simp at hb; subst hb; exact .inl (by rw[e9]; simp)
   .rw[Ap]
    have:=Ee us kd y;exact⟨p0,putK us kd y,rfl,rfl,AE,by lia,TY h1 h2⟩
  .cases e7
 .cases e4
end
section
variable{X:Cx}{a b c e:Expr}{es:List Expr}{m m1 m2 m3:ME}{ms:MA}{p pos pos' p2 apos cpos q npos:Pos}{x:Str}
theorem S7{k:Nat}(i:Nat)(hr:Room k X.A)(hN:X.N[i]? = some x)(hv:Vis X.env.scope x)(hd:(x==("__debug__" : Str))=false)(hcd:(x==("__classdict__" : Str))=false)(hs:swapsWith e (some (.Subscript (.Name x npos) b pos')) pos.line X.env=pure false)(hk:JE X b m1)(he:JE X e m2):JS X (.Assign [.Subscript (.Name x npos) b pos'] e pos) (G2 i m1 m2):=
 Br (L2.Oi (Lv hr) (Jb hN hv hd hcd) hk he hs) fun _ _ _ h=>Uw h
end
end J
end
section
namespace L2
open PySem PySem.Spec PyProof.Rows
noncomputable def Iel(K:Frag)(l:Addr):It:=
 ⟨fun i H=>∃xs x,SqL K H l xs/\xs[i]? = some x,fun i H v H'=>∃T x,(∀xs,SqL K H l xs->xs[i]? = some x)/\H T=none/\v=.ref T/\H'=upd H T (.tup [.int i,x]),fun i H=>∃xs,SqL K H l xs/\xs.length<=i⟩
theorem OK{P:Program}{w:World}{A:Around}(hh:A.handled=none)(it l:Addr)(items:Array Value)(i:Nat)(hi:items.size<=i):Draws P w A it [it,l] i (fun _ _=>False) (fun j h=>j=i/\h.IsListIter it l i/\h.IsList l items) where
 live:=fun _ _ st=>let⟨o,ho,_⟩:=st.2.1; ⟨o,ho⟩
 frame:=fun _ _ _ st hk=>⟨st.1,st.2.1.at fun o e=>hk it (by simp) o e,st.2.2.at fun o e=>hk l (by simp) o e⟩
 item:=fun j s Q E hj st hQ=>absurd st.1 (Nat.ne_of_lt hj)
 done:=fun s Q E st hE=>wpAny_nextOf_list_end hh st.2.1 st.2.2 (by simp; lia) hE
theorem NI{P:Program}{w:World}{K:Frag}{ts:List Expr}{k:Nat}{pos:Pos}(e it l:Addr)(hne:e≠it)(hl:l<it)(hle:l<e):
  Turn P w K (.Tuple ts k pos) (Iel K l) [e,it] e (fun i h=>(∃old,IsEnum h e it ((i:Nat):Int) old)/\h.IsListIter it l i) where
 mem:=by simp
 obj:=fun i h st b hb=>by
  obtain⟨⟨old,he⟩,o,ho,c,d⟩:=st;simp only[List.mem_cons,List.not_mem_nil,or_false] at hb;rcases hb with rfl|rfl
  .exact⟨_,he,fun v q=>by cases q⟩
  .exact⟨o,ho,fun v q=>by rw[d] at q; cases q⟩
 keep:=fun i h h' st kk=>by
  obtain⟨⟨old,he⟩,o,ho,r⟩:=st;exact⟨⟨old,kk e (by simp) _ he⟩,o,kk it (by simp) _ ho,r⟩
 item:=by
  intro X hP hw hK hc i pins s U H E I hf st hg;subst hP hw hK;obtain⟨⟨old,he⟩,hs⟩:=st;obtain⟨xs,x,hq,hx⟩:=hg;obtain⟨its,rv,p,hz⟩:=I.list hq;obtain⟨u,hu,ru⟩:=rv.get hx;have D:=Draws.list (prog:=X.prog) (w:=X.w) (A:=X.A.in1) (I.ok.hd hc) it l (Nat.ne_of_lt hl) its.toArray;have elt:e<s.heap.objs.size:=Heap.lt_size he;have ilt:it<s.heap.objs.size:=by obtain⟨o,ho,_⟩:=hs; exact Heap.lt_size ho
  have hui:i<its.length:=(List.getElem?_eq_some_iff.mp hu).1;refine wpAny_pyNext_enum_itemD D he ⟨hs,p.isList⟩ (by simpa using hui) hne (by simp only[List.mem_cons,List.not_mem_nil,or_false,not_or]; exact⟨hne,Nat.ne_of_gt hle⟩) fun y h1 tk hy ho hs1 hT hsz hk=>?_;have hyu:y=u:=by
   have:its.toArray[i]? = some u:=by simpa using hu
   rw[this] at hy;injection hy with hy
   exact hy.symm
  subst hyu;refine⟨_,rfl,wpAny_letOwnedTupleGo_enum ho fun h2 he2 hs2=>?_⟩;have hs2':Heap.SameBut e h1 h2:=hs2;have g2:h2.get? s.heap.objs.size=some { cls:=.type "tuple",data:=.seq #[.int i tk,y] }:=(hs2'.2 _ (Nat.ne_of_gt elt)).trans hT;have I2:Inv X pins U (upd H s.heap.objs.size (.tup [.int i,x])) { s with heap:=h2,toks:=tk+1 }:=by
   refine I.turnedT (ch:=[e,it]) hf (fun b o hb q=>?_) (Nat.le_refl _) ?_
   .simp only[List.mem_cons,List.not_mem_nil,or_false,not_or] at hb
    exact(hs2'.2 b hb.1).trans (hk b o hb.1 hb.2 q)
   .exact⟨by show 2<=sizeLine; decide,[.int i tk,y],.cons ⟨_,rfl⟩ (.cons ru .nil),_,g2,rfl,_,rfl⟩
  refine⟨.ref s.heap.objs.size,_,I2,rfl,⟨_,x,fun ys hy=>by rw[I.list_inj hy hq]; exact hx,I.hok.fresh (Nat.le_refl _),rfl,rfl⟩,⟨⟨_,by simpa using he2⟩,?_⟩,fun b hb=>?_⟩
  .obtain⟨o,ho1,r⟩:=hs1.1
   exact⟨o,(hs2'.2 it (Ne.symm hne)).trans ho1,r⟩
  .have hlt:b<s.heap.objs.size:=by
    simp only[List.mem_cons,List.not_mem_nil,or_false] at hb;rcases hb with rfl|rfl
    .exact elt
    .exact ilt
   rw[AF (Nat.ne_of_lt hlt)];exact(hf b hb).1
 done:=by
  intro X hP hw hK hc i pins s U H E I hf st hg;subst hP hw hK;obtain⟨⟨old,he⟩,hs⟩:=st;obtain⟨xs,hq,hx⟩:=hg;obtain⟨its,rv,p,hz⟩:=I.list hq;have hlen:=rv.length;have D:=OK (P:=X.prog) (w:=X.w) (A:=X.A.in1) (I.ok.hd hc) it l its.toArray i (by simp; lia);obtain⟨f0,f1,f2,f3,f4,f5⟩:=hf it (by simp);exact wpAny_pyNext_enum_endD D he ⟨rfl,hs,p.isList⟩ fun h1 eb=>⟨rfl,I.turned (t':=s.toks) (fun b o hb q=>eb b o hb q) f0 f1 f3 f4 f5⟩
 self:=fun _ _ _ _ _ st h=>by
  obtain⟨⟨old,he⟩,_⟩:=st;exact wpAny_pyIter_enum he h
section
variable{X:Cx}
noncomputable def Qb(K:Frag)(tl:TA):TI:=fun U H R=>tl U H fun vs H1=>∃l xs,vs=[.ref l]/\SqL K H1 l xs/\R (Iel K l) H1
theorem Rp{ts:List Expr}{k:Nat}{tpos:Pos}{a:Expr}{ta:TA}{p pos:Pos}(hg:Gl X "enumerate")(hm:X.mg "enumerate" = none)(ha:PA X [a] ta)(hs:starEach [a] X.env=[(false,eval a X.env)]):
  PI X (.Tuple ts k tpos) (.Call (.Name "enumerate" p) [a] [] pos) (Qb X.K ta):=by
 intro pins s U H R I h;refine Call_ (Gx I hg hm boot_enumerate (PyProof.Rows.callWith_type1 (thn (ha pos pins s U H _ I h) fun us s1 yy=>?_) hs rfl));obtain⟨vs,H1,I1,r1,q1⟩:=yy;obtain⟨l,xs,e,hq,q⟩:=q1;subst e;obtain⟨u,rfl,ru⟩:=r1.one;cases ru;obtain⟨its,rv,pl,hz⟩:=I1.list hq;have llt:l<s1.heap.objs.size:=by obtain⟨o,n,e,_⟩:=pl; exact Heap.lt_size e
 refine call_enumerate_list pl.isList fun h1 he hit hsz hk=>?_;refine wpAny_pyIter_enum he ?_;have I2:Inv X pins U H1 { s1 with heap:=h1 }:=I1.kept (t':=s1.toks) hk;refine⟨_,[s1.heap.objs.size+1,s1.heap.objs.size],_,_,H1,rfl,I2,NI _ _ l (Nat.succ_ne_self _) llt (Nat.lt_succ_of_lt llt),⟨⟨_,he⟩,hit⟩,fun b hb=>?_,q⟩;simp only[List.mem_cons,List.not_mem_nil,or_false] at hb;rcases hb with rfl|rfl
 .exact I1.fpOk (Nat.le_succ _) (I1.hok.fresh (Nat.le_succ _))
 .exact I1.fpOk (Nat.le_refl _) (I1.hok.fresh (Nat.le_refl _))
end
end L2
namespace J
open PySem PySem.Spec PyProof.Rows L2
section
variable{X:Cx}{a b c e:Expr}{es:List Expr}{m m1 m2 m3:ME}{ms:MA}{p pos pos' p2 apos cpos q npos:Pos}{x:Str}
variable{K:Frag}{N:Addr->Prop}{H:Hp}{U:L2.St}{v:V}{L:List Addr}
noncomputable def HW(ds:List D):List D:=(List.range ds.length).map fun(i:Nat)=>D.tup [.int (i:Int),ds.getD i .non]
noncomputable def Kw:A->Bool
 | .fz (.lst _)=>true
 | .lst _=>true
 | .scr _=>true
 | _=>false
noncomputable def Gg(m:ME):MI:=fun Z=>(m Z).bind fun p=>(peek p.2 p.1).bind fun a=>if Kw a then (AH a).map fun ds=>(HW ds,nameOf p.1,p.2) else none
theorem SQ{a:A}(h:Kw a=true):MO a=false:=by
 cases a with
 | fz d=>cases d<;>first|rfl|cases h
 | _=>first|rfl|cases h
theorem R3{R:It->Hp->Prop}(h:tI K (Gg m) U H R):Qb K (BP (tE K m) GG) U H R:=by
 obtain⟨Z,O,fp,rl,ds,n,Z',e,k⟩:=h;simp only[Gg,bind_eq_some_iff] at e;obtain⟨⟨r,Z1⟩,e1,a,e2,e3⟩:=e;split at e3
 .rename_i hT
  replace hT:=SQ hT
  simp only[map_eq_some_iff] at e3;obtain⟨ds',e3,e4⟩:=e3;cases e4;refine⟨Z,O,fp,rl,r,_,e1,fun v H1 yy=>?_⟩;obtain⟨L,fp1,p,q⟩:=yy;obtain⟨L',q'⟩:=p.rel.peek q e2;obtain⟨pa,vs,rfl,hk,_⟩:=DW q' e3;rw[hT] at hk;refine⟨pa,vs,rfl,hk,k _ _ ⟨r,.ref pa,a,L,fp1,p,q,rfl,e2,fun N H2 yy=>?_⟩⟩;obtain⟨⟨L2,q2⟩,_⟩:=yy;obtain⟨pb,ws,e5,hk2,hd⟩:=DW q2 e3;cases e5;rw[hT] at hk2;have hk2:SqL K H2 pa ws:=hk2;have hl:(HW ds').length=ds'.length:=by simp[HW]
  refine⟨fun i hi=>?_,fun i hi=>⟨ws,hk2,by rw[hd.len]; lia⟩,fun i x H' d y e=>?_⟩
  .obtain⟨x,hx⟩:=SD hd (by rw[<- hl]; exact hi)
   exact⟨ws,x,hk2,hx⟩
  .obtain⟨T,y,hy,hT',rfl,rfl⟩:=y
   have hi:i<ds'.length:=by have:=Aq e; lia
   have hd':d=.tup [.int i,ds'[i]]:=by
    simp only[HW,List.getElem?_map,List.getElem?_range hi,Option.map_some,Option.some.injEq] at e;rw[<- e];simp[List.getD,hi]
   subst hd';have sm:=Bm (o:=.tup [.int i,y]) hT';refine⟨sm,.tup AE (by show 2<=sizeLine; decide) rfl fun j v d h1 h2=>?_⟩
   match j with
   | 0=>simp at h1 h2; subst h1 h2; exact .int _
   | 1 =>
    simp at h1 h2;subst h1 h2;exact(hd.get i y ds'[i] (hy ws hk2) (by simp)).grow sm
   | j+2=>simp at h1
 .cases e3
theorem G8{ts:List Expr}{tk:Nat}{tpos:Pos}(hg:Gl X "enumerate")(hm:X.mg "enumerate" = none)(hs:starEach [a] X.env=[(false,eval a X.env)])(h:JE X a m):JI X (.Tuple ts tk tpos) (.Call (.Name "enumerate" p) [a] [] pos) (Gg m):=F3 (Rp hg hm (CZ h Ff hs) hs) fun _ _ _ h=>R3 h
end
end J
end
section
namespace L2
open PySem PySem.Spec PyProof.Rows
section
variable{X:Cx}{H:Hp}
open Classical in
noncomputable def eqW(H:Hp)(e:D)(y:Value):Bool:=if ∃d v,RelV v y/\Rep H v d/\eqD d e=true then true else false
theorem PX{e d:D}{v:V}{y:Value}(r:RelV v y)(q:Rep H v d):eqW H e y=eqD d e:=by
 unfold eqW;cases h:eqD d e with
 | true=>rw[if_pos ⟨d,v,r,q,h⟩]
 | false =>
  rw[if_neg];rintro ⟨d',v',r',q',h'⟩;cases r.inj r';cases q.inj q';rw[h] at h';cases h'
theorem Sr{e:D}{xs:List V}{its:List Value}(rv:Vals xs its):∀{ds:List D},Paired (Rep H) xs ds->its.any (eqW H e)=ds.any fun d=>eqD d e:=by
 induction rv with
 | nil=>intro ds q; cases q; rfl
 | cons r t ih =>
  intro ds q;cases q with
  | cons q1 q2=>rw[List.any_cons,List.any_cons,PX r q1,ih q2]
theorem QK{xs:List V}{its:List Value}(rv:Vals xs its):∀{ds:List D},Paired (Rep H) xs ds->∀u∈its,∃v d,RelV v u/\Rep H v d/\d∈ds:=by
 induction rv with
 | nil=>intro ds q u hu; exact nomatch hu
 | cons r t ih =>
  intro ds q u hu;cases q with
  | cons q1 q2 =>
   rcases List.mem_cons.mp hu with e|hu
   .subst e; exact⟨_,_,r,q1,List.mem_cons_self⟩
   .obtain⟨v,d,h1,h2,h3⟩:=ih q2 u hu
    exact⟨v,d,h1,h2,List.mem_cons_of_mem _ h3⟩
noncomputable def Yl(K:Frag)(neg:Bool):R2:=fun x y H Q=>∃p xs d ds,y=.ref p/\SqL K H p xs/\Rep H x d/\Paired (Rep H) xs ds/\(∀e∈ds,Sh 8 e)/\Q (.bl (if neg then !(ds.any fun e=>eqD e d) else ds.any fun e=>eqD e d)) H
theorem Wm(hu:X.A.units+10<cLine):OpR X (compareOp .In) (Yl X.K false):=by
 intro pins s U H x y v u Q I rx ry h;obtain⟨p,xs,d,ds,rfl,hq,hd,hr,hs,q⟩:=h;cases ry;obtain⟨its,r,pl,hz⟩:=I.list hq;refine SeqAt.in_listAt (eqW H d) pl.isList (fun w hw=>?_) ⟨.bl _,H,I,rfl,?_⟩
 .obtain⟨v',d',h1,h2,h3⟩:=QK r hr w (by simpa using hw)
  rw[PX h1 h2];exact Ht (A:=X.A.in1) I.hok h2 hd h1 rx (hs d' h3) (lt8 hu)
 .rw[show its.toArray.any (eqW H d)=its.any (eqW H d) by simp,Sr r hr]
  exact q
end
end L2
namespace J
open PySem PySem.Spec PyProof.Rows L2
section
variable{X:Cx}{a b c e:Expr}{m m1 m2 m3:ME}{p pos pos' p2:Pos}
variable{K:Frag}{N:Addr->Prop}{H:Hp}{v:V}
theorem Pb{vs:List V}:∀{ds:List D},Ar N H vs ds->Paired (Rep H) vs ds:=by
 induction vs with
 | nil=>intro ds q; cases ds with|nil=>exact .nil|cons d ds=>simp only[Ar] at q
 | cons v vs ih=>intro ds q; cases ds with|nil=>simp only[Ar] at q|cons d ds=>exact .cons q.1.rep (ih q.2)
noncomputable def QC(neg:Bool):List A->Option A:=on2 fun q1 q2=>(er q1).bind fun d=>(CS q2).bind fun ds=>if ds.all (shB 8) then some (.fz (.bl (if neg then !inD d ds else inD d ds))) else none
theorem Wf(neg:Bool):OpN K (QC neg) (r2L (Yl K neg)):=by
 intro N H xs as b Q hs e k
 replace e:=Bz e
 obtain⟨q1,q2,rfl,e⟩:=e
 replace e:=bind_eq_some_iff.mp e
 obtain⟨d,eq1,e⟩:=e
 replace e:=bind_eq_some_iff.mp e
 obtain⟨ds,eq2,e⟩:=e;split at e
 .rename_i hk
  cases e;obtain⟨x,y,L1,L2,rfl,h1,h2⟩:=Bb hs;obtain⟨p,vs,rfl,hp,hz,q⟩:=DY h2 eq2;refine⟨_,_,rfl,p,vs,d,ds,rfl,.inl (.inl hp),(h1.er eq1).rep,Pb q,fun e he=>Jk (List.all_eq_true.mp hk e he),k _ _ (Fd (.bl _))⟩
 .cases e
theorem VO{k:Nat}(hr:Room k X.A)(hm:behindInMarks .In b=false)(ha:JE X a m1)(hb:JE X b m2):JE X (.Compare a [.In] [b] pos) (opM (QC false) (m2L m1 m2)):=EA (Wf false) (Wm (Lv hr)) hm ha hb
end
end J
end
section
namespace L2
open PySem PySem.Spec PyProof.Rows
end L2
namespace J
open PySem PySem.Spec PyProof.Rows L2 PySem.W
section
variable{X:Cx}{XC:Str->Addr}{E:XK}{K:Frag}{U:L2.St}{H:Hp}{D:Ends}
noncomputable def VH(c:MT)(r s:MR):MR:=fun Z=>(c Z).bind fun p=>if p.1 then r p.2 else s p.2
end
section
variable{P:Program}{w:World}{K:Frag}{mg:Str->Option Value}{base:Heap}
end
end J
end
section
namespace J
open PySem PySem.Spec PyProof.Rows L2
section
variable{X:Cx}{s:Stmt}{m:MS}{K:Frag}{U:L2.St}{H:Hp}{D:Ends}
theorem Xo{i:Nat}(h:tS K (As m (MH i)) D U H):tS K m D U H:=by
 obtain⟨Z,O,fp,rl,fl,e,w⟩:=h;simp only[As,bind_eq_some_iff] at e;obtain⟨f,e1,e2⟩:=e;refine⟨Z,O,fp,rl,f,e1,?_⟩;cases f with
 | next Z1 =>
  simp only[MH,map_eq_some_iff] at e2;obtain⟨⟨d,Z2⟩,e3,rfl⟩:=e2;intro σ' fp' H' p;have hg:∃a,Z1[i]? = some (some (.own,a)):=by
   simp only[share] at e3;split at e3
   .rename_i a h; exact⟨a,h⟩
   .cases e3
  obtain⟨a,hg⟩:=hg;obtain⟨v,hv,_⟩:=p.rel.slot i _ _ hg;obtain⟨fp2,p2,_⟩:=Cc (v:=v) (r:=.ref i) p.rel0.post ⟨rfl,hv⟩ e3;exact w σ' fp2 H' (p.next p2)
 | brk Z1=>cases e2; exact w
 | cnt Z1=>cases e2; exact w
 | ret a Z1=>cases e2; exact w
theorem Qq(i:Nat)(h:JS X s m):JS X s (As m (MH i)):=Br h fun _ _ _ h=>Xo h
end
section
variable{X:Cx}{x:Str}{pos:Pos}{m:ME}
theorem Gv(N':List Str)(i:Nat){y:Str}{py spos:Pos}{scope:Scope}{iter elt:Expr}{ifs:List Expr}{px:Pos}{mi:MI}{mt:MT}(nd:X.N.Nodup)(hiN:X.N[i]? = some y)(hy:X.env.scope.names.lookup y=some .local)(hid:HL N' X.N X.env.scope=true)(nd':N'.Nodup)(hok:Bl [x] N' scope X.env.scope=true)(hc:X.calm=true)(hx:scope.names.lookup x=some .local)(hs:∀w,foldedSetIterable iter X.env w=pure w)(hsw:swapsWith (.ListComp elt [⟨.Name x px,iter,ifs,0⟩] scope pos) (some (.Name y py)) spos.line X.env=pure true)(hi:JI X (.Name x px) iter mi)(ht:JTc (withN X N') [x] scope ifs mt)(he:JEc (withN X N') [x] scope elt m):
  JS X (.Assign [.Name y py] (.ListComp elt [⟨.Name x px,iter,ifs,0⟩] scope pos) spos) (AG i (AN mi 0 mt m)):=by
 have nw:=KS hok;exact Br (Pa (un:=R9) (te:=tE X.K m) nd hiN hy hid hc hok hi (fun C s H fp pins=>Hd rfl (List.nodup_cons.mpr ⟨nw x (by simp),nd'⟩) (lookup_relabel_local hx)) ht (fun C s H fp pins=>he C s H fp pins) hs hsw) fun _ _ _ h=>F8 (Jp h)
end
end J
namespace J
open PySem PySem.Spec PyProof.Rows L2
end J
end
section
namespace J
open PySem PySem.Spec PyProof.Rows L2
section
variable{P:Program}{w:World}{K:Frag}{mg:Str->Option Value}{base:Heap}{XC:Str->Addr}
variable{N:List Str}{qual:Str}{scope:Scope}{f:Addr}{cd:Value}{A:Around}{outer:List Env}{s:Shared}{H:Hp}{E:XK}
end
section
variable{X:Cx}{XC:Str->Addr}{E:XK}
end
end J
end
section
namespace L2
open PySem PySem.Spec PyProof.Rows
section
variable{X:Cx}
end
end L2
namespace J
open PySem PySem.Spec PyProof.Rows L2
section
variable{X:Cx}{a:Expr}{m:ME}{p pos:Pos}{K:Frag}{H:Hp}{U:L2.St}
end
end J
end
section
namespace L2
open PySem PySem.Spec PyProof.Rows
section
variable{X:Cx}
end
end L2
namespace J
open PySem PySem.Spec PyProof.Rows L2
section
variable{K:Frag}{N:Addr->Prop}{H H1:Hp}{U:L2.St}{O:Addr->Prop}{Z Z2 Z3:Ro}{fp fp2:Nat->List Addr}
noncomputable def KY(i:Nat)(mk:ME)(d:D):Ro->Option Ro:=fun Z=>(C7 Z i).bind fun _=>(mk Z).bind fun t=>match t.1 with
 | .val (.fz (.int k))=>(C7 t.2 i).bind fun h=>(ixN h.2.length k).map fun j=>t.2.set i (some (h.1,.lst (h.2.set j (.fz d))))
 | _=>none
end
section
variable{X:Cx}{a b c e:Expr}{es:List Expr}{m m1 m2 m3:ME}{ms:MA}{p pos pos' pos2 p2 apos cpos q npos npos2 tpos:Pos}{x:Str}{kt:Nat}
end
end J
end
section
namespace L2
open PySem PySem.Spec PyProof.Rows
noncomputable def ZSl(n a b:Addr)(i:Nat)(h:Heap):Prop:=IsZip h (n+4) (n+2) (n+3) .none/\IsPair h (n+2) (.ref n) (.ref (n+1))/\(∃u v,IsPair h (n+3) u v)/\h.IsListIter n a i/\h.IsListIter (n+1) b i
noncomputable def Ilz(K:Frag)(a b:Addr):It:=
 ⟨fun i H=>∃xs ys x y,SqL K H a xs/\SqL K H b ys/\xs[i]? = some x/\ys[i]? = some y,
  fun i H v H'=>∃T x y,(∀xs,SqL K H a xs->xs[i]? = some x)/\(∀ys,SqL K H b ys->ys[i]? = some y)/\H T=none/\v=.ref T/\H'=upd H T (.tup [x,y]),
  fun i H=>∃xs ys,SqL K H a xs/\SqL K H b ys/\xs.length<=i⟩
theorem apart{n a b:Addr}(ha:a<n)(hb:b<n):ZipApart (n+4) (n+2) (n+3) n (n+1) a b:=by
 refine⟨?_,?_,?_,?_,?_,?_,?_,?_,?_,?_,?_,?_,?_,?_,?_,?_,?_,?_⟩<;>(intro e; simp only[Addr] at *; omega)
theorem Po{P:Program}{w:World}{K:Frag}{ts:List Expr}{k:Nat}{pos:Pos}(n a b:Addr)(ha:a<n)(hb:b<n):
  Turn P w K (.Tuple ts k pos) (Ilz K a b) [n+4,n+2,n+3,n,n+1] (n+4) (fun i h=>ZSl n a b i h) where
 mem:=by simp
 obj:=fun i h st c hc=>by
  obtain⟨hz,hTI,⟨u,v,hTO⟩,⟨o1,g1,_,d1⟩,⟨o2,g2,_,d2⟩⟩:=st;simp only[List.mem_cons,List.not_mem_nil,or_false] at hc;rcases hc with rfl|rfl|rfl|rfl|rfl
  .exact⟨_,hz,fun v q=>by cases q⟩
  .exact⟨_,hTI,fun v q=>by cases q⟩
  .exact⟨_,hTO,fun v q=>by cases q⟩
  .exact⟨_,g1,fun v q=>by rw[d1] at q; cases q⟩
  .exact⟨_,g2,fun v q=>by rw[d2] at q; cases q⟩
 keep:=fun i h h' st kk=>by
  obtain⟨hz,hTI,⟨u,v,hTO⟩,i1,i2⟩:=st;exact⟨kk _ (by simp) _ hz,kk _ (by simp) _ hTI,⟨u,v,kk _ (by simp) _ hTO⟩,i1.at fun o e=>kk _ (by simp) o e,i2.at fun o e=>kk _ (by simp) o e⟩
 item:=by
  intro X hP hw hK hc i pins s U H E I hf st hg;subst hP hw hK;obtain⟨xs,ys,x,y,h1,h2,hx,hy⟩:=hg;obtain⟨as,ra,pa,za⟩:=I.list h1;obtain⟨bs,rb,pb,zb⟩:=I.list h2;obtain⟨u,hu,ru⟩:=ra.get hx;obtain⟨v,hv,rv⟩:=rb.get hy;have zl:n+4<s.heap.objs.size:=Heap.lt_size st.1;obtain⟨hz,hTI,⟨u0,v0,hTO⟩,i1,i2⟩:=st;refine wpAny_pyNext_zip_item (apart ha hb) hz hTI hTO i1 i2 pa.isList pb.isList (x:=u) (y:=v) (by simpa using hu) (by simpa using hv) fun h1' z1 t1 i1 i2 T1 _ k1=>?_;refine⟨_,rfl,wpAny_letOwnedTupleGo_zip z1 fun h2' z2 s2=>?_⟩;have s2:Heap.ExtBut (n+4) h1' h2':=s2.extBut;have T2:IsPair h2' s.heap.objs.size u v:=s2 _ _ (Nat.ne_of_gt zl) T1;have I2:Inv X pins U (upd H s.heap.objs.size (.tup [x,y])) { s with heap:=h2',toks:=s.toks }:=by
   refine I.turnedT (ch:=[n+4,n+2,n+3,n,n+1]) hf (fun c o hc q=>?_) (Nat.le_refl _) ⟨by show 2<=sizeLine; decide,[u,v],.cons ru (.cons rv .nil),_,T2,rfl,_,rfl⟩;simp only[List.mem_cons,List.not_mem_nil,or_false,not_or] at hc;exact s2 _ _ hc.1 (k1 c o hc.1 hc.2.2.1 hc.2.2.2.1 hc.2.2.2.2 q)
  refine⟨.ref s.heap.objs.size,_,I2,rfl,⟨_,x,y,fun zs hz=>by rw[I.list_inj hz h1]; exact hx,fun zs hz=>by rw[I.list_inj hz h2]; exact hy,I.hok.fresh (Nat.le_refl _),rfl,rfl⟩,⟨z2,s2 _ _ nx (k1 _ _ nx nx (nx (j:=0)) nx hTI),⟨_,_,s2 _ _ nx t1⟩,i1.extBut s2 (nx (k:=0)),i2.extBut s2 nx⟩,fun c hc=>?_⟩;have hlt:c<s.heap.objs.size:=by
   have le:∀k,k<=4->n+k<s.heap.objs.size:=fun k h=>Nat.lt_of_le_of_lt (Nat.add_le_add_left h n) zl;simp only[List.mem_cons,List.not_mem_nil,or_false] at hc;rcases hc with rfl|rfl|rfl|rfl|rfl
   .exact zl
   .exact le 2 (by decide)
   .exact le 3 (by decide)
   .exact le 0 (by decide)
   .exact le 1 (by decide)
  rw[AF (Nat.ne_of_lt hlt)];exact(hf c hc).1
 done:=by
  intro X hP hw hK hc i pins s U H E I hf st hg;subst hP hw hK;obtain⟨xs,ys,h1,h2,hx⟩:=hg;obtain⟨as,ra,pa,za⟩:=I.list h1;obtain⟨bs,rb,pb,zb⟩:=I.list h2;have hl:=ra.length;obtain⟨hz,hTI,⟨u0,v0,hTO⟩,i1,i2⟩:=st;refine wpAny_pyNext_zip_end (I.ok.hd hc) (apart ha hb) hz hTI hTO i1 i2 pa.isList pb.isList (.inl (by simp; lia)) fun h' k=>⟨rfl,?_⟩;refine I.turnedL (t':=s.toks) (ch:=[n+4,n+2,n+3,n,n+1]) hf fun c o hc q=>?_;simp only[List.mem_cons,List.not_mem_nil,or_false,not_or] at hc;exact k c o hc.1 hc.2.2.1 hc.2.2.2.1 hc.2.2.2.2 q
 self:=fun _ _ _ _ _ st h=>wpAny_pyIter_zip st.1 h
section
variable{X:Cx}
noncomputable def US(K:Frag)(tl:TA):TI:=fun U H R=>tl U H fun vs H1=>∃a b xs ys,vs=[.ref a,.ref b]/\SqL K H1 a xs/\SqL K H1 b ys/\R (Ilz K a b) H1
theorem TF{ts:List Expr}{k:Nat}{tpos:Pos}{x y:Expr}{ta:TA}{p pos:Pos}(hg:Gl X "zip")(hm:X.mg "zip" = none)(ha:PA X [x,y] ta)(hs:starEach [x,y] X.env=(false,eval x X.env)::starEach [y] X.env)(hpl:(backTo pos (starEach [y] X.env)).any (·.1)=false):
  PI X (.Tuple ts k tpos) (.Call (.Name "zip" p) [x,y] [] pos) (US X.K ta):=by
 intro pins s U H R I h;refine Call_ (Gx I hg hm boot_zip (PyProof.Rows.callWith_type1 (thn (ha pos pins s U H _ I h) fun us s1 yy=>?_) hs hpl));obtain⟨vs,H1,I1,r1,q1⟩:=yy;obtain⟨a,b,xs,ys,e,h1,h2,q⟩:=q1;subst e;obtain⟨as,ra,pa,za⟩:=I1.list h1;obtain⟨bs,rb,pb,zb⟩:=I1.list h2;have la:a<s1.heap.objs.size:=by obtain⟨o,n,e,_⟩:=pa; exact Heap.lt_size e
 have lb:b<s1.heap.objs.size:=by obtain⟨o,n,e,_⟩:=pb; exact Heap.lt_size e
 cases r1 with
 | @cons _ u1 _ _ e1 rr =>
  cases rr with
  | @cons _ u2 _ _ e2 rr =>
   cases rr;have e1:u1=Value.ref a:=e1;have e2:u2=Value.ref b:=e2;subst e1 e2;refine call_zip_2 pa.isList pb.isList fun h' z1 t1 t2 i1 i2 _ hk=>wpAny_pyIter_zip z1 ?_
   refine⟨_,[s1.heap.objs.size+4,s1.heap.objs.size+2,s1.heap.objs.size+3,s1.heap.objs.size,s1.heap.objs.size+1],_,_,H1,rfl,I1.kept (t':=s1.toks) hk,Po _ a b la lb,⟨z1,t1,⟨_,_,t2⟩,i1,i2⟩,fun c hc=>?_,q⟩;have le:s1.heap.objs.size<=c:=by
    simp only[List.mem_cons,List.not_mem_nil,or_false] at hc;rcases hc with rfl|rfl|rfl|rfl|rfl<;>first|exact Nat.le_add_right .. | exact Nat.le_refl _
   exact I1.fpOk le (I1.hok.fresh le)
end
end L2
namespace J
open PySem PySem.Spec PyProof.Rows L2
section
variable{X:Cx}{a b c e:Expr}{es:List Expr}{m m1 m2 m3:ME}{ms:MA}{p pos pos' p2 apos cpos q npos:Pos}{x:Str}
variable{K:Frag}{N:Addr->Prop}{H:Hp}{U:L2.St}{v:V}{L:List Addr}
noncomputable def lsU:A->Option (List D)
 | .fz (.lst ds)=>some ds
 | _=>none
theorem QG{a:A}{ds:List D}(h:lsU a=some ds):a=.fz (.lst ds):=by
 unfold lsU at h;split at h
 .cases h; rfl
 .cases h
noncomputable def Mr(m1 m2:ME):MI:=fun Z=>(Ac m1 (Ac m2 Aj) Z).bind fun p=>(peeks p.2 p.1).bind fun as=>match as with
 | [a,b]=>(lsU a).bind fun ds=>(lsU b).bind fun es=>if ds.length=es.length then some (Pu ds es,none,p.2) else none
 | _=>none
theorem Ut{R:It->Hp->Prop}(h:tI K (Mr m1 m2) U H R):US K (tA K (Ac m1 (Ac m2 Aj))) U H R:=by
 obtain⟨Z,O,fp,rl,ds,n,Z',e,k⟩:=h;simp only[Mr,bind_eq_some_iff] at e;obtain⟨⟨rs,Z1⟩,e1,as,e2,e3⟩:=e;dsimp only at e2 e3;split at e3
 case h_2=>cases e3
 rename_i a b;simp only[bind_eq_some_iff] at e3;obtain⟨ds,ea,es,eb,e3⟩:=e3;cases QG ea;cases QG eb;split at e3
 case isFalse=>cases e3
 rename_i z3;cases e3;refine⟨Z,O,fp,rl,_,_,e1,fun vs H1 yy=>?_⟩;obtain⟨L,fp1,p,q⟩:=yy;have hs:=p.rel.peeks q e2;obtain⟨v1,v2,_,_,rfl,h1,h2⟩:=Bb hs;rw[Ap] at h1 h2;obtain⟨rfl,h1⟩:=h1;obtain⟨rfl,h2⟩:=h2;have w1:RepA (NN fp1 (ad O [])) H1 v1 (.lst ds):=Ek (fun b z=>by rcases z with z|z|z; exact .inl z; exact .inr (.inl z); simp at z) h1;have w2:RepA (NN fp1 (ad O [])) H1 v2 (.lst es):=Ek (fun b z=>by rcases z with z|z|z; exact .inl z; exact .inr (.inl z); simp at z) h2;cases h1 with
 | lst g1 s1 n1 l1 r1 =>
  cases h2 with
  | lst g2 s2 n2 l2 r2 =>
   refine⟨_,_,_,_,rfl,.inl (.inl g1),.inl (.inl g2),k _ _ ⟨.val (.fz .non),.non,.fz .non,[],fp1,p.drop0,Ej (K:=K) .non,rfl,rfl,fun N H2 yy=>?_⟩⟩;obtain⟨_,_,st⟩:=yy;have f1:=st _ _ w1;have f2:=st _ _ w2;cases f1 with
   | lst g1 s1 n1 l1 r1 =>
    cases f2 with
    | lst g2 s2 n2 l2 r2 =>
     have q1:SqL K H2 _ _:=.inl (.inl g1);have q2:SqL K H2 _ _:=.inl (.inl g2);have hl:(Pu ds es).length=ds.length:=by rw[Pu,List.length_zipWith,z3,Nat.min_self]
     refine⟨fun i hi=>?_,fun i hi=>⟨_,_,q1,q2,by rw[l1,<- hl]; exact hi⟩,fun i v H' d y e=>?_⟩
     .rw[hl] at hi
      exact⟨_,_,_,_,q1,q2,List.getElem?_eq_getElem (by lia),List.getElem?_eq_getElem (by lia)⟩
     .obtain⟨T,x,y,hx,hy,hT,rfl,rfl⟩:=y
      have hx:=hx _ q1;have hy:=hy _ q2;have hi:i<ds.length:=by have:=Aq e; lia
      have hj:i<es.length:=by lia
      simp only[Pu,List.getElem?_zipWith,List.getElem?_eq_getElem hi,List.getElem?_eq_getElem hj] at e;cases e;have sm:=Bm (o:=.tup [x,y]) hT;have k1:=(r1 i x _ hx (List.getElem?_eq_getElem hi)).grow sm;have k2:=(r2 i y _ hy (List.getElem?_eq_getElem hj)).grow sm;refine⟨sm,.tup AE (by show 2<=sizeLine; decide) rfl fun j v d h1 h2=>?_⟩
      match j with
      | 0=>simp at h1 h2; subst h1 h2; exact k1
      | 1=>simp at h1 h2; subst h1 h2; exact k2
      | j+2=>simp at h1
theorem S5{ts:List Expr}{tk:Nat}{tpos:Pos}(hg:Gl X "zip")(hm:X.mg "zip" = none)(hs:starEach [a,b] X.env=(false,eval a X.env)::starEach [b] X.env)(hpl:(backTo pos (starEach [b] X.env)).any (·.1)=false)(hs2:starEach [b] X.env=[(false,eval b X.env)])(h1:JE X a m1)(h2:JE X b m2):JI X (.Tuple ts tk tpos) (.Call (.Name "zip" p) [a,b] [] pos) (Mr m1 m2):=
 F3 (TF hg hm (Ab hs h1 (Ab hs2 h2 Af)) hs hpl) fun _ _ _ h=>Ut h
end
end J
end
section
namespace Sp
open PySem Sg
noncomputable def Msk(m:Nat):Prop:=m=7\/m=31\/m=127
noncomputable def lp(m:Nat):Nat->Nat×Nat->Nat×Nat
 | 0,x=>x
 | t+1,x=>lp m t (SetTable.leap m x.1 x.2)
theorem M4(m:Nat):∀(s t:Nat) (x:Nat×Nat),lp m (s+t) x=lp m t (lp m s x):=by
 intro s;induction s with
 | zero=>intro t x; rw[Nat.zero_add]; rfl
 | succ s ih=>intro t x; rw[Nat.succ_add]; exact ih t _
theorem QE(m:Nat):∀(t:Nat) (x:Nat×Nat),(lp m t x).2=x.2 / 32 ^ t:=by
 intro t;induction t with
 | zero=>intro x; simp[lp]
 | succ t ih =>
  intro x;show(lp m t _).2=_;rw[ih];show x.2 / 32 / 32 ^ t=_;rw[Nat.div_div_eq_div_mul,Nat.pow_succ,Nat.mul_comm]
theorem KC(m i p:Nat):(SetTable.leap m i p).1<=m:=by
 show(i*5+1+p / 32) % (m+1)<=m;have:=Nat.mod_lt (i*5+1+p / 32) (show 0<m+1 by omega);omega
theorem X4(m:Nat):∀(t:Nat) (x:Nat×Nat),x.1<=m->(lp m t x).1<=m:=by
 intro t;induction t with
 | zero=>intro x h; exact h
 | succ t ih=>intro x h; exact ih _ (KC m _ _)
noncomputable def orb(m:Nat):Nat->Nat->List Nat
 | 0,_=>[]
 | n+1,i=>i::orb m n ((i*5+1) % (m+1))
theorem Wq(m:Nat):∀(n i j:Nat),j∈orb m n i->∃t,t<n/\(lp m t (i,0)).1=j:=by
 intro n;induction n with
 | zero=>intro i j h; cases h
 | succ n ih =>
  intro i j h;rcases List.mem_cons.mp h with rfl|h
  .exact⟨0,by omega,rfl⟩
  .obtain⟨t,h1,h2⟩:=ih _ j h
   refine⟨t+1,by omega,?_⟩;show(lp m t (SetTable.leap m i 0)).1=j;have:SetTable.leap m i 0=((i*5+1) % (m+1),0):=by simp[SetTable.leap]
   rw[this]; exact h2
noncomputable def cov(m:Nat):Bool:=((List.range (m+1)).all fun j=>(orb m (m+1) 0).contains j)&&(lp m (m+1) (0,0)).1==0
theorem YU:cov 7=true:=by decide +kernel
theorem XW:cov 31=true:=by decide +kernel
theorem Vr:cov 127=true:=by decide +kernel
theorem cover{m:Nat}(hm:Msk m){i j:Nat}(hi:i<=m)(hj:j<=m):∃t,t<=m/\(lp m t (i,0)).1=j:=by
 have hc:cov m=true:=by rcases hm with rfl|rfl|rfl; exact YU; exact XW; exact Vr
 unfold cov at hc;rw[Bool.and_eq_true] at hc;obtain⟨h1,h2⟩:=hc;have z:∀t i,lp m t (i,0)=((lp m t (i,0)).1,0):=fun t i=>by
  have:=QE m t (i,0);rw[Nat.zero_div] at this;exact Prod.ext rfl this
 have at_:∀j,j<=m->∃t,t<m+1/\(lp m t (0,0)).1=j:=fun j hj=>Wq m (m+1) 0 j (by have:=List.all_eq_true.mp h1 j (List.mem_range.mpr (by omega)); simpa using this);obtain⟨a,a1,a2⟩:=at_ i hi;obtain⟨b,b1,b2⟩:=at_ j hj;have ea:∀t,lp m t (i,0)=lp m (a+t) (0,0):=fun t=>by rw[M4,z a 0,a2]
 by_cases h:a<=b
 .exact⟨b-a,by omega,by rw[ea,show a+(b-a)=b by omega]; exact b2⟩
 .refine⟨b+(m+1)-a,by omega,?_⟩
  rw[ea,show a+(b+(m+1)-a)=(m+1)+b by omega,M4,z (m+1) 0,eq_of_beq h2];exact b2
theorem reach{m:Nat}(hm:Msk m){i p j:Nat}(hi:i<=m)(hp:p<2 ^ 64)(hj:j<=m):∃t,1<=t/\t<=m+13/\(lp m t (i,p)).1=j:=by
 have e2:(lp m 13 (i,p)).2=0:=by
  rw[QE];refine Nat.div_eq_of_lt ?_;have:(2:Nat) ^ 64<=32 ^ 13:=by decide
  exact Nat.lt_of_lt_of_le hp this
 have h1:=X4 m 13 (i,p) hi;obtain⟨t,q1,q2⟩:=cover hm h1 hj;refine⟨13+t,by omega,by omega,?_⟩;rw[M4];have:lp m 13 (i,p)=((lp m 13 (i,p)).1,0):=by rw[<- e2]
 rw[this]; exact q2
noncomputable def adv(t:SetTable):Nat->SetTable.Probe->SetTable.Probe
 | 0,p=>p
 | k+1,p=>adv t k (t.advance p)
theorem Sl(t:SetTable):∀(a b:Nat) (p:SetTable.Probe),adv t (a+b) p=adv t b (adv t a p):=by
 intro a;induction a with
 | zero=>intro b p; rw[Nat.zero_add]; rfl
 | succ a ih=>intro b p; rw[Nat.succ_add]; exact ih b _
structure PrOk (m:Nat) (p:SetTable.Probe):Prop where
 jm:p.j+p.more<=m
 im:p.i<=m
 m9:p.more<=9
 pb:p.perturb<2 ^ 64
 dm:p.dummy=none
theorem RI{m i:Nat}(h:i<=m):i+(SetTable.runEnd m i-i)<=m/\SetTable.runEnd m i-i<=9:=by
 unfold SetTable.runEnd;split<;>omega
theorem Mv{t:SetTable}{p:SetTable.Probe}(h:PrOk t.mask p):PrOk t.mask (t.advance p):=by
 unfold SetTable.advance;split
 .rename_i hm
  exact⟨by show p.j+1+(p.more-1)<=_; have:=h.jm; omega,h.im,by show p.more-1<=9; have:=h.m9; omega,h.pb,h.dm⟩
 .have h1:=KC t.mask p.i p.perturb
  have h2:=RI h1;refine⟨h2.1,h1,h2.2,?_,h.dm⟩;show p.perturb / 32<2 ^ 64;have:=h.pb;omega
theorem Sm{t:SetTable}:∀(k:Nat) {p:SetTable.Probe},PrOk t.mask p->PrOk t.mask (adv t k p):=by
 intro k;induction k with
 | zero=>intro p h; exact h
 | succ k ih=>intro p h; exact ih (Mv h)
theorem NP{t:SetTable}:∀(n:Nat) (p:SetTable.Probe),p.more=n->(adv t (n+1) p).j=(SetTable.leap t.mask p.i p.perturb).1/\(adv t (n+1) p).i=(SetTable.leap t.mask p.i p.perturb).1/\(adv t (n+1) p).perturb=(SetTable.leap t.mask p.i p.perturb).2:=by
 intro n;induction n with
 | zero =>
  intro p h;show(t.advance p).j=_/\(t.advance p).i=_/\(t.advance p).perturb=_;unfold SetTable.advance;rw[if_neg (by omega)];exact⟨rfl,rfl,rfl⟩
 | succ n ih =>
  intro p h;have e:t.advance p={ p with j:=p.j+1,more:=p.more-1 }:=by unfold SetTable.advance; rw[if_pos (by omega)]
  have q:=ih (t.advance p) (by rw[e]; show p.more-1=n; omega);rw[show(t.advance p).i=p.i by rw[e],show(t.advance p).perturb=p.perturb by rw[e]] at q;exact q
theorem Vk{t:SetTable}:∀(s:Nat) (p:SetTable.Probe),PrOk t.mask p->∃k,k<=10*(s+1)/\(adv t k p).j=(lp t.mask (s+1) (p.i,p.perturb)).1/\(adv t k p).i=(lp t.mask (s+1) (p.i,p.perturb)).1/\(adv t k p).perturb=(lp t.mask (s+1) (p.i,p.perturb)).2:=by
 intro s;induction s with
 | zero =>
  intro p h;obtain⟨h1,h2,h3⟩:=NP p.more p rfl;have:=h.m9;exact⟨p.more+1,by omega,h1,h2,h3⟩
 | succ s ih =>
  intro p h;obtain⟨h1,h2,h3⟩:=NP p.more p rfl;have:=h.m9;obtain⟨k,q1,q2⟩:=ih _ (Sm (p.more+1) h);refine⟨p.more+1+k,by omega,?_⟩;rw[Sl];rw[h2,h3] at q2;exact q2
theorem meets{t:SetTable}(hm:Msk t.mask){p:SetTable.Probe}(h:PrOk t.mask p){j:Nat}(hj:j<=t.mask):∃k,k<10*SetTable.turns t.mask/\(adv t k p).j=j:=by
 obtain⟨s,s1,s2,s3⟩:=reach hm h.im h.pb hj;obtain⟨k,k1,k2,_⟩:=Vk (s-1) p h;rw[show s-1+1=s by omega] at k1 k2;refine⟨k,?_,k2.trans s3⟩;unfold SetTable.turns;omega
theorem SK{t:SetTable}(hd:t.dummies = #[]){f:Nat->Int}{h:Int}:∀(k fuel:Nat) (p:SetTable.Probe),k<fuel->PrOk t.mask p->t.slot (adv t k p).j=.empty ->
  (∃j,SetTable.probe.go t f h fuel p=some (.empty j none)/\t.slot j=.empty/\j<=t.mask) \/
  (∃j i next k',SetTable.probe.go t f h fuel p=some (.candidate j i next)/\t.slot j=.live i/\(f i==h)=true/\PrOk t.mask next/\k'<k/\t.slot (adv t k' next).j=.empty):=by
 intro k;induction k with
 | zero =>
  intro fuel p hf ok he;obtain⟨fuel,rfl⟩:∃n,fuel=n+1:=⟨fuel-1,by omega⟩;have he:t.slot p.j=.empty:=he;refine .inl ⟨p.j,?_,he,by have:=ok.jm; omega⟩;rw[SetTable.probe.go,he,ok.dm]
 | succ k ih =>
  intro fuel p hf ok he;obtain⟨fuel,rfl⟩:∃n,fuel=n+1:=⟨fuel-1,by omega⟩;have he:t.slot (adv t k (t.advance p)).j=.empty:=he;cases hs:t.slot p.j with
  | empty =>
   refine .inl ⟨p.j,?_,hs,by have:=ok.jm; omega⟩;rw[SetTable.probe.go,hs,ok.dm]
  | dummy=>exact absurd hs (K2 hd _)
  | live i =>
   by_cases hi:(f i==h)=true
   .refine .inr ⟨p.j,i,t.advance p,k,?_,hs,hi,Mv ok,by omega,he⟩
    rw[SetTable.probe.go,hs];simp only[hi,if_true]
   .have e:SetTable.probe.go t f h (fuel+1) p=SetTable.probe.go t f h fuel (t.advance p):=by
     rw[SetTable.probe.go,hs];simp only[hi,if_false];rfl
    rw[e];rcases ih fuel (t.advance p) (by omega) (Mv ok) he with q|⟨j,i',next,k',q1,q2,q3,q4,q5,q6⟩
    .exact .inl q
    .exact .inr ⟨j,i',next,k',q1,q2,q3,q4,by omega,q6⟩
theorem Jl{t:SetTable}(h:Int):PrOk t.mask (t.probeStart h):=by
 have h1:SetTable.bits h % (t.mask+1)<=t.mask:=by
  have:=Nat.mod_lt (SetTable.bits h) (show 0<t.mask+1 by omega);omega
 have h2:=RI h1;refine⟨h2.1,h1,h2.2,?_,rfl⟩;show SetTable.bits h<2 ^ 64;unfold SetTable.bits;have h3:=Int.emod_nonneg h (show((2:Int) ^ 64)≠0 by decide);have h4:=Int.emod_lt_of_pos h (show(0:Int)<2 ^ 64 by decide);omega
theorem Mi{t:SetTable}(hd:t.dummies = #[]){j:Nat}(h:j∉t.place.toList):t.slot j=.empty:=by
 unfold SetTable.slot;dsimp only;rw[if_neg,if_neg]
 .rw[hd,Kt]; exact Bool.false_ne_true
 .intro e
  have e:=eq_of_beq e;exact h (List.mem_of_getElem? (by rw[Array.getElem?_toList]; exact e))
theorem Yi:∀(n:Nat) (l:List Nat),l.length<n->∃c,c<n/\c∉l:=by
 intro n;induction n with
 | zero=>intro l h; simp at h
 | succ n ih =>
  intro l h;by_cases hn:n∈l
  .obtain⟨c,h1,h2⟩:=ih (l.erase n) (by rw[List.length_erase_of_mem hn]; have:=List.length_pos_of_mem hn; omega)
   exact⟨c,by omega,fun z=>h2 ((List.mem_erase_of_ne (by omega)).mpr z)⟩
  .exact⟨n,by omega,hn⟩
theorem PQ{t:SetTable}(hd:t.dummies = #[])(hs:t.place.size<=t.mask):∃j,j<=t.mask/\t.slot j=.empty:=by
 obtain⟨c,h1,h2⟩:=Yi (t.mask+1) t.place.toList (by simp; omega);exact⟨c,by omega,Mi hd h2⟩
theorem SI{m:Nat}{owner:Array (Option Nat)}{j0:Nat}(h0:(owner.getD j0 (some 0)).isNone=true):∀(s fuel i p:Nat),s<fuel->i<=m->(lp m s (i,p)).1=j0->∃j,SetTable.layClean.free m owner fuel i p=some j/\(owner.getD j (some 0)).isNone=true:=by
 intro s;induction s with
 | zero =>
  intro fuel i p hf hi e;obtain⟨fuel,rfl⟩:∃n,fuel=n+1:=⟨fuel-1,by omega⟩;have e:i=j0:=e;subst e;rw[SetTable.layClean.free];cases hq:(List.range (SetTable.runEnd m i+1-i)).find? fun k=>(owner.getD (i+k) (some 0)).isNone with
  | some k =>
   have:=List.find?_some hq;exact⟨i+k,rfl,this⟩
  | none =>
   have:=List.find?_eq_none.mp hq 0 (List.mem_range.mpr (by unfold SetTable.runEnd; split<;>omega));rw[Nat.add_zero] at this;exact absurd h0 this
 | succ s ih =>
  intro fuel i p hf hi e;obtain⟨fuel,rfl⟩:∃n,fuel=n+1:=⟨fuel-1,by omega⟩;rw[SetTable.layClean.free];cases hq:(List.range (SetTable.runEnd m i+1-i)).find? fun k=>(owner.getD (i+k) (some 0)).isNone with
  | some k =>
   have:=List.find?_some hq;exact⟨i+k,rfl,this⟩
  | none=>exact ih fuel _ _ (by omega) (KC m i p) e
structure LI (m:Nat) (owner:Array (Option Nat)) (js:List Nat):Prop where
 sz:owner.size=m+1
 nd:js.Nodup
 at1:∀(l j:Nat),js[l]? = some j->owner[j]? = some (some l)
 at2:∀(j l:Nat),owner[j]? = some (some l)->js[l]? = some j
theorem LI.non{m:Nat}{owner:Array (Option Nat)}{js:List Nat}(h:LI m owner js){j:Nat}(hj:j<=m)(hn:j∉js):owner[j]? = some none:=by
 have hs:=h.sz;have hj':j<owner.size:=by omega
 cases e:owner[j] with
 | none=>rw[Array.getElem?_eq_getElem hj',e]
 | some l=>exact absurd (List.mem_of_getElem? (h.at2 j l (by rw[Array.getElem?_eq_getElem hj',e]))) hn
theorem LI.put{m:Nat}{owner:Array (Option Nat)}{js:List Nat}(h:LI m owner js){j:Nat}(hj:(owner.getD j (some 0)).isNone=true):LI m (owner.setIfInBounds j (some js.length)) (js++[j]):=by
 have hlt:j<owner.size:=by
  rcases Nat.lt_or_ge j owner.size with z|z
  .exact z
  .rw[Array.getD_eq_getD_getElem?,Array.getElem?_eq_none z] at hj; cases hj
 have hno:owner[j]? = some none:=by
  rw[Array.getD_eq_getD_getElem?,Array.getElem?_eq_getElem hlt] at hj;rw[Array.getElem?_eq_getElem hlt];cases e:owner[j] with
  | none=>rfl
  | some l=>rw[e] at hj; cases hj
 have hjn:j∉js:=fun z=>by
  obtain⟨l,hl⟩:=List.getElem?_of_mem z;rw[h.at1 l j hl] at hno; cases hno
 refine⟨by rw[Array.size_setIfInBounds]; exact h.sz,?_,fun l i e=>?_,fun i l e=>?_⟩
 .rw[List.nodup_append]
  exact⟨h.nd,List.pairwise_singleton _ _,fun a ha b hb e=>by rw[List.mem_singleton] at hb; subst hb; subst e; exact hjn ha⟩
 .rw[Array.getElem?_setIfInBounds]
  rcases Nat.lt_or_ge l js.length with z|z
  .rw[List.getElem?_append_left z] at e
   have hne:j≠i:=fun q=>hjn (q ▸ List.mem_of_getElem? e);rw[if_neg hne];exact h.at1 l i e
  .rw[List.getElem?_append_right z] at e
   have hl:l-js.length=0:=by
    rcases Nat.eq_zero_or_pos (l-js.length) with q|q
    .exact q
    .rw[List.getElem?_eq_none (by simp; omega)] at e; cases e
   rw[hl] at e;have:i=j:=by simpa using e.symm
   subst this;have:l=js.length:=by omega
   subst this;rw[if_pos rfl,if_pos hlt]
 .rw[Array.getElem?_setIfInBounds] at e
  by_cases hi:j=i
  .subst hi
   rw[if_pos rfl,if_pos hlt] at e;have:js.length=l:=by simpa using e
   subst this;simp
  .rw[if_neg hi] at e
   have:=h.at2 i l e;rw[List.getElem?_append_left (List.getElem?_eq_some_iff.mp this).1];exact this
theorem V0{m:Nat}(hm:Msk m)(hashes:Array Int)(hs:hashes.size<=m):∃owner js,SetTable.layClean m hashes=some owner/\LI m owner js/\js.length=hashes.size:=by
 have key:∀(hl:List Int) (owner:Array (Option Nat)) (js:List Nat),LI m owner js->js.length+hl.length<=m->∃owner' js',(hl.foldl (fun acc h=>do
   let(owner,k) <- acc
   let j <- SetTable.layClean.free m owner (SetTable.turns m) (SetTable.bits h % (m+1)) (SetTable.bits h)
   pure (owner.setIfInBounds j (some k),k+1)) (some (owner,js.length)))=some (owner',js'.length)/\LI m owner' js'/\js'.length=js.length+hl.length:=by
  intro hl;induction hl with
  | nil=>intro owner js h _; exact⟨owner,js,rfl,h,rfl⟩
  | cons x hl ih =>
   intro owner js h hlen;rw[List.length_cons] at hlen;obtain⟨j0,j1,j2⟩:=Yi (m+1) js (by omega);have hn:=h.non (show j0<=m by omega) j2;have h0:(owner.getD j0 (some 0)).isNone=true:=by rw[Array.getD_eq_getD_getElem?,hn]; rfl
   have hb:SetTable.bits x % (m+1)<=m:=by
    have:=Nat.mod_lt (SetTable.bits x) (show 0<m+1 by omega);omega
   have hp:SetTable.bits x<2 ^ 64:=(Jl (t:={ mask:=m,place:=#[],dummies:=#[],finger:=0,led:=true,moves:=0,plain:=true }) x).pb;obtain⟨s,s1,s2,s3⟩:=reach hm hb hp (show j0<=m by omega);obtain⟨j,f1,f2⟩:=SI h0 s (SetTable.turns m) _ _ (by unfold SetTable.turns; omega) hb s3;have hp2:=h.put f2;obtain⟨o',js',e1,e2,e3⟩:=ih _ _ hp2 (by rw[List.length_append,List.length_singleton]; omega);refine⟨o',js',?_,e2,by rw[e3,List.length_append,List.length_singleton,List.length_cons]; omega⟩;rw[List.foldl_cons];rw[List.length_append,List.length_singleton] at e1;rw[<- e1];congr 1;show((SetTable.layClean.free m owner (SetTable.turns m) (SetTable.bits x % (m+1)) (SetTable.bits x)).bind fun j=>some (owner.setIfInBounds j (some js.length),js.length+1))=_;rw[f1]; rfl
 have st:LI m (Array.replicate (m+1) none) []:=⟨by simp,List.nodup_nil,fun l j e=>by simp at e,fun j l e=>by
  rw[Array.getElem?_replicate] at e;split at e
  .cases e
  .cases e⟩
 obtain⟨o',js',e1,e2,e3⟩:=key hashes.toList _ [] st (by simpa using hs);refine⟨o',js',?_,e2,by simpa using e3⟩;unfold SetTable.layClean;rw[<- Array.foldl_toList];have e1:_=some (o',js'.length):=e1;rw[List.length_nil] at e1;rw[e1]; rfl
theorem len_sub{a b:List Nat}(ha:a.Nodup):(∀x∈a,x∈b)->a.length<=b.length:=by
 induction a generalizing b with
 | nil=>intro _; exact Nat.zero_le _
 | cons x a ih =>
  intro h;rw[List.nodup_cons] at ha;have hx:=h x List.mem_cons_self;have:=ih (b:=b.erase x) ha.2 fun y hy=>by
   have:y≠x:=fun e=>ha.1 (e ▸ hy);exact(List.mem_erase_of_ne this).mpr (h y (List.mem_cons_of_mem _ hy))
  rw[List.length_erase_of_mem hx] at this;have:=List.length_pos_of_mem hx;rw[List.length_cons];omega
noncomputable def live(m:Nat)(owner:Array (Option Nat)):List (Nat×Nat):=(List.range (m+1)).filterMap fun j=>(owner.getD j none).map (j,·)
theorem IB{m:Nat}{owner:Array (Option Nat)}{js:List Nat}(h:LI m owner js){j l:Nat}:(j,l)∈live m owner↔js[l]? = some j:=by
 have hs:=h.sz;unfold live;rw[List.mem_filterMap];constructor
 .rintro ⟨i,hi,e⟩
  rw[map_eq_some_iff] at e;obtain⟨o,e1,e2⟩:=e;have hj:i=j:=congrArg Prod.fst e2;have ho:o=l:=congrArg Prod.snd e2;subst hj;subst ho;refine h.at2 i o ?_;rw[Array.getD_eq_getD_getElem?] at e1;cases q:owner[i]? with
  | none=>rw[q] at e1; cases e1
  | some x=>rw[q] at e1; have:x=some o:=e1; rw[this]
 .intro e
  have e1:=h.at1 l j e;have hj:=(Array.getElem?_eq_some_iff.mp e1).1;refine⟨j,List.mem_range.mpr (by omega),?_⟩;rw[Array.getD_eq_getD_getElem?,e1]; rfl
theorem LG(m:Nat)(owner:Array (Option Nat)):(live m owner).map (·.1)=(List.range (m+1)).filter fun j=>(owner.getD j none).isSome:=by
 have key:∀(l:List Nat),(l.filterMap fun j=>(owner.getD j none).map (j,·)).map (·.1)=l.filter fun j=>(owner.getD j none).isSome:=by
  intro l;induction l with
  | nil=>rfl
  | cons j l ih =>
   rw[List.filterMap_cons,List.filter_cons];cases e:owner.getD j none with
   | none=>exact ih
   | some x=>exact congrArg (j :: ·) ih
 exact key _
theorem QD{m:Nat}{owner:Array (Option Nat)}{js:List Nat}(h:LI m owner js):(live m owner).length=js.length:=by
 have e:=LG m owner;have nd:((live m owner).map (·.1)).Nodup:=by rw[e]; exact List.Pairwise.filter _ List.nodup_range
 have mem:∀j,j∈(live m owner).map (·.1)↔j∈js:=fun j=>by
  rw[List.mem_map];constructor
  .rintro ⟨⟨i,l⟩,h1,rfl⟩
   exact List.mem_of_getElem? ((IB h).mp h1)
  .intro hj
   obtain⟨l,hl⟩:=List.getElem?_of_mem hj;exact⟨(j,l),(IB h).mpr hl,rfl⟩
 have h1:=len_sub nd fun x hx=>(mem x).mp hx;have h2:=len_sub h.nd fun x hx=>(mem x).mpr hx;rw[List.length_map] at h1 h2;omega
structure TI (t:SetTable) (n:Nat) (led:Bool):Prop where
 ms:Msk t.mask
 dm:t.dummies = #[]
 up:Up t.place
 sz:t.place.size=n
 le:∀j∈t.place.toList,j<=t.mask
 fl:n*5<t.mask*3
 ld:t.led=led
theorem S9{m:Nat}(hm:Msk m){finger moves:Nat}{led plain:Bool}{hashes:Array Int}(hf:hashes.size*5<m*3):∃t order,SetTable.laid m finger moves led plain hashes=some (t,order)/\TI t hashes.size led/\order.size=hashes.size/\∀l∈order.toList,l<hashes.size:=by
 obtain⟨owner,js,e1,h,hl⟩:=V0 hm hashes (by omega);have hlen:=QD h;have hfst:=LG m owner;refine⟨_,_,by unfold SetTable.laid; rw[e1]; rfl,⟨hm,rfl,?_,?_,fun j hj=>?_,hf,rfl⟩,?_,fun l hl'=>?_⟩
 .show((live m owner).map (·.1)).Pairwise (· < ·)
  rw[hfst];exact List.Pairwise.filter _ List.pairwise_lt_range
 .show((live m owner).map (·.1)).toArray.size=_
  simp[hlen,hl]
 .have hj:j∈((live m owner).map (·.1)).toArray.toList:=hj
  rw[List.toList_toArray] at hj;rw[hfst,List.mem_filter,List.mem_range] at hj;show j<=m;omega
 .show((live m owner).map (·.2)).toArray.size=_
  simp[hlen,hl]
 .have hl':l∈((live m owner).map (·.2)).toArray.toList:=hl'
  rw[List.toList_toArray] at hl';obtain⟨⟨j,l'⟩,h1,rfl⟩:=List.mem_map.mp hl';have:=(List.getElem?_eq_some_iff.mp ((IB h).mp h1)).1;show l'<_;omega
end Sp
end
section
namespace Sp
open PySem PySem.Spec PyProof.Rows L2 Sg
section
variable{P:Program}{w:World}{H:Hp}{A:Around}{E:Value->Shared->Prop}
theorem XS{x:V}{d:D}(r:KR H x d):∀{A:Around} {n:Nat} {v:Value} {s:Shared} {Q:Bool->Shared->Prop},HOk P w H s.heap->RelV x v->(∀b,Q b s)->wpAny (model P w) A (hashByValue n v) Q E s:=by
 induction r with
 | non=>intro A n v s Q hok rx h; cases rx; cases n<;>exact wpAny_pure (h _)
 | int i=>intro A n v s Q hok rx h; obtain⟨t,rfl⟩:=rx; cases n<;>exact wpAny_pure (h _)
 | str y hy=>intro A n v s Q hok rx h; obtain⟨t,rfl⟩:=rx; cases n<;>exact wpAny_pure (h _)
 | @tup a vs ds hH hz hl hr ih =>
  intro A n v s Q hok rx h;cases rx;cases n with
  | zero=>exact wpAny_pure (h _)
  | succ n =>
   obtain⟨_,its,rv,o,ho,hc,k,hd⟩:=(show Bg P w H s.heap a (.tup vs) from hok a _ hH);have hlen:=rv.length;have hT:s.TypeIs (.ref a) "tuple" := ⟨_,ho,hc⟩;unfold hashByValue;refine wpAny_bind (wpAny_specialOf hT F.slot_tuple_hash.lookup ?_);show wpAny _ _ (seqItems? (.ref a) >>= _) _ _ s;refine wpAny_bind (wpAny_seqItems ho hd ?_);refine wpAny_bind ?_;show wpAny _ _ (forIn its.toArray _ _) _ _ s;rw[<- Array.forIn_toList];refine wpAny_forIn_list _ (fun rest r s'=>s'=s/\∃j,rest=its.drop j) _ ?_ ?_ _ _ ⟨rfl,0,by simp⟩
   .rintro u rest r s' ⟨rfl,j,hj⟩
    have hlt:j<its.length:=by
     rcases Nat.lt_or_ge j its.length with z|z
     .exact z
     .rw[List.drop_eq_nil_of_le z] at hj; cases hj
    rw[List.drop_eq_getElem_cons hlt] at hj;injection hj with e1 e2
    have d1:ds[j]? = some (ds[j]'(by lia)):=by simp
    have v1:vs[j]? = some (vs[j]'(by lia)):=by simp
    obtain⟨u',hu',ru⟩:=rv.get v1;rw[List.getElem?_eq_getElem hlt,<- e1] at hu';injection hu' with hu';subst hu';refine wpAny_bind (ih j _ _ v1 d1 (n:=n) hok ru fun b=>?_);cases b
    .exact wpAny_pure (wpAny_pure (h _))
    .exact wpAny_pure ⟨rfl,j+1,e2⟩
   .rintro ⟨r1,r2⟩ s' ⟨rfl,_⟩
    cases r1<;>exact wpAny_pure (h _)
theorem X7{x:V}{d:D}(r:KR H x d):∀{A:Around} {n:Nat} {v:Value} {s:Shared} {Q:Bool->Shared->Prop},HOk P w H s.heap->RelV x v->Sh n d->Q false s->wpAny (model P w) A (ofAClassStatement n v) Q E s:=by
 induction r with
 | non=>intro A n v s Q hok rx hs h; cases rx; cases n<;>exact wpAny_pure h
 | int i=>intro A n v s Q hok rx hs h; obtain⟨t,rfl⟩:=rx; cases n<;>exact wpAny_pure h
 | str y hy=>intro A n v s Q hok rx hs h; obtain⟨t,rfl⟩:=rx; cases n<;>exact wpAny_pure h
 | @tup a vs ds hH hz hl hr ih =>
  intro A n v s Q hok rx hs h;cases rx;cases hs with
  | @tup n _ hs =>
   obtain⟨_,its,rv,o,ho,hc,k,hd⟩:=(show Bg P w H s.heap a (.tup vs) from hok a _ hH);have hlen:=rv.length;have hT:s.TypeIs (.ref a) "tuple" := ⟨_,ho,hc⟩;unfold ofAClassStatement;refine wpAny_bind (wpAny_typeOf hT ?_);dsimp only;rw[if_pos (beq_self_eq_true _)];refine wpAny_bind (wpAny_pure ?_);simp only[Bool.not_true,Bool.false_eq_true,if_false];refine wpAny_bind (wpAny_seqItems ho hd ?_);dsimp only;refine wpAny_bind ?_;show wpAny _ _ (forIn its.toArray _ _) _ _ s;rw[<- Array.forIn_toList];refine wpAny_forIn_list _ (fun rest r s'=>r.1=none/\s'=s/\∃j,rest=its.drop j) _ ?_ ?_ _ _ ⟨rfl,rfl,0,by simp⟩
   .rintro u rest r s' ⟨hr',rfl,j,hj⟩
    have hlt:j<its.length:=by
     rcases Nat.lt_or_ge j its.length with z|z
     .exact z
     .rw[List.drop_eq_nil_of_le z] at hj; cases hj
    rw[List.drop_eq_getElem_cons hlt] at hj;injection hj with e1 e2
    have d1:ds[j]? = some (ds[j]'(by lia)):=by simp
    have v1:vs[j]? = some (vs[j]'(by lia)):=by simp
    obtain⟨u',hu',ru⟩:=rv.get v1;rw[List.getElem?_eq_getElem hlt,<- e1] at hu';injection hu' with hu';subst hu';refine wpAny_bind (ih j _ _ v1 d1 (n:=n) hok ru (hs _ (List.mem_of_getElem? d1)) ?_);simp only[Bool.false_eq_true,if_false];exact wpAny_pure ⟨rfl,rfl,j+1,e2⟩
   .rintro ⟨r1,r2⟩ s' ⟨hr',rfl,_⟩
    simp only at hr';subst hr';exact wpAny_pure h
end
section
variable{P:Program}{w:World}{H:Hp}{A:Around}{E:Value->Shared->Prop}{s:Shared}
theorem Xx(hok:HOk P w H s.heap)(hu:A.units+8<cLine){d:D}{x:Value}{stored:List Value}{Q:Bool->Shared->Prop}(hk:KU H d x)(hst:∀v∈stored,∃e,KU H e v)(h:Q false s):wpAny (model P w) A (searchCouldBeSeen x stored) Q E s:=by
 have K:=KU.rel (A:=A) hok hu;have nk:∀{d:D} {u:Value} {Q:Bool->Shared->Prop},KU H d u->Q false s->wpAny (model P w) A (ofAClassStatement 8 u) Q E s:=fun⟨h1,y1,k1,r1⟩ h=>X7 k1 hok r1 h1 h;unfold searchCouldBeSeen;refine wpAny_bind (wpAny_forIn_list _ (fun rest r s'=>s'=s/\r=(none,())/\∀v∈rest,∃e,KU H e v) _ ?_ ?_ _ _ ⟨rfl,rfl,hst⟩)
 .rintro y rest r s' ⟨rfl,rfl,hr⟩
  obtain⟨e,hy⟩:=hr y List.mem_cons_self;have nx:∀v∈rest,∃e,KU H e v:=fun v hv=>hr v (List.mem_cons_of_mem _ hv);dsimp only;refine FO ?_ ?_
  .exact wpAny_pure ⟨rfl,rfl,nx⟩
  .refine wpAny_bind (K.quiet hk ?_)
   simp only[Bool.not_true,Bool.false_eq_true,if_false];refine wpAny_bind (K.quiet hy ?_);simp only[Bool.not_true,Bool.false_eq_true,if_false];refine wpAny_bind (nk hk ?_);simp only[Bool.false_eq_true,if_false];refine wpAny_bind (nk hy ?_);simp only[Bool.false_eq_true,if_false];exact wpAny_pure ⟨rfl,rfl,nx⟩
 .rintro r s' ⟨rfl,rfl,_⟩
  exact wpAny_pure h
noncomputable def Jr:D->Bool
 | .tup _=>true
 | _=>false
theorem Qv{d:D}{u:Value}(h:KU H d u)(ht:Jr d=true):∃a,u=.ref a:=by
 obtain⟨_,y,ky,ry⟩:=h;cases ky with
 | tup=>cases ry; exact⟨_,rfl⟩
 | _=>cases ht
theorem TI.fits{t:SetTable}{n:Nat}{led:Bool}(h:TI t n led):t.fits n=true:=by
 unfold SetTable.fits SetTable.fill;rw[h.sz,h.dm];have:=h.fl;simp;omega
theorem TI.odd{t:SetTable}{n:Nat}{led:Bool}(h:TI t n led):t.gaveWay=false:=by
 unfold SetTable.gaveWay;rcases h.ms with e|e|e<;>rw[e]<;>rfl
theorem Nn{t:SetTable}{n:Nat}{led:Bool}(ti:TI t n led){h:Int}{k:Nat}{p:SetTable.Probe}(hk:k<10*SetTable.turns t.mask)(ok:PrOk t.mask p)(he:t.slot (adv t k p).j=.empty):
  ∀(f:Nat->Int) (met:Option SetTable.Met),t.probe f h p=met->(∃j,met=some (.empty j none)/\t.slot j=.empty/\j<=t.mask)\/(∃j i next k',met=some (.candidate j i next)/\t.slot j=.live i/\PrOk t.mask next/\k'<k/\t.slot (adv t k' next).j=.empty):=by
 intro f met e;subst e;rcases SK (f:=f) (h:=h) ti.dm k _ p hk ok he with ⟨j,h1,h2,h3⟩|⟨j,i,next,k',h1,h2,_,h3,h4,h5⟩
 .exact .inl ⟨j,h1,h2,h3⟩
 .exact .inr ⟨j,i,next,k',h1,h2,h3,h4,h5⟩
theorem Tc{t:SetTable}{j i:Nat}(h:t.slot j=.live i):i<t.place.size:=by
 unfold SetTable.slot at h;dsimp only at h;split at h
 .rename_i q
  injection h with h
  rw[<- h];have q:=eq_of_beq q;exact(Array.getElem?_eq_some_iff.mp q).1
 .split at h<;>cases h
noncomputable def ElT(H:Hp)(ks:List D)(es:Array (Int×Value)):Prop:=∀e∈es.toList,∃k∈ks,Jr k=true/\KU H k e.2
theorem Pg{a:Addr}{o:Obj}{es:Array (Int×Value)}{ep:Nat}{t:SetTable}{led:Bool}{ks:List D}{d:D}{x:Value}{hh:Int}{Q:SetFound->Shared->Prop}(hok:HOk P w H s.heap)(hu:A.units+8<cLine)(e1:s.heap.get? a=some o)(e2:o.data=.set es ep t)(ti:TI t es.size led)(el:ElT H ks es)(hk:KU H d x)(hd:d∉ks)(h:∀j,t.slot j=.empty->j<=t.mask->Q (.free j false) s):
  ∀(k fuel:Nat) (st:Option SetTable.Probe),k<fuel->k<10*SetTable.turns t.mask->PrOk t.mask (st.getD (t.probeStart hh))->t.slot (adv t k (st.getD (t.probeStart hh))).j=.empty->wpAny (model P w) A (setSearchFrom a x hh true fuel st) Q E s:=by
 intro k;induction k using Nat.strongRecOn with
 | _ k ih =>
  intro fuel st hf hk1 ok he;obtain⟨fuel,rfl⟩:∃n,fuel=n+1:=⟨fuel-1,by omega⟩;have key:=Nn ti (h:=hh) hk1 ok he;have key2:∀f,(∀met,t.probe f hh (st.getD (t.probeStart hh))=some met->False)->False:=fun f q=>by
   rcases key f _ rfl with ⟨j,z,_⟩|⟨j,i,next,k',z,_⟩<;>exact q _ z
  unfold setSearchFrom;refine wpAny_bind (wpAny_setState_of e1 e2 ti.fits ?_);dsimp only;rw[ti.odd];simp only[Bool.false_eq_true,if_false];split
  .rename_i met q
   rcases key _ _ q with ⟨j,z,h1,h2⟩|⟨j,i,next,k',z,h1,h2,h3,h4⟩
   .cases z
    exact wpAny_pure (h j h1 h2)
   .cases z
    have hi:=Tc h1;rw[ti.sz] at hi;have hy:es[i]? = some es[i]:=Array.getElem?_eq_getElem hi;have hm:es[i]∈es.toList:=by simp
    obtain⟨k0,m0,t0,u0⟩:=el _ hm;have rest:wpAny (model P w) A (do
      let some (_,y):=es[i]? | unsupported "internal:set-entry"
      let equal <- holding [y] (eqBool y x)
      let(es',_,t') <- setState a
      if true&&equal then return .there none
      let some same:=t'.sameMemory t.moves t.mask|unsupported "set.changed-during-lookup:is-the-new-block-at-the-old-address"
      let still <- match (if same then t'.slot j else .empty) with
       | .live i'=>match es'[i']? with
        | some (_,y')=>do pure (if <- isSame y' y then some i' else none)
        | none=>pure none
       | _=>pure none
      match still with
      | none=>rule "set.search.anew"; setSearchFrom a x hh true fuel none
      | some i'=>if equal then return .there (some i') else setSearchFrom a x hh true fuel (some next)) Q E s:=by
     rw[hy];generalize es[i]=ei at hy hm u0;obtain⟨hi',y⟩:=ei;dsimp only at u0 |-;obtain⟨ya,rfl⟩:=Qv u0 t0;refine wpAny_bind (wpAny_holding ((KU.rel (A:=A) hok hu).eq u0 hk P w E _ (wpAny_bind (wpAny_setState_of e1 e2 ti.fits ?_))));have hne:k0≠d:=fun z=>hd (z ▸ m0);rw[decide_eq_false hne];rw[if_neg (show ¬((true&&false)=true) by decide)];have sm:t.sameMemory t.moves t.mask=some true:=by unfold SetTable.sameMemory; rw[if_pos (beq_self_eq_true _)]
     rw[sm];dsimp only;rw[if_pos rfl,h1];dsimp only;rw[hy];dsimp only;refine wpAny_bind (wpAny_isSame_ref_self (wpAny_bind (wpAny_pure ?_)));rw[if_pos rfl];dsimp only;rw[if_neg Bool.false_ne_true];exact ih k' h3 fuel (some next) (by omega) (by omega) h2 h4
    cases hl:t.led with
    | true=>exact rest
    | false =>
     simp only[Bool.not_false,if_true];refine wpAny_bind (Xx hok hu hk (fun v hv=>?_) ?_)
     .obtain⟨e,he',rfl⟩:=List.mem_map.mp hv
      rw[Array.toList_filter,List.mem_filter] at he';obtain⟨k1,_,_,u1⟩:=el e he'.1;exact⟨k1,u1⟩
     .exact rest
  .rename_i q
   exact(key2 _ q).elim
end
section
variable{P:Program}{w:World}{H:Hp}{A:Around}{E:Value->Shared->Prop}{s:Shared}
theorem TH{es:Array (Int×Value)}{order:Array Nat}(hl:∀l∈order.toList,l<es.size):(order.filterMap (es[·]?)).size=order.size/\∀e∈(order.filterMap (es[·]?)).toList,e∈es.toList:=by
 rw[<- Array.length_toList,Array.toList_filterMap];constructor
 .rw[<- Array.length_toList]
  generalize order.toList=l at hl;induction l with
  | nil=>rfl
  | cons x l ih =>
   have hx:=hl x List.mem_cons_self;rw[List.filterMap_cons,Array.getElem?_eq_getElem hx];show(List.filterMap _ l).length+1=l.length+1;rw[ih fun y hy=>hl y (List.mem_cons_of_mem _ hy)]
 .intro e he
  obtain⟨l,_,h2⟩:=List.mem_filterMap.mp he;rw[<- Array.getElem?_toList] at h2;exact List.mem_of_getElem? h2
theorem RA{a:Addr}{o:Obj}{es:Array (Int×Value)}{ep:Nat}{t:SetTable}{led:Bool}{wanted m:Nat}{Q:Unit->Shared->Prop}(e1:s.heap.get? a=some o)(e2:o.data=.set es ep t)(ft:t.fits es.size=true)(hw:SetTable.sizeAbove wanted=m+1)(hm:Msk m)(hf:es.size*5<m*3)(ld:t.led=led)(h:∀es' t',TI t' es'.size led->es'.size=es.size->(∀e∈es'.toList,e∈es.toList)->Q () { s with heap:=s.heap.update a (Obj.putSet es' t') }):
  wpAny (model P w) A (setRelay a wanted) Q E s:=by
 have m127:m<=127:=by rcases hm with e|e|e<;>omega
 obtain⟨t',order,q1,q2,q3,q4⟩:=S9 hm (finger:=t.finger) (moves:=t.movedTo m) (led:=led) (plain:=t.plain) (hashes:=es.map (·.1)) (by rw[Array.size_map]; exact hf);rw[Array.size_map] at q2 q3 q4;obtain⟨p1,p2⟩:=TH q4;have q1':t.relaid (es.map (·.1)) wanted=some (t',order):=by unfold SetTable.relaid; rw[hw,Nat.add_sub_cancel,ld]; exact q1
 unfold setRelay;refine wpAny_bind (wpAny_setState_of e1 e2 ft ?_);dsimp only;rw[hw,if_neg (by rw[sizeLine_eq]; omega),q1'];refine wpAny_bind ?_;show wpAny _ _ (if ((order.filterMap (es[·]?)).size != es.size)=true then unsupported "internal:set-table-lost-an-element" else pure (order.filterMap (es[·]?),t')) _ _ s;have e:(order.filterMap (es[·]?)).size=es.size:=p1.trans q3;rw[if_neg (by rw[e]; simp)];refine wpAny_pure ?_;dsimp only;refine wpAny_storeSet_of e1 e2 (h _ _ (by rw[e]; exact q2) e p2) ?_;rw[e,sizeLine_eq];omega
noncomputable def SG(H:Hp)(o:Obj)(ks:List D)(led:Bool):Prop:=o.ExactSet/\∃es ep t,o.data=.set es ep t/\TI t es.size led/\es.size=ks.length/\ElT H ks es
theorem Vj{a:Addr}{o:Obj}{ks:List D}{led:Bool}{d:D}{x:Value}{hh:Int}{Q:Bool->Shared->Prop}(hok:HOk P w H s.heap)(hu:A.units+8<cLine)(e1:s.heap.get? a=some o)(g:SG H o ks led)(hk:KU H d x)(ht:Jr d=true)(hd:d∉ks)(hb:ks.length<64)(h:∀(h':Heap) (o':Obj),Heap.SameBut a s.heap h'->h'.get? a=some o'->SG H o' (ks++[d]) led->Q true { s with heap:=h' }):
  wpAny (model P w) A (setAddHashed a x hh) Q E s:=by
 obtain⟨hx,es,ep,t,e2,ti,hz,el⟩:=g;obtain⟨xa,rfl⟩:=Qv hk ht;have m127:t.mask<=127:=by rcases ti.ms with e|e|e<;>omega
 unfold setAddHashed setAddHashedIn;refine wpAny_holding ?_;refine wpAny_bind (wpAny_setState_of e1 e2 ti.fits ?_);dsimp only;rw[if_neg (show ¬(byScan (.ref xa) es=true) from by unfold byScan; rw[show Value.scannable (.ref xa)=false from rfl]; simp)];have hfl:=ti.fl;obtain⟨j0,j1,j2⟩:=PQ ti.dm (by rw[ti.sz]; omega);obtain⟨k,k1,k2⟩:=meets ti.ms (Jl (t:=t) hh) j1;refine wpAny_bind (Pg (d:=d) (ks:=ks) hok hu e1 e2 ti el hk hd (fun j jj1 jj2=>?_) k 100000 none (by unfold SetTable.turns at k1; omega) k1 (Jl hh) (by rw[show(none:Option SetTable.Probe).getD (t.probeStart hh)=t.probeStart hh from rfl,k2]; exact j2));dsimp only;refine wpAny_bind (wpAny_setState_of e1 e2 ti.fits ?_)
 -- the table with one more
 have hins:(SetTable.insertAt t.place (SetTable.below t.place j) j).size=es.size+1:=by
  rw[<- Array.length_toList,SetTable.toList_insertAt];have:=ti.sz;have:=(Im (j:=j) ti.up).2.2;simp;omega
 have hmem:∀i∈(SetTable.insertAt t.place (SetTable.below t.place j) j).toList,i<=t.mask:=fun i hi=>by
  rw[SetTable.toList_insertAt] at hi;rcases List.mem_append.mp hi with hi|hi
  .exact ti.le i (List.mem_of_mem_take hi)
  .rcases List.mem_cons.mp hi with rfl|hi
   .exact jj2
   .exact ti.le i (List.mem_of_mem_drop hi)
 have hup:=Xz ti.up (NC jj1);obtain⟨t1,p1,ep1,em,ed,epl,eld,ept⟩:∃t1 p1,t.put j=(t1,p1)/\t1.mask=t.mask/\t1.dummies = #[]/\t1.place=SetTable.insertAt t.place (SetTable.below t.place j) j/\t1.led=led/\p1=SetTable.below t.place j:=by
  refine⟨_,_,rfl,rfl,?_,rfl,ti.ld,rfl⟩;show(if SetTable.has t.dummies j=true then _ else t.dummies) = #[];rw[ti.dm,Kt,if_neg Bool.false_ne_true]
 rw[ep1];dsimp only;have hsz1:(SetTable.insertAt es p1 (hh,Value.ref xa)).size=es.size+1:=by
  rw[<- Array.length_toList,SetTable.toList_insertAt];have:=ti.sz;have:=(Im (j:=j) ti.up).2.2;simp;omega
 have el1:ElT H (ks++[d]) (SetTable.insertAt es p1 (hh,Value.ref xa)):=fun e he=>by
  have old:e∈es.toList->_:=fun z=>(el e z).imp fun k q=>(⟨List.mem_append_left _ q.1,q.2⟩:k∈ks++[d]/\Jr k=true/\KU H k e.2);rw[SetTable.toList_insertAt] at he;rcases List.mem_append.mp he with he|he
  .exact old (List.mem_of_mem_take he)
  .rcases List.mem_cons.mp he with rfl|he
   .exact⟨d,by simp,ht,hk⟩
   .exact old (List.mem_of_mem_drop he)
 generalize hes1:SetTable.insertAt es p1 (hh,Value.ref xa)=es1 at hsz1 el1;have after:∀t2:SetTable,t2.mask=t.mask->t2.dummies = #[]->t2.place=SetTable.insertAt t.place (SetTable.below t.place j) j->t2.led=led->wpAny (model P w) A (do
   storeSet a es1 t2
   if !false&&t2.tooFull then setRelay a (SetTable.grown (es.size+1))
   return true) Q E s:=fun t2 m2 d2 p2 l2=>by
  have f2:t2.fits es1.size=true:=by
   unfold SetTable.fits SetTable.fill;rw[p2,hins,d2,m2,hsz1];simp;omega
  refine wpAny_bind (wpAny_storeSet_of e1 e2 ?_ (by rw[hsz1,sizeLine_eq]; omega));have e3:=Ol (es':=es1) (t':=t2) e1 e2;have sb:=Heap.SameBut.update s.heap a (Obj.putSet es1 t2);have hlen:es1.size=(ks++[d]).length:=by rw[List.length_append,List.length_singleton,hsz1,hz]
  have tf:t2.tooFull=decide ((es.size+1)*5 ≥ t.mask*3):=by unfold SetTable.tooFull SetTable.fill; rw[p2,hins,d2,m2]; rfl
  by_cases full:(es.size+1)*5 ≥ t.mask*3
  .rw[tf,decide_eq_true full,if_pos (by decide)]
   have hm:∃m,SetTable.sizeAbove (SetTable.grown (es.size+1))=m+1/\Msk m/\es1.size*5<m*3:=by
    rcases ti.ms with e|e|e
    .have:es.size=4:=by omega
     rw[hsz1,this];exact⟨31,dK,.inr (.inl rfl),by decide⟩
    .have:es.size=18:=by omega
     rw[hsz1,this];exact⟨127,dK,.inr (.inr rfl),by decide⟩
    .omega
   obtain⟨m,w1,w2,w3⟩:=hm;refine wpAny_bind (RA (s:={ s with heap:=s.heap.update a (Obj.putSet es1 t2) }) e3 rfl f2 w1 w2 w3 l2 fun es' t' r1 r2 r3=>wpAny_pure ?_);have e4:=Ol (es':=es') (t':=t') e3 rfl;exact h _ _ (sb.trans (Heap.SameBut.update _ a _)) e4 ⟨hx,es',_,t',rfl,r1,r2.trans hlen,fun e he=>el1 e (r3 e he)⟩
  .rw[tf,decide_eq_false full,if_neg (by decide)]
   refine wpAny_bind (wpAny_pure (wpAny_pure (h _ _ sb e3 ⟨hx,es1,_,t2,rfl,⟨by rw[m2]; exact ti.ms,d2,by rw[p2]; exact hup,by rw[p2,hins,hsz1],fun i hi=>by rw[m2]; exact hmem i (by rw[<- p2]; exact hi),by rw[hsz1,m2]; omega,l2⟩,hlen,el1⟩)))
 have aft:∀b:Bool,wpAny (model P w) A (do
   let t:=if b then t1 else { t1 with plain:=false }
   storeSet a es1 t
   if !false&&t.tooFull then setRelay a (SetTable.grown (es.size+1))
   return true) Q E s:=fun b=>by
  cases b
  .exact after { t1 with plain:=false } em ed epl eld
  .exact after t1 em ed epl eld
 obtain⟨_,y,ky,ry⟩:=id hk;split
 .exact wpAny_bind (XS ky hok ry fun b=>aft b)
 .exact wpAny_bind (wpAny_pure (aft true))
end
section
variable{P:Program}{w:World}{H:Hp}{A:Around}{E:Value->Shared->Prop}{s:Shared}
theorem N1{h h':Heap}(x:HOk P w H h)(k:∀b u,H b≠none->h.get? b=some u->h'.get? b=some u):HOk P w H h':=fun a o e =>
 (x a o e).stay (fun b u z q=>k b u (by
  rcases z with z|z
  .rw[z,e]; exact fun n=>nomatch n
  .rw[z]; exact fun n=>nomatch n) q) (fun _ q=>q) fun _ _ q=>q
theorem Mq{R:Result->Shared->Prop}{S I l:Addr}{its:Array Value}{ds:List D}{led:Bool}(hh:A.handled=none)(hu:A.units+10<cLine)(hz:its.size=ds.length)(hv:∀(i:Nat) (d:D),ds[i]? = some d->∃u,its[i]? = some u/\Jr d=true/\KU H d u)(nd:ds.Nodup)(hb:ds.length<=64)(nS:H S=none)(nI:H I=none)(n1:l≠I)(n2:S≠I)(n3:S≠l):
  ∀(m i:Nat) (s:Shared) (o:Obj),its.size-i=m->i<=its.size->HOk P w H s.heap->s.heap.IsListIter I l i->s.heap.IsList l its->s.heap.get? S=some o->SG H o (ds.take i) led ->
   (∀(h':Heap) (tk:Nat) (o':Obj),(∀b u,b≠S->b≠I->s.heap.get? b=some u->h'.get? b=some u)->h'.get? S=some o'->SG H o' ds led->R (.ok (.ret .none)) { s with heap:=h',toks:=tk }) ->
   codeAny (model P w) A (.builtin "set.update.loop" ⟨[.ref S,.ref I],[]⟩) R s:=by
 have keepS:∀{h1 h2:Heap},Heap.SameBut S h1 h2->HOk P w H h1->HOk P w H h2:=fun sb x=>N1 x fun b u nb q=>(sb.2 b (fun z=>nb (z ▸ nS))).trans q;have keepI:∀{h1 h2:Heap},Heap.SameBut I h1 h2->HOk P w H h1->HOk P w H h2:=fun sb x=>N1 x fun b u nb q=>(sb.2 b (fun z=>nb (z ▸ nI))).trans q;intro m;induction m with
 | zero =>
  intro i s o e0 le hok it il so g k;have:i=its.size:=by lia
  subst this;refine codeAny_builtin J9 ?_;rw[Around.under_plainId HF];show wpAny _ A.in1 (do let r <- pyNext (.ref I); _) _ _ s;refine wpAny_bind (wpAny_pyNext_list_end (A:=A.in1) hh it il (by simp) fun h1 eb=>wpAny_pure ?_);refine k h1 s.toks o (fun b u _ hb2 q=>eb b u hb2 q) (eb S o n2 so) ?_;rw[hz,List.take_length] at g;exact g
 | succ m ih =>
  intro i s o e0 le hok it il so g k;have lt:i<its.size:=by lia
  have ltn:i<ds.length:=by lia
  obtain⟨u,hx,ht,hk⟩:=hv i ds[i] (by simp);refine codeAny_builtin J9 ?_;rw[Around.under_plainId HF];show wpAny _ A.in1 (do let r <- pyNext (.ref I); _) _ _ s;refine wpAny_bind (wpAny_pyNext_list_item it il hx fun h1 it1 sb1=>?_);show wpAny _ A.in1 (do let _ <- holding [u] (setAdd S u); _) _ _ _;refine wpAny_bind (wpAny_holding ?_);unfold setAdd;have hok1:HOk P w H h1:=keepI sb1 hok;obtain⟨hs,y,ky,ry⟩:=id hk;have hu1:A.in1.units+8<cLine:=by rw[Around.in1_units]; lia
  refine wpAny_holding (wpAny_bind (ky.hash (s:={ s with heap:=h1,toks:=s.toks }) hok1 ry hs hu1 fun tk=>?_));have so1:h1.get? S=some o:=(sb1.2 S n2).trans so;have hnm:ds[i]∉ds.take i:=fun z=>by
   have:=List.take_append_drop i ds;rw[<- this,List.drop_eq_getElem_cons ltn,List.nodup_append] at nd;exact nd.2.2 _ z _ List.mem_cons_self rfl
  refine Vj (s:={ s with heap:=h1,toks:=tk }) hok1 hu1 so1 g hk ht hnm (by rw[List.length_take]; lia) fun h2 o2 sb2 so2 g2=>wpAny_pure ⟨plainId_quiet HF _,?_⟩;have sb2':Heap.SameBut S h1 h2:=sb2;obtain⟨oi,hoi,ri⟩:=it1;obtain⟨ol,hol,rl⟩:=il;refine ih (i+1) { s with heap:=h2,toks:=tk } o2 (by lia) lt (keepS sb2' hok1) ⟨oi,(sb2'.2 I (Ne.symm n2)).trans hoi,ri⟩ ⟨ol,(sb2'.2 l (Ne.symm n3)).trans ((sb1.2 l n1).trans hol),rl⟩ so2 (by rw[List.take_succ,List.getElem?_eq_getElem ltn]; exact g2) fun h3 tk o3 kk so3 g3=>?_;exact k h3 tk o3 (fun b u b1 b2 q=>kk b u b1 b2 ((sb2'.2 b b1).trans ((sb1.2 b b2).trans q))) so3 g3
theorem SJ(led:Bool):SG H (E3 led) [] led:=by
 refine⟨⟨rfl,rfl,rfl⟩,#[],0,_,rfl,⟨.inl rfl,rfl,List.Pairwise.nil,rfl,fun j hj=>by simp[SetTable.fresh] at hj,(by show 0*5<7*3; decide),rfl⟩,rfl,fun e he=>by simp at he⟩
theorem SN{S l:Addr}{its:Array Value}{ds:List D}{led:Bool}{Q:Fin->Shared->Prop}(hh:A.handled=none)(hu:A.units+12<cLine)(hok:HOk P w H s.heap)(nS:H S=none)(hl:s.heap.IsList l its)(hz:its.size=ds.length)(hv:∀(i:Nat) (d:D),ds[i]? = some d->∃u,its[i]? = some u/\Jr d=true/\KU H d u)(nd:ds.Nodup)(hb:ds.length<=64)(e1:s.heap.get? S=some (E3 led))(n3:S≠l)(h:∀(h':Heap) (tk:Nat) (o:Obj),(∀b u,b≠S->s.heap.get? b=some u->h'.get? b=some u)->h'.get? S=some o->SG H o ds led->Q (.done (.ret .none)) { s with heap:=h',toks:=tk }):
  wpAny (model P w) A (Builtin.«set.__init__» ⟨[.ref S,.ref l],[]⟩) Q E s:=by
 have hT:s.TypeIs (.ref S) "set" := ⟨_,e1,rfl⟩;obtain⟨⟨oc,od,odt,osl⟩,ol,cl,nl,dl⟩:=id hl;simp only at cl dl;subst cl dl;have sl1:=F.sub_list_set;have sl2:=F.sub_list_frozenset;have ndq:(Value.type "list" == Value.type "dict")=false:=by decide
 unfold Builtin.«set.__init__» noKeywords Builtin.Frozenset.updateFrom;generalize hPI:pyIter=PIt
 wp_walk
 subst hPI;refine wpAny_pyIter_list hl (wpAny_bind (wpAny_runValue ?_));have l1:l<s.heap.objs.size:=Heap.lt_size ol;have l2:S<s.heap.objs.size:=Heap.lt_size e1;refine Mq (H:=H) (led:=led) hh (by lia) hz hv nd hb nS (hok.fresh (Nat.le_refl _)) (Nat.ne_of_lt l1) (Nat.ne_of_lt l2) n3 its.size 0 _ (E3 led) (by lia) (Nat.zero_le _) (hok.kept fun b u q=>Heap.get?_push_of_some _ q) ⟨_,Heap.get?_push_size _ rfl,rfl,rfl⟩ (hl.push _) (Heap.get?_push_of_some _ e1) (SJ led) fun h3 tk o3 k3 so3 g3=>?_;refine wpAny_pure (wpAny_pure (h h3 tk o3 (fun b u hb2 q=>?_) so3 g3));exact k3 b u hb2 (Nat.ne_of_lt (Heap.lt_size q)) (Heap.get?_push_of_some _ q)
theorem PJ{l:Addr}{its:Array Value}{ds:List D}{Q:Value->Shared->Prop}(hh:A.handled=none)(hu:A.units+20<cLine)(hok:HOk P w H s.heap)(hl:s.heap.IsList l its)(hz:its.size=ds.length)(hv:∀(i:Nat) (d:D),ds[i]? = some d->∃u,its[i]? = some u/\Jr d=true/\KU H d u)(nd:ds.Nodup)(hb:ds.length<=64)(h:∀(h':Heap) (tk:Nat) (o:Obj),(∀b u,b<s.heap.objs.size->s.heap.get? b=some u->h'.get? b=some u)->h'.get? s.heap.objs.size=some o->SG H o ds (!byT w)->Q (.ref s.heap.objs.size) { s with heap:=h',toks:=tk }):
  wpAny (model P w) A (call (.type "set") [.ref l]) Q E s:=by
 obtain⟨mc,mt,mr⟩:=F.called_set.mro;have mk:=F.called_set.made;have sb:=F.called_set.sub;refine wpAny_call (codeAny_of_tree (show wpAny _ _ (callAny (.type "set") _) _ _ _ from ?_));refine wpAny_pure ⟨Code.quiet_builtin _ dK,codeAny_builtin F.entry_type_call ?_⟩;rw[Around.under_plain (weight_type_call_type "set" [Value.ref l] []) rfl];have q1:=F.called_set.notType;have q2:=F.called_set.canCreate;have q3:=F.typeCall_set_1 (.ref l);repeat (any_goals (first|assumption|wp_step))
 refine codeAny_mono (PK (.ref l) (E:=E) (Q1:=fun v s1=>v=.ref s.heap.objs.size/\s1={ s with heap:=s.heap.push (E3 (!byT w)) }) ⟨rfl,rfl⟩) fun r s1 hr=>?_;cases r with
 | error e=>exact hr
 | ok fl =>
  cases fl with
  | ret v =>
   obtain⟨rfl,rfl⟩:=hr;have hS:(s.heap.push (E3 (!byT w))).get? s.heap.objs.size=some (E3 (!byT w)):=Heap.get?_push_size _ rfl;have hT:Shared.TypeIs { s with heap:=s.heap.push (E3 (!byT w)) } (.ref s.heap.objs.size) "set" := ⟨_,hS,rfl⟩;have hli:=F.called_set.init.lookup;have hbi:=F.called_set.init.bind (.ref s.heap.objs.size);obtain⟨ol,hol,rl⟩:=id hl;have ll:l<s.heap.objs.size:=Heap.lt_size hol;repeat (any_goals (first|assumption|wp_step))
   refine codeAny_mono (codeAny_call_builtin (R:=wants (fun r s2=>r=.none/\∃h' tk o,s2={ s with heap:=h',toks:=tk }/\(∀b u,b<s.heap.objs.size->s.heap.get? b=some u->h'.get? b=some u)/\h'.get? s.heap.objs.size=some o/\SG H o ds (!byT w)) E) F.called_set.init.plain F.entry_set_init (check_set_init_1 hT ?_)) fun r2 s2 hr2=>?_
   .refine SN (H:=H) (s:={ s with heap:=s.heap.push (E3 (!byT w)) }) (led:=!byT w) (A:=A.in1.in1) (by simp[hh]) (by simp only[Around.in1_units]; lia) (hok.kept fun b u q=>Heap.get?_push_of_some _ q) (hok.fresh (Nat.le_refl _)) (hl.push _) hz hv nd hb hS (Nat.ne_of_gt ll) fun h3 tk o3 k3 so3 g3=>?_
    exact⟨rfl,h3,tk,o3,rfl,fun b u hb2 q=>k3 b u (Nat.ne_of_lt hb2) (Heap.get?_push_of_some _ q),so3,g3⟩
   .cases r2 with
    | error e=>exact hr2
    | ok fl2 =>
     cases fl2 with
     | ret v2 =>
      obtain⟨rfl,h3,tk,o3,rfl,k3,so3,g3⟩:=hr2;repeat (any_goals (first|assumption|wp_step))
      exact h _ _ o3 k3 so3 g3
     | _=>exact hr2.elim
  | _=>exact hr.elim
end
end Sp
end
section
namespace L2
open PySem PySem.Spec PyProof.Rows Sg Sp
section
variable{X:Cx}
noncomputable def Va(w:World)(K:Frag):List V->Hp->VK->Prop:=fun xs H Q=>∃(p:Addr) (vs:List V) (ds:List D),xs=[.ref p]/\SqL K H p vs/\vs.length=ds.length/\(∀(i:Nat) v d,vs[i]? = some v->ds[i]? = some d->Jr d=true/\KR H v d/\Sh 8 d)/\ds.Nodup/\ds.length<=64/\∀(a:Addr) (o:Obj),H a=none->SG H o ds (!byT w)->Q (.ref a) (upd H a (.frz o (.own a)))
noncomputable def U7(w:World):List V->Hp->VK->Prop:=fun xs H Q=>∃(a:Addr) (o:Obj) (u:HO) (H':Hp) (ds:List D),xs=[.ref a]/\H a=some (.frz o u)/\SG H' o ds (!byT w)/\ds.length<=64/\Q (.int ds.length) H
theorem OG{k:Nat}(hc:X.calm=true)(hr:Room k X.A):BJ X (.type "set") (Va X.w X.K):=by
 intro pins s U H xs us Q I r h;obtain⟨p,vs,ds,rfl,hq,hl,hv,nd,hb,q⟩:=h;obtain⟨u,rfl,ru⟩:=r.one;cases ru;obtain⟨its,rv,pl,hz⟩:=I.list hq;have hlen:=rv.length;have hu:X.A.units+20<cLine:=by have:=hr.units; lia
 refine Sp.PJ (H:=H) (ds:=ds) (I.ok.hd hc) hu I.hok pl.isList (by simp; lia) (fun i d e=>?_) nd hb fun h' tk o kk ho g=>?_
 .have hi:=(List.getElem?_eq_some_iff.mp e).1
  have ev:vs[i]? = some (vs[i]'(by lia)):=by simp
  obtain⟨u,hu,ru⟩:=rv.get ev;obtain⟨t1,k1,s1⟩:=hv i _ d ev e;exact⟨u,by simpa using hu,t1,s1,_,k1,ru⟩
 .exact⟨.ref s.heap.objs.size,_,I.laid (t':=tk) (o:=.frz o (.own s.heap.objs.size)) (fun b u e=>kk b u (Heap.lt_size e) e) (Nat.le_refl _) ⟨ho,_,ho⟩,rfl,q _ o (I.hok.fresh (Nat.le_refl _)) g⟩
theorem OE:BJ X (.builtin "len") (U7 X.w):=by
 intro pins s U H xs us Q I r h;obtain⟨a,o,u,H',ds,rfl,ha,g,hb,q⟩:=h;obtain⟨u',rfl,ru⟩:=r.one;cases ru;have ho:s.heap.get? a=some o:=(I.hok a _ ha).1;obtain⟨hx,es,ep,t,e2,ti,hz,_⟩:=g;refine call_len_set ho hx e2 ti.fits (by lia) ⟨.int ds.length,H,I.tok _,⟨_,by rw[hz]⟩,q⟩
end
end L2
namespace J
open PySem PySem.Spec PyProof.Rows L2 Sg Sp
section
variable{X:Cx}{a b c e:Expr}{es:List Expr}{m m1 m2 m3:ME}{ms:MA}{p pos pos' p2 apos cpos q npos:Pos}{x:Str}
variable{K:Frag}{N:Addr->Prop}{H:Hp}{U:L2.St}{v:V}{L:List Addr}
noncomputable def lsA:List A->Option A
 | [a]=>(CS a).bind fun ds=>if (ds.all fun d=>gk d&&Jr d)=true/\ds.Nodup/\ds.length<=64 then some (.fz (.int ds.length)) else none
 | _=>none
noncomputable def rLS(w:World)(K:Frag):List V->Hp->VK->Prop:=fun xs H Q=>Va w K xs H fun v H1=>U7 w [v] H1 Q
theorem Ya{w:World}:OpN K lsA (rLS w K):=by
 intro N H xs as b Q hs e k;unfold lsA at e;split at e
 .rename_i a
  simp only[bind_eq_some_iff] at e;obtain⟨ds,e1,e3⟩:=e;split at e3
  .rename_i hl
   cases e3;obtain⟨x,L1,rfl,h1⟩:=CG hs;obtain⟨p,vs,rfl,hp,hz',q⟩:=DY h1 e1;refine⟨p,vs,ds,rfl,.inl (.inl hp),q.len,fun i v d e1 e2=>?_,hl.2.1,hl.2.2,fun s o hs g=>⟨s,o,_,H,_,rfl,AE,g,hl.2.2,k _ _ ?_⟩⟩
   .have:=List.all_eq_true.mp hl.1 d (List.mem_of_getElem? e2)
    rw[Bool.and_eq_true] at this;exact⟨this.2,P6 (q.get i v d e1 e2) this.1⟩
   .exact⟨Bm hs,[],CH.mpr ⟨rfl,.int _⟩,List.nodup_nil,fun b hb=>nomatch hb⟩
  .cases e3
 .cases e
theorem S2{arg:Expr}{k:Nat}(hr:Room k X.A)(hc:X.calm=true)(m1':X.mg "len" = none)(m2':X.mg "set" = none)(g1:Gl X "len")(g2:Gl X "set")(he1:starEach [.Call (.Name "set" p2) [arg] [] pos'] X.env=(false,eval (.Call (.Name "set" p2) [arg] [] pos') X.env)::starEach [] X.env)(hp1:(backTo pos (starEach [] X.env)).any (·.1)=false)(he2:starEach [arg] X.env=(false,eval arg X.env)::starEach [] X.env)(hp2:(backTo pos' (starEach [] X.env)).any (·.1)=false)(ha:JE X arg m):
  JE X (.Call (.Name "len" p) [.Call (.Name "set" p2) [arg] [] pos'] [] pos) (opM lsA (m1L m)):=
 AA (J1 OE m1' PyProof.Rows.Boot.«len» (by decide) (by decide) g1 he1 hp1 (Rc he1 (J3 (OG hc hr) m2' PyProof.Rows.Boot.«set» (by decide) (by decide) g2 he2 hp2 (Ab he2 ha Af)) Ff))
  fun U H Q h=>(show(tA X.K (m1L m)) U H (fun vs H1=>rLS X.w X.K vs H1 Q) from HR Ya h)
end
end J
end
section
namespace J
open PySem L2
noncomputable def EV(m:ME)(Z:Ro)(Q:R->Ro->Prop):Prop:=∃r Z',m Z=some (r,Z')/\Q r Z'
noncomputable def AV(m:MA)(Z:Ro)(Q:List R->Ro->Prop):Prop:=∃r Z',m Z=some (r,Z')/\Q r Z'
noncomputable def TV(m:MT)(Z:Ro)(Q:Bool->Ro->Prop):Prop:=∃b Z',m Z=some (b,Z')/\Q b Z'
noncomputable def SV(m:MS)(Z:Ro)(Q:Fl->Prop):Prop:=∃f,m Z=some f/\Q f
noncomputable def IV(m:MI)(Z:Ro)(Q:List D->Option Nat->Ro->Prop):Prop:=∃ds n Z',m Z=some (ds,n,Z')/\Q ds n Z'
noncomputable def FV(Φ:Fn)(as:List (Own×A))(Q:A->List A->Prop):Prop:=∃a os,Φ as=some (a,os)/\Q a os
noncomputable def nxt(K:Ro->Prop)(Q:Fl->Prop):Fl->Prop
 | .next Z=>K Z
 | f=>Q f
noncomputable def turn(I:Ro->Prop)(u:Ro->Ro)(Q:Fl->Prop):Fl->Prop
 | .next Z=>I Z
 | .cnt Z=>I Z
 | .brk Z=>Q (.next (u Z))
 | .ret x Z=>Q (.ret x (u Z))
noncomputable def fin(np:Nat)(Q:A->List A->Prop):Fl->Prop
 | .next Z=>Q (.fz .non) ((Z.take np).map GB)
 | .ret a Z=>Q a ((Z.take np).map GB)
 | _=>False
noncomputable abbrev Fr(x:Slot):Prop:=free [x] 0=true
section
variable{m m1 m2 m3:ME}{ms:MA}{c c2:MT}{a b:MS}{it:MI}{Z Z1 Z2:Ro}{Q:R->Ro->Prop}{QA:List R->Ro->Prop}{QT:Bool->Ro->Prop}{QS:Fl->Prop}{K:Ro->Prop}{i:Nat}
theorem C6{Φ:Fn}{as:List (Own×A)}{QF:A->List A->Prop}{x:A}{os:List A}(h : Φ as=some (x,os))(q:QF x os):FV Φ as QF:=⟨x,os,h,q⟩
theorem AX{Φ:Fn}{as:List (Own×A)}{QF QF':A->List A->Prop}(h:FV Φ as QF)(k:∀x os,QF x os->QF' x os):FV Φ as QF':=by
 obtain⟨x,os,e,q⟩:=h; exact⟨x,os,e,k x os q⟩
theorem C5{np nn:Nat}{as:List (Own×A)}{QF:A->List A->Prop}(hl:as.length=np)(hZ:as.map some++List.replicate (nn-np) none=Z)(h:SV b Z (fin np QF)):FV (fnM np nn b) as QF:=by
 obtain⟨f,e,q⟩:=h;subst hZ;cases f with
 | next Z'=>exact⟨_,_,by simp only[fnM,if_pos hl,e,Option.bind_some],q⟩
 | ret x Z'=>exact⟨_,_,by simp only[fnM,if_pos hl,e,Option.bind_some],q⟩
 | brk Z'=>exact q.elim
 | cnt Z'=>exact q.elim
theorem EX{d:D}(q:Q (.val (.fz d)) Z):EV (Ah d) Z Q:=⟨_,_,rfl,q⟩
theorem GX{f:List A->Option A}(h:AV ms Z fun rs Z1=>∃as,peeks Z1 rs=some as/\∃x,f as=some x/\Q (.val x) Z1):EV (opM f ms) Z Q:=by
 obtain⟨rs,Z1,e,as,e2,x,e3,q⟩:=h;exact⟨_,_,by simp only[opM,e,e2,e3,Option.bind_some,Option.map_some],q⟩
noncomputable def bk(rs:List R)(os:List A)(Z:Ro):Ro:=match refs rs with
 | []=>Z
 | _::_=>back rs os Z
theorem XR(rs:List R)(os:List A)(Z:Ro):bk rs os Z=back rs os Z:=by
 unfold bk;split
 .rename_i h
  induction rs generalizing os Z with
  | nil=>simp[back]
  | cons r rs ih =>
   cases r with
   | ref i=>simp[refs] at h
   | val a =>
    have h:refs rs=[]:=h;cases os with
    | nil=>rfl
    | cons o os=>exact ih os Z h
 .rfl
theorem Dw{Φ:Fn}(h:AV ms Z fun rs Z1=>∃as,De Z1 rs=some as/\decide (refs rs).Nodup=true/\FV Φ as fun x os=>Q (.val x) (bk rs os Z1)):EV (Am Φ ms) Z Q:=by
 obtain⟨rs,Z1,e,as,e2,hn,x,os,e3,q⟩:=h;rw[XR] at q;exact⟨_,_,by simp only[Am,e,e2,e3,Option.bind_some,Option.map_some,if_pos (of_decide_eq_true hn)],q⟩
theorem Ct(h:EV m Z fun r Z1=>∃d Z2,share Z1 r=some (d,Z2)/\Q (.val (.fz d)) Z2):EV (AK m) Z Q:=by
 obtain⟨r,Z1,e,d,Z2,e2,q⟩:=h;exact⟨_,_,by simp only[AK,e,e2,Option.bind_some,Option.map_some],q⟩
theorem ET(h:EV m1 Z fun r Z1=>∃x,peek Z1 r=some x/\∃y,DL x=some y/\if y then EV m2 Z1 Q else Q (.val (.fz (.bl false))) Z1):EV (andM m1 m2) Z Q:=by
 obtain⟨r,Z1,e,x,e2,y,e3,q⟩:=h;cases y with
 | false=>exact⟨_,_,by simp only[andM,AM,e,e2,e3,Option.bind_some,Option.map_some,Bool.false_eq_true,if_false],q⟩
 | true =>
  obtain⟨r',Z',e4,q⟩:=q;exact⟨_,_,by simp only[andM,AM,e,e2,e3,Option.bind_some,Option.map_some,if_true,e4],q⟩
theorem GY(h:EV m1 Z fun r Z1=>∃x,peek Z1 r=some x/\∃y,DL x=some y/\if y then Q (.val (.fz (.bl true))) Z1 else EV m2 Z1 Q):EV (orM m1 m2) Z Q:=by
 obtain⟨r,Z1,e,x,e2,y,e3,q⟩:=h;cases y with
 | true=>exact⟨_,_,by simp only[orM,AM,e,e2,e3,Option.bind_some,Option.map_some,if_true],q⟩
 | false =>
  obtain⟨r',Z',e4,q⟩:=q;exact⟨_,_,by simp only[orM,AM,e,e2,e3,Option.bind_some,Option.map_some,Bool.false_eq_true,if_false,e4],q⟩
theorem EY(h:EV m Z fun r Z1=>∃x,peek Z1 r=some x/\∃y,DL x=some y/\Q (.val (.fz (.bl (!y)))) Z1):EV (notM m) Z Q:=by
 obtain⟨r,Z1,e,x,e2,y,e3,q⟩:=h;exact⟨_,_,by simp only[notM,AM,e,e2,e3,Option.bind_some,Option.map_some],q⟩
theorem EW(h:TV c Z fun x Z1=>if x then EV m1 Z1 Q else EV m2 Z1 Q):EV (Kx c m1 m2) Z Q:=by
 obtain⟨x,Z1,e,q⟩:=h;cases x with
 | true=>obtain⟨r',Z',e4,q⟩:=q; exact⟨_,_,by simp only[Kx,e,Option.bind_some,if_true,e4],q⟩
 | false=>obtain⟨r',Z',e4,q⟩:=q; exact⟨_,_,by simp only[Kx,e,Option.bind_some,Bool.false_eq_true,if_false,e4],q⟩
theorem Ex(h:AV ms Z fun rs Z1=>∃as,vals rs=some as/\decide (as.length<=LIM)=true/\Q (.val (.lst as)) Z1):EV (lstM ms) Z Q:=by
 obtain⟨rs,Z1,e,as,e2,hl,q⟩:=h;exact⟨_,_,by simp only[lstM,e,e2,Option.bind_some,if_pos (of_decide_eq_true hl)],q⟩
theorem EZ(h:AV ms Z fun rs Z1=>∃as Z2,moves rs Z1=some (as,Z2)/\decide (as.length<=LIM)=true/\Q (.val (mkT as)) Z2):EV (Gd ms) Z Q:=by
 obtain⟨rs,Z1,e,as,Z2,e2,hl,q⟩:=h;exact⟨_,_,by simp only[Gd,e,e2,Option.bind_some,if_pos (of_decide_eq_true hl)],q⟩
theorem DJ(q:QA [] Z):AV Aj Z QA:=⟨_,_,rfl,q⟩
theorem Cp(h:EV m Z fun r Z1=>AV ms Z1 fun rs Z2=>QA (r::rs) Z2):AV (Ac m ms) Z QA:=by
 obtain⟨r,Z1,e,rs,Z2,e2,q⟩:=h;exact⟨_,_,by simp only[Ac,e,e2,Option.bind_some,Option.map_some],q⟩
theorem Jv(h:EV m Z fun r Z1=>QA [r] Z1):AV (m1L m) Z QA:=Cp (by
 obtain⟨r,Z1,e,q⟩:=h; exact⟨r,Z1,e,DJ q⟩)
theorem Kh(h:EV m1 Z fun r Z1=>EV m2 Z1 fun r2 Z2=>QA [r,r2] Z2):AV (m2L m1 m2) Z QA:=Cp (by
 obtain⟨r,Z1,e,q⟩:=h; exact⟨r,Z1,e,Jv q⟩)
theorem Fu(h:EV m Z fun r Z1=>∃x,peek Z1 r=some x/\∃y,DL x=some y/\QT y Z1):TV (AM m) Z QT:=by
 obtain⟨r,Z1,e,x,e2,y,e3,q⟩:=h;exact⟨_,_,by simp only[AM,e,e2,e3,Option.bind_some,Option.map_some],q⟩
theorem Ft(h:TV c Z fun x Z1=>QT (!x) Z1):TV (DZ c) Z QT:=by
 obtain⟨x,Z1,e,q⟩:=h;exact⟨_,_,by simp only[DZ,e,Option.map_some],q⟩
theorem Hj(h:TV c Z fun x Z1=>if x then QT true Z1 else TV c2 Z1 QT):TV (orT c c2) Z QT:=by
 obtain⟨x,Z1,e,q⟩:=h;cases x with
 | true=>exact⟨_,_,by simp only[orT,e,Option.bind_some,if_true],q⟩
 | false=>obtain⟨y,Z',e4,q⟩:=q; exact⟨_,_,by simp only[orT,e,Option.bind_some,Bool.false_eq_true,if_false,e4],q⟩
theorem Fs(h:TV c Z fun x Z1=>if x then TV c2 Z1 QT else QT false Z1):TV (Sq c c2) Z QT:=by
 obtain⟨x,Z1,e,q⟩:=h;cases x with
 | false=>exact⟨_,_,by simp only[Sq,e,Option.bind_some,Bool.false_eq_true,if_false],q⟩
 | true=>obtain⟨y,Z',e4,q⟩:=q; exact⟨_,_,by simp only[Sq,e,Option.bind_some,if_true,e4],q⟩
theorem Ba(h:SV a Z (nxt (fun Z1=>SV b Z1 QS) QS)):SV (As a b) Z QS:=by
 obtain⟨f,e,q⟩:=h;cases f with
 | next Z1=>obtain⟨f,e2,q⟩:=q; exact⟨f,by simp only[As,e,Option.bind_some,e2],q⟩
 | brk Z1=>exact⟨_,by simp only[As,e,Option.bind_some],q⟩
 | cnt Z1=>exact⟨_,by simp only[As,e,Option.bind_some],q⟩
 | ret x Z1=>exact⟨_,by simp only[As,e,Option.bind_some],q⟩
theorem Cd(h:EV m Z fun r Z1=>∃x Z2,keep Z1 r=some (x,Z2)/\free Z2 i=true/\QS (.next (Z2.set i (some (.own,x))))):SV (AG i m) Z QS:=by
 obtain⟨r,Z1,e,x,Z2,e2,e3,q⟩:=h;exact⟨_,by simp only[AG,e,e2,e3,Option.bind_some,if_true],q⟩
theorem Fj(h:EV m Z fun _ Z1=>QS (.next Z1)):SV (HU m) Z QS:=by
 obtain⟨r,Z1,e,q⟩:=h;exact⟨_,by simp only[HU,e,Option.map_some],q⟩
theorem Fo(h:EV m Z fun r Z1=>∃x Z2,move Z1 r=some (x,Z2)/\QS (.ret x Z2)):SV (retS m) Z QS:=by
 obtain⟨r,Z1,e,x,Z2,e2,q⟩:=h;exact⟨_,by simp only[retS,e,e2,Option.bind_some,Option.map_some],q⟩
theorem Hi(h:TV c Z fun x Z1=>if x then SV a Z1 QS else SV b Z1 QS):SV (ifS c a b) Z QS:=by
 obtain⟨x,Z1,e,q⟩:=h;cases x with
 | true=>obtain⟨f,e2,q⟩:=q; exact⟨f,by simp only[ifS,e,Option.bind_some,if_true,e2],q⟩
 | false=>obtain⟨f,e2,q⟩:=q; exact⟨f,by simp only[ifS,e,Option.bind_some,Bool.false_eq_true,if_false,e2],q⟩
theorem C0(q:QS (.next Z)):SV A9 Z QS:=⟨_,rfl,q⟩
theorem Fq{is:List Nat}(h:EV m Z fun r Z1=>∃x Z2,keep Z1 r=some (x,Z2)/\∃as,Fg x=some as/\∃Z3,BI is as Z2=some Z3/\QS (.next Z3)):SV (Mp is m) Z QS:=by
 obtain⟨r,Z1,e,x,Z2,e2,as,e3,Z3,e4,q⟩:=h;exact⟨_,by simp only[Mp,e,e2,e3,e4,Option.bind_some,Option.map_some],q⟩
theorem Fm(h:∃d Z2,share Z (.ref i)=some (d,Z2)/\QS (.next Z2)):SV (MH i) Z QS:=by
 obtain⟨d,Z2,e,q⟩:=h;exact⟨_,by simp only[MH,e,Option.map_some],q⟩
theorem Fi(h:SV (AG i (opM Sk (m2L (Aa i) m))) Z QS):SV (Vo i m) Z QS:=h
theorem RU(h0:∃p,C7 Z i=some p)(h:EV m Z fun r Z1=>∃x Z2,keep Z1 r=some (x,Z2)/\∃st as,C7 Z2 i=some (st,as)/\as.length<LIM/\QS (.next (Z2.set i (some (st,.lst (as++[x])))))):SV (GK i m) Z QS:=by
 obtain⟨p,e0⟩:=h0;obtain⟨r,Z1,e,x,Z2,e2,st,as,e3,hl,q⟩:=h;exact⟨_,by simp only[GK,e0,e,e2,e3,Option.bind_some,if_pos hl],q⟩
theorem Um{mk me:ME}(h:EV me Z fun r Z1=>∃d Z2,share Z1 r=some (d,Z2)/\(∃p,JV Z2 i=some p)/\EV mk Z2 fun r2 Z3=>∃kd,r2=.val (.fz kd)/\∃st kvs,JV Z3 i=some (st,kvs)/\gk kd=true/\kvs.length<LIM/\QS (.next (Z3.set i (some (st,.dct (Hg kvs kd d)))))):SV (G2 i mk me) Z QS:=by
 obtain⟨r,Z1,e,d,Z2,e2,⟨p,e0⟩,r2,Z3,e3,kd,rfl,st,kvs,e4,hk,hl,q⟩:=h;refine⟨_,?_,q⟩;simp only[G2,e,e2,e0,e3,e4,Option.bind_some];rw[if_pos ⟨hk,hl⟩]
theorem CJ{is:List Nat}{one:Bool}(h:IV it Z fun ds n Z1=>∃Inv:Nat->Ro->Prop,Inv 0 (lock Z1 n)/\(∀j d Z2,ds[j]? = some d->Inv j Z2->∃Z3,FE is one d Z2=some Z3/\SV b Z3 (turn (Inv (j+1)) (fun Z4=>unlock Z1 Z4 n) QS))/\∀Z2,Inv ds.length Z2->QS (.next (unlock Z1 Z2 n))):SV (Ca is one it b) Z QS:=by
 obtain⟨ds,n,Z1,e,Inv,h0,hs,he⟩:=h;have key:∀(es:List D) (j:Nat) (Z2:Ro),j<=ds.length->ds.drop j=es->Inv j Z2->∃f,forL is one b es Z2=some f/\QS (Ih Z1 n f):=by
  intro es;induction es with
  | nil =>
   intro j Z2 hj hd hI;have hj2:ds.length<=j:=by
    have:=congrArg List.length hd;simp at this;lia
   have:j=ds.length:=by lia
   subst this;exact⟨_,rfl,he Z2 hI⟩
  | cons d es ih =>
   intro j Z2 hj hd hI;have hlt:j<ds.length:=by
    rcases Nat.lt_or_ge j ds.length with z|z
    .exact z
    .rw[List.drop_eq_nil_of_le z] at hd; cases hd
   rw[List.drop_eq_getElem_cons hlt] at hd;injection hd with e1 e2
   obtain⟨Z3,e3,f,e4,q⟩:=hs j d Z2 (by rw[<- e1]; simp) hI;cases f with
   | next Z4 =>
    obtain⟨f,e5,q⟩:=ih (j+1) Z4 hlt e2 q;exact⟨f,by simp only[forL,e3,e4,Option.bind_some,e5],q⟩
   | cnt Z4 =>
    obtain⟨f,e5,q⟩:=ih (j+1) Z4 hlt e2 q;exact⟨f,by simp only[forL,e3,e4,Option.bind_some,e5],q⟩
   | brk Z4=>exact⟨.next Z4,by simp only[forL,e3,e4,Option.bind_some],q⟩
   | ret x Z4=>exact⟨.ret x Z4,by simp only[forL,e3,e4,Option.bind_some],q⟩
 obtain⟨f,e2,q⟩:=key ds 0 (lock Z1 n) (Nat.zero_le _) (by simp) h0;exact⟨_,by simp only[Ca,e,Option.bind_some,e2,Option.map_some],q⟩
theorem RV{w:Nat}(I:Nat->Ro->Prop)(hw:∃n,n<w/\I n Z)(hs:∀n Z1,I n Z1->TV c Z1 fun x Z2=>if x then SV b Z2 (turn (fun Z3=>∃k,k<n/\I k Z3) (fun Z3=>Z3) QS) else QS (.next Z2)):SV (K9 w c b) Z QS:=by
 have key:∀(w n:Nat) (Z:Ro),n<w->I n Z -> SV (Ds c b w) Z QS:=by
  intro w;induction w with
  | zero=>intro n Z h; exact absurd h (Nat.not_lt_zero _)
  | succ w ih =>
   intro n Z h hI;obtain⟨x,Z2,e,q⟩:=hs n Z hI;cases x with
   | false=>exact⟨_,by simp only[Ds,e,Option.bind_some,Bool.false_eq_true,if_false],q⟩
   | true =>
    obtain⟨f,e2,q⟩:=q;cases f with
    | next Z3 =>
     obtain⟨k,hk,hI2⟩:=q;obtain⟨f,e3,q⟩:=ih k Z3 (by lia) hI2;exact⟨f,by simp only[Ds,e,Option.bind_some,if_true,e2,e3],q⟩
    | cnt Z3 =>
     obtain⟨k,hk,hI2⟩:=q;obtain⟨f,e3,q⟩:=ih k Z3 (by lia) hI2;exact⟨f,by simp only[Ds,e,Option.bind_some,if_true,e2,e3],q⟩
    | brk Z3=>exact⟨.next Z3,by simp only[Ds,e,Option.bind_some,if_true,e2],q⟩
    | ret y Z3=>exact⟨.ret y Z3,by simp only[Ds,e,Option.bind_some,if_true,e2],q⟩
 obtain⟨n,hn,hI⟩:=hw;exact key w n Z hn hI
theorem SF{pat:Nat}{e:ME}(f:D->Option D)(h:IV it Z fun ds n Z1=>decide (ds.length<=LIM)=true/\(∀d∈ds,∃bs,L6 pat d=some bs/\TV c (bs.map own++lock Z1 n) fun x Z2=>Z2=bs.map own++lock Z1 n/\if x then EV e (bs.map own++lock Z1 n) (fun r Z3=>Z3=bs.map own++lock Z1 n/\∃v,share (bs.map own++lock Z1 n) r=some (v,bs.map own++lock Z1 n)/\f d=some v) else f d=none)/\Q (.val (.lst ((ds.filterMap f).map A.fz))) (unlock Z1 (lock Z1 n) n)):EV (AN it pat c e) Z Q:=by
 obtain⟨ds,n,Z1,e0,hl,hs,q⟩:=h;have key:∀es:List D,(∀d∈es,d∈ds)->EE pat c e es (lock Z1 n)=some (es.filterMap f,lock Z1 n):=by
  intro es;induction es with
  | nil=>intro _; rfl
  | cons d es ih =>
   intro hm;obtain⟨bs,e1,x,Z2,e2,rfl,q2⟩:=hs d (hm d List.mem_cons_self);have ih:=ih fun y hy=>hm y (List.mem_cons_of_mem _ hy);have hdr:(bs.map own++lock Z1 n).drop bs.length=lock Z1 n:=by
    rw[List.drop_append_of_le_length (by simp),List.drop_of_length_le (by simp),List.nil_append]
   cases x with
   | false =>
    have q2:f d=none:=q2;simp only[EE,e1,Option.bind_some,e2,Bool.false_eq_true,if_false,hdr,ih,List.filterMap_cons,q2]
   | true =>
    obtain⟨r,Z3,e3,rfl,v,e4,e5⟩:=q2;simp only[EE,e1,Option.bind_some,e2,if_true,e3,e4,hdr,ih,Option.map_some,List.filterMap_cons,e5]
 exact⟨_,_,by simp only[AN,e0,Option.bind_some,if_pos (of_decide_eq_true hl),key ds fun _ h=>h,Option.map_some],q⟩
theorem Kp{pat:Nat}{e:ME}(f:D->Option D)(out:List D)(h:IV it Z fun ds n Z1=>ds.length<=100000/\ds.filterMap f=out/\(∀d∈ds,∃bs,L6 pat d=some bs/\TV c (bs.map own++lock Z1 n) fun x Z2=>Z2=bs.map own++lock Z1 n/\if x then EV e (bs.map own++lock Z1 n) (fun r Z3=>Z3=bs.map own++lock Z1 n/\∃v,share (bs.map own++lock Z1 n) r=some (v,bs.map own++lock Z1 n)/\f d=some v) else f d=none)/\Q (.val (.lst (out.map A.fz))) (unlock Z1 (lock Z1 n) n)):EV (AN it pat c e) Z Q:=by
 obtain⟨ds,n,Z1,e0,hl,rfl,hs,q⟩:=h;have hL:100000<=LIM:=by decide
 exact SF f ⟨ds,n,Z1,e0,decide_eq_true (by lia),hs,q⟩
theorem Dr{QT:Bool->Ro->Prop}(q:QT true Z):TV Ce Z QT:=⟨_,_,rfl,q⟩
theorem DX{QI:List D->Option Nat->Ro->Prop}(h:EV m Z fun r Z1=>∃x,peek Z1 r=some x/\∃ds,AH x=some ds/\QI ds (nameOf r) Z1):IV (BW m) Z QI:=by
 obtain⟨r,Z1,e,x,e2,ds,e3,q⟩:=h;exact⟨_,_,_,by simp only[BW,e,e2,e3,Option.bind_some,Option.map_some],q⟩
theorem MP{QI:List D->Option Nat->Ro->Prop}(h:EV m Z fun r Z1=>∃k:Int,r=.val (.fz (.int k))/\(-1000000<=k/\k<=1000000)/\QI (D7 0 k.toNat) none Z1):IV (Bh m) Z QI:=by
 obtain⟨r,Z1,e,k,rfl,hk,q⟩:=h;have e0:(-(2 ^ 62)<=k/\k<2 ^ 62)=True:=by simp; lia
 exact⟨_,_,_,by simp only[Bh,e,Option.bind_some,e0,if_true],q⟩
theorem Ly{QI:List D->Option Nat->Ro->Prop}(h:EV m Z fun r Z1=>∃x,peek Z1 r=some x/\Kw x=true/\∃ds,AH x=some ds/\QI (HW ds) (nameOf r) Z1):IV (Gg m) Z QI:=by
 obtain⟨r,Z1,e,x,e2,hL,ds,e3,q⟩:=h;exact⟨_,_,_,by simp only[Gg,e,e2,e3,hL,Option.bind_some,if_true,Option.map_some],q⟩
theorem VJ{QI:List D->Option Nat->Ro->Prop}(h:EV m Z fun r Z1=>∃z,r=.val (.fz (.str z))/\decide (z.length<=LIM)=true/\QI (GF z) none Z1):IV (ND m) Z QI:=by
 obtain⟨r,Z1,e,z,rfl,hl,q⟩:=h;exact⟨_,_,_,by simp only[ND,e,Option.bind_some,if_pos (of_decide_eq_true hl)],q⟩
theorem Bk{I:Ro->Prop}{u:Ro->Ro}{Z:Ro}(h:I Z):turn I u QS (.next Z):=h
theorem Au{Z:Ro}(h:K Z):nxt K QS (.next Z):=h
theorem Fb{x:A}{Z:Ro}(h:QS (.ret x Z)):nxt K QS (.ret x Z):=h
theorem Dx{np:Nat}{QF:A->List A->Prop}{x:A}{Z:Ro}(h:QF x ((Z.take np).map GB)):fin np QF (.ret x Z):=h
theorem Cv{np:Nat}{QF:A->List A->Prop}{Z:Ro}(h:QF (.fz .non) ((Z.take np).map GB)):fin np QF (.next Z):=h
theorem G3{P1 P2:Prop}{x:Bool}(hx:x=true)(h:P1):if x then P1 else P2:=by rw[if_pos hx]; exact h
theorem Gk{P1 P2:Prop}{x:Bool}(hx:x=false)(h:P2):if x then P1 else P2:=by rw[if_neg (by rw[hx]; exact Bool.false_ne_true)]; exact h
theorem EF{P1 P2:Prop}{x:Bool}(h1:x=true->P1)(h2:x=false->P2):if x then P1 else P2:=by
 cases x with
 | true=>exact h1 rfl
 | false=>exact h2 rfl
end
theorem BG{i j:Int}(h:decide (-1000000<=j/\j<=1000000)=true):E8 [.fz (.int i),.fz (.int j)]=some (.fz (.int (i*j))):=by
 have h:=of_decide_eq_true h;have e:((-(2 ^ 64)<i/\i<2 ^ 64)\/(-(2 ^ 64)<j/\j<2 ^ 64))=True:=by simp only[eq_iff_iff,iff_true]; exact .inr ⟨by lia,by lia⟩
 simp only[E8,on2,BB,fzU,FN,Option.bind_some,e,if_true]
theorem ex1{α:Type}{f:Option α}{q:α -> Prop}{x:α}(h:f=some x)(k:q x):∃x,f=some x/\q x:=⟨x,h,k⟩
theorem ex2{α β:Type}{f:Option (α×β)}{q:α -> β -> Prop}{x:α}{y:β}(h:f=some (x,y))(k:q x y):∃x y,f=some (x,y)/\q x y:=⟨x,y,h,k⟩
theorem Cu{i:Nat}{Z Z1:Ro}{Q:R->Ro->Prop}{r:R}(h:Aa i Z=some (r,Z1))(q:Q r Z1):EV (Aa i) Z Q:=⟨r,Z1,h,q⟩
theorem ex3{α β:Type}{f:Option (α×β)}{b:β}{q:α -> Prop}{x:α}(h:f=some (x,b))(k:q x):∃x,f=some (x,b)/\q x:=⟨x,h,k⟩
theorem ex0{α β:Type}{r:β}{g:α -> β}{q:α -> Prop}{x:α}(h:r=g x)(k:q x):∃x,r=g x/\q x:=⟨x,h,k⟩
theorem Cq{Ψ:FnR}{ms:MA}{Z:Ro}{o:Option Str}(h:AV ms Z fun rs Z1=>∃as,De Z1 rs=some as/\KW as=true/\Ψ as=o):UJ Ψ ms Z=o:=by
 obtain⟨rs,Z1,e,as,e2,hp,q⟩:=h;simp only[UJ,e,e2,Option.bind_some,hp,if_true,q]
theorem DA{c:MT}{r s:MR}{Z:Ro}{o:Option Str}(h:TV c Z fun x Z1=>if x then r Z1=o else s Z1=o):VH c r s Z=o:=by
 obtain⟨x,Z1,e,q⟩:=h;cases x with
 | true=>simp only[VH,e,Option.bind_some,if_true]; exact q
 | false=>simp only[VH,e,Option.bind_some,Bool.false_eq_true,if_false]; exact q
theorem E5{c:MT}{r:MR}{Z:Ro}{o:Option Str}(h:TV c Z fun x Z1=>if x then r Z1=o else none=o):ifR c r Z=o:=by
 obtain⟨x,Z1,e,q⟩:=h;cases x with
 | true=>simp only[ifR,e,Option.bind_some,if_true]; exact q
 | false=>simp only[ifR,e,Option.bind_some,Bool.false_eq_true,if_false]; exact q
theorem DC{a:MS}{r:MR}{Z:Ro}{o:Option Str}(h:SV a Z (nxt (fun Z1=>r Z1=o) fun _=>False)):Yz a r Z=o:=by
 obtain⟨f,e,q⟩:=h;cases f with
 | next Z1=>simp only[Yz,e,Option.bind_some]; exact q
 | brk Z1=>exact q.elim
 | cnt Z1=>exact q.elim
 | ret x Z1=>exact q.elim
section
variable{W:List Str}{r s:MR}{c:MT}
end
section
variable{i:Nat}{m:ME}{Z:Ro}{QS:Fl->Prop}{QI:List D->Option Nat->Ro->Prop}
theorem SW(h:EV m Z fun r Z1=>∃z,r=.val (.fz (.str z))/\z.length<=100000/\QI (HN z) none Z1):IV (Io m) Z QI:=by
 obtain⟨r,Z1,e,z,rfl,hl,q⟩:=h;have hL:100000<=LIM:=by decide
 exact⟨_,_,_,by simp only[Io,e,Option.bind_some,if_pos (Nat.le_trans hl hL)],q⟩
theorem DK{Z:Ro}{i:Nat}{d:D}(h:free Z i=true):FE [i] true d Z=some (Z.set i (J.own d)):=if_pos h
theorem Mx{i j:Nat}{a b:D}{Z:Ro}(h:free Z i=true)(h2:free (Z.set i (some (.own,.fz a))) j=true):FE [i,j] false (.tup [a,b]) Z=some ((Z.set i (some (.own,.fz a))).set j (some (.own,.fz b))):=by
 simp only[FE,BI,List.map_cons,List.map_nil,h,h2,if_true]
end
end J
end
section
namespace St
noncomputable def hit(f:Nat->List Int)(bs:List Int)(c:Nat):Bool:=(f c).any fun x=>decide (x∈bs)
noncomputable def fs(f:Nat->List Int):List Int->List Nat->List Nat
 | _,[]=>[]
 | bs,c::w=>if hit f bs c then fs f (bs++f c) w else c::fs f (bs++f c) w
noncomputable def rs(f:Nat->List Int):List Int->List Nat->List Nat
 | _,[]=>[]
 | bs,c::w=>if hit f bs c then c::rs f (bs++f c) w else rs f (bs++f c) w
noncomputable def srt(cs:List Nat):List Nat:=cs.mergeSort fun a b=>decide (a<=b)
variable{f:Nat->List Int}
noncomputable def pl(f:Nat->List Int):List Int->Nat->List Nat->List Nat
 | _,_,[]=>[]
 | bs,k,c::w=>if hit f bs c then pl f (bs++f c) (k+1) w else k::pl f (bs++f c) (k+1) w
end St
end
section
namespace St
variable{f:Nat->List Int}
noncomputable def lst(cs:List Nat):Nat:=(srt cs).headD 0
end St
end
section
namespace Nw
noncomputable abbrev Nm:=Option (Nat×Nat)
noncomputable abbrev N3:=Nat->Nat->Nat->Nm
noncomputable def fi(f:N3)(i:Nat):Nm:=f i i i
noncomputable def knw(n:Nat)(other one:N3)(hand:Nat):Bool:=(List.range n).any fun v=>decide (fi one v∈(List.range n).map (fi other))&&decide (one v v hand=fi one hand)
noncomputable def cmp(n:Nat)(one other:N3)(hand:Nat):Int:=if fi one hand=fi other hand then 0 else if fi one hand=none\/knw n other one hand=true then -1 else 1
noncomputable def C9(n hand:Nat)(a:N3)(fs:List N3):N3:=fs.foldl (fun a k=>if 0<cmp n k a hand then k else a) a
noncomputable def used(n:Nat)(fs:List N3):List Nm:=fs.flatMap fun f=>(List.range n).flatMap fun i=>(List.range n).flatMap fun j=>(List.range n).map fun k=>f i j k
noncomputable def Lst(us:List Nm)(c k:Nat):Prop:=(∀j,j<k->some (c,j)∈us)/\some (c,k)∉us
noncomputable def num(us:List Nm)(c:Nat):Nat:=((List.range (us.length+1)).find? fun k=>decide (some (c,k)∉us)).getD 0
theorem Y1(c:Nat):∀(n:Nat) (l:List Nm),l.length<n->∃k,k<n/\some (c,k)∉l:=by
 intro n;induction n with
 | zero=>intro l h; simp at h
 | succ n ih =>
  intro l h;by_cases hn:some (c,n)∈l
  .obtain⟨k,h1,h2⟩:=ih (l.erase (some (c,n))) (by rw[List.length_erase_of_mem hn]; have:=List.length_pos_of_mem hn; omega)
   exact⟨k,by omega,fun z=>h2 ((List.mem_erase_of_ne (by simp; omega)).mpr z)⟩
  .exact⟨n,by omega,hn⟩
theorem ID(us:List Nm)(c:Nat):Lst us c (num us c)/\num us c<=us.length:=by
 have key:∀m,(∃k,k<m/\some (c,k)∉us)->Lst us c (((List.range m).find? fun k=>decide (some (c,k)∉us)).getD 0)/\(((List.range m).find? fun k=>decide (some (c,k)∉us)).getD 0)<m:=by
  intro m h;cases e:(List.range m).find? fun k=>decide (some (c,k)∉us) with
  | none =>
   obtain⟨k,h1,h2⟩:=h;have:=List.find?_eq_none.mp e k (List.mem_range.mpr h1);simp[h2] at this
  | some k =>
   have h1:=List.find?_some e;have h2:=List.mem_of_find?_eq_some e;refine⟨⟨fun j hj=>?_,by simpa using h1⟩,by simpa using h2⟩;have hj:j<k:=hj;obtain⟨_,as,bs,e2,e3⟩:=List.find?_eq_some_iff_append.mp e;have hk:as.length=k:=by
    have hl:as.length<m:=by have:=congrArg List.length e2; simp at this; omega
    have:(List.range m)[as.length]? = some k:=by rw[e2]; simp
    rw[List.getElem?_range hl] at this;simpa using this
   have hj2:j∈as:=by
    have h5:(List.range m)[j]? = as[j]?:=by rw[e2,List.getElem?_append_left (by omega)]
    have hl:j<m:=by have:=congrArg List.length e2; simp at this; omega
    rw[List.getElem?_range hl] at h5;exact List.mem_of_getElem? h5.symm
   have:=e3 j hj2;simpa using this
 obtain⟨h1,h2⟩:=key (us.length+1) (Y1 c _ us (by omega));exact⟨h1,by have:num us c<us.length+1:=h2; omega⟩
theorem LD(n:Nat)(fs:List N3):(used n fs).length=fs.length*(n*(n*n)):=by
 have c:∀{α β:Type} (l:List α) (g:α -> List β) (m:Nat),(∀x,(g x).length=m)->(l.flatMap g).length=l.length*m:=by
  intro α β l g m h;induction l with
  | nil=>simp
  | cons x l ih=>rw[List.flatMap_cons,List.length_append,ih,h,List.length_cons,Nat.add_mul,Nat.one_mul,Nat.add_comm]
 refine c _ _ _ fun f=>?_;rw[c _ _ (n*n) fun i=>?_,List.length_range];rw[c _ _ n fun j=>?_,List.length_range];simp
noncomputable def told(n:Nat)(hs:List Int)(nm:Nm)(fs:List N3):N3:=fun i j k =>
 let w:=fun i=>C9 n i (fs.headD fun _ _ _=>none) fs
 if (i:Int)∈hs then (if (j:Int)∈hs then (if (k:Int)∈hs then nm else fi (w k) k) else w j j j k) else w i i j k
section
variable(n:Nat)(hd:Nat->List Int)
noncomputable def G0(f:Nat->N3)(c:Nat):List N3:=(hd c).map fun x=>f x.toNat
noncomputable def M9(f:Nat->N3)(c:Nat):Nat:=num (used n (G0 hd f c)) c
noncomputable def nxt(f:Nat->N3)(c:Nat):Nat->N3:=fun q=>if (q:Int)∈hd c then told n (hd c) (some (c,M9 n hd f c)) (G0 hd f c) else f q
noncomputable def Fw(f:Nat->N3)(l:List Nat):Nat->N3:=l.foldl (nxt n hd) f
noncomputable def rnN:(Nat->N3)->List Nat->List (Nat×Nat)
 | _,[]=>[]
 | f,c::l=>(c,M9 n hd f c)::rnN (nxt n hd f c) l
theorem T6(f:Nat->N3)(l1 l2:List Nat):rnN n hd f (l1++l2)=rnN n hd f l1++rnN n hd (Fw n hd f l1) l2:=by
 induction l1 generalizing f with
 | nil=>rfl
 | cons c l ih=>simp only[List.cons_append,rnN,ih,Fw,List.foldl_cons]
theorem RG(f:Nat->N3)(l1 l2:List Nat):Fw n hd f (l1++l2)=Fw n hd (Fw n hd f l1) l2:=List.foldl_append
variable{hd}(h0:∀c,∀x∈hd c,0<=x)
include h0 in
include h0 in
include h0 in
end
end Nw
end
section
namespace J
open PySem L2
theorem BV(ds:List D):fzs (ds.map A.fz)=some ds:=by
 induction ds with
 | nil=>rfl
 | cons d ds ih=>simp[fzs,ih]
theorem GW(ds:List D):ers (ds.map A.fz)=some ds:=by
 induction ds with
 | nil=>simp[ers]
 | cons d ds ih=>simp[ers,er,ih]
theorem OW(Z:Ro):lock Z none=Z:=rfl
theorem Mo(Z:Ro)(n:Option Nat):unlock Z (lock Z n) n=Z:=by
 cases n with
 | none=>rfl
 | some i =>
  simp only[unlock,lock];split
  .rename_i s e
   apply List.ext_getElem?;intro j;by_cases h:j=i
   .subst h
    have hj:j<Z.length:=Aq e;split
    .rw[List.getElem?_set_self (by simpa using hj),e]
    .rw[List.getElem?_set_self hj,e]
   .split
    .rw[List.getElem?_set_ne (Ne.symm h),List.getElem?_set_ne (Ne.symm h)]
    .rw[List.getElem?_set_ne (Ne.symm h)]
  .rename_i e
   split
   .rename_i st a e'
    rw[e] at e'; cases e'
   .rfl
theorem PL{c:MT}{e:ME}{f:D->D}{g:D->Bool}{Z:Ro}:∀{ds:List D},(∀d∈ds,c (own d::Z)=some (g d,own d::Z))->(∀d∈ds,g d=true->∃r,e (own d::Z)=some (r,own d::Z)/\share (own d::Z) r=some (f d,own d::Z))->EE 0 c e ds Z=some ((ds.filter g).map f,Z):=by
 intro _l;induction _l with
 | nil =>
  intro _ _;exact rfl
 | cons d ds ih =>
  intro hc he;have ih:=ih (fun x hx=>hc x (List.mem_cons_of_mem _ hx)) fun x hx=>he x (List.mem_cons_of_mem _ hx);simp only[EE,L6,Option.bind_some,List.map_cons,List.map_nil,List.cons_append,List.nil_append,hc d List.mem_cons_self];cases h:g d with
  | true =>
   obtain⟨r,h1,h2⟩:=he d List.mem_cons_self h;simp[h1,h2,ih,h]
  | false=>simp[ih,h]
theorem Lh{it:MI}{c:MT}{e:ME}{f:D->D}{g:D->Bool}{Z Z1:Ro}{ds:List D}{n:Option Nat}(hi:it Z=some (ds,n,Z1))(hl:ds.length<=LIM)(hc:∀d∈ds,c (own d::lock Z1 n)=some (g d,own d::lock Z1 n))(he:∀d∈ds,g d=true->∃r,e (own d::lock Z1 n)=some (r,own d::lock Z1 n)/\share (own d::lock Z1 n) r=some (f d,own d::lock Z1 n)):AN it 0 c e Z=some (.val (.lst (((ds.filter g).map f).map A.fz)),Z1):=by
 simp only[AN,hi,Option.bind_some,hl,if_true,PL hc he,Option.map_some,Mo]
theorem Hq{it:MI}{e:ME}{f:D->D}{Z Z1:Ro}{ds:List D}{n:Option Nat}(hi:it Z=some (ds,n,Z1))(hl:ds.length<=LIM)(he:∀d∈ds,∃r,e (own d::lock Z1 n)=some (r,own d::lock Z1 n)/\share (own d::lock Z1 n) r=some (f d,own d::lock Z1 n)):AN it 0 Ce e Z=some (.val (.lst ((ds.map f).map A.fz)),Z1):=by
 have:=Lh (g:=fun _=>true) (c:=Ce) hi hl (fun d _=>rfl) fun d hd _=>he d hd;rw[List.filter_eq_self.mpr (fun _ _=>rfl)] at this;exact this
theorem Lo{is:List Nat}{one:Bool}{b:MS}(Inv:Nat->Ro->Prop):∀{ds:List D} {i:Nat} {Z:Ro},Inv i Z -> (∀(j:Nat) d Z,ds[j]? = some d->Inv (i+j) Z -> ∃Z1 Z2,FE is one d Z=some Z1/\(b Z1=some (.next Z2)\/b Z1=some (.cnt Z2))/\Inv (i+j+1) Z2)->∃Z',forL is one b ds Z=some (.next Z')/\Inv (i+ds.length) Z'
 | [],i,Z,h0,_=>⟨Z,rfl,h0⟩
 | d::ds,i,Z,h0,hs=>by
  obtain⟨Z1,Z2,h1,h2,h3⟩:=hs 0 d Z rfl h0;obtain⟨Z',h4,h5⟩:=Lo (ds:=ds) (i:=i+1) (b:=b) (is:=is) (one:=one) Inv h3 fun j d Z e hI=>by
   have:=hs (j+1) d Z (by simpa using e) (by rw[show i+(j+1)=i+1+j by lia]; exact hI);rw[show i+(j+1)+1=i+1+j+1 by lia] at this;exact this
  refine⟨Z',?_,by rw[List.length_cons,show i+(ds.length+1)=i+1+ds.length by lia]; exact h5⟩;rcases h2 with h2|h2<;>simp[forL,h1,h2,h4]
theorem Lp{is:List Nat}{one:Bool}{it:MI}{b:MS}{Z Z1:Ro}{ds:List D}{n:Option Nat}(Inv:Nat->Ro->Prop)(hi:it Z=some (ds,n,Z1))(h0:Inv 0 (lock Z1 n))(hs:∀(j:Nat) d Z,ds[j]? = some d->Inv j Z -> ∃Z1 Z2,FE is one d Z=some Z1/\(b Z1=some (.next Z2)\/b Z1=some (.cnt Z2))/\Inv (j+1) Z2):∃Z',Ca is one it b Z=some (.next (unlock Z1 Z' n))/\Inv ds.length Z':=by
 obtain⟨Z',h1,h2⟩:=Lo (is:=is) (one:=one) (b:=b) Inv (ds:=ds) (i:=0) h0 fun j d Z e hI=>by
  rw[Nat.zero_add] at hI |-;exact hs j d Z e hI
 refine⟨Z',?_,by simpa using h2⟩;simp[Ca,hi,h1,Ih]
theorem Jt(lo:Int)(n:Nat):(D7 lo n).length=n:=by simp[D7]
theorem HD{lo:Int}{n j:Nat}{d:D}(h:(D7 lo n)[j]? = some d):d=.int (lo+j)/\j<n:=by
 have hj:j<n:=by have:=Aq h; simpa[D7] using this
 simp only[D7,List.getElem?_map,List.getElem?_range hj,Option.map_some,Option.some.injEq] at h;exact⟨h.symm,hj⟩
noncomputable def iL(xs:List Int):List D:=xs.map D.int
theorem N2(xs:List Int):(iL xs).all Cf=true:=by simp[iL,Cf,List.all_eq_true]
theorem MN(x:Int)(xs:List Int):inD (.int x) (iL xs)=decide (x∈xs):=by
 induction xs with
 | nil=>rfl
 | cons y ys ih =>
  have:inD (.int x) (iL (y::ys))=(eqD (.int y) (.int x) || inD (.int x) (iL ys)):=rfl;rw[this,ih];simp only[Gh,List.mem_cons];by_cases h:y=x
  .subst h; simp
  .have h':¬x=y:=fun z=>h z.symm
   simp[h,h']
theorem F1{α:Type}(xs:List α)(f:α -> Bool):Df (xs.map fun x=>D.bl (f x))=some (xs.map f):=by
 induction xs with
 | nil=>rfl
 | cons x xs ih=>simp[Df,ih]
theorem Lx(xs:List Int):Qf (iL xs)=some xs:=by
 induction xs with
 | nil=>rfl
 | cons x xs ih =>
  simp only[iL,List.map_cons,Qf] at ih |-;rw[ih]; rfl
end J
namespace J
open PySem L2
@[simp] theorem DF(xs:List Int):(iL xs).length=xs.length:=by simp[iL]
theorem QH{d:D}{xs:List Int}:d∈iL xs↔∃i∈xs,d=.int i:=by
 simp only[iL,List.mem_map];constructor
 .rintro ⟨i,h,rfl⟩; exact⟨i,h,rfl⟩
 .rintro ⟨i,h,rfl⟩; exact⟨i,h,rfl⟩
noncomputable def nD:D->Int
 | .int i=>i
 | _=>0
@[simp] theorem Y0(i:Int):nD (.int i)=i:=rfl
theorem V4{β:Type}(f:Int -> β)(xs:List Int):(iL xs).map (fun d=>f (nD d))=xs.map f:=by simp[iL]
end J
namespace J
open PySem L2
theorem AL{a b:MS}{Z Z1:Ro}(h:a Z=some (.next Z1)):As a b Z=b Z1:=by simp[As,h]
theorem YX{c:MT}{a b:MS}{Z Z1:Ro}(h:c Z=some (true,Z1)):ifS c a b Z=a Z1:=by simp[ifS,h]
theorem VC{c:MT}{a b:MS}{Z Z1:Ro}(h:c Z=some (false,Z1)):ifS c a b Z=b Z1:=by simp[ifS,h]
theorem K5{m:ME}{Z Z1:Ro}{b:Bool}(h:m Z=some (.val (.fz (.bl b)),Z1)):AM m Z=some (b,Z1):=by simp[AM,h,peek,DL]
theorem not_of{m:MT}{Z Z1:Ro}{b:Bool}(h:m Z=some (b,Z1)):DZ m Z=some (!b,Z1):=by simp[DZ,h]
theorem FY{m:ME}{Z Z1:Ro}{a:A}(h:m Z=some (.val a,Z1)):retS m Z=some (.ret a Z1):=by simp[retS,h,move]
theorem Ho{m:ME}{Z Z1:Ro}{a:A}{i:Nat}(h:m Z=some (.val a,Z1))(hf:free Z1 i=true):AG i m Z=some (.next (Z1.set i (some (.own,a)))):=by simp[AG,h,keep,hf]
theorem B9{np nn:Nat}{b:MS}{args:List (Own×A)}{a:A}{Z:Ro}(hl:args.length=np)(h:b (args.map some++List.replicate (nn-np) none)=some (.ret a Z)):fnM np nn b args=some (a,(Z.take np).map GB):=by simp[fnM,hl,h]
theorem SH{np nn:Nat}{b:MS}{args:List (Own×A)}{Z:Ro}(hl:args.length=np)(h:b (args.map some++List.replicate (nn-np) none)=some (.next Z)):fnM np nn b args=some (.fz .non,(Z.take np).map GB):=by simp[fnM,hl,h]
end J
end
section
namespace J
open PySem L2
section
variable{i:Nat}{m e:ME}{Z:Ro}{QS:Fl->Prop}{Q:R->Ro->Prop}
theorem Xy{n:Nat}{d:D}(h:d∈D7 0 n):∃k,k<n/\d=.int (k:Int):=by
 simp only[D7,List.mem_map,List.mem_range,Int.zero_add] at h;obtain⟨k,h1,h2⟩:=h;exact⟨k,h1,h2.symm⟩
theorem EU(n:Nat)(g:Nat->D)(h:EV m Z fun r Z1=>r=.val (.fz (.int (n:Int)))/\n<=1000/\(∀k,k<n->EV e (own (.int (k:Int))::Z1) fun r Z3=>∃v,share Z3 r=some (v,own (.int (k:Int))::Z1)/\Z3=own (.int (k:Int))::Z1/\v=g k)/\Q (.val (.lst (((List.range n).map g).map A.fz))) Z1):EV (AN (Bh m) 0 Ce e) Z Q:=by
 refine Kp (fun d=>match d with | .int i=>some (g i.toNat)|_=>none) ((List.range n).map g) (MP ?_);obtain⟨r,Z1,e0,rfl,hn,hs,q⟩:=h;refine⟨_,Z1,e0,(n:Int),rfl,⟨by lia,by lia⟩,?_,?_,?_,q⟩
 .simp[D7]; lia
 .rw[D7,Int.toNat_natCast,List.filterMap_map,<- List.filterMap_eq_map]
  refine congrArg (fun z=>List.filterMap z (List.range n)) (funext fun k=>?_);simp
 .intro d hd
  obtain⟨k,hk,rfl⟩:=Xy hd;refine⟨[.int (k:Int)],rfl,Dr ⟨rfl,?_⟩⟩;obtain⟨r,Z3,e1,v,e2,rfl,e3⟩:=hs k (by simpa using hk);exact⟨r,_,e1,rfl,v,e2,by simp[e3]⟩
theorem NX(xs:List D)(g:D->D)(h:EV m Z fun r Z1=>∃x,peek Z1 r=some x/\AH x=some xs/\xs.length<=100000/\(∀d,d∈xs->EV e (own d::lock Z1 (nameOf r)) fun r2 Z3=>∃v,share Z3 r2=some (v,own d::lock Z1 (nameOf r))/\Z3=own d::lock Z1 (nameOf r)/\v=g d)/\Q (.val (.lst ((xs.map g).map A.fz))) (unlock Z1 (lock Z1 (nameOf r)) (nameOf r))):EV (AN (BW m) 0 Ce e) Z Q:=by
 refine Kp (fun d=>some (g d)) (xs.map g) (DX ?_);obtain⟨r,Z1,e0,x,e1,e2,hl,hs,q⟩:=h;refine⟨_,Z1,e0,x,e1,xs,e2,hl,by rw[<- List.filterMap_eq_map]; rfl,?_,q⟩;intro d hd;refine⟨[d],rfl,Dr ⟨rfl,?_⟩⟩;obtain⟨r,Z3,e1,v,e2,rfl,e3⟩:=hs d hd;exact⟨r,_,e1,rfl,v,e2,by simp[e3]⟩
theorem Kq{n:Nat}(xs:List D)(g:Nat->D)(hn:xs.length=n)(h:EV m Z fun r Z1=>∃x,peek Z1 r=some x/\Kw x=true/\AH x=some xs/\n<=100000/\(∀k d,k<n->xs[k]? = some d->EV e (own (.int (k:Int))::own d::lock Z1 (nameOf r)) fun r2 Z3=>∃v,share Z3 r2=some (v,own (.int (k:Int))::own d::lock Z1 (nameOf r))/\Z3=own (.int (k:Int))::own d::lock Z1 (nameOf r)/\v=g k)/\Q (.val (.lst (((List.range n).map g).map A.fz))) (unlock Z1 (lock Z1 (nameOf r)) (nameOf r))):EV (AN (Gg m) 2 Ce e) Z Q:=by
 subst hn;refine Kp (fun d=>match d with | .tup [.int i,_]=>some (g i.toNat)|_=>none) ((List.range xs.length).map g) (Ly ?_);obtain⟨r,Z1,e0,x,e1,e4,e2,hl,hs,q⟩:=h;refine⟨_,Z1,e0,x,e1,e4,xs,e2,?_,?_,?_,q⟩
 .simp[HW]; exact hl
 .rw[HW,List.filterMap_map,<- List.filterMap_eq_map]
  refine congrArg (fun z=>List.filterMap z (List.range xs.length)) (funext fun k=>?_);simp
 .intro d hd
  simp only[HW,List.mem_map,List.mem_range] at hd;obtain⟨k,hk,rfl⟩:=hd;refine⟨[.int (k:Int),xs.getD k .non],rfl,Dr ⟨rfl,?_⟩⟩;obtain⟨r,Z3,e1,v,e2,rfl,e3⟩:=hs k (xs.getD k .non) hk (by simp[List.getD,List.getElem?_eq_getElem hk]);exact⟨r,_,e1,rfl,v,e2,by simp[e3]⟩
theorem K4{mk me:ME}(h:EV me Z fun r Z1=>∃d Z2,share Z1 r=some (d,Z2)/\(∃p,C7 Z2 i=some p)/\EV mk Z2 fun r2 Z3=>∃k:Int,r2=.val (.fz (.int k))/\∃st as,C7 Z3 i=some (st,as)/\∃j,ixN as.length k=some j/\QS (.next (Z3.set i (some (st,.lst (as.set j (.fz d))))))):SV (Gb i mk me) Z QS:=by
 obtain⟨r,Z1,e,d,Z2,e2,⟨p,e0⟩,r2,Z3,e3,k,rfl,st,as,e4,j,e5,q⟩:=h;refine⟨_,?_,q⟩;simp only[Gb,e,e2,e0,e3,e4,e5,Option.bind_some,Option.map_some]
theorem YA{i j:Nat}{a b:A}{Z:Ro}(h:free Z i=true)(h2:free (Z.set i (some (.own,a))) j=true):BI [i,j] [a,b] Z=some ((Z.set i (some (.own,a))).set j (some (.own,b))):=by
 simp only[BI,h,h2,if_true]
theorem F7{Z:Ro}{i:Nat}{ds:List D}(h : Z[i]? = some (some (.own,.lst (ds.map A.fz)))):share Z (.ref i)=some (.lst ds,Z.set i (some (.own,.fz (.lst ds)))):=by
 simp only[share,h,J.er,GW,Option.map_some]
theorem Ku(i:Int)(xs:List Int):inA false [.fz (.int i),.fz (.lst (iL xs))]=some (.fz (.bl (decide (i∈xs)))):=by
 have hf:(iL xs).all Cf=true:=by simp[iL,Cf,List.all_eq_true]
 simp only[inA,on2,Ck,Fx,Option.bind_none,Option.none_or,fzU,AH,Option.bind_some,Cf,hf,Bool.and_true,MN,if_true,Bool.false_eq_true,if_false]
theorem Ky{n k:Nat}(h:k<n):ixN n (k:Int)=some k:=by
 simp[ixN]; lia
end
section
variable{i:Nat}{m m1 m2 e:ME}{Z:Ro}{QS:Fl->Prop}{Q:R->Ro->Prop}
theorem UH(n:Nat)(f g:Nat->D):Pu ((List.range n).map f) ((List.range n).map g)=(List.range n).map fun q=>D.tup [f q,g q]:=by
 unfold Pu;rw[List.zipWith_map,List.zipWith_self]
theorem SE(n:Nat)(f1 f2 g:Nat->D)(hn:n<=1000)(h:EV m1 Z fun r1 Z1=>r1=.val (.fz (.lst ((List.range n).map f1)))/\EV m2 Z1 fun r2 Z2=>r2=.val (.fz (.lst ((List.range n).map f2)))/\(∀q,q<n->EV e (own (f1 q)::own (f2 q)::Z2) fun r Z3=>∃v,share Z3 r=some (v,own (f1 q)::own (f2 q)::Z2)/\Z3=own (f1 q)::own (f2 q)::Z2/\v=g q)/\Q (.val (.lst (((List.range n).map g).map A.fz))) Z2):EV (AN (Mr m1 m2) 2 Ce e) Z Q:=by
 obtain⟨r1,Z1,e1,rfl,r2,Z2,e2,rfl,hs,q⟩:=h;have hz:Mr m1 m2 Z=some ((List.range n).map fun q=>D.tup [f1 q,f2 q],none,Z2):=by
  have:(List.map f1 (List.range n)).length=(List.map f2 (List.range n)).length:=by rw[List.length_map,List.length_map]
  simp only[Mr,Ac,Aj,e1,e2,Option.bind_some,Option.map_some,peeks,peek,lsU,this,if_true,UH]
 have hL:100000<=LIM:=by decide
 have key:∀js:List Nat,(∀j∈js,j<n)->EE 2 Ce e (js.map fun q=>D.tup [f1 q,f2 q]) Z2=some (js.map g,Z2):=by
  intro js;induction js with
  | nil=>intro _; rfl
  | cons j js ih =>
   intro hj;obtain⟨r,Z3,e3,v,e4,rfl,rfl⟩:=hs j (hj j List.mem_cons_self);have ih:=ih fun k hk=>hj k (List.mem_cons_of_mem _ hk);have ep:L6 2 (D.tup [f1 j,f2 j])=some [f1 j,f2 j]:=rfl;simp only[List.map_cons,EE,ep,Option.bind_some,Ce,if_true,List.map_nil,List.cons_append,List.nil_append,e3,e4,List.length_cons,List.length_nil,List.drop_succ_cons,List.drop_zero,ih,Option.map_some]
 have hk:=key (List.range n) fun j hj=>List.mem_range.mp hj;refine⟨_,_,?_,q⟩;have hlen:(List.map (fun q=>D.tup [f1 q,f2 q]) (List.range n)).length<=LIM:=by rw[List.length_map,List.length_range]; lia
 simp only[AN,hz,Option.bind_some,lock,hlen,if_true,hk,Option.map_some,unlock]
theorem QX{ds:List D}{j:Nat}{d:D}(h:(HW ds)[j]? = some d):∃e,ds[j]? = some e/\d=.tup [.int (j:Int),e]:=by
 simp only[HW,List.getElem?_map,map_eq_some_iff] at h;obtain⟨k,h1,rfl⟩:=h;obtain⟨h2,h3⟩:=List.getElem?_eq_some_iff.mp h1;simp at h2 h3;subst h3;exact⟨ds[j],List.getElem?_eq_getElem h2,by simp[List.getD,List.getElem?_eq_getElem h2]⟩
theorem W8(n:Nat)(f:Nat->D)(k:Nat)(d:D):(((List.range n).map f).map A.fz).set k (.fz d)=((List.range n).map fun q=>if q=k then d else f q).map A.fz:=by
 rw[<- List.map_set];congr 1;refine List.ext_getElem? fun q=>?_;rw[List.getElem?_set];by_cases hk:k=q
 .subst hk
  rw[if_pos rfl];by_cases hq:k<n
  .simp[hq]
  .simp[hq]
 .rw[if_neg hk]
  have:¬q=k:=fun z=>hk z.symm;by_cases hq:q<n
  .simp[hq,this]
  .simp[hq]
theorem Qt{Z:Ro}{i:Nat}{ds:List D}(h : Z[i]? = some (some (.own,.lst (ds.map A.fz)))):keep Z (.ref i)=some (.fz (.lst ds),Z.set i (some (.own,.fz (.lst ds)))):=by
 show(share Z (.ref i)).map _=_;rw[F7 h]; rfl
theorem D3{α:Type}{n:Nat}{f g:Nat -> α}(h:∀q,q<n->f q=g q):(List.range n).map f=(List.range n).map g:=List.map_congr_left fun q hq=>h q (List.mem_range.mp hq)
end
end J
end
section
namespace Nw
section
variable(ow:Nat->List Nat)
noncomputable def L:Nat->Nat->Nat
 | 0,_=>0
 | k+1,p=>if p∈ow (k+1) then k+1 else L k p
noncomputable def mx(l:List Nat):Nat:=l.foldr max 0
noncomputable def tab:Nat->Nat->Nat->Nat
 | 0=>fun _ _=>0
 | k+1=>fun d q=>if d=k+1 then (if q∈ow (k+1) then k+1 else mx ((ow (k+1)).map fun p=>tab k (L ow k p) q)) else tab k d q
noncomputable def W(d q:Nat):Nat:=tab ow d d q
noncomputable def Bel(d e:Nat):Prop:=∀s,W ow d s<=W ow e s
theorem UU{l:List Nat}{x:Nat}(h:x∈l):x<=mx l:=by
 induction l with
 | nil=>cases h
 | cons y l ih =>
  have e:mx (y::l)=max y (mx l):=rfl;rw[e];rcases List.mem_cons.mp h with rfl|h
  .omega
  .have:=ih h; omega
theorem UX{l:List Nat}{b:Nat}(h:∀x∈l,x<=b):mx l<=b:=by
 induction l with
 | nil=>exact Nat.zero_le _
 | cons y l ih =>
  have e:mx (y::l)=max y (mx l):=rfl;rw[e];have:=h y List.mem_cons_self;have:=ih fun x hx=>h x (List.mem_cons_of_mem _ hx);omega
theorem V7{l:List Nat}(h:l≠[]):mx l∈l:=by
 induction l with
 | nil=>exact absurd rfl h
 | cons y l ih =>
  have e:mx (y::l)=max y (mx l):=rfl;rw[e];by_cases hl:l=[]
  .subst hl; simp[mx]
  .have:=ih hl
   rcases Nat.le_total y (mx l) with z|z
   .rw[Nat.max_eq_right z]; exact List.mem_cons_of_mem _ this
   .rw[Nat.max_eq_left z]; exact List.mem_cons_self
variable{ow}
theorem GJ(k p:Nat):L ow k p<=k:=by
 induction k with
 | zero=>exact Nat.le_refl _
 | succ k ih=>rw[L]; split<;>omega
theorem JJ(k p:Nat):L ow k p=0\/p∈ow (L ow k p):=by
 induction k with
 | zero=>exact .inl rfl
 | succ k ih =>
  rw[L]; split
  .rename_i h; exact .inr h
  .exact ih
theorem Pw{k p d:Nat}(h:p∈ow d)(h1:1<=d)(h2:d<=k):d<=L ow k p:=by
 induction k with
 | zero=>omega
 | succ k ih =>
  rw[L]; split
  .exact h2
  .rename_i hn
   by_cases e:d=k+1
   .subst e; exact absurd h hn
   .exact ih (by omega)
theorem Xu{k d:Nat}(h:d<=k)(q:Nat):tab ow k d q=W ow d q:=by
 induction k with
 | zero =>
  have h0:d=0:=by omega
  subst h0;rfl
 | succ k ih =>
  by_cases e:d=k+1
  .subst e; rfl
  .show(if d=k+1 then _ else tab ow k d q)=_
   rw[if_neg e]; exact ih (by omega)
theorem Px(q:Nat):W ow 0 q=0:=rfl
theorem Hn(k q:Nat):W ow (k+1) q=if q∈ow (k+1) then k+1 else mx ((ow (k+1)).map fun p=>W ow (L ow k p) q):=by
 show(if k+1=k+1 then (if q∈ow (k+1) then k+1 else mx ((ow (k+1)).map fun p=>tab ow k (L ow k p) q)) else tab ow k (k+1) q)=_;rw[if_pos rfl];congr 2;exact List.map_congr_left fun p _=>Xu (GJ k p) q
theorem DI{d q:Nat}(h:q∈ow d)(h1:1<=d):W ow d q=d:=by
 obtain⟨k,rfl⟩:∃k,d=k+1:=⟨d-1,by omega⟩;rw[Hn,if_pos h]
theorem Kg(d:Nat):∀q,W ow d q<=d:=by
 induction d using Nat.strongRecOn with
 | _ d ih =>
  intro q;cases d with
  | zero=>exact Nat.le_refl _
  | succ k =>
   rw[Hn]; split
   .exact Nat.le_refl _
   .refine UX fun x hx=>?_
    obtain⟨p,_,rfl⟩:=List.mem_map.mp hx;have h1:=GJ (ow:=ow) k p;have:=ih (L ow k p) (by omega) q;omega
theorem Mu{k p:Nat}(h:p∈ow (k+1)):Bel ow (L ow k p) (k+1):=by
 intro q;rw[Hn]; split
 .have:=Kg (ow:=ow) (L ow k p) q
  have:=GJ (ow:=ow) k p;omega
 .exact UU (List.mem_map.mpr ⟨p,h,rfl⟩)
theorem Vi(ne:∀k,ow k≠[]){k q:Nat}(h:q∉ow (k+1)):∃p,p∈ow (k+1)/\W ow (k+1) q=W ow (L ow k p) q:=by
 rw[Hn,if_neg h];have:=V7 (l:=(ow (k+1)).map fun p=>W ow (L ow k p) q) (by simp[ne]);obtain⟨p,h1,h2⟩:=List.mem_map.mp this;exact⟨p,h1,h2.symm⟩
theorem HH(ne:∀k,ow k≠[])(d:Nat):∀q,W ow d q=0\/q∈ow (W ow d q):=by
 induction d using Nat.strongRecOn with
 | _ d ih =>
  intro q;cases d with
  | zero=>exact .inl rfl
  | succ k =>
   by_cases h:q∈ow (k+1)
   .rw[DI h (by omega)]; exact .inr h
   .obtain⟨p,_,e⟩:=Vi ne h
    rw[e];have:=GJ (ow:=ow) k p;exact ih _ (by omega) q
theorem Gf(ne:∀k,ow k≠[])(d:Nat):∀q,Bel ow (W ow d q) d:=by
 induction d using Nat.strongRecOn with
 | _ d ih =>
  intro q;cases d with
  | zero=>exact fun s=>Nat.le_refl _
  | succ k =>
   by_cases h:q∈ow (k+1)
   .rw[DI h (by omega)]; exact fun s=>Nat.le_refl _
   .obtain⟨p,hp,e⟩:=Vi ne h
    rw[e];have:=GJ (ow:=ow) k p;exact fun s=>Nat.le_trans (ih _ (by omega) q s) (Mu hp s)
theorem Ke(ne:∀k,ow k≠[])(d q:Nat):W ow (W ow d q) q=W ow d q:=by
 rcases HH ne d q with h|h
 .rw[h]; rfl
 .rcases Nat.eq_zero_or_pos (W ow d q) with z|z
  .rw[z]; rfl
  .exact DI h z
theorem line{r d e:Nat}(h:r∈ow d)(g:r∈ow e)(h1:1<=d):d<=e->Bel ow d e:=by
 induction e using Nat.strongRecOn with
 | _ e ih =>
  intro hle;by_cases he:d=e
  .subst he; exact fun s=>Nat.le_refl _
  .obtain⟨k,rfl⟩:∃k,e=k+1:=⟨e-1,by omega⟩
   have h2:=Pw h h1 (show d<=k by omega);have h3:=GJ (ow:=ow) k r;have h4:r∈ow (L ow k r):=(JJ k r).resolve_left (by omega);exact fun s=>Nat.le_trans (ih (L ow k r) (by omega) h4 h2 s) (Mu g s)
theorem PD(ne:∀k,ow k≠[]){d e r:Nat}(h1:1<=d)(h:r∈ow d)(hl:d<=W ow e r):Bel ow d e:=by
 have h4:r∈ow (W ow e r):=(HH ne e r).resolve_left (by omega);exact fun s=>Nat.le_trans (line h h4 h1 hl s) (Gf ne e r s)
theorem Es{d e r:Nat}(h1:1<=d)(h:r∈ow d)(hb:Bel ow d e):d<=W ow e r:=by
 have:=hb r
 rwa [DI h h1] at this
theorem PB(ne:∀k,ow k≠[]){d e:Nat}(hb:Bel ow d e):d<=e:=by
 rcases Nat.eq_zero_or_pos d with z|z
 .omega
 .obtain⟨r,hr⟩:=List.exists_mem_of_ne_nil _ (ne d)
  exact Nat.le_trans (Es z hr hb) (Kg _ _)
theorem Bel.trans{a b c:Nat}(h:Bel ow a b)(g:Bel ow b c):Bel ow a c:=fun s=>Nat.le_trans (h s) (g s)
theorem Ou(ne:∀k,ow k≠[]){f:Nat}(h1:1<=f)(y:Nat):Bel ow f y->f≠y->∃s,s∈ow f/\f<W ow y s:=by
 induction y using Nat.strongRecOn with
 | _ y ih =>
  intro hb hne;obtain⟨r,hr⟩:=List.exists_mem_of_ne_nil _ (ne f);have h2:=Es h1 hr hb;rcases Nat.lt_or_ge f (W ow y r) with z|z
  .exact⟨r,hr,z⟩
  .have e:W ow y r=f:=by omega
   have hy:=Kg (ow:=ow) y r;obtain⟨k,rfl⟩:∃k,y=k+1:=⟨y-1,by omega⟩;have hn:r∉ow (k+1):=fun q=>hne (by rw[<- e,DI q (by omega)]);obtain⟨p,hp,e2⟩:=Vi ne hn;have hg:=GJ (ow:=ow) k p;have hbg:Bel ow f (L ow k p):=PD ne h1 hr (by omega);by_cases hgf:f=L ow k p
   .have hpf:p∈ow f:=by rw[hgf]; exact(JJ k p).resolve_left (by omega)
    exact⟨p,hpf,by rw[DI hp (by omega)]; omega⟩
   .obtain⟨s,hs,hl⟩:=ih (L ow k p) (by omega) hbg hgf
    exact⟨s,hs,Nat.lt_of_lt_of_le hl (Mu hp s)⟩
theorem V5{P:Nat->Prop}{b:Nat}(hb:∀f,P f->f<=b):∀d,P d->∃f,P f/\∀g,P g->g<=f:=by
 have key:∀n d,P d->b-d<=n->∃f,P f/\∀g,P g->g<=f:=by
  intro n;induction n with
  | zero=>intro d hd hn; exact⟨d,hd,fun g hg=>by have:=hb g hg; have:=hb d hd; omega⟩
  | succ n ih =>
   intro d hd hn;by_cases h:∃g,P g/\d<g
   .obtain⟨g,hg,hl⟩:=h
    exact ih g hg (by have:=hb g hg; omega)
   .exact⟨d,hd,fun g hg=>by
     rcases Nat.lt_or_ge d g with z|z
     .exact absurd ⟨g,hg,z⟩ h
     .exact z⟩
 exact fun d hd=>key (b-d) d hd (Nat.le_refl _)
theorem both(ne:∀k,ow k≠[]){d x y:Nat}(h1:1<=d)(hx:Bel ow d x)(hy:Bel ow d y):∃f,1<=f/\Bel ow d f/\Bel ow f x/\Bel ow f y/\(f=x\/f=y\/((∃s,s∈ow f/\f=W ow x s)/\∃s,s∈ow f/\f=W ow y s)):=by
 obtain⟨f,⟨p1,p2,p3⟩,pm⟩:=V5 (P:=fun f=>Bel ow d f/\Bel ow f x/\Bel ow f y) (b:=x) (fun f h=>PB ne h.2.1) d ⟨fun s=>Nat.le_refl _,hx,hy⟩;have hf:1<=f:=Nat.le_trans h1 (PB ne p1);refine⟨f,hf,p1,p2,p3,?_⟩;by_cases ex:f=x
 .exact .inl ex
 by_cases ey:f=y
 .exact .inr (.inl ey)
 obtain⟨s1,hs1,l1⟩:=Ou ne hf x p2 ex;obtain⟨s2,hs2,l2⟩:=Ou ne hf y p3 ey;have key:∀s,s∈ow f->f<W ow x s->f<W ow y s->False:=by
  intro s hs q1 q2;have t1:s∈ow (W ow x s):=(HH ne x s).resolve_left (by omega);have t2:s∈ow (W ow y s):=(HH ne y s).resolve_left (by omega);rcases Nat.le_total (W ow x s) (W ow y s) with z|z
  .have:=pm (W ow x s) ⟨p1.trans (line hs t1 hf (by omega)),Gf ne x s,(line t1 t2 (by omega) z).trans (Gf ne y s)⟩
   omega
  .have:=pm (W ow y s) ⟨p1.trans (line hs t2 hf (by omega)),(line t2 t1 (by omega) z).trans (Gf ne x s),Gf ne y s⟩
   omega
 refine .inr (.inr ⟨⟨s2,hs2,?_⟩,⟨s1,hs1,?_⟩⟩)
 .have:=Es hf hs2 p2
  rcases Nat.lt_or_ge f (W ow x s2) with z|z
  .exact(key s2 hs2 z l2).elim
  .omega
 .have:=Es hf hs1 p3
  rcases Nat.lt_or_ge f (W ow y s1) with z|z
  .exact(key s1 hs1 l1 z).elim
  .omega
theorem Mt{k p d:Nat}(ne:∀k,ow k≠[])(h:d<=k):W ow d p<=L ow k p:=by
 rcases HH ne d p with z|z
 .omega
 .rcases Nat.eq_zero_or_pos (W ow d p) with q|q
  .omega
  .exact Pw z q (Nat.le_trans (Kg _ _) h)
theorem Pp(ne:∀k,ow k≠[]){k p q d:Nat}(h1:1<=d)(hx:Bel ow d (L ow k p))(hy:Bel ow d (L ow k q)):∃f,1<=f/\Bel ow d f/\(∃s,s∈ow f/\f=W ow (L ow k p) s)/\∃s,s∈ow f/\f=W ow (L ow k q) s:=by
 obtain⟨f,hf,b1,b2,b3,h⟩:=both ne h1 hx hy;refine⟨f,hf,b1,?_⟩;rcases h with e|e|h
 .have hp:p∈ow f:=by rw[e]; exact(JJ k p).resolve_left (by omega)
  refine⟨⟨p,hp,?_⟩,⟨p,hp,?_⟩⟩
  .rw[<- e,DI hp hf]
  .have q1:=Es hf hp b3
   have q2:=Mt (p:=p) ne (GJ (ow:=ow) k q);omega
 .have hq:q∈ow f:=by rw[e]; exact(JJ k q).resolve_left (by omega)
  refine⟨⟨q,hq,?_⟩,⟨q,hq,?_⟩⟩
  .have q1:=Es hf hq b2
   have q2:=Mt (p:=q) ne (GJ (ow:=ow) k p);omega
  .rw[<- e,DI hq hf]
 .exact h
theorem Mj(ne:∀k,ow k≠[]){k p q r d2:Nat}(h1:1<=W ow (W ow (L ow k p) q) r)(h2:W ow (W ow (L ow k p) q) r<d2)(h3:d2<=k)(ho:ow (W ow (W ow (L ow k p) q) r)=ow d2):
  ∃p' q' r' s',p'∈ow d2/\q'∈ow (W ow (L ow (d2-1) p') q')/\r'∈ow (W ow (W ow (L ow (d2-1) p') q') r')/\s'∈ow d2/\W ow (W ow (W ow (L ow (d2-1) p') q') r') s'=W ow (W ow (L ow k p) q) r:=by
 generalize hx:L ow k p=x at *;generalize he:W ow x q=e at *;generalize hd:W ow e r=d1 at *;have hr1:r∈ow d1:=by rw[<- hd]; exact(HH ne e r).resolve_left (by omega)
 have hr2:r∈ow d2:=ho ▸ hr1;have e1:1<=e:=by
  rcases Nat.eq_zero_or_pos e with z|z
  .rw[z,Px] at hd; omega
  .exact z
 have hq:q∈ow e:=by rw[<- he]; exact(HH ne x q).resolve_left (by omega)
 have hbe:Bel ow d1 e:=hd ▸ Gf ne e r;have hbx:Bel ow e x:=he ▸ Gf ne x q;have hy1:d1<=L ow (d2-1) r:=Pw hr1 h1 (by omega);generalize hy:L ow (d2-1) r=y at *;have hyr:r∈ow y:=by rw[<- hy]; exact(JJ _ r).resolve_left (by omega)
 have hby:Bel ow d1 y:=line hr1 hyr h1 hy1;have hyk:y<=d2-1:=hy ▸ GJ _ _;by_cases hey:Bel ow e y
 .obtain⟨f,hf,b1,b2,b3,h⟩:=both ne e1 hbx hey
  have hWq:W ow f q=e:=by
   have q1:=Es e1 hq b1;have q2:=b2 q;omega
  have fin:∀s,s∈ow f->f=W ow y s->∃p' q' r' s',p'∈ow d2/\q'∈ow (W ow (L ow (d2-1) p') q')/\r'∈ow (W ow (W ow (L ow (d2-1) p') q') r')/\s'∈ow d2/\W ow (W ow (W ow (L ow (d2-1) p') q') r') s'=d1:=fun s hs hfs =>
   ⟨r,s,q,r,hr2,by rw[hy,<- hfs]; exact hs,by rw[hy,<- hfs,hWq]; exact hq,hr2,by rw[hy,<- hfs,hWq,hd]⟩
  rcases h with z|z|⟨_,s,hs,hfs⟩
  .have hp:p∈ow f:=by rw[z,<- hx]; exact(JJ k p).resolve_left (by omega)
   refine fin p hp ?_;have q1:=Es hf hp b3;have q2:=Mt (p:=p) ne (show y<=k by omega);omega
  .exact fin r (by rw[z]; exact hyr) (by rw[z,DI hyr (by omega)])
  .exact fin s hs hfs
 .obtain⟨f,hf,b1,b2,b3,h⟩:=both ne h1 hbe hby
  have hWr:W ow f r=d1:=by
   have q1:=Es h1 hr1 b1;have q2:=b2 r;omega
  have fin:∀s,s∈ow f->f=W ow y s->∃p' q' r' s',p'∈ow d2/\q'∈ow (W ow (L ow (d2-1) p') q')/\r'∈ow (W ow (W ow (L ow (d2-1) p') q') r')/\s'∈ow d2/\W ow (W ow (W ow (L ow (d2-1) p') q') r') s'=d1:=fun s hs hfs =>
   ⟨r,s,s,r,hr2,by rw[hy,<- hfs]; exact hs,by rw[hy,<- hfs,DI hs hf]; exact hs,hr2,by rw[hy,<- hfs,DI hs hf,hWr]⟩
  rcases h with z|z|⟨_,s,hs,hfs⟩
  .exact absurd (z ▸ b3) hey
  .exact fin r (by rw[z]; exact hyr) (by rw[z,DI hyr (by omega)])
  .exact fin s hs hfs
end
section
variable{ow:Nat->List Nat}{nm:Nat->Nm}{n k:Nat}
noncomputable def Nws(ow:Nat->List Nat)(nm:Nat->Nm)(d:Nat):N3:=fun q r s=>nm (W ow (W ow (W ow d q) r) s)
noncomputable def Use(ow:Nat->List Nat)(k d:Nat):Prop:=∃p q r,d=W ow (W ow (L ow k p) q) r
noncomputable def Inj(ow:Nat->List Nat)(nm:Nat->Nm)(k:Nat):Prop:=∀d1 d2,Use ow k d1->Use ow k d2->nm d1=nm d2->d1=d2
theorem E1(ne:∀k,ow k≠[])(d h:Nat):fi (Nws ow nm d) h=nm (W ow d h):=by
 unfold fi Nws;rw[Ke ne,Ke ne]
theorem QY(ne:∀k,ow k≠[])(d v h:Nat):Nws ow nm d v v h=nm (W ow (W ow d v) h):=by
 unfold Nws;rw[Ke ne]
theorem Vd(ne:∀k,ow k≠[])(k p q:Nat):Use ow k (W ow (L ow k p) q):=⟨p,q,q,(Ke ne _ _).symm⟩
theorem Vq(ne:∀k,ow k≠[])(hb:∀k q,q∈ow k->q<n)(h0:nm 0=none)(h1:∀d,1<=d->nm d≠none)(inj:Inj ow nm k)(p p' h:Nat):
  cmp n (Nws ow nm (L ow k p)) (Nws ow nm (L ow k p')) h=if W ow (L ow k p) h=W ow (L ow k p') h then 0 else if W ow (L ow k p) h<W ow (L ow k p') h then -1 else 1:=by
 have hh:h=h:=rfl;unfold cmp;rw[E1 ne,E1 ne];generalize hx:L ow k p=x;generalize hy:L ow k p'=y;have ux:∀v,Use ow k (W ow x v):=fun v=>hx ▸ Vd ne k p v;have uy:∀v,Use ow k (W ow y v):=fun v=>hy ▸ Vd ne k p' v;have ux2:∀v w,Use ow k (W ow (W ow x v) w):=fun v w=>⟨p,v,w,by rw[hx]⟩;by_cases hab:W ow x h=W ow y h
 .rw[if_pos (by rw[hab]),if_pos hab]
 .rw[if_neg (fun e=>hab (inj _ _ (ux h) (uy h) e)),if_neg hab]
  by_cases ha:W ow x h=0
  .rw[if_pos (.inl (by rw[ha,h0])),if_pos (by omega)]
  .have key:knw n (Nws ow nm y) (Nws ow nm x) h=true↔W ow x h<W ow y h:=by
    unfold knw;rw[List.any_eq_true];constructor
    .rintro ⟨v,_,hv⟩
     rw[E1 ne,E1 ne,QY ne,Bool.and_eq_true,decide_eq_true_eq,decide_eq_true_eq] at hv;obtain⟨hv1,hv2⟩:=hv;obtain⟨w,_,hw⟩:=List.mem_map.mp hv1;rw[E1 ne] at hw;have e1:=inj _ _ (uy w) (ux v) hw;have e2:=inj _ _ (ux2 v h) (ux h) hv2;have:=Gf ne y w h;rw[e1,e2] at this;omega
    .intro hl
     have hd:h∈ow (W ow x h):=(HH ne x h).resolve_left ha;have b1:Bel ow (W ow x h) x:=Gf ne x h;have b2:Bel ow (W ow x h) y:=PD ne (by omega) hd (by omega);obtain⟨f,hf,bf,⟨s,hs,es⟩,⟨s',hs',es'⟩⟩:=Pp ne (k:=k) (p:=p) (q:=p') (d:=W ow x h) (by omega) (by rw[hx]; exact b1) (by rw[hy]; exact b2);rw[hx] at es;rw[hy] at es';refine⟨s,List.mem_range.mpr (hb _ _ hs),?_⟩;rw[E1 ne,E1 ne,QY ne,Bool.and_eq_true,decide_eq_true_eq,decide_eq_true_eq];refine⟨List.mem_map.mpr ⟨s',List.mem_range.mpr (hb _ _ hs'),by rw[E1 ne,<- es,<- es']⟩,?_⟩;have q1:=Es (by omega) hd bf;have q2:=Gf ne x s h;rw[<- es] at q2 |-;rw[show W ow f h=W ow x h by omega]
   have ea:¬nm (W ow x h)=none:=h1 _ (by omega);by_cases hl:W ow x h<W ow y h
   .rw[if_pos hl,if_pos (.inr (key.mpr hl))]
   .rw[if_neg hl,if_neg (fun z=>z.elim ea fun z=>hl (key.mp z))]
theorem Ti(ne:∀k,ow k≠[])(hb:∀k q,q∈ow k->q<n)(h0:nm 0=none)(h1:∀d,1<=d->nm d≠none)(inj:Inj ow nm k)(h:Nat):
  ∀(ps:List Nat) (p0:Nat),∃p,(p=p0\/p∈ps)/\C9 n h (Nws ow nm (L ow k p0)) (ps.map fun p=>Nws ow nm (L ow k p))=Nws ow nm (L ow k p)/\W ow (L ow k p0) h<=W ow (L ow k p) h/\∀q∈ps,W ow (L ow k q) h<=W ow (L ow k p) h:=by
 intro ps;induction ps with
 | nil=>intro p0; exact⟨p0,.inl rfl,rfl,Nat.le_refl _,by simp⟩
 | cons q ps ih =>
  intro p0;have e:C9 n h (Nws ow nm (L ow k p0)) ((q::ps).map fun p=>Nws ow nm (L ow k p))=C9 n h (if 0<cmp n (Nws ow nm (L ow k q)) (Nws ow nm (L ow k p0)) h then Nws ow nm (L ow k q) else Nws ow nm (L ow k p0)) (ps.map fun p=>Nws ow nm (L ow k p)):=rfl;have ec:=Vq ne hb h0 h1 inj q p0 h;by_cases hc:W ow (L ow k p0) h<W ow (L ow k q) h
  .have:(0:Int)<cmp n (Nws ow nm (L ow k q)) (Nws ow nm (L ow k p0)) h:=by rw[ec,if_neg (by omega),if_neg (by omega)]; decide
   rw[if_pos this] at e;obtain⟨p,hp,ep,l1,l2⟩:=ih q;refine⟨p,.inr ?_,e.trans ep,by omega,fun r hr=>?_⟩
   .rcases hp with rfl|hp
    .exact List.mem_cons_self
    .exact List.mem_cons_of_mem _ hp
   .rcases List.mem_cons.mp hr with rfl|hr
    .exact l1
    .exact l2 r hr
  .have:¬(0:Int)<cmp n (Nws ow nm (L ow k q)) (Nws ow nm (L ow k p0)) h:=by
    rw[ec];split
    .decide
    .rw[if_pos (by omega)]; decide
   rw[if_neg this] at e;obtain⟨p,hp,ep,l1,l2⟩:=ih p0;refine⟨p,hp.imp id fun z=>List.mem_cons_of_mem _ z,e.trans ep,l1,fun r hr=>?_⟩;rcases List.mem_cons.mp hr with rfl|hr
   .omega
   .exact l2 r hr
theorem HB(ne:∀k,ow k≠[])(hb:∀k q,q∈ow k->q<n)(h0:nm 0=none)(h1:∀d,1<=d->nm d≠none)(inj:Inj ow nm k){h:Nat}(hh:h∉ow (k+1)){fs:List N3}(hf:fs=(ow (k+1)).map fun p=>Nws ow nm (L ow k p)):
  ∃p,C9 n h (fs.headD fun _ _ _=>none) fs=Nws ow nm (L ow k p)/\W ow (L ow k p) h=W ow (k+1) h:=by
 rw[Hn,if_neg hh];have hne:=ne (k+1);generalize ow (k+1)=os at hf hne;cases os with
 | nil=>exact absurd rfl hne
 | cons p0 ps =>
  obtain⟨p,hp,ep,l1,l2⟩:=Ti ne hb h0 h1 inj h (p0::ps) p0;subst hf;refine⟨p,ep,?_⟩;refine Nat.le_antisymm (UU (List.mem_map.mpr ⟨p,by rcases hp with rfl|hp; exact List.mem_cons_self; exact hp,rfl⟩)) (UX fun x hx=>?_);obtain⟨q,hq,rfl⟩:=List.mem_map.mp hx;exact l2 q hq
theorem Ow(ne:∀k,ow k≠[])(hb:∀k q,q∈ow k->q<n)(h0:nm 0=none)(h1:∀d,1<=d->nm d≠none)(inj:Inj ow nm k){hs:List Int}(hhs:∀q:Nat,(q:Int)∈hs↔q∈ow (k+1)){fs:List N3}(hf:fs=(ow (k+1)).map fun p=>Nws ow nm (L ow k p)):
  told n hs (nm (k+1)) fs=Nws ow nm (k+1):=by
 funext i j s;unfold told;dsimp only;by_cases hi:(i:Int)∈hs
 .have wi:W ow (k+1) i=k+1:=DI ((hhs i).mp hi) (by omega)
  rw[if_pos hi];by_cases hj:(j:Int)∈hs
  .have wj:W ow (k+1) j=k+1:=DI ((hhs j).mp hj) (by omega)
   rw[if_pos hj];by_cases hk:(s:Int)∈hs
   .have wk:W ow (k+1) s=k+1:=DI ((hhs s).mp hk) (by omega)
    rw[if_pos hk,Nws,wi,wj,wk]
   .obtain⟨p,e,ew⟩:=HB ne hb h0 h1 inj (fun z=>hk ((hhs s).mpr z)) hf
    rw[if_neg hk,e,E1 ne,Nws,wi,wj,ew]
  .obtain⟨p,e,ew⟩:=HB ne hb h0 h1 inj (fun z=>hj ((hhs j).mpr z)) hf
   rw[if_neg hj,e,QY ne,Nws,wi,ew]
 .obtain⟨p,e,ew⟩:=HB ne hb h0 h1 inj (fun z=>hi ((hhs i).mpr z)) hf
  rw[if_neg hi,e,Nws,Nws,ew]
end
section
variable(n:Nat)(hd:Nat->List Int)(l:List Nat)
noncomputable abbrev F0':Nat->N3:=fun _ _ _ _=>none
noncomputable def owL:Nat->List Nat
 | 0=>[0]
 | k+1=>match l[k]? with
  | some c=>(hd c).map Int.toNat
  | none=>[0]
noncomputable def nuL(d:Nat):Nat:=((rnN n hd F0' l).getD (d-1) (0,0)).2
noncomputable def ltL(d:Nat):Nat:=l.getD (d-1) 0
noncomputable def nmL(d:Nat):Nm:=if d=0 then none else some (ltL l d,nuL n hd l d)
structure Good:Prop where
 n0:0<n
 ne:∀c∈l,hd c≠[]
 bd:∀c∈l,∀x∈hd c,0<=x/\x<(n:Int)
variable{n hd l}
theorem GC{k c:Nat}(h:l[k]? = some c):owL hd l (k+1)=(hd c).map Int.toNat:=by
 show(match l[k]? with|some c=>(hd c).map Int.toNat|none=>[0])=_;rw[h]
theorem Ni(g:Good n hd l)(k:Nat):owL hd l k≠[]:=by
 cases k with
 | zero=>simp[owL]
 | succ k =>
  cases e:l[k]? with
  | none=>simp[owL,e]
  | some c=>rw[GC e]; simp; exact g.ne c (List.mem_of_getElem? e)
theorem IZ(g:Good n hd l)(k q:Nat)(h:q∈owL hd l k):q<n:=by
 cases k with
 | zero=>simp[owL] at h; have:=g.n0; omega
 | succ k =>
  cases e:l[k]? with
  | none=>simp[owL,e] at h; have:=g.n0; omega
  | some c =>
   rw[GC e] at h;obtain⟨x,hx,rfl⟩:=List.mem_map.mp h;have:=g.bd c (List.mem_of_getElem? e) x hx;omega
theorem CY(g:Good n hd l){k c:Nat}(h:l[k]? = some c)(q:Nat):(q:Int)∈hd c↔q∈owL hd l (k+1):=by
 rw[GC h,List.mem_map];constructor
 .intro z; exact⟨_,z,by simp⟩
 .rintro ⟨x,hx,e⟩
  have:=g.bd c (List.mem_of_getElem? h) x hx;rw[show(q:Int)=x by omega];exact hx
theorem Iq{k c:Nat}{f:Nat->N3}{nm:Nat->Nm}(h:l[k]? = some c)(hf:∀p,f p=Nws (owL hd l) nm (L (owL hd l) k p)):G0 hd f c=(owL hd l (k+1)).map fun p=>Nws (owL hd l) nm (L (owL hd l) k p):=by
 rw[GC h,G0,List.map_map];exact List.map_congr_left fun x _=>hf _
theorem Ys{k c:Nat}(h:l[k]? = some c):(rnN n hd F0' l).getD k (0,0)=(c,M9 n hd (Fw n hd F0' (l.take k)) c):=by
 have hk:k<l.length:=(List.getElem?_eq_some_iff.mp h).1;have e:l=l.take k++c::l.drop (k+1):=by
  rw[<- (List.getElem?_eq_some_iff.mp h).2,<- List.drop_eq_getElem_cons hk,List.take_append_drop]
 have len:∀f (l:List Nat),(rnN n hd f l).length=l.length:=by
  intro f l;induction l generalizing f with
  | nil=>rfl
  | cons c l ih=>simp only[rnN,List.length_cons,ih]
 have e2:rnN n hd F0' l=rnN n hd F0' (l.take k)++rnN n hd (Fw n hd F0' (l.take k)) (c::l.drop (k+1)):=by
  rw[<- T6,<- e]
 rw[e2,List.getD_eq_getElem?_getD,List.getElem?_append_right (by rw[len,List.length_take]; omega),len,List.length_take,Nat.min_eq_left (by omega),Nat.sub_self];rfl
theorem W3{k c:Nat}(h:l[k]? = some c)(f:Nat->N3):Fw n hd f (l.take (k+1))=nxt n hd (Fw n hd f (l.take k)) c:=by
 rw[List.take_succ,h,RG]; rfl
theorem X5{k c:Nat}(h:l[k]? = some c):ltL l (k+1)=c:=by
 simp[ltL,List.getD,h]
theorem Na{k c:Nat}(h:l[k]? = some c):nuL n hd l (k+1)=M9 n hd (Fw n hd F0' (l.take k)) c:=by
 rw[nuL,Nat.add_sub_cancel,Ys h]
theorem LM{k c:Nat}(h:l[k]? = some c):nmL n hd l (k+1)=some (c,M9 n hd (Fw n hd F0' (l.take k)) c):=by
 rw[nmL,if_neg (by omega),X5 h,Na h]
theorem Tf:nmL n hd l 0=none:=rfl
theorem QM(d:Nat)(h:1<=d):nmL n hd l d≠none:=by rw[nmL,if_neg (by omega)]; simp
theorem QJ{fs:List N3}{f:N3}{i j k:Nat}(h:f∈fs)(hi:i<n)(hj:j<n)(hk:k<n):f i j k∈used n fs:=by
 refine List.mem_flatMap.mpr ⟨f,h,List.mem_flatMap.mpr ⟨i,List.mem_range.mpr hi,List.mem_flatMap.mpr ⟨j,List.mem_range.mpr hj,List.mem_map.mpr ⟨k,List.mem_range.mpr hk,rfl⟩⟩⟩⟩
theorem Qe(g:Good n hd l){k:Nat}(hk:k<=l.length)(ih:∀j,j<k->∀p,Fw n hd F0' (l.take j) p=Nws (owL hd l) (nmL n hd l) (L (owL hd l) j p)):Inj (owL hd l) (nmL n hd l) k:=by
 have ne:=Ni g;have key:∀d1 d2,Use (owL hd l) k d1->1<=d1->d1<d2->d2<=k->nmL n hd l d1≠nmL n hd l d2:=by
  intro d1 d2 hu h1 h2 h3 e;obtain⟨j2,rfl⟩:∃j,d2=j+1:=⟨d2-1,by omega⟩;obtain⟨j1,rfl⟩:∃j,d1=j+1:=⟨d1-1,by omega⟩;have c2:l[j2]? = some l[j2]:=List.getElem?_eq_getElem (by omega);have c1:l[j1]? = some l[j1]:=List.getElem?_eq_getElem (by omega);have e1:=LM (n:=n) (hd:=hd) c1;have e2:=LM (n:=n) (hd:=hd) c2;have el:l[j1]=l[j2]:=by
   rw[e1,e2] at e;exact(Prod.mk.inj (Option.some.inj e)).1
  have ho:owL hd l (j1+1)=owL hd l (j2+1):=by rw[GC c1,GC c2,el]
  obtain⟨p,q,r,hu⟩:=hu;rw[hu] at h1 h2 ho;obtain⟨p',q',r',s',m1,m2,m3,m4,hw⟩:=Mj ne h1 h2 h3 ho;rw[<- hu,Nat.add_sub_cancel] at hw;have hfs:=Iq c2 (ih j2 (by omega));have hmem:Nws (owL hd l) (nmL n hd l) (L (owL hd l) j2 p') q' r' s'∈used n (G0 hd (Fw n hd F0' (l.take j2)) l[j2]):=by
   refine QJ ?_ (IZ g _ _ m2) (IZ g _ _ m3) (IZ g _ _ m4);rw[hfs];exact List.mem_map.mpr ⟨p',m1,rfl⟩
  have hx:Nws (owL hd l) (nmL n hd l) (L (owL hd l) j2 p') q' r' s'=nmL n hd l (j1+1):=by unfold Nws; rw[hw]
  rw[hx,e,e2] at hmem;exact(ID _ _).1.2 hmem
 have small:∀d,Use (owL hd l) k d->d<=k:=fun d ⟨p,q,r,e⟩=>by
  have:=Kg (ow:=owL hd l) (W (owL hd l) (L (owL hd l) k p) q) r;have:=Kg (ow:=owL hd l) (L (owL hd l) k p) q;have:=GJ (ow:=owL hd l) k p;omega
 intro d1 d2 u1 u2 e;rcases Nat.eq_zero_or_pos d1 with z|z
 .rcases Nat.eq_zero_or_pos d2 with y|y
  .omega
  .rw[z,Tf] at e; exact absurd e.symm (QM d2 y)
 .rcases Nat.eq_zero_or_pos d2 with y|y
  .rw[y,Tf] at e; exact absurd e (QM d1 z)
  .rcases Nat.lt_trichotomy d1 d2 with q|q|q
   .exact absurd e (key d1 d2 u1 z q (small d2 u2))
   .exact q
   .exact absurd e.symm (key d2 d1 u2 y q (small d1 u1))
theorem Ob(g:Good n hd l):∀k,k<=l.length->∀p,Fw n hd F0' (l.take k) p=Nws (owL hd l) (nmL n hd l) (L (owL hd l) k p):=by
 intro k;induction k using Nat.strongRecOn with
 | _ k ih =>
  intro hk p;cases k with
  | zero=>rfl
  | succ k =>
   have ih':∀j,j<k+1->∀p,Fw n hd F0' (l.take j) p=Nws (owL hd l) (nmL n hd l) (L (owL hd l) j p):=fun j hj=>ih j hj (by omega);have inj:=Qe g (show k<=l.length by omega) fun j hj=>ih' j (by omega);have c:l[k]? = some l[k]:=List.getElem?_eq_getElem (by omega);have hfs:=Iq c (ih' k (by omega));rw[W3 c];unfold nxt;have em:=LM (n:=n) (hd:=hd) c;have et:=Ow (Ni g) (IZ g) Tf QM inj (CY g c) hfs;rw[em] at et;by_cases hp:(p:Int)∈hd l[k]
   .rw[if_pos hp,et]
    have hp':=(CY g c p).mp hp;rw[L,if_pos hp']
   .have hp':p∉owL hd l (k+1):=fun z=>hp ((CY g c p).mpr z)
    rw[if_neg hp,L,if_neg hp',ih' k (by omega) p]
theorem N4(g:Good n hd l){k:Nat}(hk:k<=l.length):Inj (owL hd l) (nmL n hd l) k:=Qe g hk fun j hj=>Ob g j (by omega)
end
end Nw
namespace Nw
section
variable{n:Nat}{hd:Nat->List Int}{l:List Nat}
noncomputable def tk(n:Nat)(hd:Nat->List Int)(l:List Nat)(c:Nat)(ds:List Nat):List Int:=(ds.filter fun d=>decide (1<=d/\ltL l d=c)).map fun d=>(nuL n hd l d:Int)
theorem X9{k c:Nat}(hc:l[k]? = some c):nuL n hd l (k+1)<=(hd c).length*(n*(n*n)):=by
 rw[Na hc];have:=(ID (used n (G0 hd (Fw n hd F0' (l.take k)) c)) c).2;rw[LD] at this;simpa[M9,G0] using this
end
end Nw
end
section
namespace Gk31
open PySem PySem.Spec PyProof.Rows L2 J
noncomputable def top(i:Nat):Stmt:=PySem.Challenge.pw_handsapart_k31_whole_names_in_use.main.body.getD i (.Pass ⟨0,0,0,0⟩)
noncomputable def A3:MS:=As (ifS (AM (opM eqA (m2L (opM ixA (m2L (Aa 0) (Ah (.int 1)))) (Ah (.int 0))))) (As (AG 2 (opM LK (m2L (opM ixA (m2L (Aa 0) (Ah (.int 0)))) (Aa 1)))) (As (Gb 0 (Ah (.int 0)) (opM Ln (m2L (opM ixA (m2L (Aa 0) (Ah (.int 0)))) (Aa 1)))) (retS (Aa 2)))) A9) (As (Gb 0 (Ah (.int 0)) (opM LK (m2L (opM Bs (m2L (opM Bs (m2L (opM E8 (m2L (opM ixA (m2L (Aa 0) (Ah (.int 0)))) (Ah (.int 48271)))) (opM E8 (m2L (opM E8 (m2L (Ah (.int 7919)) (opM ixA (m2L (Aa 0) (Ah (.int 1)))))) (opM ixA (m2L (Aa 0) (Ah (.int 1)))))))) (Ah (.int 17)))) (Ah (.int 2147483647))))) (As (Gb 0 (Ah (.int 1)) (opM Bs (m2L (opM ixA (m2L (Aa 0) (Ah (.int 1)))) (Ah (.int 1))))) (retS (opM LK (m2L (opM Ln (m2L (opM LK (m2L (opM E8 (m2L (opM ixA (m2L (Aa 0) (Ah (.int 0)))) (Ah (.int 69621)))) (Ah (.int 2147483629)))) (Ah (.int 5)))) (Aa 1))))))
noncomputable def Ae:Fn:=fnM 2 3 A3
noncomputable def DN:MS:=As (AG 1 (opM Bs (m2L (Ah (.int 2)) (Am Ae (Ac (Aa 0) (Ac (Ah (.int 3)) Aj)))))) (As (AG 2 (opM Bs (m2L (Ah (.int 1)) (Am Ae (Ac (Aa 0) (Ac (Ah (.int 6)) Aj)))))) (As (AG 3 (Am Ae (Ac (Aa 0) (Ac (Ah (.int 2)) Aj)))) (As (AG 4 (lstM Aj)) (As (AG 5 (Ah (.int 0))) (As (Ca [6] true (Bh (Aa 2)) (As (AG 5 (opM Bs (m2L (Aa 5) (Am Ae (Ac (Aa 0) (Ac (opM D6 (m2L (opM Bs (m2L (opM D6 (m2L (Ah (.int 27)) (Aa 2))) (Aa 6))) (Aa 5))) Aj)))))) (As (AG 7 (opM Bs (m2L (Ah (.int 1)) (Am Ae (Ac (Aa 0) (Ac (opM D6 (m2L (opM EK (m2L (Ah (.int 1)) (Aa 1))) (Ah (.int 1)))) Aj)))))) (As (ifS (AM (opM eqA (m2L (Aa 3) (Ah (.int 1))))) (AG 7 (opM My (m2L (opM EK (m2L (Ah (.int 1)) (Am Ae (Ac (Aa 0) (Ac (Aa 1) Aj))))) (opM EK (m2L (Ah (.int 1)) (Am Ae (Ac (Aa 0) (Ac (Aa 1) Aj)))))))) A9) (As (GK 4 (Gd (Ac (AK (opM ixA (m2L (Ah (.str (Str.ofString "abcdefghijklmnopqrstuvwxyz"))) (Aa 5)))) (Ac (AK (AN (Bh (Aa 1)) 0 (AM (opM eqA (m2L (opM GO (m2L (opM HY (m2L (Aa 8) (Aa 0))) (Ah (.int 1)))) (Ah (.int 1))))) (Aa 0))) Aj)))) (AG 5 (opM Bs (m2L (Aa 5) (Ah (.int 1)))))))))) (retS (Gd (Ac (AK (Aa 1)) (Ac (AK (Aa 4)) Aj)))))))))
noncomputable def CV:Fn:=fnM 1 8 DN
noncomputable def EO:MS:=As (AG 3 (Am Ae (Ac (Aa 0) (Ac (opM Bs (m2L (Aa 2) (Ah (.int 1)))) Aj)))) (As (ifS (AM (opM eqA (m2L (Am Ae (Ac (Aa 0) (Ac (Ah (.int 8)) Aj))) (Ah (.int 1))))) (AG 3 (Am Ae (Ac (Aa 0) (Ac (Ah (.int 41)) Aj)))) A9) (As (AG 4 (Ah (.str (Str.ofString "")))) (As (Ca [5] true (Bh (Aa 3)) (AG 4 (opM Bs (m2L (Aa 4) (opM ixA (m2L (opM ixA (m2L (opM ixA (m2L (Aa 1) (Ah (.int 1)))) (Am Ae (Ac (Aa 0) (Ac (opM CQ (Ac (opM ixA (m2L (Aa 1) (Ah (.int 1)))) Aj)) Aj))))) (Ah (.int 0)))))))) (retS (Aa 4)))))
noncomputable def Eb:Fn:=fnM 3 6 EO
noncomputable def Et:MS:=As (AG 2 (opM Lj (Ac (opM ixA (m2L (Aa 0) (Ah (.int 1)))) Aj))) (retS (AN (ND (Aa 1)) 0 Ce (opM OJ (m2L (Aa 3) (Aa 0)))))
noncomputable def Dy:Fn:=fnM 2 3 Et
noncomputable def Dh:MS:=As (AG 2 (lstM Aj)) (As (AG 3 (AN (Bh (Aa 0)) 0 Ce (opM LL (m1L (Ah (.int 1)))))) (As (Ca [4,5] false (Gg (Aa 1)) (As (AG 6 (AN (Bh (Aa 0)) 0 Ce (opM LL (m1L (Ah (.int 1)))))) (As (Ca [7] true (BW (Aa 5)) (ifS (AM (opM geA (m2L (opM ixA (m2L (Aa 3) (Aa 7))) (Ah (.int 0))))) (AG 6 (AN (Mr (AK (Aa 6)) (AK (opM ixA (m2L (Aa 2) (opM ixA (m2L (Aa 3) (Aa 7))))))) 2 Ce (opM Td (Ac (Aa 0) (Ac (Aa 1) Aj))))) A9)) (As (Ca [7] true (BW (Aa 5)) (As (Gb 6 (Aa 7) (Aa 4)) (Gb 3 (Aa 7) (Aa 4)))) (GK 2 (Aa 6)))))) (retS (Aa 2))))
noncomputable def Cy:Fn:=fnM 2 8 Dh
noncomputable def DO:MS:=retS (andM (opM (Ez isInt) (m1L (Aa 0))) (notM (opM (Ez isBool) (m1L (Aa 0)))))
noncomputable def BF:Fn:=fnM 1 1 DO
noncomputable def Ey:Fn:=fnM 2 2 D5
noncomputable def Eu:MS:=As (ifS (AM (opM (Ez isTup) (m1L (Aa 1)))) (D5) A9) (As (ifS (AM (opM (Ez isStr) (m1L (Aa 1)))) (D5) A9) (As (ifS (AM (opM SR (m2L (Aa 1) (Ah .non)))) (D5) A9) (retS (andM (Am BF (Ac (Aa 0) Aj)) (opM eqA (m2L (Aa 0) (Aa 1)))))))
noncomputable def Dz:Fn:=fnM 2 2 Eu
noncomputable def HJ:MS:=retS (andM (opM (Ez isTup) (m1L (Aa 0))) (opM eqA (m2L (opM CQ (Ac (Aa 0) Aj)) (Ah (.int 2)))))
noncomputable def B8:Fn:=fnM 1 1 HJ
noncomputable def GU:MS:=retS (andM (opM (Ez isInt) (m1L (Aa 0))) (notM (opM (Ez isBool) (m1L (Aa 0)))))
noncomputable def BL:Fn:=fnM 1 1 GU
noncomputable def CK:MS:=retS (andM (Am BL (Ac (Aa 0) Aj)) (GQ leA leA (Ah (.int 2)) (Aa 0) (Ah (.int 4))))
noncomputable def A7:Fn:=fnM 1 1 CK
noncomputable def Dt:MS:=retS (andM (Am BL (Ac (Aa 0) Aj)) (GQ leA ltA (Ah (.int 0)) (Aa 0) (Aa 1)))
noncomputable def A1:Fn:=fnM 2 2 Dt
noncomputable def BH:MS:=retS (opM Ju (Ac (AN (BW (Aa 0)) 0 Ce (Am A1 (Ac (Aa 0) (Ac (Aa 2) Aj)))) Aj))
noncomputable def Bn:Fn:=fnM 2 2 BH
noncomputable def BA:MS:=retS (andM (opM (Ez HM) (m1L (Aa 0))) (Am Bn (Ac (Aa 0) (Ac (Aa 1) Aj))))
noncomputable def AI:Fn:=fnM 2 2 BA
noncomputable def B4:MS:=As (ifS (DZ (AM (Am AI (Ac (Aa 0) (Ac (Aa 1) Aj))))) (retS (Ah (.bl false))) A9) (retS (opM Ju (Ac (AN (Bh (opM D6 (m2L (opM CQ (Ac (Aa 0) Aj)) (Ah (.int 1))))) 0 Ce (opM ltA (m2L (opM ixA (m2L (Aa 1) (Aa 0))) (opM ixA (m2L (Aa 1) (opM Bs (m2L (Aa 0) (Ah (.int 1))))))))) Aj)))
noncomputable def AU:Fn:=fnM 2 2 B4
noncomputable def Du:MS:=retS (andM (opM (Ez isStr) (m1L (Aa 0))) (andM (opM eqA (m2L (opM CQ (Ac (Aa 0) Aj)) (Ah (.int 1)))) (GQ leA leA (Ah (.str (Str.ofString "a"))) (Aa 0) (Ah (.str (Str.ofString "z"))))))
noncomputable def Bj:Fn:=fnM 1 1 Du
noncomputable def GR:MS:=As (ifS (orT (DZ (AM (Am B8 (Ac (Aa 1) Aj)))) (DZ (AM (Am Bj (Ac (opM ixA (m2L (Aa 1) (Ah (.int 0)))) Aj))))) (retS (Ah (.bl false))) A9) (retS (andM (Am AU (Ac (opM ixA (m2L (Aa 1) (Ah (.int 1)))) (Ac (Aa 0) Aj))) (opM gtA (m2L (opM CQ (Ac (opM ixA (m2L (Aa 1) (Ah (.int 1)))) Aj)) (Ah (.int 0))))))
noncomputable def Cj:Fn:=fnM 2 2 GR
noncomputable def Di:MS:=As (ifS (orT (DZ (AM (opM (Ez HM) (m1L (Aa 1))))) (DZ (AM (GQ leA leA (Ah (.int 1)) (opM CQ (Ac (Aa 1) Aj)) (Ah (.int 6)))))) (retS (Ah (.bl false))) A9) (As (ifS (DZ (AM (opM Ju (Ac (AN (BW (Aa 1)) 0 Ce (Am Cj (Ac (Aa 1) (Ac (Aa 0) Aj)))) Aj)))) (retS (Ah (.bl false))) A9) (retS (opM Ju (Ac (AN (Bh (opM D6 (m2L (opM CQ (Ac (Aa 1) Aj)) (Ah (.int 1))))) 0 Ce (opM ltA (m2L (opM ixA (m2L (opM ixA (m2L (Aa 2) (Aa 0))) (Ah (.int 0)))) (opM ixA (m2L (opM ixA (m2L (Aa 2) (opM Bs (m2L (Aa 0) (Ah (.int 1)))))) (Ah (.int 0))))))) Aj))))
noncomputable def Cz:Fn:=fnM 2 2 Di
noncomputable def GS:MS:=As (ifS (DZ (AM (Am B8 (Ac (Aa 0) Aj)))) (retS (Ah (.bl false))) A9) (retS (andM (Am A7 (Ac (opM ixA (m2L (Aa 0) (Ah (.int 0)))) Aj)) (Am Cz (Ac (opM ixA (m2L (Aa 0) (Ah (.int 0)))) (Ac (opM ixA (m2L (Aa 0) (Ah (.int 1)))) Aj)))))
noncomputable def C4:Fn:=fnM 1 1 GS
noncomputable def FH:MS:=ifS (DZ (AM (Am C4 (Ac (Aa 0) Aj)))) (D5) A9
noncomputable def A4:Fn:=fnM 1 1 FH
noncomputable def DQ:MS:=retS (K3 JX (Ah (.str (Str.ofString ""))) (m1L (AN (BW (opM ixA (m2L (Aa 0) (Ah (.int 1))))) 0 Ce (opM ixA (m2L (Aa 0) (Ah (.int 0)))))))
noncomputable def Bq:Fn:=fnM 1 1 DQ
noncomputable def Ew:MS:=retS (andM (opM (Ez isStr) (m1L (Aa 1))) (andM (opM eqA (m2L (opM CQ (Ac (Aa 1) Aj)) (Ah (.int 1)))) (opM (inA false) (m2L (Aa 1) (Am Bq (Ac (Aa 0) Aj))))))
noncomputable def CB:Fn:=fnM 2 2 Ew
noncomputable def Dk:MS:=ifS (DZ (AM (Am CB (Ac (Aa 0) (Ac (Aa 1) Aj))))) (D5) A9
noncomputable def Bt:Fn:=fnM 2 2 Dk
noncomputable def ES:MS:=retS (opM ixA (m2L (opM ixA (m2L (opM ixA (m2L (Aa 0) (Ah (.int 1)))) (K3 Iv (Am Bq (Ac (Aa 0) Aj)) (m1L (Aa 1))))) (Ah (.int 1))))
noncomputable def Ci:Fn:=fnM 2 2 ES
noncomputable def Hr:MS:=As (HU (Am A4 (Ac (Aa 0) Aj))) (As (HU (Am Bt (Ac (Aa 0) (Ac (Aa 1) Aj)))) (retS (opM Bs (m2L (opM E8 (m2L (opM CQ (Ac (Am Ci (Ac (Aa 0) (Ac (Aa 1) Aj))) Aj)) (opM Rq (m2L (opM ixA (m2L (Aa 0) (Ah (.int 0)))) (Ah (.int 3)))))) (Ah (.int 1))))))
noncomputable def GZ:Fn:=fnM 2 2 Hr
noncomputable def BZ:MS:=As (Ca [1,2] false (BW (opM ixA (m2L (Aa 0) (Ah (.int 1))))) (ifS (DZ (AM (Am Dz (Ac (Am GZ (Ac (Aa 0) (Ac (Aa 1) Aj))) (Ac (opM Bs (m2L (Ah (.int 1)) (opM E8 (m2L (opM E8 (m2L (opM E8 (m2L (opM CQ (Ac (Aa 2) Aj)) (opM ixA (m2L (Aa 0) (Ah (.int 0)))))) (opM ixA (m2L (Aa 0) (Ah (.int 0)))))) (opM ixA (m2L (Aa 0) (Ah (.int 0)))))))) Aj))))) (retS (Ah (.bl false))) A9)) (retS (Ah (.bl true)))
noncomputable def Bx:Fn:=fnM 1 3 BZ
noncomputable def Cs:MS:=As (ifS (AM (opM geA (m2L (opM Pz (Ac (Aa 0) Aj)) (opM Rq (m2L (Ah (.int 10)) (Ah (.int 18))))))) (retS (lstM (Ac (AK (opM Pz (Ac (Aa 0) Aj))) (Ac (AK (Ah (.int 0))) Aj)))) A9) (retS (lstM (Ac (AK (opM LK (m2L (Aa 0) (Ah (.int 2147483647))))) (Ac (AK (Ah (.int 1))) Aj))))
noncomputable def Cg:Fn:=fnM 1 1 Cs
noncomputable def FI:MS:=As (HU (Am A4 (Ac (Aa 0) Aj))) (As (AG 1 (opM K6 (Ac (opM Oa (m2L (lstM (Ac (AK (Ah .non)) Aj)) (opM ixA (m2L (Aa 0) (Ah (.int 0)))))) Aj))) (As (AG 2 (opM K6 (Ac (opM Oa (m2L (lstM (Ac (AK (Aa 1)) Aj)) (opM ixA (m2L (Aa 0) (Ah (.int 0)))))) Aj))) (retS (opM K6 (Ac (opM Oa (m2L (lstM (Ac (AK (Aa 2)) Aj)) (opM ixA (m2L (Aa 0) (Ah (.int 0)))))) Aj)))))
noncomputable def E2:Fn:=fnM 1 3 FI
noncomputable def Dn:MS:=As (AG 2 UP) (As (Ca [3] true (BW (Aa 1)) (Ca [4] true (BW (Aa 3)) (Ca [5] true (BW (Aa 4)) (Ca [6] true (BW (Aa 5)) (G2 2 (Aa 6) (Ah (.bl true))))))) (As (AG 7 (Ah (.int 0))) (As (K9 300 (AM (opM (VB false) (m2L (Gd (Ac (AK (Aa 0)) (Ac (AK (Aa 7)) Aj))) (Aa 2)))) (Vo 7 (Ah (.int 1)))) (retS (Gd (Ac (AK (Aa 0)) (Ac (AK (Aa 7)) Aj)))))))
noncomputable def CC:Fn:=fnM 2 8 Dn
noncomputable def DP:MS:=retS (opM ixA (m2L (opM ixA (m2L (opM ixA (m2L (Aa 0) (Aa 1))) (Aa 1))) (Aa 1)))
noncomputable def AO:Fn:=fnM 2 2 DP
noncomputable def Dm:MS:=retS (opM ixA (m2L (opM ixA (m2L (Aa 0) (Aa 1))) (Aa 1)))
noncomputable def Bu:Fn:=fnM 2 2 Dm
noncomputable def Dj:MS:=As (AG 3 (Am AO (Ac (Aa 1) (Ac (Aa 2) Aj)))) (As (AG 4 (AN (Bh (opM CQ (Ac (Aa 0) Aj))) 0 Ce (Am AO (Ac (Aa 1) (Ac (Aa 0) Aj))))) (retS (opM OB (Ac (AN (Bh (opM CQ (Ac (Aa 1) Aj))) 0 Ce (andM (opM (QC false) (m2L (Am AO (Ac (Aa 2) (Ac (Aa 0) Aj))) (Aa 5))) (opM eqA (m2L (opM ixA (m2L (Am Bu (Ac (Aa 2) (Ac (Aa 0) Aj))) (Aa 3))) (Aa 4))))) Aj))))
noncomputable def CA:Fn:=fnM 3 5 Dj
noncomputable def ER:MS:=As (AG 3 (Am AO (Ac (Aa 0) (Ac (Aa 2) Aj)))) (As (ifS (AM (opM eqA (m2L (Aa 3) (Am AO (Ac (Aa 1) (Ac (Aa 2) Aj)))))) (retS (Ah (.int 0))) A9) (As (ifS (orT (AM (opM SR (m2L (Aa 3) (Ah .non)))) (AM (Am CA (Ac (Aa 1) (Ac (Aa 0) (Ac (Aa 2) Aj)))))) (retS (opM LL (m1L (Ah (.int 1))))) A9) (retS (Ah (.int 1)))))
noncomputable def Ec:Fn:=fnM 3 4 ER
noncomputable def CO:MS:=As (AG 2 (opM ixA (m2L (Aa 0) (Ah (.int 0))))) (As (Ca [3] true (BW (Aa 0)) (ifS (AM (opM gtA (m2L (Am Ec (Ac (Aa 3) (Ac (Aa 2) (Ac (Aa 1) Aj)))) (Ah (.int 0))))) (AG 2 (Aa 3)) A9)) (retS (Aa 2)))
noncomputable def B5:Fn:=fnM 2 4 CO
noncomputable def Dl:MS:=As (HU (Am A4 (Ac (Aa 0) Aj))) (As (HU (Am Bt (Ac (Aa 0) (Ac (Aa 1) Aj)))) (As (AG 3 (Am Ci (Ac (Aa 0) (Ac (Aa 1) Aj)))) (As (AG 4 (Am CC (Ac (Aa 1) (Ac (Aa 2) Aj)))) (As (AG 5 (AN (Bh (opM ixA (m2L (Aa 0) (Ah (.int 0))))) 0 Ce (Am B5 (Ac (Aa 3) (Ac (Aa 0) Aj))))) (As (AG 6 (opM K6 (Ac (AN (Gg (Aa 5)) 2 Ce (Kx (AM (opM (inA false) (m2L (Aa 0) (Aa 5)))) (Aa 6) (Am AO (Ac (Aa 1) (Ac (Aa 0) Aj))))) Aj))) (As (AG 7 (opM K6 (Ac (AN (Gg (Aa 5)) 2 Ce (Kx (AM (opM (inA false) (m2L (Aa 0) (Aa 5)))) (Aa 8) (Am Bu (Ac (Aa 1) (Ac (Aa 0) Aj))))) Aj))) (As (AG 8 (opM K6 (Ac (AN (Gg (Aa 5)) 2 Ce (Kx (AM (opM (inA false) (m2L (Aa 0) (Aa 5)))) (Aa 9) (opM ixA (m2L (Aa 1) (Aa 0))))) Aj))) (retS (Gd (Ac (AK (Aa 4)) (Ac (AK (Aa 8)) Aj)))))))))))
noncomputable def BM:Fn:=fnM 3 9 Dl
noncomputable def B3:MS:=As (ifS (AM (opM ltA (m2L (Aa 1) (opM CQ (Ac (Aa 0) Aj))))) (retS (opM ixA (m2L (Aa 0) (Aa 1)))) A9) (retS (Ah (.int 0)))
noncomputable def BU:Fn:=fnM 2 2 B3
noncomputable def FG:MS:=As (ifS (AM (opM ltA (m2L (Aa 1) (Ah (.int 0))))) (retS (opM LL (m1L (Ah (.int 1))))) A9) (retS (opM ixA (m2L (opM ixA (m2L (Aa 0) (Aa 1))) (Aa 2))))
noncomputable def DS:Fn:=fnM 3 3 FG
noncomputable def Dg:MS:=As (AG 3 (UL)) (As (Ca [4] true (BW (Aa 2)) (Ca [5] true (Bh (Aa 0)) (As (AG 6 (Am DS (Ac (Aa 1) (Ac (Aa 4) (Ac (Aa 5) Aj))))) (Ca [7] true (Bh (Aa 0)) (As (AG 8 (Am DS (Ac (Aa 1) (Ac (Aa 6) (Ac (Aa 7) Aj))))) (ifS (AM (opM geA (m2L (Aa 8) (Ah (.int 0))))) (JQ 3 (Aa 8) (Ah (.bl true))) A9)))))) (retS (opM LF (Ac (Aa 3) Aj))))
noncomputable def Cw:Fn:=fnM 3 9 Dg
noncomputable def Kn:MS:=As (AG 1 (Am CV (Ac (Am Cg (Ac (Am BU (Ac (Aa 0) (Ac (Ah (.int 0)) Aj))) Aj)) Aj))) (As (AG 2 (Am Eb (Ac (Am Cg (Ac (Am BU (Ac (Aa 0) (Ac (Ah (.int 1)) Aj))) Aj)) (Ac (Aa 1) (Ac (Ah (.int 12)) Aj))))) (As (AG 2 (opM RQ (m2L (opM T3 (m2L (Aa 2) (opM Bs (m2L (Ah (.int 1)) (Am Ae (Ac (Am Cg (Ac (Am BU (Ac (Aa 0) (Ac (Ah (.int 2)) Aj))) Aj)) (Ac (Ah (.int 3)) Aj))))))) (Ah (.int 60))))) (As (AG 3 (opM ixA (m2L (Aa 1) (Ah (.int 0))))) (As (As (AG 4 (Am Dy (Ac (Aa 1) (Ac (Aa 2) Aj)))) (MH 4)) (As (As (AG 5 (Am Cy (Ac (Aa 3) (Ac (Aa 4) Aj)))) (MH 5)) (As (AG 6 (AN (Bh (Aa 3)) 0 Ce (Am E2 (Ac (Aa 2) Aj)))) (As (AG 7 (AN (Bh (Aa 3)) 0 Ce (opM LL (m1L (Ah (.int 1)))))) (As (AG 8 (lstM Aj)) (As (Ca [9,10] false (Io (Aa 2)) (As (Mp [11,12] (Am BM (Ac (Aa 1) (Ac (Aa 10) (Ac (AK (AN (BW (opM ixA (m2L (Aa 4) (Aa 9)))) 0 Ce (opM ixA (m2L (Aa 7) (Aa 0))))) Aj))))) (As (ifS (orT (DZ (AM (opM (Ez isTup) (m1L (Aa 11))))) (orT (AM (opM neA (m2L (opM CQ (Ac (Aa 11) Aj)) (Ah (.int 2))))) (orT (AM (opM neA (m2L (opM ixA (m2L (Aa 11) (Ah (.int 0)))) (Aa 10)))) (DZ (AM (Am BF (Ac (opM ixA (m2L (Aa 11) (Ah (.int 1)))) Aj))))))) (retS (Ah (.bl false))) A9) (As (ifS (DZ (AM (GQ leA ltA (Ah (.int 0)) (opM ixA (m2L (Aa 11) (Ah (.int 1)))) (opM Bs (m2L (Ah (.int 1)) (opM E8 (m2L (opM E8 (m2L (opM E8 (m2L (opM CQ (Ac (opM ixA (m2L (Aa 4) (Aa 9))) Aj)) (Aa 3))) (Aa 3))) (Aa 3)))))))) (retS (Ah (.bl false))) A9) (As (GK 8 (Aa 11)) (As (Ca [13] true (BW (opM ixA (m2L (Aa 4) (Aa 9)))) (As (Gb 6 (Aa 13) (Aa 12)) (Gb 7 (Aa 13) (Aa 9)))) (As (AG 14 (AN (BW (Am Cw (Ac (Aa 3) (Ac (Aa 5) (Ac (Aa 7) Aj))))) 0 Ce (opM ixA (m2L (Aa 9) (Aa 0))))) (ifS (AM (opM ltA (m2L (opM lsA (m1L (Aa 14))) (opM CQ (Ac (Aa 14) Aj))))) (retS (Ah (.bl false))) A9)))))))) (retS (Am Bx (Ac (Aa 1) Aj))))))))))))
noncomputable def Hw:Fn:=fnM 1 15 Kn
local macro_rules | `(tactic| walk_at $s:str)=>do
 let n:=s.getString
 if n.startsWith "v" && n.length < 4 && n != "vis" then `(tactic| exact VP $(Lean.quote (n.drop 1).toNat!) rfl (by walk_at "vis") dK dK) else Lean.Macro.throwUnsupported
local macro_rules | `(tactic| walk_at "vis")=>`(tactic| first | exact .inl rfl | exact .inr (.inl rfl) | exact .inr (.inr rfl))
local macro_rules | `(tactic| walk_at "loc")=>`(tactic| first | exact .inl rfl | exact .inr rfl)
structure Blt2 (mg:Str->Option Value):Prop where
 sorted:mg "sorted" = none
 set:mg "set" = none
 enumerate:mg "enumerate" = none
 zip:mg "zip" = none
 reversed:mg "reversed" = none
section
variable{P:Program}{w:World}{K:Frag}{mg:Str->Option Value}{base:Heap}
theorem KJ{f:Addr}{fd:FuncData}(F:Fun K "_law_take" "_law_take" (top 38) f fd)(B:Blt mg K)(B2:Blt2 mg):
  FnOk P w K mg base CX0 1 f fd ["_law_bag_here","_law_many"] (spJ K Ae 2):=by
 refine A0 (N:=["_law_bag_here","_law_many","_law_digit"]) F ⟨rfl,rfl,rfl,dK,rfl,dK,dK⟩ fun cdv A outer s H E hr=>?_;have nd3:List.Nodup (["_law_bag_here","_law_many","_law_digit"]:List Str):=by decide +kernel
 refine Ad ?_ ?_;refine BC ?_ ?_ ?_;refine By Gm (EB hr) (Be _) ?_ ?_;refine Ay Az Ao (fun _ _=>rfl) ?_ ?_;walk_at "v0";exact Ag;exact Ag;refine Ad ?_ ?_;refine AD 2 nd3 rfl (by walk_at "loc") rfl rfl ?_;refine Av IJ IT ?_ ?_;refine Ay Az Ao (fun _ _=>rfl) ?_ ?_;walk_at "v0";exact Ag;walk_at "v1";refine Ad ?_ ?_;refine Gw 0 rfl (by walk_at "vis") dK dK (fun _=>rfl) rfl rfl rfl ?_ ?_;exact Ag;refine Av Oc Oe ?_ ?_;refine Ay Az Ao (fun _ _=>rfl) ?_ ?_;walk_at "v0";exact Ag;walk_at "v1";refine Ai ?_;refine Aw ?_;walk_at "v2";exact AS;refine Ad ?_ ?_;refine Gw 0 rfl (by walk_at "vis") dK dK (fun _=>rfl) rfl rfl rfl ?_ ?_;exact Ag;refine Av IJ IT ?_ ?_;refine Av BO Bp ?_ ?_;refine Av BO Bp ?_ ?_;refine Av D0 D2 ?_ ?_;refine Ay Az Ao (fun _ _=>rfl) ?_ ?_;walk_at "v0";exact Ag;exact Ag;refine Av D0 D2 ?_ ?_;refine Av D0 D2 ?_ ?_;exact Ag;refine Ay Az Ao (fun _ _=>rfl) ?_ ?_;walk_at "v0";exact Ag;refine Ay Az Ao (fun _ _=>rfl) ?_ ?_;walk_at "v0";exact Ag;exact Ag;exact Ag;refine Ad ?_ ?_;refine Gw 0 rfl (by walk_at "vis") dK dK (fun _=>rfl) rfl rfl rfl ?_ ?_;exact Ag;refine Av BO Bp ?_ ?_;refine Ay Az Ao (fun _ _=>rfl) ?_ ?_;walk_at "v0";exact Ag;exact Ag;refine Ai ?_;refine Aw ?_;refine Av IJ IT ?_ ?_;refine Av Oc Oe ?_ ?_;refine Av IJ IT ?_ ?_;refine Av D0 D2 ?_ ?_;refine Ay Az Ao (fun _ _=>rfl) ?_ ?_;walk_at "v0";exact Ag;exact Ag;exact Ag;exact Ag;walk_at "v1"
theorem Jx{f:Addr}{fd:FuncData}(F:Fun K "_law_house" "_law_house" (top 39) f fd)(B:Blt mg K)(B2:Blt2 mg)(AB:Def P w K mg base CX0 1 "_law_take" ["_law_bag_here","_law_many"] (spJ K Ae 2)):
  FnOk P w K mg base CX0 2 f fd ["_law_bag_here"] (spJ K CV 1):=by
 refine A0 (N:=["_law_bag_here","_law_hands","_law_many","_law_few","_law_letters","_law_at","_law_k","_law_bits"]) F ⟨rfl,rfl,rfl,dK,rfl,dK,dK⟩ fun cdv A outer s H E hr=>?_;have nd8:List.Nodup (["_law_bag_here","_law_hands","_law_many","_law_few","_law_letters","_law_at","_law_k","_law_bits"]:List Str):=by decide +kernel
 refine Ad ?_ ?_;refine AD 1 nd8 rfl (by walk_at "loc") rfl rfl ?_;refine Av BO Bp ?_ ?_;exact Ag;refine Al AB Ak rfl rfl rfl rfl rfl hr (by decide) Ax dK rfl rfl rfl ?_;refine Ab rfl ?_ ?_;walk_at "v0";refine Ab rfl ?_ ?_;exact Ag;exact Af;refine Ad ?_ ?_;refine AD 2 nd8 rfl (by walk_at "loc") rfl rfl ?_;refine Av BO Bp ?_ ?_;exact Ag;refine Al AB Ak rfl rfl rfl rfl rfl hr (by decide) Ax dK rfl rfl rfl ?_;refine Ab rfl ?_ ?_;walk_at "v0";refine Ab rfl ?_ ?_;exact Ag;exact Af;refine Ad ?_ ?_;refine AD 3 nd8 rfl (by walk_at "loc") rfl rfl ?_;refine Al AB Ak rfl rfl rfl rfl rfl hr (by decide) Ax dK rfl rfl rfl ?_;refine Ab rfl ?_ ?_;walk_at "v0";refine Ab rfl ?_ ?_;exact Ag;exact Af;refine Ad ?_ ?_;refine AD 4 nd8 rfl (by walk_at "loc") rfl rfl ?_;refine FP ?_;exact Af;refine Ad ?_ ?_;refine AD 5 nd8 rfl (by walk_at "loc") rfl rfl ?_;exact Ag;refine Ad ?_ ?_;refine B0 PassesOwn.never rfl ?_ ?_ ?_ (fun _=>rfl);refine BK rfl B.range rfl ?_;walk_at "v2";exact CU 6 nd8 rfl (by walk_at "loc") rfl;refine Ad ?_ ?_;refine AD 5 nd8 rfl (by walk_at "loc") rfl rfl ?_;refine Av BO Bp ?_ ?_;walk_at "v5";refine Al AB Ak rfl rfl rfl rfl rfl hr (by decide) Ax dK rfl rfl rfl ?_;refine Ab rfl ?_ ?_;walk_at "v0";refine Ab rfl ?_ ?_;refine Av IQ IW ?_ ?_;refine Av BO Bp ?_ ?_;refine Av IQ IW ?_ ?_;exact Ag;walk_at "v2";walk_at "v6";walk_at "v5";exact Af;refine Ad ?_ ?_;refine AD 7 nd8 rfl (by walk_at "loc") rfl rfl ?_;refine Av BO Bp ?_ ?_;exact Ag;refine Al AB Ak rfl rfl rfl rfl rfl hr (by decide) Ax dK rfl rfl rfl ?_
 refine Ab rfl ?_ ?_;walk_at "v0";refine Ab rfl ?_ ?_;refine Av IQ IW ?_ ?_;refine Av Nf Nh ?_ ?_;exact Ag;walk_at "v1";exact Ag;exact Af;refine Ad ?_ ?_;refine BC ?_ ?_ ?_;refine By Gm (EB hr) (Be _) ?_ ?_;walk_at "v3";exact Ag;refine Ai ?_;refine AD 7 nd8 rfl (by walk_at "loc") rfl rfl ?_;refine Av Wa Yd ?_ ?_;refine Av Nf Nh ?_ ?_;exact Ag;refine Al AB Ak rfl rfl rfl rfl rfl hr (by decide) Ax dK rfl rfl rfl ?_;refine Ab rfl ?_ ?_;walk_at "v0";refine Ab rfl ?_ ?_;walk_at "v1";exact Af;refine Av Nf Nh ?_ ?_;exact Ag;refine Al AB Ak rfl rfl rfl rfl rfl hr (by decide) Ax dK rfl rfl rfl ?_;refine Ab rfl ?_ ?_;walk_at "v0";refine Ab rfl ?_ ?_;walk_at "v1";exact Af;exact AS;refine Ad ?_ ?_;refine M0 4 rfl (by walk_at "vis") dK dK rfl rfl rfl rfl ?_;refine G7 ?_;refine Ab rfl ?_ ?_;refine AW ?_;refine Ay Az Ao (fun _ _=>rfl) ?_ ?_;exact Iw dK;walk_at "v5";refine Ab rfl ?_ ?_;refine AW ?_;refine E6 (by rfl) rfl nd8 (by rfl) (fun _=>rfl) ?_ ?_ ?_;refine BK rfl B.range rfl ?_;walk_at "v1";refine S8 fun _ _ _ _ _=>?_;refine By Gm (EB hr) (Be _) ?_ ?_;refine Av Tn Wk ?_ ?_;refine Av Wi Wn ?_ ?_;walk_at "v8";walk_at "v0";exact Ag;exact Ag;intro _ _ _ _ _;walk_at "v0";exact Af;refine Ai ?_;refine AD 5 nd8 rfl (by walk_at "loc") rfl rfl ?_;refine Av BO Bp ?_ ?_;walk_at "v5";exact Ag;refine Ai ?_;refine Aw ?_;refine G7 ?_;refine Ab rfl ?_ ?_;refine AW ?_;walk_at "v1";refine Ab rfl ?_ ?_;refine AW ?_;walk_at "v4";exact Af
theorem LR{f:Addr}{fd:FuncData}(F:Fun K "_law_row" "_law_row" (top 40) f fd)(B:Blt mg K)(B2:Blt2 mg)(AB:Def P w K mg base CX0 1 "_law_take" ["_law_bag_here","_law_many"] (spJ K Ae 2)):
  FnOk P w K mg base CX0 2 f fd ["_law_bag_here","_law_house_here","_law_most"] (spJ K Eb 3):=by
 refine A0 (N:=["_law_bag_here","_law_house_here","_law_most","_law_size","_law_row_here","_law_k"]) F ⟨rfl,rfl,rfl,dK,rfl,dK,dK⟩ fun cdv A outer s H E hr=>?_;have nd6:List.Nodup (["_law_bag_here","_law_house_here","_law_most","_law_size","_law_row_here","_law_k"]:List Str):=by decide +kernel
 refine Ad ?_ ?_;refine AD 3 nd6 rfl (by walk_at "loc") rfl rfl ?_;refine Al AB Ak rfl rfl rfl rfl rfl hr (by decide) Ax dK rfl rfl rfl ?_;refine Ab rfl ?_ ?_;walk_at "v0";refine Ab rfl ?_ ?_;refine Av BO Bp ?_ ?_;walk_at "v2";exact Ag;exact Af;refine Ad ?_ ?_;refine BC ?_ ?_ ?_;refine By Gm (EB hr) (Be _) ?_ ?_;refine Al AB Ak rfl rfl rfl rfl rfl hr (by decide) Ax dK rfl rfl rfl ?_;refine Ab rfl ?_ ?_;walk_at "v0";refine Ab rfl ?_ ?_;exact Ag;exact Af;exact Ag;refine Ai ?_;refine AD 3 nd6 rfl (by walk_at "loc") rfl rfl ?_;refine Al AB Ak rfl rfl rfl rfl rfl hr (by decide) Ax dK rfl rfl rfl ?_;refine Ab rfl ?_ ?_;walk_at "v0";refine Ab rfl ?_ ?_;exact Ag;exact Af;exact AS;refine Ad ?_ ?_;refine AD 4 nd6 rfl (by walk_at "loc") rfl rfl ?_;exact Iw dK;refine Ad ?_ ?_;refine B0 PassesOwn.never rfl ?_ ?_ ?_ (fun _=>rfl);refine BK rfl B.range rfl ?_;walk_at "v3";exact CU 5 nd6 rfl (by walk_at "loc") rfl;refine Ai ?_;refine AD 4 nd6 rfl (by walk_at "loc") rfl rfl ?_;refine Av BO Bp ?_ ?_;walk_at "v4";refine Ay Az Ao (fun _ _=>rfl) ?_ ?_;refine Ay Az Ao (fun _ _=>rfl) ?_ ?_;refine Ay Az Ao (fun _ _=>rfl) ?_ ?_;walk_at "v1";exact Ag;refine Al AB Ak rfl rfl rfl rfl rfl hr (by decide) Ax dK rfl rfl rfl ?_;refine Ab rfl ?_ ?_;walk_at "v0";refine Ab rfl ?_ ?_;refine AJ B1 AY B.len Boot.«len» dK dK rfl rfl rfl ?_;refine Ab rfl ?_ ?_;refine Ay Az Ao (fun _ _=>rfl) ?_ ?_;walk_at "v1";exact Ag;exact Af;exact Af;exact Ag;refine Ai ?_;refine Aw ?_;walk_at "v4"
theorem KH{f:Addr}{fd:FuncData}(F:Fun K "_law_owns" "_law_owns" (top 41) f fd)(B:Blt mg K)(B2:Blt2 mg):
  FnOk P w K mg base CX0 1 f fd ["_law_house_here","_law_row_here"] (spJ K Dy 2):=by
 refine A0 (N:=["_law_house_here","_law_row_here","_law_by_letter"]) F ⟨rfl,rfl,rfl,dK,rfl,dK,dK⟩ fun cdv A outer s H E hr=>?_;have nd3:List.Nodup (["_law_house_here","_law_row_here","_law_by_letter"]:List Str):=by decide +kernel
 refine Ad ?_ ?_;refine AD 2 nd3 rfl (by walk_at "loc") rfl rfl ?_;refine C8 To (Mz rfl) B.dict Boot.«dict» dK dK rfl rfl rfl ?_;refine Ab rfl ?_ ?_;refine Ay Az Ao (fun _ _=>rfl) ?_ ?_;walk_at "v0";exact Ag;exact Af;refine Ai ?_;refine Aw ?_;refine E6 (by rfl) rfl nd3 (by rfl) (fun _=>rfl) ?_ ?_ ?_;refine VQ ?_;walk_at "v1";exact Bd;intro _ _ _ _ _;refine VN hr (fun _ _=>rfl) ?_ ?_;walk_at "v3";walk_at "v0"
theorem IF{f:Addr}{fd:FuncData}(F:Fun K "_law_newest" "_law_newest" (top 42) f fd)(B:Blt mg K)(B2:Blt2 mg):
  FnOk P w K mg base CX0 1 f fd ["_law_hands","_law_owns_here"] (spJ K Cy 2):=by
 refine A0 (N:=["_law_hands","_law_owns_here","_law_newest_here","_law_last_here","_law_k","_law_owned","_law_line_of","_law_hand"]) F ⟨rfl,rfl,rfl,dK,rfl,dK,dK⟩ fun cdv A outer s H E hr=>?_;have nd8:List.Nodup (["_law_hands","_law_owns_here","_law_newest_here","_law_last_here","_law_k","_law_owned","_law_line_of","_law_hand"]:List Str):=by decide +kernel
 refine Ad ?_ ?_;refine AD 2 nd8 rfl (by walk_at "loc") rfl rfl ?_;refine FP ?_;exact Af;refine Ad ?_ ?_;refine Gv ["_law_hands","_law_owns_here","_law_newest_here","_law_last_here","_law_k","_law_owned","_law_line_of","?"] 3 nd8 rfl rfl rfl dK rfl rfl rfl (fun _=>rfl) rfl ?_ ?_ ?_;refine BK rfl B.range rfl ?_;walk_at "v0";exact Bd;intro _ _ _ _ _;refine LA IL Js ?_;exact Ag;refine Ad ?_ ?_;refine B0 PassesOwn.never rfl ?_ ?_ ?_ (fun _=>rfl);refine G8 rfl B2.enumerate rfl ?_;walk_at "v1";refine Ic rfl ?_ rfl rfl;refine Dc 4 nd8 rfl (by walk_at "loc") rfl ?_ rfl;refine Dc 5 nd8 rfl (by walk_at "loc") rfl ?_ rfl;exact Ig;refine Ad ?_ ?_;refine Gv ["_law_hands","_law_owns_here","_law_newest_here","_law_last_here","_law_k","_law_owned","_law_line_of","?"] 6 nd8 rfl rfl rfl dK rfl rfl rfl (fun _=>rfl) rfl ?_ ?_ ?_;refine BK rfl B.range rfl ?_;walk_at "v0";exact Bd;intro _ _ _ _ _;refine LA IL Js ?_;exact Ag;refine Ad ?_ ?_;refine B0 PassesOwn.never rfl ?_ ?_ ?_ (fun _=>rfl);refine Cb ?_;walk_at "v5";exact CU 7 nd8 rfl (by walk_at "loc") rfl;refine Ai ?_;refine BC ?_ ?_ ?_;refine By Q0 Q7 (Be _) ?_ ?_;refine Ay Az Ao (fun _ _=>rfl) ?_ ?_;walk_at "v3";walk_at "v7";exact Ag;refine Ai ?_;refine OR 6 nd8 rfl rfl (by rfl) rfl dK (by rfl) (by rfl) (fun _=>rfl) (by kernel_rfl) ?_ ?_ ?_;refine S5 rfl B2.zip rfl rfl rfl ?_ ?_;refine AW ?_;walk_at "v6";refine AW ?_;refine Ay Az Ao (fun _ _=>rfl) ?_ ?_;walk_at "v2";refine Ay Az Ao (fun _ _=>rfl) ?_ ?_;walk_at "v3";walk_at "v7";exact Bd;intro _ _ _ _ _
 refine AJ Wg (OF rfl) B.max Boot.«max» dK dK rfl rfl rfl ?_;refine Ab rfl ?_ ?_;walk_at "v0";refine Ab rfl ?_ ?_;walk_at "v1";exact Af;exact AS;refine Ad ?_ ?_;refine B0 PassesOwn.never rfl ?_ ?_ ?_ (fun _=>rfl);refine Cb ?_;walk_at "v5";exact CU 7 nd8 rfl (by walk_at "loc") rfl;refine Ad ?_ ?_;refine Gw 6 rfl (by walk_at "vis") dK dK (fun _=>rfl) rfl rfl rfl ?_ ?_;walk_at "v7";walk_at "v4";refine Ai ?_;refine Gw 3 rfl (by walk_at "vis") dK dK (fun _=>rfl) rfl rfl rfl ?_ ?_;walk_at "v7";walk_at "v4";refine Ai ?_;refine M0 2 rfl (by walk_at "vis") dK dK rfl rfl rfl rfl ?_;walk_at "v6";refine Ai ?_;refine Aw ?_;walk_at "v2"
theorem Jz{f:Addr}{fd:FuncData}(F:Fun K "_law_whole" "_law_whole" (top 45) f fd)(B:Blt mg K)(B2:Blt2 mg):
  FnOk P w K mg base CX0 1 f fd ["_law_thing"] (spJ K BF 1):=by
 refine A0 (N:=["_law_thing"]) F ⟨rfl,rfl,rfl,dK,rfl,dK,dK⟩ fun cdv A outer s H E hr=>?_;refine Ai ?_;refine Aw ?_;refine CD ?_ ?_;refine Qm rfl rfl B rfl rfl ?_;walk_at "v0";refine Dp ?_;refine Qp ?_;refine Ql rfl rfl B rfl rfl ?_;walk_at "v0"
theorem Jy{f:Addr}{fd:FuncData}:FnOk P w K mg base CX0 2 f fd ["_law_found","_law_due"] (spJ K Ey 2):=⟨fun vs H Q E y=>by
 obtain⟨_,_,_,h,_⟩:=y;exact h,fun A outer s H args us vs Q E _ _ _ _ y=>by
 obtain⟨_,_,_,_,_,a,as,e,_⟩:=y;unfold Ey fnM D5 at e;split at e<;>simp at e⟩
theorem KI{f:Addr}{fd:FuncData}(F:Fun K "_law_same" "_law_same" (top 46) f fd)(B:Blt mg K)(B2:Blt2 mg)(BQ:Def P w K mg base CX0 1 "_law_whole" ["_law_thing"] (spJ K BF 1))(GI:Def P w K mg base CX0 2 "_law_same" ["_law_found","_law_due"] (spJ K Ey 2)):
  FnOk P w K mg base CX0 3 f fd ["_law_found","_law_due"] (spJ K Dz 2):=by
 refine A0 (N:=["_law_found","_law_due"]) F ⟨rfl,rfl,rfl,dK,rfl,dK,dK⟩ fun cdv A outer s H E hr=>?_;refine Ad ?_ ?_;refine BC ?_ ?_ ?_;refine CF (fun _=>rfl) ?_;refine MV rfl rfl B rfl rfl ?_;walk_at "v1";exact Hy;exact AS;refine Ad ?_ ?_;refine BC ?_ ?_ ?_;refine CF (fun _=>rfl) ?_;refine MW rfl rfl B rfl rfl ?_;walk_at "v1";exact Hy;exact AS;refine Ad ?_ ?_;refine BC ?_ ?_ ?_;refine By Q3 Q8 (Be _) ?_ ?_;walk_at "v1";exact MY;exact Hy;exact AS;refine Ai ?_;refine Aw ?_;refine CD ?_ ?_;refine Al BQ Ak rfl rfl rfl rfl rfl hr (by decide) Ax dK rfl rfl rfl ?_;refine Ab rfl ?_ ?_;walk_at "v0";exact Af;refine Dp ?_;refine EA Gm (EB hr) (Be _) ?_ ?_;walk_at "v0";walk_at "v1"
theorem Nc{f:Addr}{fd:FuncData}(F:Fun K "is_pair" "is_pair" (top 3) f fd)(B:Blt mg K)(B2:Blt2 mg):
  FnOk P w K mg base CX0 1 f fd ["thing"] (spJ K B8 1):=by
 refine A0 (N:=["thing"]) F ⟨rfl,rfl,rfl,dK,rfl,dK,dK⟩ fun cdv A outer s H E hr=>?_;refine Ai ?_;refine Aw ?_;refine CD ?_ ?_;refine MV rfl rfl B rfl rfl ?_;walk_at "v0";refine Dp ?_;refine EA Gm (EB hr) (Be _) ?_ ?_;refine AJ B1 AY B.len Boot.«len» dK dK rfl rfl rfl ?_;refine Ab rfl ?_ ?_;walk_at "v0";exact Af;exact Ag
theorem LY{f:Addr}{fd:FuncData}(F:Fun K "is_whole" "is_whole" (top 1) f fd)(B:Blt mg K)(B2:Blt2 mg):
  FnOk P w K mg base CX0 1 f fd ["thing"] (spJ K BL 1):=by
 refine A0 (N:=["thing"]) F ⟨rfl,rfl,rfl,dK,rfl,dK,dK⟩ fun cdv A outer s H E hr=>?_;refine Ai ?_;refine Aw ?_;refine CD ?_ ?_;refine Qm rfl rfl B rfl rfl ?_;walk_at "v0";refine Dp ?_;refine Qp ?_;refine Ql rfl rfl B rfl rfl ?_;walk_at "v0"
theorem FU{f:Addr}{fd:FuncData}(F:Fun K "is_count_of_hands" "is_count_of_hands" (top 16) f fd)(B:Blt mg K)(B2:Blt2 mg)(CM:Def P w K mg base CX0 1 "is_whole" ["thing"] (spJ K BL 1))(DT:GInt mg "FEWEST_HANDS" 2)(E4:GInt mg "MOST_HANDS" 4):
  FnOk P w K mg base CX0 2 f fd ["thing"] (spJ K A7 1):=by
 refine A0 (N:=["thing"]) F ⟨rfl,rfl,rfl,dK,rfl,dK,dK⟩ fun cdv A outer s H E hr=>?_;refine Ai ?_;refine Aw ?_;refine CD ?_ ?_;refine Al CM Ak rfl rfl rfl rfl rfl hr (by decide) Ax dK rfl rfl rfl ?_;refine Ab rfl ?_ ?_;walk_at "v0";exact Af;refine Dp ?_;refine MQ HP HP Ef Ef (by with_unfolding_all rfl) ?_ ?_ ?_;exact Kz DT rfl dK;walk_at "v0";exact Kz E4 rfl dK
theorem Gz{f:Addr}{fd:FuncData}(F:Fun K "is_number_below" "is_number_below" (top 2) f fd)(B:Blt mg K)(B2:Blt2 mg)(CM:Def P w K mg base CX0 1 "is_whole" ["thing"] (spJ K BL 1)):
  FnOk P w K mg base CX0 2 f fd ["thing","bound"] (spJ K A1 2):=by
 refine A0 (N:=["thing","bound"]) F ⟨rfl,rfl,rfl,dK,rfl,dK,dK⟩ fun cdv A outer s H E hr=>?_;refine Ai ?_;refine Aw ?_;refine CD ?_ ?_;refine Al CM Ak rfl rfl rfl rfl rfl hr (by decide) Ax dK rfl rfl rfl ?_;refine Ab rfl ?_ ?_;walk_at "v0";exact Af;refine Dp ?_;refine MQ HP II Ef Fc (by with_unfolding_all rfl) ?_ ?_ ?_;exact Ag;walk_at "v0";walk_at "v1"
theorem FT{f:Addr}{fd:FuncData}(F:Fun K "are_numbers_below" "are_numbers_below" (top 5) f fd)(B:Blt mg K)(B2:Blt2 mg)(Cn:Def P w K mg base CX0 2 "is_number_below" ["thing","bound"] (spJ K A1 2)):
  FnOk P w K mg base CX0 3 f fd ["things","bound"] (spJ K Bn 2):=by
 refine A0 (N:=["things","bound"]) F ⟨rfl,rfl,rfl,dK,rfl,dK,dK⟩ fun cdv A outer s H E hr=>?_;have nd2:List.Nodup (["things","bound"]:List Str):=by decide +kernel
 refine Ai ?_;refine Aw ?_;refine AJ KL (GP rfl) B.all Boot.«all» dK dK rfl rfl rfl ?_;refine Ab rfl ?_ ?_;refine E6 (by rfl) rfl nd2 (by rfl) (fun _=>rfl) ?_ ?_ ?_;refine Cb ?_;walk_at "v0";exact Bd;intro _ _ _ _ _;refine Al Cn Ak rfl rfl rfl rfl rfl hr (by decide) Ax dK rfl rfl rfl ?_;refine Ab rfl ?_ ?_;walk_at "v0";refine Ab rfl ?_ ?_;walk_at "v2";exact Af;exact Af
theorem DB{f:Addr}{fd:FuncData}(F:Fun K "is_list_of_numbers_below" "is_list_of_numbers_below" (top 4) f fd)(B:Blt mg K)(B2:Blt2 mg)(BX:Def P w K mg base CX0 3 "are_numbers_below" ["things","bound"] (spJ K Bn 2)):
  FnOk P w K mg base CX0 4 f fd ["thing","bound"] (spJ K AI 2):=by
 refine A0 (N:=["thing","bound"]) F ⟨rfl,rfl,rfl,dK,rfl,dK,dK⟩ fun cdv A outer s H E hr=>?_;refine Ai ?_;refine Aw ?_;refine CD ?_ ?_;refine Qn rfl rfl B rfl rfl ?_;walk_at "v0";refine Dp ?_;refine Al BX Ak rfl rfl rfl rfl rfl hr (by decide) Ax dK rfl rfl rfl ?_;refine Ab rfl ?_ ?_;walk_at "v0";refine Ab rfl ?_ ?_;walk_at "v1";exact Af
theorem EJ{f:Addr}{fd:FuncData}(F:Fun K "is_rising_list_below" "is_rising_list_below" (top 6) f fd)(B:Blt mg K)(B2:Blt2 mg)(Bi:Def P w K mg base CX0 4 "is_list_of_numbers_below" ["thing","bound"] (spJ K AI 2)):
  FnOk P w K mg base CX0 5 f fd ["thing","bound"] (spJ K AU 2):=by
 refine A0 (N:=["thing","bound"]) F ⟨rfl,rfl,rfl,dK,rfl,dK,dK⟩ fun cdv A outer s H E hr=>?_;have nd2:List.Nodup (["thing","bound"]:List Str):=by decide +kernel
 refine Ad ?_ ?_;refine BC ?_ ?_ ?_;refine CP ?_;refine CF (fun _=>rfl) ?_;refine Al Bi Ak rfl rfl rfl rfl rfl hr (by decide) Ax dK rfl rfl rfl ?_;refine Ab rfl ?_ ?_;walk_at "v0";refine Ab rfl ?_ ?_;walk_at "v1";exact Af;refine Ai ?_;refine Aw ?_;exact Fv;exact AS;refine Ai ?_;refine Aw ?_;refine AJ KL (GP rfl) B.all Boot.«all» dK dK rfl rfl rfl ?_;refine Ab rfl ?_ ?_;refine E6 (by rfl) rfl nd2 (by rfl) (fun _=>rfl) ?_ ?_ ?_;refine BK rfl B.range rfl ?_;refine Av IQ IW ?_ ?_;refine AJ B1 AY B.len Boot.«len» dK dK rfl rfl rfl ?_;refine Ab rfl ?_ ?_;walk_at "v0";exact Af;exact Ag;exact Bd;intro _ _ _ _ _;refine EA II Fc (Be _) ?_ ?_;refine Ay Az Ao (fun _ _=>rfl) ?_ ?_;walk_at "v1";walk_at "v0";refine Ay Az Ao (fun _ _=>rfl) ?_ ?_;walk_at "v1";refine Av BO Bp ?_ ?_;walk_at "v0";exact Ag;exact Af
theorem GA{f:Addr}{fd:FuncData}(F:Fun K "is_small_letter" "is_small_letter" (top 19) f fd)(B:Blt mg K)(B2:Blt2 mg):
  FnOk P w K mg base CX0 1 f fd ["thing"] (spJ K Bj 1):=by
 refine A0 (N:=["thing"]) F ⟨rfl,rfl,rfl,dK,rfl,dK,dK⟩ fun cdv A outer s H E hr=>?_;refine Ai ?_;refine Aw ?_;refine CD ?_ ?_;refine MW rfl rfl B rfl rfl ?_;walk_at "v0";refine CD ?_ ?_;refine EA Gm (EB hr) (Be _) ?_ ?_;refine AJ B1 AY B.len Boot.«len» dK dK rfl rfl rfl ?_;refine Ab rfl ?_ ?_;walk_at "v0";exact Af;exact Ag;refine Dp ?_;refine MQ HP HP Ef Ef (by with_unfolding_all rfl) ?_ ?_ ?_;exact Iw dK;walk_at "v0";exact Iw dK
theorem LW{f:Addr}{fd:FuncData}(F:Fun K "is_entry" "is_entry" (top 18) f fd)(B:Blt mg K)(B2:Blt2 mg)(Bw:Def P w K mg base CX0 5 "is_rising_list_below" ["thing","bound"] (spJ K AU 2))(DE:Def P w K mg base CX0 1 "is_pair" ["thing"] (spJ K B8 1))(Co:Def P w K mg base CX0 1 "is_small_letter" ["thing"] (spJ K Bj 1)):
  FnOk P w K mg base CX0 6 f fd ["hands","thing"] (spJ K Cj 2):=by
 refine A0 (N:=["hands","thing"]) F ⟨rfl,rfl,rfl,dK,rfl,dK,dK⟩ fun cdv A outer s H E hr=>?_;refine Ad ?_ ?_;refine BC ?_ ?_ ?_;refine Ia ?_;refine JY ?_ ?_;refine CP ?_;refine CF (fun _=>rfl) ?_;refine Al DE Ak rfl rfl rfl rfl rfl hr (by decide) Ax dK rfl rfl rfl ?_;refine Ab rfl ?_ ?_;walk_at "v1";exact Af;refine KA ?_;refine CP ?_;refine CF (fun _=>rfl) ?_;refine Al Co Ak rfl rfl rfl rfl rfl hr (by decide) Ax dK rfl rfl rfl ?_;refine Ab rfl ?_ ?_;refine Ay Az Ao (fun _ _=>rfl) ?_ ?_;walk_at "v1";exact Ag;exact Af;refine Ai ?_;refine Aw ?_;exact Fv;exact AS;refine Ai ?_;refine Aw ?_;refine CD ?_ ?_;refine Al Bw Ak rfl rfl rfl rfl rfl hr (by decide) Ax dK rfl rfl rfl ?_;refine Ab rfl ?_ ?_;refine Ay Az Ao (fun _ _=>rfl) ?_ ?_;walk_at "v1";exact Ag;refine Ab rfl ?_ ?_;walk_at "v0";exact Af;refine Dp ?_;refine EA U1 U3 (Be _) ?_ ?_;refine AJ B1 AY B.len Boot.«len» dK dK rfl rfl rfl ?_;refine Ab rfl ?_ ?_;refine Ay Az Ao (fun _ _=>rfl) ?_ ?_;walk_at "v1";exact Ag;exact Af;exact Ag
theorem IG{f:Addr}{fd:FuncData}(F:Fun K "are_entries" "are_entries" (top 17) f fd)(B:Blt mg K)(B2:Blt2 mg)(Gr:Def P w K mg base CX0 6 "is_entry" ["hands","thing"] (spJ K Cj 2))(DU:GInt mg "MOST_LETTERS" 6):
  FnOk P w K mg base CX0 7 f fd ["hands","thing"] (spJ K Cz 2):=by
 refine A0 (N:=["hands","thing"]) F ⟨rfl,rfl,rfl,dK,rfl,dK,dK⟩ fun cdv A outer s H E hr=>?_;have nd2:List.Nodup (["hands","thing"]:List Str):=by decide +kernel
 refine Ad ?_ ?_;refine BC ?_ ?_ ?_;refine Ia ?_;refine JY ?_ ?_;refine CP ?_;refine CF (fun _=>rfl) ?_;refine Qn rfl rfl B rfl rfl ?_;walk_at "v1";refine KA ?_;refine CP ?_;refine Qs HP HP Ef Ef (by with_unfolding_all rfl) ?_ ?_ ?_;exact Ag;refine AJ B1 AY B.len Boot.«len» dK dK rfl rfl rfl ?_;refine Ab rfl ?_ ?_;walk_at "v1";exact Af;exact Kz DU rfl dK;refine Ai ?_;refine Aw ?_;exact Fv;exact AS;refine Ad ?_ ?_;refine BC ?_ ?_ ?_;refine CP ?_;refine CF (fun _=>rfl) ?_;refine AJ KL (GP rfl) B.all Boot.«all» dK dK rfl rfl rfl ?_;refine Ab rfl ?_ ?_;refine E6 (by rfl) rfl nd2 (by rfl) (fun _=>rfl) ?_ ?_ ?_;refine Cb ?_;walk_at "v1";exact Bd;intro _ _ _ _ _;refine Al Gr Ak rfl rfl rfl rfl rfl hr (by decide) Ax dK rfl rfl rfl ?_;refine Ab rfl ?_ ?_;walk_at "v1";refine Ab rfl ?_ ?_;walk_at "v0";exact Af;exact Af;refine Ai ?_;refine Aw ?_;exact Fv;exact AS;refine Ai ?_;refine Aw ?_;refine AJ KL (GP rfl) B.all Boot.«all» dK dK rfl rfl rfl ?_;refine Ab rfl ?_ ?_;refine E6 (by rfl) rfl nd2 (by rfl) (fun _=>rfl) ?_ ?_ ?_;refine BK rfl B.range rfl ?_;refine Av IQ IW ?_ ?_;refine AJ B1 AY B.len Boot.«len» dK dK rfl rfl rfl ?_;refine Ab rfl ?_ ?_;walk_at "v1";exact Af;exact Ag;exact Bd;intro _ _ _ _ _;refine EA II Fc (Be _) ?_ ?_;refine Ay Az Ao (fun _ _=>rfl) ?_ ?_;refine Ay Az Ao (fun _ _=>rfl) ?_ ?_;walk_at "v2";walk_at "v0";exact Ag;refine Ay Az Ao (fun _ _=>rfl) ?_ ?_;refine Ay Az Ao (fun _ _=>rfl) ?_ ?_;walk_at "v2";refine Av BO Bp ?_ ?_;walk_at "v0";exact Ag;exact Ag;exact Af
theorem LX{f:Addr}{fd:FuncData}(F:Fun K "is_house" "is_house" (top 15) f fd)(B:Blt mg K)(B2:Blt2 mg)(DE:Def P w K mg base CX0 1 "is_pair" ["thing"] (spJ K B8 1))(BY:Def P w K mg base CX0 2 "is_count_of_hands" ["thing"] (spJ K A7 1))(En:Def P w K mg base CX0 7 "are_entries" ["hands","thing"] (spJ K Cz 2)):
  FnOk P w K mg base CX0 8 f fd ["thing"] (spJ K C4 1):=by
 refine A0 (N:=["thing"]) F ⟨rfl,rfl,rfl,dK,rfl,dK,dK⟩ fun cdv A outer s H E hr=>?_;refine Ad ?_ ?_;refine BC ?_ ?_ ?_;refine CP ?_;refine CF (fun _=>rfl) ?_;refine Al DE Ak rfl rfl rfl rfl rfl hr (by decide) Ax dK rfl rfl rfl ?_;refine Ab rfl ?_ ?_;walk_at "v0";exact Af;refine Ai ?_;refine Aw ?_;exact Fv;exact AS;refine Ai ?_;refine Aw ?_;refine CD ?_ ?_;refine Al BY Ak rfl rfl rfl rfl rfl hr (by decide) Ax dK rfl rfl rfl ?_;refine Ab rfl ?_ ?_;refine Ay Az Ao (fun _ _=>rfl) ?_ ?_;walk_at "v0";exact Ag;exact Af;refine Dp ?_;refine Al En Ak rfl rfl rfl rfl rfl hr (by decide) Ax dK rfl rfl rfl ?_;refine Ab rfl ?_ ?_;refine Ay Az Ao (fun _ _=>rfl) ?_ ?_;walk_at "v0";exact Ag;refine Ab rfl ?_ ?_;refine Ay Az Ao (fun _ _=>rfl) ?_ ?_;walk_at "v0";exact Ag;exact Af
theorem JF{f:Addr}{fd:FuncData}(F:Fun K "need_house" "need_house" (top 20) f fd)(B:Blt mg K)(B2:Blt2 mg)(Gs:Def P w K mg base CX0 8 "is_house" ["thing"] (spJ K C4 1)):
  FnOk P w K mg base CX0 9 f fd ["house"] (spJ K A4 1):=by
 refine A0 (N:=["house"]) F ⟨rfl,rfl,rfl,dK,rfl,dK,dK⟩ fun cdv A outer s H E hr=>?_;refine Ai ?_;refine BC ?_ ?_ ?_;refine CP ?_;refine CF (fun _=>rfl) ?_;refine Al Gs Ak rfl rfl rfl rfl rfl hr (by decide) Ax dK rfl rfl rfl ?_;refine Ab rfl ?_ ?_;walk_at "v0";exact Af;refine Ai ?_;exact LC;exact AS
theorem JC{f:Addr}{fd:FuncData}(F:Fun K "letters_of" "letters_of" (top 21) f fd)(B:Blt mg K)(B2:Blt2 mg):
  FnOk P w K mg base CX0 1 f fd ["house"] (spJ K Bq 1):=by
 refine A0 (N:=["house"]) F ⟨rfl,rfl,rfl,dK,rfl,dK,dK⟩ fun cdv A outer s H E hr=>?_;have nd1:List.Nodup (["house"]:List Str):=by decide +kernel
 refine Ai ?_;refine Aw ?_;refine S1 rfl rfl B rfl ?_ ?_;exact Iw dK;refine E6 (by rfl) rfl nd1 (by rfl) (fun _=>rfl) ?_ ?_ ?_;refine Cb ?_;refine Ay Az Ao (fun _ _=>rfl) ?_ ?_;walk_at "v0";exact Ag;exact Bd;intro _ _ _ _ _;refine Ay Az Ao (fun _ _=>rfl) ?_ ?_;walk_at "v0";exact Ag
theorem KN{f:Addr}{fd:FuncData}(F:Fun K "is_letter" "is_letter" (top 22) f fd)(B:Blt mg K)(B2:Blt2 mg)(BR:Def P w K mg base CX0 1 "letters_of" ["house"] (spJ K Bq 1)):
  FnOk P w K mg base CX0 2 f fd ["house","thing"] (spJ K CB 2):=by
 refine A0 (N:=["house","thing"]) F ⟨rfl,rfl,rfl,dK,rfl,dK,dK⟩ fun cdv A outer s H E hr=>?_;refine Ai ?_;refine Aw ?_;refine CD ?_ ?_;refine MW rfl rfl B rfl rfl ?_;walk_at "v1";refine CD ?_ ?_;refine EA Gm (EB hr) (Be _) ?_ ?_;refine AJ B1 AY B.len Boot.«len» dK dK rfl rfl rfl ?_;refine Ab rfl ?_ ?_;walk_at "v1";exact Af;exact Ag;refine Dp ?_;refine EA (Od false) KP (by with_unfolding_all rfl) ?_ ?_;walk_at "v1";refine Al BR Ak rfl rfl rfl rfl rfl hr (by decide) Ax dK rfl rfl rfl ?_;refine Ab rfl ?_ ?_;walk_at "v0";exact Af
theorem IK{f:Addr}{fd:FuncData}(F:Fun K "need_letter" "need_letter" (top 23) f fd)(B:Blt mg K)(B2:Blt2 mg)(FA:Def P w K mg base CX0 2 "is_letter" ["house","thing"] (spJ K CB 2)):
  FnOk P w K mg base CX0 3 f fd ["house","letter"] (spJ K Bt 2):=by
 refine A0 (N:=["house","letter"]) F ⟨rfl,rfl,rfl,dK,rfl,dK,dK⟩ fun cdv A outer s H E hr=>?_;refine Ai ?_;refine BC ?_ ?_ ?_;refine CP ?_;refine CF (fun _=>rfl) ?_;refine Al FA Ak rfl rfl rfl rfl rfl hr (by decide) Ax dK rfl rfl rfl ?_;refine Ab rfl ?_ ?_;walk_at "v0";refine Ab rfl ?_ ?_;walk_at "v1";exact Af;refine Ai ?_;exact LC;exact AS
theorem LU{f:Addr}{fd:FuncData}(F:Fun K "hands_of" "hands_of" (top 24) f fd)(B:Blt mg K)(B2:Blt2 mg)(BR:Def P w K mg base CX0 1 "letters_of" ["house"] (spJ K Bq 1)):
  FnOk P w K mg base CX0 2 f fd ["house","letter"] (spJ K Ci 2):=by
 refine A0 (N:=["house","letter"]) F ⟨rfl,rfl,rfl,dK,rfl,dK,dK⟩ fun cdv A outer s H E hr=>?_;refine Ai ?_;refine Aw ?_;refine Ay Az Ao (fun _ _=>rfl) ?_ ?_;refine Ay Az Ao (fun _ _=>rfl) ?_ ?_;refine Ay Az Ao (fun _ _=>rfl) ?_ ?_;walk_at "v0";exact Ag;refine Qk rfl rfl B rfl rfl ?_ ?_;refine Al BR Ak rfl rfl rfl rfl rfl hr (by decide) Ax dK rfl rfl rfl ?_;refine Ab rfl ?_ ?_;walk_at "v0";exact Af;walk_at "v1";exact Ag
theorem Q6{f:Addr}{fd:FuncData}(F:Fun K "stock" "stock" (top 27) f fd)(B:Blt mg K)(B2:Blt2 mg)(Bc:Def P w K mg base CX0 9 "need_house" ["house"] (spJ K A4 1))(BD:Def P w K mg base CX0 3 "need_letter" ["house","letter"] (spJ K Bt 2))(CL:Def P w K mg base CX0 2 "hands_of" ["house","letter"] (spJ K Ci 2)):
  FnOk P w K mg base CX0 10 f fd ["house","letter"] (spJ K GZ 2):=by
 refine A0 (N:=["house","letter"]) F ⟨rfl,rfl,rfl,dK,rfl,dK,dK⟩ fun cdv A outer s H E hr=>?_;refine Ad ?_ ?_;refine Iy rfl ?_;refine Al Bc Ak rfl rfl rfl rfl rfl hr (by decide) Ax dK rfl rfl rfl ?_;refine Ab rfl ?_ ?_;walk_at "v0";exact Af;refine Ad ?_ ?_;refine Iy rfl ?_;refine Al BD Ak rfl rfl rfl rfl rfl hr (by decide) Ax dK rfl rfl rfl ?_;refine Ab rfl ?_ ?_;walk_at "v0";refine Ab rfl ?_ ?_;walk_at "v1";exact Af;refine Ai ?_;refine Aw ?_;refine Av BO Bp ?_ ?_;refine Av D0 D2 ?_ ?_;refine AJ B1 AY B.len Boot.«len» dK dK rfl rfl rfl ?_;refine Ab rfl ?_ ?_;refine Al CL Ak rfl rfl rfl rfl rfl hr (by decide) Ax dK rfl rfl rfl ?_;refine Ab rfl ?_ ?_;walk_at "v0";refine Ab rfl ?_ ?_;walk_at "v1";exact Af;exact Af;refine Av Q5 Ra ?_ ?_;refine Ay Az Ao (fun _ _=>rfl) ?_ ?_;walk_at "v0";exact Ag;exact Ag;exact Ag
theorem Gy{f:Addr}{fd:FuncData}(F:Fun K "_law_stock_good" "_law_stock_good" (top 48) f fd)(B:Blt mg K)(B2:Blt2 mg)(Fz:Def P w K mg base CX0 3 "_law_same" ["_law_found","_law_due"] (spJ K Dz 2))(Ka:Def P w K mg base CX0 10 "stock" ["house","letter"] (spJ K GZ 2)):
  FnOk P w K mg base CX0 11 f fd ["_law_house_here"] (spJ K Bx 1):=by
 refine A0 (N:=["_law_house_here","_law_letter","_law_owned"]) F ⟨rfl,rfl,rfl,dK,rfl,dK,dK⟩ fun cdv A outer s H E hr=>?_;have nd3:List.Nodup (["_law_house_here","_law_letter","_law_owned"]:List Str):=by decide +kernel
 refine Ad ?_ ?_;refine B0 PassesOwn.never rfl ?_ ?_ ?_ (fun _=>rfl);refine Cb ?_;refine Ay Az Ao (fun _ _=>rfl) ?_ ?_;walk_at "v0";exact Ag;refine Ic rfl ?_ rfl rfl;refine Dc 1 nd3 rfl (by walk_at "loc") rfl ?_ rfl;refine Dc 2 nd3 rfl (by walk_at "loc") rfl ?_ rfl;exact Ig;refine Ai ?_;refine BC ?_ ?_ ?_;refine CP ?_;refine CF (fun _=>rfl) ?_;refine Al Fz Ak rfl rfl rfl rfl rfl hr (by decide) Ax dK rfl rfl rfl ?_;refine Ab rfl ?_ ?_;refine Al Ka Ak rfl rfl rfl rfl rfl hr (by decide) Ax dK rfl rfl rfl ?_;refine Ab rfl ?_ ?_;walk_at "v0";refine Ab rfl ?_ ?_;walk_at "v1";exact Af;refine Ab rfl ?_ ?_;refine Av BO Bp ?_ ?_;exact Ag;refine Av D0 D2 ?_ ?_;refine Av D0 D2 ?_ ?_;refine Av D0 D2 ?_ ?_;refine AJ B1 AY B.len Boot.«len» dK dK rfl rfl rfl ?_;refine Ab rfl ?_ ?_;walk_at "v2";exact Af;refine Ay Az Ao (fun _ _=>rfl) ?_ ?_;walk_at "v0";exact Ag;refine Ay Az Ao (fun _ _=>rfl) ?_ ?_;walk_at "v0";exact Ag;refine Ay Az Ao (fun _ _=>rfl) ?_ ?_;walk_at "v0";exact Ag;exact Af;refine Ai ?_;refine Aw ?_;exact Fv;exact AS;refine Ai ?_;refine Aw ?_;exact Fv
theorem LQ{f:Addr}{fd:FuncData}(F:Fun K "_law_bag" "_law_bag" (top 37) f fd)(B:Blt mg K)(B2:Blt2 mg):
  FnOk P w K mg base CX0 1 f fd ["_law_cell_here"] (spJ K Cg 1):=by
 refine A0 (N:=["_law_cell_here"]) F ⟨rfl,rfl,rfl,dK,rfl,dK,dK⟩ fun cdv A outer s H E hr=>?_;refine Ad ?_ ?_;refine BC ?_ ?_ ?_;refine By Q0 Q7 (Be _) ?_ ?_;refine AJ QZ Ld B.abs Boot.«abs» dK dK rfl rfl rfl ?_;refine Ab rfl ?_ ?_;walk_at "v0";exact Af;refine Av Q5 Ra ?_ ?_;exact Ag;exact Ag;refine Ai ?_;refine Aw ?_;refine FP ?_;refine Ab rfl ?_ ?_;refine AW ?_;refine AJ QZ Ld B.abs Boot.«abs» dK dK rfl rfl rfl ?_;refine Ab rfl ?_ ?_;walk_at "v0";exact Af;refine Ab rfl ?_ ?_;refine AW ?_;exact Ag;exact Af;exact AS;refine Ai ?_;refine Aw ?_;refine FP ?_;refine Ab rfl ?_ ?_;refine AW ?_;refine Av IJ IT ?_ ?_;walk_at "v0";exact Ag;refine Ab rfl ?_ ?_;refine AW ?_;exact Ag;exact Af
theorem Nd{f:Addr}{fd:FuncData}(F:Fun K "no_news" "no_news" (top 26) f fd)(B:Blt mg K)(B2:Blt2 mg)(Bc:Def P w K mg base CX0 9 "need_house" ["house"] (spJ K A4 1)):
  FnOk P w K mg base CX0 10 f fd ["house"] (spJ K E2 1):=by
 refine A0 (N:=["house","firsts","seconds"]) F ⟨rfl,rfl,rfl,dK,rfl,dK,dK⟩ fun cdv A outer s H E hr=>?_;have nd3:List.Nodup (["house","firsts","seconds"]:List Str):=by decide +kernel
 refine Ad ?_ ?_;refine Iy rfl ?_;refine Al Bc Ak rfl rfl rfl rfl rfl hr (by decide) Ax dK rfl rfl rfl ?_;refine Ab rfl ?_ ?_;walk_at "v0";exact Af;refine Ad ?_ ?_;refine AD 1 nd3 rfl (by walk_at "loc") rfl rfl ?_;refine C8 F2 CN B.tuple Boot.«tuple» dK dK rfl rfl rfl ?_;refine Ab rfl ?_ ?_;refine Av KO L2.IU ?_ ?_;refine FP ?_;refine Ab rfl ?_ ?_;refine AW ?_;exact MY;exact Af;refine Ay Az Ao (fun _ _=>rfl) ?_ ?_;walk_at "v0";exact Ag;exact Af;refine Ad ?_ ?_;refine AD 2 nd3 rfl (by walk_at "loc") rfl rfl ?_;refine C8 F2 CN B.tuple Boot.«tuple» dK dK rfl rfl rfl ?_;refine Ab rfl ?_ ?_;refine Av KO L2.IU ?_ ?_;refine FP ?_;refine Ab rfl ?_ ?_;refine AW ?_;walk_at "v1";exact Af;refine Ay Az Ao (fun _ _=>rfl) ?_ ?_;walk_at "v0";exact Ag;exact Af;refine Ai ?_;refine Aw ?_;refine C8 F2 CN B.tuple Boot.«tuple» dK dK rfl rfl rfl ?_;refine Ab rfl ?_ ?_;refine Av KO L2.IU ?_ ?_;refine FP ?_;refine Ab rfl ?_ ?_;refine AW ?_;walk_at "v2";exact Af;refine Ay Az Ao (fun _ _=>rfl) ?_ ?_;walk_at "v0";exact Ag;exact Af
theorem IS{f:Addr}{fd:FuncData}(F:Fun K "unused_name" "unused_name" (top 31) f fd)(B:Blt mg K)(B2:Blt2 mg):
  FnOk P w K mg base CX0 1 f fd ["letter","news"] (spJ K CC 2):=by
 refine A0 (N:=["letter","news","used","known","seconds","firsts","name","number"]) F ⟨rfl,rfl,rfl,dK,rfl,dK,dK⟩ fun cdv A outer s H E hr=>?_;have nd8:List.Nodup (["letter","news","used","known","seconds","firsts","name","number"]:List Str):=by decide +kernel
 refine Ad ?_ ?_;refine AD 2 nd8 rfl (by walk_at "loc") rfl rfl ?_;exact S0;refine Ad ?_ ?_;refine B0 PassesOwn.never rfl ?_ ?_ ?_ (fun _=>rfl);refine Cb ?_;walk_at "v1";exact CU 3 nd8 rfl (by walk_at "loc") rfl;refine Ai ?_;refine B0 PassesOwn.never rfl ?_ ?_ ?_ (fun _=>rfl);refine Cb ?_;walk_at "v3";exact CU 4 nd8 rfl (by walk_at "loc") rfl;refine Ai ?_;refine B0 PassesOwn.never rfl ?_ ?_ ?_ (fun _=>rfl);refine Cb ?_;walk_at "v4";exact CU 5 nd8 rfl (by walk_at "loc") rfl;refine Ai ?_;refine B0 PassesOwn.never rfl ?_ ?_ ?_ (fun _=>rfl);refine Cb ?_;walk_at "v5";exact CU 6 nd8 rfl (by walk_at "loc") rfl;refine Ai ?_;refine S7 2 hr rfl (by walk_at "vis") dK dK rfl ?_ ?_;walk_at "v6";exact Fv;refine Ad ?_ ?_;refine AD 7 nd8 rfl (by walk_at "loc") rfl rfl ?_;exact Ag;refine Ad ?_ ?_;refine Qr 300 PassesOwn.never ?_ ?_;refine VT hr (by with_unfolding_all rfl) ?_ ?_;refine G7 ?_;refine Ab rfl ?_ ?_;refine AW ?_;walk_at "v0";refine Ab rfl ?_ ?_;refine AW ?_;walk_at "v7";exact Af;walk_at "v2";refine Ai ?_;refine VR 7 nd8 rfl (by walk_at "loc") rfl ?_;exact Ag;refine Ai ?_;refine Aw ?_;refine G7 ?_;refine Ab rfl ?_ ?_;refine AW ?_;walk_at "v0";refine Ab rfl ?_ ?_;refine AW ?_;walk_at "v7";exact Af
theorem JB{f:Addr}{fd:FuncData}(F:Fun K "first_hand" "first_hand" (top 28) f fd)(B:Blt mg K)(B2:Blt2 mg):
  FnOk P w K mg base CX0 1 f fd ["news","hand"] (spJ K AO 2):=by
 refine A0 (N:=["news","hand"]) F ⟨rfl,rfl,rfl,dK,rfl,dK,dK⟩ fun cdv A outer s H E hr=>?_;refine Ai ?_;refine Aw ?_;refine Ay Az Ao (fun _ _=>rfl) ?_ ?_;refine Ay Az Ao (fun _ _=>rfl) ?_ ?_;refine Ay Az Ao (fun _ _=>rfl) ?_ ?_;walk_at "v0";walk_at "v1";walk_at "v1";walk_at "v1"
theorem IP{f:Addr}{fd:FuncData}(F:Fun K "second_hand" "second_hand" (top 29) f fd)(B:Blt mg K)(B2:Blt2 mg):
  FnOk P w K mg base CX0 1 f fd ["news","hand"] (spJ K Bu 2):=by
 refine A0 (N:=["news","hand"]) F ⟨rfl,rfl,rfl,dK,rfl,dK,dK⟩ fun cdv A outer s H E hr=>?_;refine Ai ?_;refine Aw ?_;refine Ay Az Ao (fun _ _=>rfl) ?_ ?_;refine Ay Az Ao (fun _ _=>rfl) ?_ ?_;walk_at "v0";walk_at "v1";walk_at "v1"
theorem IH{f:Addr}{fd:FuncData}(F:Fun K "is_known_to" "is_known_to" (top 34) f fd)(B:Blt mg K)(B2:Blt2 mg)(AR:Def P w K mg base CX0 1 "first_hand" ["news","hand"] (spJ K AO 2))(BE:Def P w K mg base CX0 1 "second_hand" ["news","hand"] (spJ K Bu 2)):
  FnOk P w K mg base CX0 2 f fd ["other","one","hand"] (spJ K CA 3):=by
 refine A0 (N:=["other","one","hand","deed","common"]) F ⟨rfl,rfl,rfl,dK,rfl,dK,dK⟩ fun cdv A outer s H E hr=>?_;have nd5:List.Nodup (["other","one","hand","deed","common"]:List Str):=by decide +kernel
 refine Ad ?_ ?_;refine AD 3 nd5 rfl (by walk_at "loc") rfl rfl ?_;refine Al AR Ak rfl rfl rfl rfl rfl hr (by decide) Ax dK rfl rfl rfl ?_;refine Ab rfl ?_ ?_;walk_at "v1";refine Ab rfl ?_ ?_;walk_at "v2";exact Af;refine Ad ?_ ?_;refine AD 4 nd5 rfl (by walk_at "loc") rfl rfl ?_;refine E6 (by rfl) rfl nd5 (by rfl) (fun _=>rfl) ?_ ?_ ?_;refine BK rfl B.range rfl ?_;refine AJ B1 AY B.len Boot.«len» dK dK rfl rfl rfl ?_;refine Ab rfl ?_ ?_;walk_at "v0";exact Af;exact Bd;intro _ _ _ _ _;refine Al AR Ak rfl rfl rfl rfl rfl hr (by decide) Ax dK rfl rfl rfl ?_;refine Ab rfl ?_ ?_;walk_at "v1";refine Ab rfl ?_ ?_;walk_at "v0";exact Af;refine Ai ?_;refine Aw ?_;refine AJ V9 (PF rfl) B.any Boot.«any» dK dK rfl rfl rfl ?_;refine Ab rfl ?_ ?_;refine E6 (by rfl) rfl nd5 (by rfl) (fun _=>rfl) ?_ ?_ ?_;refine BK rfl B.range rfl ?_;refine AJ B1 AY B.len Boot.«len» dK dK rfl rfl rfl ?_;refine Ab rfl ?_ ?_;walk_at "v1";exact Af;exact Bd;intro _ _ _ _ _;refine CD ?_ ?_;refine VO hr (by with_unfolding_all rfl) ?_ ?_;refine Al AR Ak rfl rfl rfl rfl rfl hr (by decide) Ax dK rfl rfl rfl ?_;refine Ab rfl ?_ ?_;walk_at "v2";refine Ab rfl ?_ ?_;walk_at "v0";exact Af;walk_at "v5";refine Dp ?_;refine EA Gm (EB hr) (Be _) ?_ ?_;refine Ay Az Ao (fun _ _=>rfl) ?_ ?_;refine Al BE Ak rfl rfl rfl rfl rfl hr (by decide) Ax dK rfl rfl rfl ?_;refine Ab rfl ?_ ?_;walk_at "v2";refine Ab rfl ?_ ?_;walk_at "v0";exact Af;walk_at "v3";walk_at "v4";exact Af
theorem LS{f:Addr}{fd:FuncData}(F:Fun K "compared" "compared" (top 33) f fd)(B:Blt mg K)(B2:Blt2 mg)(AR:Def P w K mg base CX0 1 "first_hand" ["news","hand"] (spJ K AO 2))(Eo:Def P w K mg base CX0 2 "is_known_to" ["other","one","hand"] (spJ K CA 3)):
  FnOk P w K mg base CX0 3 f fd ["one","other","hand"] (spJ K Ec 3):=by
 refine A0 (N:=["one","other","hand","deed"]) F ⟨rfl,rfl,rfl,dK,rfl,dK,dK⟩ fun cdv A outer s H E hr=>?_;have nd4:List.Nodup (["one","other","hand","deed"]:List Str):=by decide +kernel
 refine Ad ?_ ?_;refine AD 3 nd4 rfl (by walk_at "loc") rfl rfl ?_;refine Al AR Ak rfl rfl rfl rfl rfl hr (by decide) Ax dK rfl rfl rfl ?_;refine Ab rfl ?_ ?_;walk_at "v0";refine Ab rfl ?_ ?_;walk_at "v2";exact Af;refine Ad ?_ ?_;refine BC ?_ ?_ ?_;refine By Gm (EB hr) (Be _) ?_ ?_;walk_at "v3";refine Al AR Ak rfl rfl rfl rfl rfl hr (by decide) Ax dK rfl rfl rfl ?_;refine Ab rfl ?_ ?_;walk_at "v1";refine Ab rfl ?_ ?_;walk_at "v2";exact Af;refine Ai ?_;refine Aw ?_;exact Ag;exact AS;refine Ad ?_ ?_;refine BC ?_ ?_ ?_;refine Ia ?_;refine JY ?_ ?_;refine By Q3 Q8 (Be _) ?_ ?_;walk_at "v3";exact MY;refine KA ?_;refine CF (fun _=>rfl) ?_;refine Al Eo Ak rfl rfl rfl rfl rfl hr (by decide) Ax dK rfl rfl rfl ?_;refine Ab rfl ?_ ?_;walk_at "v1";refine Ab rfl ?_ ?_;walk_at "v0";refine Ab rfl ?_ ?_;walk_at "v2";exact Af;refine Ai ?_;refine Aw ?_;refine LA IL Js ?_;exact Ag;exact AS;refine Ai ?_;refine Aw ?_;exact Ag
theorem HX{f:Addr}{fd:FuncData}(F:Fun K "newest_about" "newest_about" (top 32) f fd)(B:Blt mg K)(B2:Blt2 mg)(Gq:Def P w K mg base CX0 3 "compared" ["one","other","hand"] (spJ K Ec 3)):
  FnOk P w K mg base CX0 4 f fd ["news","hand"] (spJ K B5 2):=by
 refine A0 (N:=["news","hand","newest","known"]) F ⟨rfl,rfl,rfl,dK,rfl,dK,dK⟩ fun cdv A outer s H E hr=>?_;have nd4:List.Nodup (["news","hand","newest","known"]:List Str):=by decide +kernel
 refine Ad ?_ ?_;refine AD 2 nd4 rfl (by walk_at "loc") rfl rfl ?_;refine Ay Az Ao (fun _ _=>rfl) ?_ ?_;walk_at "v0";exact Ag;refine Ad ?_ ?_;refine B0 PassesOwn.never rfl ?_ ?_ ?_ (fun _=>rfl);refine Cb ?_;walk_at "v0";exact CU 3 nd4 rfl (by walk_at "loc") rfl;refine Ai ?_;refine BC ?_ ?_ ?_;refine By U1 U3 (Be _) ?_ ?_;refine Al Gq Ak rfl rfl rfl rfl rfl hr (by decide) Ax dK rfl rfl rfl ?_;refine Ab rfl ?_ ?_;walk_at "v3";refine Ab rfl ?_ ?_;walk_at "v2";refine Ab rfl ?_ ?_;walk_at "v1";exact Af;exact Ag;refine Ai ?_;refine AD 2 nd4 rfl (by walk_at "loc") rfl rfl ?_;walk_at "v3";exact AS;refine Ai ?_;refine Aw ?_;walk_at "v2"
theorem IM{f:Addr}{fd:FuncData}(F:Fun K "news_behind" "news_behind" (top 30) f fd)(B:Blt mg K)(B2:Blt2 mg)(Bc:Def P w K mg base CX0 9 "need_house" ["house"] (spJ K A4 1))(BD:Def P w K mg base CX0 3 "need_letter" ["house","letter"] (spJ K Bt 2))(CL:Def P w K mg base CX0 2 "hands_of" ["house","letter"] (spJ K Ci 2))(Er:Def P w K mg base CX0 1 "unused_name" ["letter","news"] (spJ K CC 2))(DH:Def P w K mg base CX0 4 "newest_about" ["news","hand"] (spJ K B5 2))(AR:Def P w K mg base CX0 1 "first_hand" ["news","hand"] (spJ K AO 2))(BE:Def P w K mg base CX0 1 "second_hand" ["news","hand"] (spJ K Bu 2)):
  FnOk P w K mg base CX0 10 f fd ["house","letter","news"] (spJ K BM 3):=by
 refine A0 (N:=["house","letter","news","hands","name","newest","firsts","seconds","thirds"]) F ⟨rfl,rfl,rfl,dK,rfl,dK,dK⟩ fun cdv A outer s H E hr=>?_;have nd9:List.Nodup (["house","letter","news","hands","name","newest","firsts","seconds","thirds"]:List Str):=by decide +kernel
 refine Ad ?_ ?_;refine Iy rfl ?_;refine Al Bc Ak rfl rfl rfl rfl rfl hr (by decide) Ax dK rfl rfl rfl ?_;refine Ab rfl ?_ ?_;walk_at "v0";exact Af;refine Ad ?_ ?_;refine Iy rfl ?_;refine Al BD Ak rfl rfl rfl rfl rfl hr (by decide) Ax dK rfl rfl rfl ?_;refine Ab rfl ?_ ?_;walk_at "v0";refine Ab rfl ?_ ?_;walk_at "v1";exact Af;refine Ad ?_ ?_;refine AD 3 nd9 rfl (by walk_at "loc") rfl rfl ?_;refine Al CL Ak rfl rfl rfl rfl rfl hr (by decide) Ax dK rfl rfl rfl ?_;refine Ab rfl ?_ ?_;walk_at "v0";refine Ab rfl ?_ ?_;walk_at "v1";exact Af;refine Ad ?_ ?_;refine AD 4 nd9 rfl (by walk_at "loc") rfl rfl ?_;refine Al Er Ak rfl rfl rfl rfl rfl hr (by decide) Ax dK rfl rfl rfl ?_;refine Ab rfl ?_ ?_;walk_at "v1";refine Ab rfl ?_ ?_;walk_at "v2";exact Af;refine Ad ?_ ?_;refine LB 5 nd9 rfl rfl (by rfl) rfl (by rfl) (fun _=>rfl) rfl ?_ ?_ ?_;refine BK rfl B.range rfl ?_;refine Ay Az Ao (fun _ _=>rfl) ?_ ?_;walk_at "v0";exact Ag;exact Bd;intro _ _ _ _ _;refine Al DH Ak rfl rfl rfl rfl rfl hr (by decide) Ax dK rfl rfl rfl ?_;refine Ab rfl ?_ ?_;walk_at "v3";refine Ab rfl ?_ ?_;walk_at "v0";exact Af;refine Ad ?_ ?_;refine AD 6 nd9 rfl (by walk_at "loc") rfl rfl ?_;refine C8 F2 CN B.tuple Boot.«tuple» dK dK rfl rfl rfl ?_;refine Ab rfl ?_ ?_;refine MX (by rfl) rfl nd9 dK (by rfl) (by rfl) (fun _=>rfl) ?_ ?_ ?_;refine G8 rfl B2.enumerate rfl ?_;walk_at "v5";exact Bd;intro _ _ _ _ _;refine MU ?_ ?_ ?_;refine By (Od false) KP (by with_unfolding_all rfl) ?_ ?_;walk_at "v0";walk_at "v5";walk_at "v6"
 refine Al AR Ak rfl rfl rfl rfl rfl hr (by decide) Ax dK rfl rfl rfl ?_;refine Ab rfl ?_ ?_;walk_at "v1";refine Ab rfl ?_ ?_;walk_at "v0";exact Af;exact Af;refine Ad ?_ ?_;refine AD 7 nd9 rfl (by walk_at "loc") rfl rfl ?_;refine C8 F2 CN B.tuple Boot.«tuple» dK dK rfl rfl rfl ?_;refine Ab rfl ?_ ?_;refine MX (by rfl) rfl nd9 dK (by rfl) (by rfl) (fun _=>rfl) ?_ ?_ ?_;refine G8 rfl B2.enumerate rfl ?_;walk_at "v5";exact Bd;intro _ _ _ _ _;refine MU ?_ ?_ ?_;refine By (Od false) KP (by with_unfolding_all rfl) ?_ ?_;walk_at "v0";walk_at "v5";walk_at "v8";refine Al BE Ak rfl rfl rfl rfl rfl hr (by decide) Ax dK rfl rfl rfl ?_;refine Ab rfl ?_ ?_;walk_at "v1";refine Ab rfl ?_ ?_;walk_at "v0";exact Af;exact Af;refine Ad ?_ ?_;refine AD 8 nd9 rfl (by walk_at "loc") rfl rfl ?_;refine C8 F2 CN B.tuple Boot.«tuple» dK dK rfl rfl rfl ?_;refine Ab rfl ?_ ?_;refine MX (by rfl) rfl nd9 dK (by rfl) (by rfl) (fun _=>rfl) ?_ ?_ ?_;refine G8 rfl B2.enumerate rfl ?_;walk_at "v5";exact Bd;intro _ _ _ _ _;refine MU ?_ ?_ ?_;refine By (Od false) KP (by with_unfolding_all rfl) ?_ ?_;walk_at "v0";walk_at "v5";walk_at "v9";refine Ay Az Ao (fun _ _=>rfl) ?_ ?_;walk_at "v1";walk_at "v0";exact Af;refine Ai ?_;refine Aw ?_;refine G7 ?_;refine Ab rfl ?_ ?_;refine AW ?_;walk_at "v4";refine Ab rfl ?_ ?_;refine AW ?_;walk_at "v8";exact Af
theorem KG{f:Addr}{fd:FuncData}(F:Fun K "_law_cell" "_law_cell" (top 36) f fd)(B:Blt mg K)(B2:Blt2 mg):
  FnOk P w K mg base CX0 1 f fd ["_law_script","_law_k"] (spJ K BU 2):=by
 refine A0 (N:=["_law_script","_law_k"]) F ⟨rfl,rfl,rfl,dK,rfl,dK,dK⟩ fun cdv A outer s H E hr=>?_;refine Ad ?_ ?_;refine BC ?_ ?_ ?_;refine By II Fc (Be _) ?_ ?_;walk_at "v1";refine AJ B1 AY B.len Boot.«len» dK dK rfl rfl rfl ?_;refine Ab rfl ?_ ?_;walk_at "v0";exact Af;refine Ai ?_;refine Aw ?_;refine Ay Az Ao (fun _ _=>rfl) ?_ ?_;walk_at "v0";walk_at "v1";exact AS;refine Ai ?_;refine Aw ?_;exact Ag
theorem Nb{f:Addr}{fd:FuncData}(F:Fun K "_law_of" "_law_of" (top 44) f fd)(B:Blt mg K)(B2:Blt2 mg):
  FnOk P w K mg base CX0 1 f fd ["_law_newest_here","_law_deed","_law_hand"] (spJ K DS 3):=by
 refine A0 (N:=["_law_newest_here","_law_deed","_law_hand"]) F ⟨rfl,rfl,rfl,dK,rfl,dK,dK⟩ fun cdv A outer s H E hr=>?_;refine Ad ?_ ?_;refine BC ?_ ?_ ?_;refine By II Fc (Be _) ?_ ?_;walk_at "v1";exact Ag;refine Ai ?_;refine Aw ?_;refine LA IL Js ?_;exact Ag;exact AS;refine Ai ?_;refine Aw ?_;refine Ay Az Ao (fun _ _=>rfl) ?_ ?_;refine Ay Az Ao (fun _ _=>rfl) ?_ ?_;walk_at "v0";walk_at "v1";walk_at "v2"
theorem IE{f:Addr}{fd:FuncData}(F:Fun K "_law_in_use" "_law_in_use" (top 47) f fd)(B:Blt mg K)(B2:Blt2 mg)(F0:Def P w K mg base CX0 1 "_law_of" ["_law_newest_here","_law_deed","_law_hand"] (spJ K DS 3)):
  FnOk P w K mg base CX0 2 f fd ["_law_hands","_law_newest_here","_law_last_here"] (spJ K Cw 3):=by
 refine A0 (N:=["_law_hands","_law_newest_here","_law_last_here","_law_found","_law_one","_law_q","_law_by","_law_r","_law_deed"]) F ⟨rfl,rfl,rfl,dK,rfl,dK,dK⟩ fun cdv A outer s H E hr=>?_;have nd9:List.Nodup (["_law_hands","_law_newest_here","_law_last_here","_law_found","_law_one","_law_q","_law_by","_law_r","_law_deed"]:List Str):=by decide +kernel
 refine Ad ?_ ?_;refine AD 3 nd9 rfl (by walk_at "loc") rfl rfl ?_;exact SY;refine Ad ?_ ?_;refine B0 PassesOwn.never rfl ?_ ?_ ?_ (fun _=>rfl);refine Cb ?_;walk_at "v2";exact CU 4 nd9 rfl (by walk_at "loc") rfl;refine Ai ?_;refine B0 PassesOwn.never rfl ?_ ?_ ?_ (fun _=>rfl);refine BK rfl B.range rfl ?_;walk_at "v0";exact CU 5 nd9 rfl (by walk_at "loc") rfl;refine Ad ?_ ?_;refine AD 6 nd9 rfl (by walk_at "loc") rfl rfl ?_;refine Al F0 Ak rfl rfl rfl rfl rfl hr (by decide) Ax dK rfl rfl rfl ?_;refine Ab rfl ?_ ?_;walk_at "v1";refine Ab rfl ?_ ?_;walk_at "v4";refine Ab rfl ?_ ?_;walk_at "v5";exact Af;refine Ai ?_;refine B0 PassesOwn.never rfl ?_ ?_ ?_ (fun _=>rfl);refine BK rfl B.range rfl ?_;walk_at "v0";exact CU 7 nd9 rfl (by walk_at "loc") rfl;refine Ad ?_ ?_;refine AD 8 nd9 rfl (by walk_at "loc") rfl rfl ?_;refine Al F0 Ak rfl rfl rfl rfl rfl hr (by decide) Ax dK rfl rfl rfl ?_;refine Ab rfl ?_ ?_;walk_at "v1";refine Ab rfl ?_ ?_;walk_at "v6";refine Ab rfl ?_ ?_;walk_at "v7";exact Af;refine Ai ?_;refine BC ?_ ?_ ?_;refine By Q0 Q7 (Be _) ?_ ?_;walk_at "v8";exact Ag;refine Ai ?_;refine S6 3 hr rfl (by walk_at "vis") dK dK rfl ?_ ?_;walk_at "v8";exact Fv;exact AS;refine Ai ?_;refine Aw ?_;refine C8 Q4 (MB rfl) B.list Boot.«list» dK dK rfl rfl rfl ?_;refine Ab rfl ?_ ?_;walk_at "v3";exact Af
theorem We{f c b:Addr}{fd:FuncData}(F:Fun K "law" "law" (top 49) f fd)(hn:PySem.W.nsIn K mainGlobals A8=some (some (.ref f)))(ht:PySem.W.tabIn K A8=some (c,b))(hh:PySem.W.codeHdIn K c b=true)(B:Blt mg K)(B2:Blt2 mg)(EM:Def P w K mg base CX0 2 "_law_house" ["_law_bag_here"] (spJ K CV 1))(Gp:Def P w K mg base CX0 2 "_law_row" ["_law_bag_here","_law_house_here","_law_most"] (spJ K Eb 3))(Fy:Def P w K mg base CX0 1 "_law_owns" ["_law_house_here","_law_row_here"] (spJ K Dy 2))(Em:Def P w K mg base CX0 1 "_law_newest" ["_law_hands","_law_owns_here"] (spJ K Cy 2))(Cm:Def P w K mg base CX0 11 "_law_stock_good" ["_law_house_here"] (spJ K Bx 1))(DG:Def P w K mg base CX0 1 "_law_bag" ["_law_cell_here"] (spJ K Cg 1))(Hm:Def P w K mg base CX0 10 "no_news" ["house"] (spJ K E2 1))(Ep:Def P w K mg base CX0 10 "news_behind" ["house","letter","news"] (spJ K BM 3))(C1:Def P w K mg base CX0 1 "_law_cell" ["_law_script","_law_k"] (spJ K BU 2))(AB:Def P w K mg base CX0 1 "_law_take" ["_law_bag_here","_law_many"] (spJ K Ae 2))(BQ:Def P w K mg base CX0 1 "_law_whole" ["_law_thing"] (spJ K BF 1))(El:Def P w K mg base CX0 2 "_law_in_use" ["_law_hands","_law_newest_here","_law_last_here"] (spJ K Cw 3)):
  FnOk P w K mg base CX0 12 f fd ["_law_script"] (spJ K Hw 1):=by
 refine Vx (N:=["_law_script","_law_house_here","_law_row_here","_law_hands","_law_owns_here","_law_newest_here","_law_news","_law_last_here","_law_names","_law_k","_law_letter","_law_name","_law_told","_law_hand","_law_used"]) F hn ht ⟨rfl,rfl,rfl,dK,rfl,dK,dK⟩ fun A outer s H E hr=>?_;have nd15:List.Nodup (["_law_script","_law_house_here","_law_row_here","_law_hands","_law_owns_here","_law_newest_here","_law_news","_law_last_here","_law_names","_law_k","_law_letter","_law_name","_law_told","_law_hand","_law_used"]:List Str):=by decide +kernel
 refine Ad ?_ ?_;refine AD 1 nd15 rfl (by walk_at "loc") rfl rfl ?_;refine Al EM Ak rfl rfl rfl rfl rfl hr (by decide) Ax dK rfl rfl rfl ?_;refine Ab rfl ?_ ?_;refine Al DG Ak rfl rfl rfl rfl rfl hr (by decide) Ax dK rfl rfl rfl ?_;refine Ab rfl ?_ ?_;refine Al C1 Ak rfl rfl rfl rfl rfl hr (by decide) Ax dK rfl rfl rfl ?_;refine Ab rfl ?_ ?_;walk_at "v0";refine Ab rfl ?_ ?_;exact Ag;exact Af;exact Af;exact Af;refine Ad ?_ ?_;refine AD 2 nd15 rfl (by walk_at "loc") rfl rfl ?_;refine Al Gp Ak rfl rfl rfl rfl rfl hr (by decide) Ax dK rfl rfl rfl ?_;refine Ab rfl ?_ ?_;refine Al DG Ak rfl rfl rfl rfl rfl hr (by decide) Ax dK rfl rfl rfl ?_;refine Ab rfl ?_ ?_;refine Al C1 Ak rfl rfl rfl rfl rfl hr (by decide) Ax dK rfl rfl rfl ?_;refine Ab rfl ?_ ?_;walk_at "v0";refine Ab rfl ?_ ?_;exact Ag;exact Af;exact Af;refine Ab rfl ?_ ?_;walk_at "v1";refine Ab rfl ?_ ?_;exact Ag;exact Af;refine Ad ?_ ?_;refine AD 2 nd15 rfl (by walk_at "loc") rfl rfl ?_;refine S3 ?_ ?_;refine Av Wh IU ?_ ?_;walk_at "v2";refine Av BO Bp ?_ ?_;exact Ag;refine Al AB Ak rfl rfl rfl rfl rfl hr (by decide) Ax dK rfl rfl rfl ?_;refine Ab rfl ?_ ?_;refine Al DG Ak rfl rfl rfl rfl rfl hr (by decide) Ax dK rfl rfl rfl ?_;refine Ab rfl ?_ ?_;refine Al C1 Ak rfl rfl rfl rfl rfl hr (by decide) Ax dK rfl rfl rfl ?_;refine Ab rfl ?_ ?_;walk_at "v0";refine Ab rfl ?_ ?_;exact Ag;exact Af;exact Af;refine Ab rfl ?_ ?_;exact Ag;exact Af;exact Ag;refine Ad ?_ ?_;refine AD 3 nd15 rfl (by walk_at "loc") rfl rfl ?_;refine Ay Az Ao (fun _ _=>rfl) ?_ ?_
 walk_at "v1";exact Ag;refine Ad ?_ ?_;refine Qq 4 ?_;refine AD 4 nd15 rfl (by walk_at "loc") rfl rfl ?_;refine Al Fy Ak rfl rfl rfl rfl rfl hr (by decide) Ax dK rfl rfl rfl ?_;refine Ab rfl ?_ ?_;walk_at "v1";refine Ab rfl ?_ ?_;walk_at "v2";exact Af;refine Ad ?_ ?_;refine Qq 5 ?_;refine AD 5 nd15 rfl (by walk_at "loc") rfl rfl ?_;refine Al Em Ak rfl rfl rfl rfl rfl hr (by decide) Ax dK rfl rfl rfl ?_;refine Ab rfl ?_ ?_;walk_at "v3";refine Ab rfl ?_ ?_;walk_at "v4";exact Af;refine Ad ?_ ?_;refine AD 6 nd15 rfl (by walk_at "loc") rfl rfl ?_;refine Qo ["_law_script","_law_house_here","_law_row_here","_law_hands","_law_owns_here","_law_newest_here","_law_news","_law_last_here","_law_names","_law_k","_law_letter","_law_name","_law_told","?","_law_used"] rfl rfl rfl dK rfl (fun _=>rfl) ?_ ?_ ?_;refine BK rfl B.range rfl ?_;walk_at "v3";exact Bd;intro _ _ _ _ _;refine Al Hm Ak rfl rfl rfl rfl rfl hr (by decide) Ax dK rfl rfl rfl ?_;refine Ab rfl ?_ ?_;walk_at "v2";exact Af;refine Ad ?_ ?_;refine Gv ["_law_script","_law_house_here","_law_row_here","_law_hands","_law_owns_here","_law_newest_here","_law_news","_law_last_here","_law_names","_law_k","_law_letter","_law_name","_law_told","?","_law_used"] 7 nd15 rfl rfl rfl dK rfl rfl rfl (fun _=>rfl) rfl ?_ ?_ ?_;refine BK rfl B.range rfl ?_;walk_at "v3";exact Bd;intro _ _ _ _ _;refine LA IL Js ?_;exact Ag;refine Ad ?_ ?_;refine AD 8 nd15 rfl (by walk_at "loc") rfl rfl ?_;refine FP ?_;exact Af;refine Ad ?_ ?_;refine B0 PassesOwn.never rfl ?_ ?_ ?_ (fun _=>rfl)
 refine S4 rfl B2.enumerate rfl ?_;walk_at "v2";refine Ic rfl ?_ rfl rfl;refine Dc 9 nd15 rfl (by walk_at "loc") rfl ?_ rfl;refine Dc 10 nd15 rfl (by walk_at "loc") rfl ?_ rfl;exact Ig;refine Ad ?_ ?_;refine VS ?_ rfl rfl rfl ?_;refine Ic rfl ?_ rfl rfl;refine Dc 11 nd15 rfl (by walk_at "loc") rfl ?_ rfl;refine Dc 12 nd15 rfl (by walk_at "loc") rfl ?_ rfl;exact Ig;refine Al Ep Ak rfl rfl rfl rfl rfl hr (by decide) Ax dK rfl rfl rfl ?_;refine Ab rfl ?_ ?_;walk_at "v1";refine Ab rfl ?_ ?_;walk_at "v10";refine Ab rfl ?_ ?_;refine AW ?_;refine Qo ["_law_script","_law_house_here","_law_row_here","_law_hands","_law_owns_here","_law_newest_here","_law_news","_law_last_here","_law_names","_law_k","_law_letter","_law_name","_law_told","?","_law_used"] rfl rfl rfl dK rfl (fun _=>rfl) ?_ ?_ ?_;refine Cb ?_;refine Ay Az Ao (fun _ _=>rfl) ?_ ?_;walk_at "v4";walk_at "v9";exact Bd;intro _ _ _ _ _;refine Ay Az Ao (fun _ _=>rfl) ?_ ?_;walk_at "v7";walk_at "v0";exact Af;refine Ad ?_ ?_;refine BC ?_ ?_ ?_;refine Ia ?_;refine JY ?_ ?_;refine CP ?_;refine CF (fun _=>rfl) ?_;refine MV rfl rfl B rfl rfl ?_;walk_at "v11";refine JY ?_ ?_;refine By U2 (Q9 hr) (Be _) ?_ ?_;refine AJ B1 AY B.len Boot.«len» dK dK rfl rfl rfl ?_;refine Ab rfl ?_ ?_;walk_at "v11";exact Af;exact Ag;refine JY ?_ ?_;refine By U2 (Q9 hr) (Be _) ?_ ?_;refine Ay Az Ao (fun _ _=>rfl) ?_ ?_;walk_at "v11";exact Ag;walk_at "v10";refine KA ?_;refine CP ?_;refine CF (fun _=>rfl) ?_;refine Al BQ Ak rfl rfl rfl rfl rfl hr (by decide) Ax dK rfl rfl rfl ?_
 refine Ab rfl ?_ ?_;refine Ay Az Ao (fun _ _=>rfl) ?_ ?_;walk_at "v11";exact Ag;exact Af;refine Ai ?_;refine Aw ?_;exact Fv;exact AS;refine Ad ?_ ?_;refine BC ?_ ?_ ?_;refine CP ?_;refine Qs HP II Ef Fc (by with_unfolding_all rfl) ?_ ?_ ?_;exact Ag;refine Ay Az Ao (fun _ _=>rfl) ?_ ?_;walk_at "v11";exact Ag;refine Av BO Bp ?_ ?_;exact Ag;refine Av D0 D2 ?_ ?_;refine Av D0 D2 ?_ ?_;refine Av D0 D2 ?_ ?_;refine AJ B1 AY B.len Boot.«len» dK dK rfl rfl rfl ?_;refine Ab rfl ?_ ?_;refine Ay Az Ao (fun _ _=>rfl) ?_ ?_;walk_at "v4";walk_at "v9";exact Af;walk_at "v3";walk_at "v3";walk_at "v3";refine Ai ?_;refine Aw ?_;exact Fv;exact AS;refine Ad ?_ ?_;refine M0 8 rfl (by walk_at "vis") dK dK rfl rfl rfl rfl ?_;walk_at "v11";refine Ad ?_ ?_;refine B0 PassesOwn.never rfl ?_ ?_ ?_ (fun _=>rfl);refine Cb ?_;refine Ay Az Ao (fun _ _=>rfl) ?_ ?_;walk_at "v4";walk_at "v9";exact CU 13 nd15 rfl (by walk_at "loc") rfl;refine Ad ?_ ?_;refine Gw 6 rfl (by walk_at "vis") dK dK (fun _=>rfl) rfl rfl rfl ?_ ?_;walk_at "v13";walk_at "v12";refine Ai ?_;refine Gw 7 rfl (by walk_at "vis") dK dK (fun _=>rfl) rfl rfl rfl ?_ ?_;walk_at "v13";walk_at "v9";refine Ad ?_ ?_;refine LB 14 nd15 rfl rfl (by rfl) rfl (by rfl) (fun _=>rfl) rfl ?_ ?_ ?_;refine Cb ?_;refine Al El Ak rfl rfl rfl rfl rfl hr (by decide) Ax dK rfl rfl rfl ?_;refine Ab rfl ?_ ?_;walk_at "v3";refine Ab rfl ?_ ?_;walk_at "v5";refine Ab rfl ?_ ?_;walk_at "v7";exact Af;exact Bd;intro _ _ _ _ _;refine Ay Az Ao (fun _ _=>rfl) ?_ ?_;walk_at "v9";walk_at "v0"
 refine Ai ?_;refine BC ?_ ?_ ?_;refine By II Fc (Be _) ?_ ?_;refine S2 hr rfl B.len B2.set rfl rfl rfl rfl rfl rfl ?_;walk_at "v14";refine AJ B1 AY B.len Boot.«len» dK dK rfl rfl rfl ?_;refine Ab rfl ?_ ?_;walk_at "v14";exact Af;refine Ai ?_;refine Aw ?_;exact Fv;exact AS;refine Ai ?_;refine Aw ?_;refine Al Cm Ak rfl rfl rfl rfl rfl hr (by decide) Ax dK rfl rfl rfl ?_;refine Ab rfl ?_ ?_;walk_at "v1";exact Af
end
end Gk31
end
section
namespace Gk31
open PySem L2 J St
local macro_rules | `(tactic| walk_at "ev")=>do
 let l <- ("on1 on2 on3 Ga HC BB Ck fzU FN Fx As ifS AM opM m1L m2L Ac Aj Aa Ah peeks peek er ers DL J.andM J.notM Sq orT DZ GQ AK share move moves keep Gd mkT lstM vals fzs BV GW AG Mp BI Fg HU retS A9 D5 free Gb GK YW C7 Am De GL refs back Ph GB Ez isInt isBool HM isTup isStr Bs D6 Gu E8 LK Ln Rq EK HY GO My LL Pz CQ ixA BB Ck fzU FN Fx Option.some_or Option.none_or Option.bind_none AH CS atI ixN eqA neA ltA leA gtA geA Lw BW nameOf lock unlock shB NA Ju OB K3 JX Iv RQ Y5 slF own Gh GV HK Gi FJ F1 Lx N2 MN inA Cf".splitOn " ").mapM fun s=>`(Lean.Parser.Tactic.simpLemma| $(Lean.mkIdent s.toName):ident)
 let l:=l.toArray
 `(tactic| simp [-List.map_map,$l,*, *])
structure Hs where
 n:Int
 ls:List (Nat×List Int)
noncomputable def chD(c:Nat):D:=.str ⟨#[c]⟩
noncomputable def ld(p:Nat×List Int):D:=.tup [chD p.1,.lst (iL p.2)]
noncomputable def Hs.d(h:Hs):D:=.tup [.int h.n,.lst (h.ls.map ld)]
structure Hs.Ok (h:Hs):Prop where
 n1:2<=h.n
 n2:h.n<=4
 l1:1<=h.ls.length
 l2:h.ls.length<=6
 ch:∀p∈h.ls,97<=p.1/\p.1<=122
 ri:(h.ls.map (·.1)).Pairwise (· < ·)
 hs:∀p∈h.ls,p.2≠[]/\p.2.Pairwise (· < ·)/\∀x∈p.2,0<=x/\x<h.n
@[simp] theorem Nx(st:Own)(d:D):BL [(st,.fz d)]=some (.fz (.bl (isInt d&&!isBool d)),[.fz d]):=by
 simp only[BL,fnM,GU];cases d<;>walk_at "ev"
@[simp] theorem Oq(s1 s2:Own)(i b:Int):A1 [(s1,.fz (.int i)),(s2,.fz (.int b))]=some (.fz (.bl (decide (0<=i)&&decide (i<b))),[.fz (.int i),.fz (.int b)]):=by
 simp only[A1,fnM,Dt];by_cases h0:0<=i<;>walk_at "ev" <;> simp[h0]
@[simp] theorem J5(st:Own)(x y:D):B8 [(st,.fz (.tup [x,y]))]=some (.fz (.bl true),[.fz (.tup [x,y])]):=by
 simp only[B8,fnM,HJ];walk_at "ev"
theorem Mw{α:Type}(xs:List α)(f:α -> Bool):(xs.map f).all id=xs.all f:=by simp[List.all_map]
theorem JG(s1 s2:Own)(xs:List Int)(b:Int)(hl:xs.length<=LIM):Bn [(s1,.fz (.lst (iL xs))),(s2,.fz (.int b))]=some (.fz (.bl (xs.all fun i=>decide (0<=i)&&decide (i<b))),[.fz (.lst (iL xs)),.fz (.int b)]):=by
 have hc:=Hq (it:=BW (Aa 0)) (e:=Am A1 (Ac (Aa 0) (Ac (Aa 2) Aj))) (Z:=[some (s1,.fz (.lst (iL xs))),some (s2,.fz (.int b))]) (Z1:=[some (s1,.fz (.lst (iL xs))),some (s2,.fz (.int b))]) (ds:=iL xs) (n:=none) (f:=fun d=>.bl (decide (0<=nD d)&&decide (nD d<b))) (by walk_at "ev") (by simpa using hl) (fun d hd=>by
  obtain⟨i,_,rfl⟩:=QH.mp hd;refine⟨.val (.fz (.bl (decide (0<=i)&&decide (i<b)))),?_,?_⟩<;>walk_at "ev" <;> rfl)
 rw[V4 (fun i=>D.bl (decide (0<=i)&&decide (i<b)))] at hc;refine B9 (Z:=[some (s1,.fz (.lst (iL xs))),some (s2,.fz (.int b))]) rfl ?_;show BH [some (s1,.fz (.lst (iL xs))),some (s2,.fz (.int b))]=_;unfold BH;refine FY ?_;simp only[on1,on2,on3,Ga,HC,BB,Ck,fzU,FN,Fx,opM,Ac,Aj,hc,Option.bind_some,Option.map_some,peeks,peek,Ju,CS,BV,F1,Mw]
@[simp] theorem K0(s1 s2:Own)(xs:List Int)(b:Int)(hl:xs.length<=LIM):AI [(s1,.fz (.lst (iL xs))),(s2,.fz (.int b))]=some (.fz (.bl (xs.all fun i=>decide (0<=i)&&decide (i<b))),[.fz (.lst (iL xs)),.fz (.int b)]):=by
 have e1:=JG .own .own xs b hl;simp only[AI,fnM,BA];clear hl;walk_at "ev"
theorem BS{α:Type}{xs:List α}{k:Nat}{i:Int}(hi:i=k)(h:k<xs.length):atI xs i=some xs[k]:=by
 subst hi;simp[atI,ixN,h]
theorem RE{xs:List Int}(h:xs.Pairwise (· < ·)){k:Nat}(hk:k+1<xs.length):xs[k]'(by lia)<xs[k+1]:=List.pairwise_iff_getElem.mp h k (k+1) (by lia) hk (by lia)
theorem YT{ds:List D}(h:∀d∈ds,d=.bl true):∃bs:List Bool,Df ds=some bs/\bs.all id=true:=by
 induction ds with
 | nil=>exact⟨[],rfl,rfl⟩
 | cons d ds ih =>
  obtain⟨bs,h1,h2⟩:=ih fun x hx=>h x (List.mem_cons_of_mem _ hx);have:=h d List.mem_cons_self;subst this;exact⟨true::bs,by simp[Df,h1],by simpa using h2⟩
theorem all_true{it:MI}{e:ME}{Z Z1:Ro}{ds:List D}{n:Option Nat}(hi:it Z=some (ds,n,Z1))(hl:ds.length<=LIM)(he:∀d∈ds,e (J.own d::lock Z1 n)=some (.val (.fz (.bl true)),J.own d::lock Z1 n)):
  opM Ju (Ac (AN it 0 Ce e) Aj) Z=some (.val (.fz (.bl true)),Z1):=by
 have hc:=Hq (f:=fun _=>.bl true) hi hl fun d hd=>⟨_,he d hd,by simp[share,er]⟩;obtain⟨bs,h1,h2⟩:=YT (ds:=ds.map fun _=>D.bl true) (by simp);simp only[on1,on2,on3,Ga,HC,BB,Ck,fzU,FN,Fx,opM,Ac,Aj,hc,Option.bind_some,Option.map_some,peeks,peek,Ju,CS,BV,h1,h2]
theorem RO(s1 s2:Own)(xs:List Int)(b:Int)(hl:xs.length<=1000)(hr:xs.Pairwise (· < ·))(hb:∀x∈xs,0<=x/\x<b):AU [(s1,.fz (.lst (iL xs))),(s2,.fz (.int b))]=some (.fz (.bl true),[.fz (.lst (iL xs)),.fz (.int b)]):=by
 have hL:xs.length<=LIM:=Nat.le_trans hl (by decide);simp only[AU,fnM,B4];have h1:(xs.all fun i=>decide (0<=i)&&decide (i<b))=true:=by simpa[List.all_eq_true] using hb
 have hc:=all_true (it:=Bh (opM D6 (m2L (opM CQ (Ac (Aa 0) Aj)) (Ah (.int 1))))) (e:=opM ltA (m2L (opM ixA (m2L (Aa 1) (Aa 0))) (opM ixA (m2L (Aa 1) (opM Bs (m2L (Aa 0) (Ah (.int 1)))))))) (Z:=[some (s1,.fz (.lst (iL xs))),some (s2,.fz (.int b))]) (ds:=D7 0 ((xs.length:Int)-1).toNat) (n:=none) (Z1:=[some (s1,.fz (.lst (iL xs))),some (s2,.fz (.int b))])
  (by
   have : -(2 ^ 62)<=(xs.length:Int)-1/\(xs.length:Int)-1<2 ^ 62:=by lia
   simp only[Bh]; walk_at "ev"; lia) (by rw[Jt]; lia) (fun d hd=>by
   obtain⟨j,hj⟩:=List.mem_iff_getElem?.mp hd;obtain⟨rfl,hj⟩:=HD hj;have hk:j+1<xs.length:=by lia
   have e1:=BS (xs:=iL xs) (i:=0+(j:Int)) (k:=j) (by lia) (by simpa using(by lia:j<xs.length));have e2:=BS (xs:=iL xs) (i:=0+(j:Int)+1) (k:=j+1) (by lia) (by simpa using hk);have e3:=RE hr hk;simp only[iL,List.getElem_map] at e1 e2;simp only[on1,on2,on3,Ga,HC,BB,Ck,fzU,FN,Fx,OW,opM,m2L,Ac,Aj,Aa,Ah,J.own,peeks,peek,ixA,BB,Ck,fzU,FN,Fx,Option.some_or,Option.none_or,Option.bind_none,AH,Bs,ltA,List.getElem?_cons_zero,List.getElem?_cons_succ,Option.bind_some,Option.map_some,iL,e1,e2,e3,decide_true])
 simp only[As,ifS,DZ,AM,retS,Am,Ac,Aj,Aa,List.map_cons,List.map_nil,List.getElem?_cons_zero,List.getElem?_cons_succ,Option.bind_some,Option.map_some,De,GL,refs,List.nodup_nil,if_true,K0 _ _ xs b hL,h1,back,peek,DL,Bool.not_true,Bool.false_eq_true,if_false,A9,List.append_nil,List.length_cons,List.length_nil,Nat.sub_self,List.replicate_zero];simp[hc,move,GB]
theorem call_of{Φ:Fn}{ms:MA}{Z Z1 Z2:Ro}{rs:List R}{as:List (Own×A)}{a:A}{os:List A}(h1:ms Z=some (rs,Z1))(h2:De Z1 rs=some as)(hn:decide (refs rs).Nodup=true)(h3 : Φ as=some (a,os))(hb:back rs os Z1=Z2):Am Φ ms Z=some (.val a,Z2):=by
 subst hb;simp only[Am,h1,h2,h3,Option.bind_some,Option.map_some,if_pos (of_decide_eq_true hn)]
theorem Eg{f:List A->Option A}{ms:MA}{Z Z1:Ro}{rs:List R}{as:List A}{c:A}(h1:ms Z=some (rs,Z1))(h2:peeks Z1 rs=some as)(h3:f as=some c):opM f ms Z=some (.val c,Z1):=by
 simp only[opM,h1,h2,h3,Option.bind_some,Option.map_some]
theorem ixL{T:List D}{i:Int}{d:D}(h:atI T i=some d):ixA [.lst (T.map A.fz),.fz (.int i)]=some (.fz d):=by
 simp only[on1,on2,on3,Ga,HC,ixA,BB,fzU,FN,AH,Ck,Fx,BV,h,Option.bind_some,Option.map_some,Option.some_or,Option.none_or,Option.bind_none]
theorem ixF{T:List D}{i:Int}{d:D}(h:atI T i=some d):ixA [.fz (.lst T),.fz (.int i)]=some (.fz d):=by
 simp only[on1,on2,on3,Ga,HC,ixA,BB,fzU,FN,AH,Ck,Fx,h,Option.bind_some,Option.map_some,Option.some_or,Option.none_or,Option.bind_none]
theorem ixS{z:Str}{i:Int}{c:Nat}(h:atI z.cps.toList i=some c):ixA [.fz (.str z),.fz (.int i)]=some (.fz (chD c)):=by
 simp only[on1,on2,on3,Ga,HC,ixA,BB,fzU,FN,AH,Ck,Fx,h,chD,Option.bind_some,Option.map_some,Option.some_or,Option.none_or,Option.bind_none,Option.map_none]
theorem NB{i j:Int}(h:decide (0<=j/\j<=1000000/\i.natAbs<2 ^ 64)=true):EK [.fz (.int i),.fz (.int j)]=some (.fz (.int (i*2 ^ j.toNat))):=by
 simp only[on1,on2,on3,Ga,HC,EK,Gu,BB,fzU,FN,Option.bind_some,h,if_true]
theorem W9{i j:Int}(h:decide (0<=j)=true):HY [.fz (.int i),.fz (.int j)]=some (.fz (.int (i / 2 ^ j.toNat))):=by
 simp only[on1,on2,on3,Ga,HC,HY,Gu,BB,fzU,FN,Option.bind_some,h,if_true]
theorem FQ{m1 m2:ME}{Z Z1 Z2:Ro}{r1 r2:R}(h1:m1 Z=some (r1,Z1))(h2:m2 Z1=some (r2,Z2)):m2L m1 m2 Z=some ([r1,r2],Z2):=by
 simp only[m2L,Ac,Aj,h1,h2,Option.bind_some,Option.map_some]
theorem Mf{m:ME}{Z Z1:Ro}{n:Int}(h:m Z=some (.val (.fz (.int n)),Z1))(h0 : -1000<=n)(h1:n<=1000000):Bh m Z=some (D7 0 n.toNat,none,Z1):=by
 have e0:(-(2 ^ 62)<=n/\n<2 ^ 62)=True:=by simp; lia
 simp only[Bh,h,Option.bind_some,e0,if_true]
noncomputable abbrev oI(i:Int):Slot:=some (.own,.fz (.int i))
noncomputable abbrev pN(x:Slot):Prop:=x=none\/∃d,x=some (Own.own,A.fz d)
local macro_rules | `(tactic| walk_at "eo")=>do
 let l <- ("As ifS Td AM opM m1L m2L Ac Aj Aa Ah peeks peek er ers DL J.andM J.notM orT DZ GQ AK share move moves keep Gd mkT lstM vals fzs BV GW AG Mp BI Fg HU retS A9 D5 free Gb GK C7 Am De GL refs back Ph GB Ez isInt isBool HM isTup isStr Bs D6 Gu E8 LK Ln Rq EK HY GO My LL Pz CQ ixA BB Ck fzU FN Fx Option.some_or Option.none_or Option.bind_none AH CS eqA neA ltA leA gtA geA Lw BW nameOf lock unlock Ih shB NA Ju OB K3 JX Iv RQ slF J.own Gh GV HK Gi FJ F1 Lx N2 MN DF inA Cf Bh ND OJ Lj Iz Io on1 on2 on3 Ga HC DV SR LF Sk List.getElem?_cons_zero List.getElem?_cons_succ List.getElem?_nil Option.bind_some Option.bind_none Option.map_some Option.map_none List.map_cons List.map_nil List.cons_append List.nil_append List.append_nil List.length_cons List.length_nil List.length_map List.replicate_zero List.replicate_succ List.nodup_nil List.set_cons_zero List.set_cons_succ List.take_succ_cons List.take_zero if_true if_false Bool.not_true Bool.not_false Bool.false_eq_true reduceIte reduceCtorEq Nat.reduceSub Nat.reduceAdd Nat.sub_self Bool.true_and Bool.and_true Bool.false_and Bool.and_false Bool.true_or Bool.or_true Bool.false_or Bool.or_false decide_true decide_false beq_self_eq_true and_self and_true true_and Nat.zero_add List.nodup_cons List.not_mem_nil not_false_eq_true".splitOn " ").mapM fun s=>`(Lean.Parser.Tactic.simpLemma| $(Lean.mkIdent s.toName):ident)
 let l:=l.toArray
 `(tactic| simp only [$l,*, *])
theorem XT:(Str.ofString "a").cps.toList=[97]:=by decide +kernel
theorem XU:(Str.ofString "z").cps.toList=[122]:=by decide +kernel
theorem M5(a b:Nat):([a] < [b])↔a<b:=by
 rw[List.cons_lt_cons_iff];constructor
 .rintro (h|⟨_,h⟩)
  .exact h
  .exact absurd h (List.not_lt_nil _)
 .intro h; exact .inl h
theorem at0{α:Type}(a:α)(xs:List α):atI (a::xs) 0=some a:=by simp[atI,ixN]
theorem at1{α:Type}(a b:α)(xs:List α):atI (a::b::xs) 1=some b:=by
 have:(1:Int)<((xs.length:Int)+1+1):=by lia
 simp[atI,ixN,this]
theorem Ub(st:Own)(c:Nat)(h:97<=c/\c<=122):Bj [(st,.fz (chD c))]=some (.fz (.bl true),[.fz (chD c)]):=by
 have e1:decide ([c] < [97])=false:=by rw[decide_eq_false_iff_not,M5]; lia
 have e2:decide ([122] < [c])=false:=by rw[decide_eq_false_iff_not,M5]; lia
 have e3:((Str.length ⟨#[c]⟩:Nat):Int)=1:=rfl;have e4:=XT;have e5:=XU;simp only[Bj,fnM,Du,chD];walk_at "eo"
theorem T8(s1 s2:Own)(n:Int)(p:Nat×List Int)(h:97<=p.1/\p.1<=122)(hl:p.2.length<=1000)(h0:p.2≠[])(hr:p.2.Pairwise (· < ·))(hb:∀x∈p.2,0<=x/\x<n):Cj [(s1,.fz (.int n)),(s2,.fz (ld p))]=some (.fz (.bl true),[.fz (.int n),.fz (ld p)]):=by
 have hp:decide ((0:Int)<(p.2.length:Int))=true:=by
  have:=List.length_pos_iff.mpr h0;simpa using this
 have e1:=at0 (chD p.1) [.lst (iL p.2)];have e2:=at1 (chD p.1) (.lst (iL p.2)) [];have e3:=Ub .own p.1 h;have e4:=RO .own .own p.2 n hl hr hb;have e5:=J5 .own (chD p.1) (.lst (iL p.2));clear hb hr h0 h hl;simp only[Cj,fnM,GR,ld];walk_at "eo"
theorem T7(st:Own)(n:Int)(h1:2<=n)(h2:n<=4):A7 [(st,.fz (.int n))]=some (.fz (.bl true),[.fz (.int n)]):=by
 have e1:=Nx .own (.int n);simp only[A7,fnM,CK];walk_at "eo"
theorem RF{n lo:Int}:∀{xs:List Int},xs.Pairwise (· < ·)->(∀x∈xs,lo<=x/\x<n)->(xs.length:Int)<=max 0 (n-lo):=by
 intro xs;induction xs generalizing lo with
 | nil=>intro _ _; simp; lia
 | cons x xs ih =>
  intro hp hb;have:=ih (lo:=x+1) (List.pairwise_cons.mp hp).2 fun y hy=>⟨by have:=(List.pairwise_cons.mp hp).1 y hy; lia,(hb y (List.mem_cons_of_mem _ hy)).2⟩;have:=hb x List.mem_cons_self;simp only[List.length_cons];lia
theorem Hs.Ok.hl{h:Hs}(ok:h.Ok):∀p∈h.ls,p.2.length<=4:=fun p hp=>by
 obtain⟨_,r,b⟩:=ok.hs p hp;have n2:=ok.n2;have:=RF r b;lia
theorem Pd(s1 s2:Own)(h:Hs)(ok:h.Ok):Cz [(s1,.fz (.int h.n)),(s2,.fz (.lst (h.ls.map ld)))]=some (.fz (.bl true),[.fz (.int h.n),.fz (.lst (h.ls.map ld))]):=by
 have l1:=ok.l1;have l2:=ok.l2;have hlim:1000<=LIM:=by decide
 have hc1:=all_true (it:=BW (Aa 1)) (e:=Am Cj (Ac (Aa 1) (Ac (Aa 0) Aj))) (Z:=[some (s1,.fz (.int h.n)),some (s2,.fz (.lst (h.ls.map ld)))]) (ds:=h.ls.map ld) (n:=none) (Z1:=[some (s1,.fz (.int h.n)),some (s2,.fz (.lst (h.ls.map ld)))])
  (by walk_at "eo") (by simp; lia) (fun d hd=>by
   obtain⟨p,hp,rfl⟩:=List.mem_map.mp hd;obtain⟨h0,hr,hb⟩:=ok.hs p hp;have e1:=T8 .own .own h.n p (ok.ch p hp) (by have:=ok.hl p hp; lia) h0 hr hb;clear hb hr h0 hd hp;walk_at "eo")
 have hc2:=all_true (it:=Bh (opM D6 (m2L (opM CQ (Ac (Aa 1) Aj)) (Ah (.int 1))))) (e:=opM ltA (m2L (opM ixA (m2L (opM ixA (m2L (Aa 2) (Aa 0))) (Ah (.int 0)))) (opM ixA (m2L (opM ixA (m2L (Aa 2) (opM Bs (m2L (Aa 0) (Ah (.int 1)))))) (Ah (.int 0)))))) (Z:=[some (s1,.fz (.int h.n)),some (s2,.fz (.lst (h.ls.map ld)))]) (ds:=D7 0 ((h.ls.length:Int)-1).toNat) (n:=none) (Z1:=[some (s1,.fz (.int h.n)),some (s2,.fz (.lst (h.ls.map ld)))])
  (by
   have e0:(-(2 ^ 62)<=(h.ls.length:Int)-1/\(h.ls.length:Int)-1<2 ^ 62)=True:=by simp; lia
   clear hc1;walk_at "eo") (by rw[Jt]; lia) (fun d hd=>by
   obtain⟨j,hj⟩:=List.mem_iff_getElem?.mp hd;obtain⟨rfl,hj⟩:=HD hj;have hk:j+1<h.ls.length:=by lia
   have e1:=BS (xs:=h.ls.map ld) (i:=0+(j:Int)) (k:=j) (by lia) (by simpa using(by lia:j<h.ls.length));have e2:=BS (xs:=h.ls.map ld) (i:=0+(j:Int)+1) (k:=j+1) (by lia) (by simpa using hk);have e3:(h.ls[j]'(by lia)).1<(h.ls[j+1]).1:=by
    have:=List.pairwise_iff_getElem.mp ok.ri j (j+1) (by simp; lia) (by simpa using hk) (by lia);simpa using this
   simp only[List.getElem_map,ld,chD] at e1 e2;have e4:decide ([(h.ls[j]'(by lia)).1] < [(h.ls[j+1]).1])=true:=by rw[decide_eq_true_iff]; exact(M5 _ _).mpr e3
   have e5:=at0 (D.str ⟨#[(h.ls[j]'(by lia)).1]⟩) [.lst (iL (h.ls[j]'(by lia)).2)];have e6:=at0 (D.str ⟨#[(h.ls[j+1]).1]⟩) [.lst (iL (h.ls[j+1]).2)];clear hc1 hd e3 hj l1 l2 hlim;walk_at "eo")
 have e5:decide ((1:Int)<=(h.ls.length:Int))=true:=by simp; lia
 have e6:decide ((h.ls.length:Int)<=6)=true:=by simp; lia
 clear l1 l2 hlim;refine B9 (Z:=[some (s1,.fz (.int h.n)),some (s2,.fz (.lst (h.ls.map ld)))]) rfl ?_;show Di [some (s1,.fz (.int h.n)),some (s2,.fz (.lst (h.ls.map ld)))]=_;unfold Di;rw[AL (Z1:=[some (s1,.fz (.int h.n)),some (s2,.fz (.lst (h.ls.map ld)))]) (by clear hc1 hc2; walk_at "eo"),AL (VC (not_of (K5 hc1)))];exact FY hc2
theorem Nv(st:Own)(h:Hs)(ok:h.Ok):C4 [(st,.fz h.d)]=some (.fz (.bl true),[.fz h.d]):=by
 have e1:=Pd .own .own h ok;have e2:=T7 .own h.n ok.n1 ok.n2;have e3:=J5 .own (.int h.n) (.lst (h.ls.map ld));have e4:=at0 (D.int h.n) [.lst (h.ls.map ld)];have e5:=at1 (D.int h.n) (.lst (h.ls.map ld)) [];simp only[C4,fnM,GS,Hs.d];walk_at "eo"
theorem Fh(st:Own)(h:Hs)(ok:h.Ok):A4 [(st,.fz h.d)]=some (.fz .non,[.fz h.d]):=by
 have e1:=Nv .own h ok;simp only[A4,fnM,FH];walk_at "eo"
noncomputable def Hs.text(h:Hs):Str:=⟨(h.ls.map (·.1)).toArray⟩
theorem J8:∀(xs:List (Nat×List Int)),HQ (xs.map fun p=>chD p.1)=some (xs.map fun p=>(⟨#[p.1]⟩:Str))
 | []=>rfl
 | x::xs=>by
  have ih:=J8 xs;simp only[chD] at ih;simp[HQ,chD,ih]
theorem P8(xs:List (Nat×List Int)):glue (xs.map fun p=>(⟨#[p.1]⟩:Str))=⟨(xs.map (·.1)).toArray⟩:=by
 unfold glue;congr 1;congr 1;induction xs with
 | nil=>rfl
 | cons x xs ih=>simp at ih |-; exact ih
theorem RT(xs:List (Nat×List Int)):((xs.map fun p=>(⟨#[p.1]⟩:Str)).map (·.length)).sum=xs.length:=by
 induction xs with
 | nil=>rfl
 | cons x xs ih =>
  have:Str.length ⟨#[x.1]⟩=1:=rfl;simp only[List.map_cons,List.sum_cons,ih,this,List.length_cons];lia
theorem Hh(st:Own)(h:Hs)(ok:h.Ok):Bq [(st,.fz h.d)]=some (.fz (.str h.text),[.fz h.d]):=by
 have e5:=at1 (D.int h.n) (.lst (h.ls.map ld)) [];have l2:=ok.l2;have hlim:1000<=LIM:=by decide
 have hc:=Hq (it:=BW (opM ixA (m2L (Aa 0) (Ah (.int 1))))) (e:=opM ixA (m2L (Aa 0) (Ah (.int 0)))) (Z:=[some (st,.fz h.d)]) (Z1:=[some (st,.fz h.d)]) (ds:=h.ls.map ld) (n:=none) (f:=fun d=>match d with | .tup (x::_)=>x|d=>d)
  (by simp only[Hs.d]; walk_at "eo") (by simp; lia) (fun d hd=>by
   obtain⟨p,hp,rfl⟩:=List.mem_map.mp hd;have e6:=at0 (chD p.1) [.lst (iL p.2)];simp only[ld];refine⟨.val (.fz (chD p.1)),?_,?_⟩<;>clear hd hp e5<;>walk_at "eo")
 have e1:(h.ls.map ld).map (fun d=>match d with | .tup (x::_)=>x|d=>d)=h.ls.map fun p=>chD p.1:=by simp[ld]
 rw[e1] at hc;have e2:=J8 h.ls;have e3:=P8 h.ls;have e4:(((h.ls.map fun p=>(⟨#[p.1]⟩:Str)).map (·.length)).sum<=16777216)=True:=by rw[RT]; simp; lia
 have e7:((Str.ofString "").length=0)=True:=by
  have:(Str.ofString "").length=0:=by decide +kernel
  simp[this]
 refine B9 (Z:=[some (st,.fz h.d)]) rfl ?_;show DQ [some (st,.fz h.d)]=_;unfold DQ;refine FY ?_;simp only[on1,on2,on3,Ga,HC,BB,Ck,fzU,FN,Fx,K3,Ah,Option.bind_some,m1L,Ac,Aj,hc,Option.map_some,peeks,peek,JX,e7,if_true,CS,BV,e2,e4,e3,Hs.text]
noncomputable def Row(h:Hs)(z:Str):Prop:=z.length<=1000/\∀c∈z.cps.toList,c∈h.ls.map (·.1)
noncomputable def Hs.hands(h:Hs)(c:Nat):List Int:=((h.ls.find? fun p=>p.1==c).map (·.2)).getD []
theorem Ip{h:Hs}(ok:h.Ok){c:Nat}(hc:c∈h.ls.map (·.1)):∃(j:Nat) (hj:j<h.ls.length),(h.ls[j]).1=c/\Txt.find h.text ⟨#[c]⟩=(j:Int)/\h.hands c=(h.ls[j]).2:=by
 obtain⟨p,hp,rfl⟩:=List.mem_map.mp hc;obtain⟨j,hj,rfl⟩:=List.mem_iff_getElem.mp hp;have nd:∀k (hk:k<j),(h.ls[k]'(by lia)).1≠(h.ls[j]).1:=fun k hk=>by
  have:=List.pairwise_iff_getElem.mp ok.ri k j (by simp; lia) (by simpa using hj) hk;simp at this;lia
 refine⟨j,hj,rfl,PZ (by simp[Hs.text,hj]) (fun k hk=>?_),?_⟩
 .have hk':k<h.ls.length:=by lia
  simp only[Hs.text];rw[List.getElem?_eq_getElem (by simpa using hk')];simp;exact nd k hk
 .have:h.ls.find? (fun p=>p.1==(h.ls[j]).1)=some h.ls[j]:=by
   rw[List.find?_eq_some_iff_getElem];refine⟨by simp,j,hj,rfl,fun k hk=>?_⟩;have:=nd k hk;simpa using this
  simp[Hs.hands,this]
theorem Hs.hands_len{h:Hs}(ok:h.Ok)(c:Nat):(h.hands c).length<=4:=by
 unfold Hs.hands;cases e:h.ls.find? (fun p=>p.1==c) with
 | none=>simp
 | some p=>simpa using ok.hl p (List.mem_of_find?_eq_some e)
theorem Jg(s1 s2:Own)(h:Hs)(ok:h.Ok)(c:Nat)(hc:c∈h.ls.map (·.1)):Ci [(s1,.fz h.d),(s2,.fz (chD c))]=some (.fz (.lst (iL (h.hands c))),[.fz h.d,.fz (chD c)]):=by
 have e1:=Hh .own h ok;have e5:=at1 (D.int h.n) (.lst (h.ls.map ld)) [];obtain⟨j,hj,e2,e3,e4⟩:=Ip ok hc;have e6:(0<=Txt.find h.text ⟨#[c]⟩)=True:=by rw[e3]; simp
 have e7:=BS (xs:=h.ls.map ld) (i:=(j:Int)) (k:=j) rfl (by simpa using hj);have e8:ld (h.ls[j])=.tup [chD c,.lst (iL (h.hands c))]:=by rw[ld,e2,e4]
 simp only[List.getElem_map] at e7;rw[e8] at e7;have e9:=at1 (chD c) (.lst (iL (h.hands c))) [];rw[<- e3] at e7;clear e2 e3 e4 e8 hc;refine B9 (Z:=[some (s1,.fz h.d),some (s2,.fz (chD c))]) rfl ?_;show ES [some (s1,.fz h.d),some (s2,.fz (chD c))]=_;simp only[ES,Hs.d,chD] at e1 |-;simp only[chD] at e7 e9;walk_at "eo"
noncomputable def Bag(n:Nat)(as:List A):Prop:=∃x y:Int,as=[.fz (.int x),.fz (.int y)]/\0<=y/\y<=n
theorem Bag.mono{n m:Nat}{as:List A}(h:Bag n as)(hm:n<=m):Bag m as:=by
 obtain⟨x,y,e,h1,h2⟩:=h;exact⟨x,y,e,h1,by lia⟩
theorem RK(st:Own)(x:Int):∃as a1,Bag 1 as/\Cg [(st,.fz (.int x))]=some (.lst as,[a1]):=by
 have p1:decide ((0:Int)<=18/\(18:Int)<=1000000/\Int.natAbs 10<2 ^ 64)=true:=by decide
 have l2:((2:Nat)<=LIM)=True:=by simp[LIM,sizeLine]
 have p2:decide ((0:Int)<2147483647)=true:=by decide
 by_cases h:(10:Int) ^ (18:Int).toNat<=(if x<0 then -x else x)
 .refine⟨_,_,⟨(if x<0 then -x else x),0,rfl,by lia,by lia⟩,B9 (Z:=[some (st,.fz (.int x))]) rfl ?_⟩
  show Cs [some (st,.fz (.int x))]=_;unfold Cs;have h':=decide_eq_true h;clear h;walk_at "eo"
 .refine⟨_,_,⟨x % 2147483647,1,rfl,by lia,by lia⟩,B9 (Z:=[some (st,.fz (.int x))]) rfl ?_⟩
  show Cs [some (st,.fz (.int x))]=_;unfold Cs;have h':=decide_eq_false h;clear h;walk_at "eo"
theorem D4{n:Nat}{as:List A}(hb:Bag n as)(hn:n<=1000000)(m:Int)(hm:0<m)(hm2:m<1099511627776):∃(d:Int) (as':List A),0<=d/\d<m/\Bag (n+1) as'/\Ae [(.lent,.lst as),(.own,.fz (.int m))]=some (.fz (.int d),[.lst as',.fz (.int m)]):=by
 obtain⟨x,y,rfl,h1,h2⟩:=hb;have m1:decide (0<m)=true:=decide_eq_true hm;have m2:decide (0<m/\m<1099511627776)=true:=decide_eq_true ⟨hm,hm2⟩;have i0:ixN 2 0=some 0:=by rfl
 have i1:ixN 2 1=some 1:=by rfl
 by_cases hy:y=0
 .subst hy
  refine⟨x % m,[.fz (.int (x / m)),.fz (.int 0)],Int.emod_nonneg _ (by lia),Int.emod_lt_of_pos _ hm,⟨_,_,rfl,by lia,by lia⟩,B9 (Z:=[some (.lent,.lst [.fz (.int (x / m)),.fz (.int 0)]),some (.own,.fz (.int m)),some (.own,.fz (.int (x % m)))]) rfl ?_⟩;show A3 [some (.lent,.lst [.fz (.int x),.fz (.int 0)]),some (.own,.fz (.int m)),none]=_;unfold A3;have a0:=at0 (D.int x) [D.int 0];have a1:=at1 (D.int x) (D.int 0) [];clear hm hm2 h1 h2 hn;walk_at "eo"
 .let x':=(x*48271+7919*y*y+17) % 2147483647
  have e1:eqD (.int y) (.int 0)=false:=by simp[Gh,GV,HK,Gi,FJ,hy]
  have c1:(-(2 ^ 64)<x/\x<2 ^ 64 \/ -(2 ^ 64)<(48271:Int)/\(48271:Int)<2 ^ 64)=True:=by simp
  have c2:(-(2 ^ 64)<(7919:Int)/\(7919:Int)<2 ^ 64 \/ -(2 ^ 64)<y/\y<2 ^ 64)=True:=by simp
  have c3:(-(2 ^ 64)<7919*y/\7919*y<2 ^ 64 \/ -(2 ^ 64)<y/\y<2 ^ 64)=True:=by simp; lia
  have c4:(-(2 ^ 64)<x'/\x'<2 ^ 64 \/ -(2 ^ 64)<(69621:Int)/\(69621:Int)<2 ^ 64)=True:=by simp
  have d1:decide ((0:Int)<2147483647)=true:=by decide
  have d2:decide ((0:Int)<2147483629)=true:=by decide
  have d3:decide ((0:Int)<5/\(5:Int)<1099511627776)=true:=by decide
  have hx:(x*48271+7919*y*y+17) % 2147483647=x':=rfl;refine⟨x'*69621 % 2147483629 / 5 % m,[.fz (.int x'),.fz (.int (y+1))],Int.emod_nonneg _ (by lia),Int.emod_lt_of_pos _ hm,⟨_,_,rfl,by lia,by lia⟩,B9 (Z:=[some (.lent,.lst [.fz (.int x'),.fz (.int (y+1))]),some (.own,.fz (.int m)),none]) rfl ?_⟩;show A3 [some (.lent,.lst [.fz (.int x),.fz (.int y)]),some (.own,.fz (.int m)),none]=_;unfold A3;have a0:=at0 (D.int x) [D.int y];have a1:=at1 (D.int x) (D.int y) [];have a2:=at1 (D.int x') (D.int y) [];have a3:=at0 (D.int x') [D.int (y+1)];rw[AL (Z1:=[some (.lent,.lst [.fz (.int x),.fz (.int y)]),some (.own,.fz (.int m)),none]) (by
   simp only[Gh,GV,HK,Gi,FJ] at e1;clear hm hm2 h1 h2 hn c1 c2 c3 c4 hx hy;walk_at "eo"),AL (Z1:=[some (.lent,.lst [.fz (.int x'),.fz (.int y)]),some (.own,.fz (.int m)),none]) (by
   clear hm hm2 h1 h2 hn c4 hy e1;walk_at "eo"),AL (Z1:=[some (.lent,.lst [.fz (.int x'),.fz (.int (y+1))]),some (.own,.fz (.int m)),none]) (by
   clear hm hm2 h1 h2 hn c4 hy e1 c1 c2 c3 hx;walk_at "eo")]
  refine FY ?_;clear hm hm2 h1 h2 hn hy e1 c1 c2 c3 hx;walk_at "eo"
noncomputable def JP(b:Int)(i:Nat):Bool:=eqD (.int (Builtin.bitAnd (b / 2 ^ i) 1)) (.int 1)
noncomputable def FF(n:Nat)(b:Int):List Int:=((List.range n).filter (JP b)).map fun(i:Nat)=>(i:Int)
theorem OD(n:Nat)(b:Int):(FF n b).Pairwise (· < ·):=by
 unfold FF;rw[List.pairwise_map];have:((List.range n).filter (JP b)).Pairwise (· < ·):=List.Pairwise.filter _ List.pairwise_lt_range;exact this.imp fun h=>by lia
theorem Su{n:Nat}{b:Int}:∀x∈FF n b,0<=x/\x<n:=by
 intro x hx;simp only[FF,List.mem_map,List.mem_filter,List.mem_range] at hx;obtain⟨i,⟨hi,_⟩,rfl⟩:=hx;lia
theorem Lb:∀n∈[2,3,4],∀b∈List.range 16,1<=b->b<2 ^ n->FF n (b:Int)≠[]:=by decide +kernel
theorem Wo:∀n∈[2,3,4],∀a∈List.range n,∀b∈List.range n,1<=Builtin.bitOr (1*2 ^ a) (1*2 ^ b)/\Builtin.bitOr (1*2 ^ a) (1*2 ^ b)<2 ^ n:=by decide +kernel
theorem Sv{n:Nat}{b:Int}(hn:n=2\/n=3\/n=4)(h1:1<=b)(h2:b<2 ^ n):FF n b≠[]:=by
 obtain⟨k,rfl⟩:∃k:Nat,b=k:=⟨b.toNat,by lia⟩;have h16:(2:Int) ^ n<=16:=by rcases hn with rfl|rfl|rfl<;>decide
 refine Lb n (by rcases hn with rfl|rfl|rfl<;>simp) k (by simp; lia) (by lia) ?_;have:((k:Nat):Int)<((2 ^ n:Nat):Int):=by simpa using h2
 lia
theorem cons_of{m:ME}{ms:MA}{Z Z1 Z2:Ro}{r:R}{rs:List R}(h1:m Z=some (r,Z1))(h2:ms Z1=some (rs,Z2)):Ac m ms Z=some (r::rs,Z2):=by simp[Ac,h1,h2]
theorem He{m:ME}{Z Z1 Z2:Ro}{r:R}{d:D}(h1:m Z=some (r,Z1))(h2:share Z1 r=some (d,Z2)):AK m Z=some (.val (.fz d),Z2):=by simp[AK,h1,h2]
theorem Ox{ms:MA}{Z Z1:Ro}{a b:D}(h:ms Z=some ([.val (.fz a),.val (.fz b)],Z1)):Gd ms Z=some (.val (.fz (.tup [a,b])),Z1):=by
 simp[Gd,h,moves,move,mkT,fzs,LIM,sizeLine]
theorem Vm{m:ME}{i:Nat}{Z:Ro}{st:Own}{as:List A}{a:A}(h0:C7 Z i=some (st,as))(h:m Z=some (.val a,Z))(hl:as.length<LIM):GK i m Z=some (.next (Z.set i (some (st,.lst (as++[a]))))):=by
 simp only[GK,h0,Option.bind_some,h,keep,if_pos hl]
theorem J7(Z:Ro)(ds:List D):share Z (.val (.lst (ds.map A.fz)))=some (.lst ds,Z):=by
 simp[share,er,GW]
theorem So:∀k∈List.range 26,atI (Str.ofString "abcdefghijklmnopqrstuvwxyz").cps.toList (k:Int)=some (97+k):=by decide +kernel
theorem Sw(n:Nat)(b:Int):(((D7 0 n).filter fun d=>JP b (nD d).toNat).map fun d=>d)=iL (FF n b):=by
 have e1:(fun d=>JP b (nD d).toNat) ∘ (fun(k:Nat)=>D.int (0+(k:Int)))=JP b:=by
  funext k;simp
 have e2:D.int ∘ (fun(i:Nat)=>(i:Int))=fun(k:Nat)=>D.int (0+(k:Int)):=by
  funext k;simp
 rw[List.map_id',D7,List.filter_map,e1,iL,FF,List.map_map,e2]
structure HI (n:Int) (M j:Nat) (ls:List (Nat×List Int)) (a:Int):Prop where
 len:ls.length=j
 a0:0<=a
 a1:a<=26-M+j
 ch:∀p∈ls,97<=p.1/\(p.1:Int)<97+a
 ri:(ls.map (·.1)).Pairwise (· < ·)
 hs:∀p∈ls,p.2≠[]/\p.2.Pairwise (· < ·)/\∀x∈p.2,0<=x/\x<n
theorem HI.step{n:Int}{M j:Nat}{ls:List (Nat×List Int)}{a d:Int}{hl:List Int}(h:HI n M j ls a)(d0:0<=d)(d1:d<27-M+(0+(j:Int))-a)(hl0:hl≠[])(hl1:hl.Pairwise (· < ·))(hl2:∀x∈hl,0<=x/\x<n):HI n M (j+1) (ls++[(97+(a+d).toNat,hl)]) (a+d+1):=by
 have a0:=h.a0;refine⟨by simp[h.len],by lia,by lia,?_,?_,?_⟩
 .intro p hp
  rcases List.mem_append.mp hp with hp|hp
  .have:=h.ch p hp; lia
  .simp only[List.mem_singleton] at hp; subst hp; simp only; lia
 .rw[List.map_append,List.pairwise_append]
  refine⟨h.ri,by simp,?_⟩;intro x hx y hy;obtain⟨p,hp,rfl⟩:=List.mem_map.mp hx;simp only[List.map_cons,List.map_nil,List.mem_singleton] at hy;subst hy;have:=(h.ch p hp).2;lia
 .intro p hp
  rcases List.mem_append.mp hp with hp|hp
  .exact h.hs p hp
  .simp only[List.mem_singleton] at hp; subst hp; exact⟨hl0,hl1,hl2⟩
noncomputable abbrev eK(as:List A)(n M S:Int)(ls:List (Nat×List Int))(a:Int)(x6 x7:Slot):Ro:=[some (.own,.lst as),oI n,oI M,oI S,some (.own,.lst (ls.map fun p=>A.fz (ld p))),oI a,x6,x7]
noncomputable def cH:MS:=(As (AG 5 (opM Bs (m2L (Aa 5) (Am Ae (Ac (Aa 0) (Ac (opM D6 (m2L (opM Bs (m2L (opM D6 (m2L (Ah (.int 27)) (Aa 2))) (Aa 6))) (Aa 5))) Aj)))))) (As (AG 7 (opM Bs (m2L (Ah (.int 1)) (Am Ae (Ac (Aa 0) (Ac (opM D6 (m2L (opM EK (m2L (Ah (.int 1)) (Aa 1))) (Ah (.int 1)))) Aj)))))) (As (ifS (AM (opM eqA (m2L (Aa 3) (Ah (.int 1))))) (AG 7 (opM My (m2L (opM EK (m2L (Ah (.int 1)) (Am Ae (Ac (Aa 0) (Ac (Aa 1) Aj))))) (opM EK (m2L (Ah (.int 1)) (Am Ae (Ac (Aa 0) (Ac (Aa 1) Aj)))))))) A9) (As (GK 4 (Gd (Ac (AK (opM ixA (m2L (Ah (.str (Str.ofString "abcdefghijklmnopqrstuvwxyz"))) (Aa 5)))) (Ac (AK (AN (Bh (Aa 1)) 0 (AM (opM eqA (m2L (opM GO (m2L (opM HY (m2L (Aa 8) (Aa 0))) (Ah (.int 1)))) (Ah (.int 1))))) (Aa 0))) Aj)))) (AG 5 (opM Bs (m2L (Aa 5) (Ah (.int 1)))))))))
theorem KZ{n M S a:Int}{Mn j N:Nat}{as:List A}{ls:List (Nat×List Int)}{x7:Slot}(hM:M=Mn)(hM2:Mn<=6)(hj:j<Mn)(hn:n=2\/n=3\/n=4)(hb:Bag N as)(hN:N<=100000)(hi:HI n Mn j ls a)(hx7:pN x7):
  ∃as' ls' a' b,cH (eK as n M S ls a (oI (0+(j:Int))) x7)=some (.next (eK as' n M S ls' a' (oI (0+(j:Int))) (oI b)))/\Bag (N+4) as'/\HI n Mn (j+1) ls' a':=by
 have a0:=hi.a0;have a1:=hi.a1;have hp:(1:Int)*2 ^ n.toNat-1<=15/\0<(1:Int)*2 ^ n.toNat-1:=by rcases hn with rfl|rfl|rfl<;>decide
 have sh:decide (0<=n/\n<=1000000/\Int.natAbs 1<2 ^ 64)=true:=by rcases hn with rfl|rfl|rfl<;>decide
 obtain⟨d1,as1,g1,g2,b1,t1⟩:=D4 hb (by lia) (27-M+(0+(j:Int))-a) (by lia) (by lia);obtain⟨d2,as2,g3,g4,b2,t2⟩:=D4 b1 (by lia) ((1:Int)*2 ^ n.toNat-1) (by lia) (by lia);have v1:(Am Ae (Ac (Aa 0) (Ac (opM D6 (m2L (opM Bs (m2L (opM D6 (m2L (Ah (.int 27)) (Aa 2))) (Aa 6))) (Aa 5))) Aj))) (eK as n M S ls a (oI (0+(j:Int))) x7)=some (.val (.fz (.int d1)),(eK as1 n M S ls a (oI (0+(j:Int))) x7)):=call_of rfl rfl rfl t1 rfl;have v1':(opM Bs (m2L (Aa 5) (Am Ae (Ac (Aa 0) (Ac (opM D6 (m2L (opM Bs (m2L (opM D6 (m2L (Ah (.int 27)) (Aa 2))) (Aa 6))) (Aa 5))) Aj))))) (eK as n M S ls a (oI (0+(j:Int))) x7)=some (.val (.fz (.int (a+d1))),(eK as1 n M S ls a (oI (0+(j:Int))) x7)):=Eg (FQ (r1:=.val (.fz (.int a))) rfl v1) rfl rfl;have st1:AG 5 (opM Bs (m2L (Aa 5) (Am Ae (Ac (Aa 0) (Ac (opM D6 (m2L (opM Bs (m2L (opM D6 (m2L (Ah (.int 27)) (Aa 2))) (Aa 6))) (Aa 5))) Aj))))) (eK as n M S ls a (oI (0+(j:Int))) x7)=some (.next (eK as1 n M S ls (a+d1) (oI (0+(j:Int))) x7)):=Ho v1' rfl;have w2:(opM EK (m2L (Ah (.int 1)) (Aa 1))) (eK as1 n M S ls (a+d1) (oI (0+(j:Int))) x7)=some (.val (.fz (.int (1*2 ^ n.toNat))),(eK as1 n M S ls (a+d1) (oI (0+(j:Int))) x7)):=Eg rfl rfl (NB sh);have w2':(opM D6 (m2L (opM EK (m2L (Ah (.int 1)) (Aa 1))) (Ah (.int 1)))) (eK as1 n M S ls (a+d1) (oI (0+(j:Int))) x7)=some (.val (.fz (.int (1*2 ^ n.toNat-1))),(eK as1 n M S ls (a+d1) (oI (0+(j:Int))) x7)):=Eg (FQ (r2:=.val (.fz (.int 1))) w2 rfl) rfl rfl;have v2:(Am Ae (Ac (Aa 0) (Ac (opM D6 (m2L (opM EK (m2L (Ah (.int 1)) (Aa 1))) (Ah (.int 1)))) Aj))) (eK as1 n M S ls (a+d1) (oI (0+(j:Int))) x7)=some (.val (.fz (.int d2)),(eK as2 n M S ls (a+d1) (oI (0+(j:Int))) x7)):=call_of (cons_of (r:=.ref 0) rfl (cons_of w2' rfl)) rfl rfl t2 rfl
 have v2':(opM Bs (m2L (Ah (.int 1)) (Am Ae (Ac (Aa 0) (Ac (opM D6 (m2L (opM EK (m2L (Ah (.int 1)) (Aa 1))) (Ah (.int 1)))) Aj))))) (eK as1 n M S ls (a+d1) (oI (0+(j:Int))) x7)=some (.val (.fz (.int (1+d2))),(eK as2 n M S ls (a+d1) (oI (0+(j:Int))) x7)):=Eg (FQ (r1:=.val (.fz (.int 1))) rfl v2) rfl rfl;have st2:AG 7 (opM Bs (m2L (Ah (.int 1)) (Am Ae (Ac (Aa 0) (Ac (opM D6 (m2L (opM EK (m2L (Ah (.int 1)) (Aa 1))) (Ah (.int 1)))) Aj))))) (eK as1 n M S ls (a+d1) (oI (0+(j:Int))) x7)=some (.next (eK as2 n M S ls (a+d1) (oI (0+(j:Int))) (oI (1+d2)))):=by
  rcases hx7 with rfl|⟨d,rfl⟩<;>exact Ho v2' rfl
 have ct:(AM (opM eqA (m2L (Aa 3) (Ah (.int 1))))) (eK as2 n M S ls (a+d1) (oI (0+(j:Int))) (oI (1+d2)))=some (eqD (.int S) (.int 1),(eK as2 n M S ls (a+d1) (oI (0+(j:Int))) (oI (1+d2)))):=rfl;have st3:∃as3 b,Bag (N+4) as3/\1<=b/\b<2 ^ n.toNat/\(ifS (AM (opM eqA (m2L (Aa 3) (Ah (.int 1))))) (AG 7 (opM My (m2L (opM EK (m2L (Ah (.int 1)) (Am Ae (Ac (Aa 0) (Ac (Aa 1) Aj))))) (opM EK (m2L (Ah (.int 1)) (Am Ae (Ac (Aa 0) (Ac (Aa 1) Aj)))))))) A9) (eK as2 n M S ls (a+d1) (oI (0+(j:Int))) (oI (1+d2)))=some (.next (eK as3 n M S ls (a+d1) (oI (0+(j:Int))) (oI b))):=by
  by_cases hS:S=1
  .obtain⟨d3,as3,g5,g6,b3,t3⟩:=D4 b2 (by lia) n (by lia) (by lia)
   obtain⟨d4,as4,g7,g8,b4,t4⟩:=D4 b3 (by lia) n (by lia) (by lia);have ho:=Wo n.toNat (by rcases hn with rfl|rfl|rfl<;>simp) d3.toNat (by simp; lia) d4.toNat (by simp; lia);have sh3:decide (0<=d3/\d3<=1000000/\Int.natAbs 1<2 ^ 64)=true:=by simp; lia
   have sh4:decide (0<=d4/\d4<=1000000/\Int.natAbs 1<2 ^ 64)=true:=by simp; lia
   refine⟨as4,_,b4.mono (by lia),ho.1,ho.2,?_⟩;have e1:eqD (.int S) (.int 1)=true:=by rw[hS]; exact DR _
   rw[e1] at ct;have u1:(Am Ae (Ac (Aa 0) (Ac (Aa 1) Aj))) (eK as2 n M S ls (a+d1) (oI (0+(j:Int))) (oI (1+d2)))=some (.val (.fz (.int d3)),(eK as3 n M S ls (a+d1) (oI (0+(j:Int))) (oI (1+d2)))):=call_of rfl rfl rfl t3 rfl;have u2:(Am Ae (Ac (Aa 0) (Ac (Aa 1) Aj))) (eK as3 n M S ls (a+d1) (oI (0+(j:Int))) (oI (1+d2)))=some (.val (.fz (.int d4)),(eK as4 n M S ls (a+d1) (oI (0+(j:Int))) (oI (1+d2)))):=call_of rfl rfl rfl t4 rfl;have u3:(opM My (m2L (opM EK (m2L (Ah (.int 1)) (Am Ae (Ac (Aa 0) (Ac (Aa 1) Aj))))) (opM EK (m2L (Ah (.int 1)) (Am Ae (Ac (Aa 0) (Ac (Aa 1) Aj))))))) (eK as2 n M S ls (a+d1) (oI (0+(j:Int))) (oI (1+d2)))=some (.val (.fz (.int (Builtin.bitOr (1*2 ^ d3.toNat) (1*2 ^ d4.toNat)))),(eK as4 n M S ls (a+d1) (oI (0+(j:Int))) (oI (1+d2)))):=Eg (FQ (Eg (FQ (r1:=.val (.fz (.int 1))) rfl u1) rfl (NB sh3)) (Eg (FQ (r1:=.val (.fz (.int 1))) rfl u2) rfl (NB sh4))) rfl rfl;exact(YX ct).trans (Ho u3 rfl)
  .refine⟨as2,_,b2.mono (by lia),(by lia:1<=1+d2),by lia,?_⟩
   have e1:eqD (.int S) (.int 1)=false:=by simp[Gh,GV,HK,Gi,FJ,hS]
   rw[e1] at ct;exact(VC ct).trans rfl
 obtain⟨as3,b,b3,c1,c2,st3⟩:=st3;have hc:(AN (Bh (Aa 1)) 0 (AM (opM eqA (m2L (opM GO (m2L (opM HY (m2L (Aa 8) (Aa 0))) (Ah (.int 1)))) (Ah (.int 1))))) (Aa 0)) (eK as3 n M S ls (a+d1) (oI (0+(j:Int))) (oI b))=some (.val (.lst ((iL (FF n.toNat b)).map A.fz)),(eK as3 n M S ls (a+d1) (oI (0+(j:Int))) (oI b))):=by
  have hlim:1000<=LIM:=by decide
  have rg:Bh (Aa 1) (eK as3 n M S ls (a+d1) (oI (0+(j:Int))) (oI b))=some (D7 0 n.toNat,none,(eK as3 n M S ls (a+d1) (oI (0+(j:Int))) (oI b))):=Mf rfl (by lia) (by lia);have:=Lh (g:=fun d=>JP b (nD d).toNat) (f:=fun d=>d) (c:=(AM (opM eqA (m2L (opM GO (m2L (opM HY (m2L (Aa 8) (Aa 0))) (Ah (.int 1)))) (Ah (.int 1)))))) (e:=Aa 0) rg (by rw[Jt]; lia) (fun d hd=>by
   obtain⟨i,hi⟩:=List.mem_iff_getElem?.mp hd;obtain⟨rfl,hi⟩:=HD hi;have e0:decide (0<=(0:Int)+(i:Int))=true:=by simp
   have r1:(opM HY (m2L (Aa 8) (Aa 0))) (own (.int (0+(i:Int)))::(eK as3 n M S ls (a+d1) (oI (0+(j:Int))) (oI b)))=some (.val (.fz (.int (b / 2 ^ (0+(i:Int)).toNat))),own (.int (0+(i:Int)))::(eK as3 n M S ls (a+d1) (oI (0+(j:Int))) (oI b))):=Eg rfl rfl (W9 e0);have r2:(opM GO (m2L (opM HY (m2L (Aa 8) (Aa 0))) (Ah (.int 1)))) (own (.int (0+(i:Int)))::(eK as3 n M S ls (a+d1) (oI (0+(j:Int))) (oI b)))=some (.val (.fz (.int (Builtin.bitAnd (b / 2 ^ (0+(i:Int)).toNat) 1))),own (.int (0+(i:Int)))::(eK as3 n M S ls (a+d1) (oI (0+(j:Int))) (oI b))):=Eg (FQ (r2:=.val (.fz (.int 1))) r1 rfl) rfl rfl;exact K5 (Eg (FQ (r2:=.val (.fz (.int 1))) r2 rfl) rfl rfl)) (fun d hd _=>⟨.val (.fz d),rfl,rfl⟩)
  rw[this,Sw]
 have ha:=So (a+d1).toNat (by simp; lia);have hcx:atI (Str.ofString "abcdefghijklmnopqrstuvwxyz").cps.toList (a+d1)=some (97+(a+d1).toNat):=by
  have:(((a+d1).toNat:Nat):Int)=a+d1:=by lia
  rw[this] at ha; exact ha
 have hix:(opM ixA (m2L (Ah (.str (Str.ofString "abcdefghijklmnopqrstuvwxyz"))) (Aa 5))) (eK as3 n M S ls (a+d1) (oI (0+(j:Int))) (oI b))=some (.val (.fz (chD (97+(a+d1).toNat))),(eK as3 n M S ls (a+d1) (oI (0+(j:Int))) (oI b))):=Eg rfl rfl (ixS hcx);have hlsl:(ls.map fun p=>A.fz (ld p)).length<LIM:=by
  have hlim:1000<=LIM:=by decide
  have:=hi.len;simp only[List.length_map]; lia
 have st4:(GK 4 (Gd (Ac (AK (opM ixA (m2L (Ah (.str (Str.ofString "abcdefghijklmnopqrstuvwxyz"))) (Aa 5)))) (Ac (AK (AN (Bh (Aa 1)) 0 (AM (opM eqA (m2L (opM GO (m2L (opM HY (m2L (Aa 8) (Aa 0))) (Ah (.int 1)))) (Ah (.int 1))))) (Aa 0))) Aj)))) (eK as3 n M S ls (a+d1) (oI (0+(j:Int))) (oI b))=some (.next (eK as3 n M S (ls++[((97+(a+d1).toNat),FF n.toNat b)]) (a+d1) (oI (0+(j:Int))) (oI b))):=by
  rw[Vm (st:=.own) (as:=ls.map fun p=>A.fz (ld p)) rfl (Ox (cons_of (He hix rfl) (cons_of (He hc (J7 _ _)) rfl))) hlsl];simp[ld,eK]
 have hbits:=Sv (n:=n.toNat) (b:=b) (by lia) c1 c2;refine⟨as3,(ls++[((97+(a+d1).toNat),FF n.toNat b)]),a+d1+1,b,?_,b3,hi.step g1 (by lia) hbits (OD _ _) (fun x hx=>by have:=Su x hx; lia)⟩;exact(AL st1).trans ((AL st2).trans ((AL st3).trans ((AL st4).trans rfl)))
theorem T9{N:Nat}{as:List A}(hb:Bag N as)(hN:N<=1000):∃h:Hs,∃as',h.Ok/\Bag (N+30) as'/\CV [(.own,.lst as)]=some (.fz h.d,[.lst as']):=by
 obtain⟨d1,as1,g1,g2,b1,t1⟩:=D4 hb (by lia) 3 (by lia) (by lia);obtain⟨d2,as2,g3,g4,b2,t2⟩:=D4 b1 (by lia) 6 (by lia) (by lia);obtain⟨d3,as3,g5,g6,b3,t3⟩:=D4 b2 (by lia) 2 (by lia) (by lia);have rg:Bh (Aa 2) (eK as3 (2+d1) (1+d2) d3 [] 0 none none)=some (D7 0 (1+d2).toNat,none,(eK as3 (2+d1) (1+d2) d3 [] 0 none none)):=Mf rfl (by lia) (by lia);obtain⟨Z',f1,f2⟩:=Lp (is:=[6]) (one:=true) (b:=cH)
  (fun j Z=>∃as' ls' a' x6 x7,pN x6/\pN x7/\Bag (N+3+4*j) as'/\HI (2+d1) (1+d2).toNat j ls' a'/\Z=(eK as' (2+d1) (1+d2) d3 ls' a' x6 x7)) rg ⟨as3,[],0,none,none,.inl rfl,.inl rfl,b3,⟨rfl,by lia,by lia,by simp,by simp,by simp⟩,rfl⟩ (fun j d Z hd hI=>by
   obtain⟨as',ls',a',x6,x7,hx6,hx7,hb',hi,rfl⟩:=hI;obtain⟨rfl,hj⟩:=HD hd;obtain⟨as'',ls'',a'',b,s1,s2,s3⟩:=KZ (n:=2+d1) (M:=1+d2) (S:=d3) (Mn:=(1+d2).toNat) (j:=j) (by lia) (by lia) hj (by lia) hb' (by lia) hi hx7;refine⟨_,_,?_,.inl s1,as'',ls'',a'',_,_,.inr ⟨_,rfl⟩,.inr ⟨_,rfl⟩,s2.mono (by lia),s3,rfl⟩;rcases hx6 with rfl|⟨d,rfl⟩<;>rfl)
 rw[Jt] at f2;obtain⟨as',ls',a',x6,x7,_,_,hb',hi,rfl⟩:=f2;have hn2:2+d1<=4:=by lia
 have ha1:=hi.a1;have hlen:=hi.len;have ok:Hs.Ok ⟨2+d1,ls'⟩:=⟨by simp only; lia,hn2,by simp only; lia,by simp only; lia,fun p hp=>by have:=hi.ch p hp; lia,hi.ri,hi.hs⟩;refine⟨⟨2+d1,ls'⟩,as',ok,hb'.mono (by lia),B9 (Z:=[some (.own,.lst as'),some (.own,.fz (.int (2+d1))),some (.own,.fz (.int (1+d2))),some (.own,.fz (.int d3)),some (.own,.fz (.lst (ls'.map ld))),some (.own,.fz (.int a')),x6,x7]) rfl ?_⟩;show DN [some (.own,.lst as),none,none,none,none,none,none,none]=_;unfold DN;have y1:(Am Ae (Ac (Aa 0) (Ac (Ah (.int 3)) Aj))) [some (.own,.lst as),none,none,none,none,none,none,none]=some (.val (.fz (.int d1)),[some (.own,.lst as1),none,none,none,none,none,none,none]):=call_of rfl rfl rfl t1 rfl;have y2:(opM Bs (m2L (Ah (.int 2)) (Am Ae (Ac (Aa 0) (Ac (Ah (.int 3)) Aj))))) [some (.own,.lst as),none,none,none,none,none,none,none]=some (.val (.fz (.int (2+d1))),[some (.own,.lst as1),none,none,none,none,none,none,none]):=Eg (FQ (r1:=.val (.fz (.int 2))) rfl y1) rfl rfl;have z1:AG 1 (opM Bs (m2L (Ah (.int 2)) (Am Ae (Ac (Aa 0) (Ac (Ah (.int 3)) Aj))))) [some (.own,.lst as),none,none,none,none,none,none,none]=some (.next [some (.own,.lst as1),oI (2+d1),none,none,none,none,none,none]):=Ho y2 rfl;have y3:(Am Ae (Ac (Aa 0) (Ac (Ah (.int 6)) Aj))) [some (.own,.lst as1),oI (2+d1),none,none,none,none,none,none]=some (.val (.fz (.int d2)),[some (.own,.lst as2),oI (2+d1),none,none,none,none,none,none]):=call_of rfl rfl rfl t2 rfl;have y4:(opM Bs (m2L (Ah (.int 1)) (Am Ae (Ac (Aa 0) (Ac (Ah (.int 6)) Aj))))) [some (.own,.lst as1),oI (2+d1),none,none,none,none,none,none]=some (.val (.fz (.int (1+d2))),[some (.own,.lst as2),oI (2+d1),none,none,none,none,none,none]):=Eg (FQ (r1:=.val (.fz (.int 1))) rfl y3) rfl rfl
 have z2:AG 2 (opM Bs (m2L (Ah (.int 1)) (Am Ae (Ac (Aa 0) (Ac (Ah (.int 6)) Aj))))) [some (.own,.lst as1),oI (2+d1),none,none,none,none,none,none]=some (.next [some (.own,.lst as2),oI (2+d1),oI (1+d2),none,none,none,none,none]):=Ho y4 rfl;have y5:(Am Ae (Ac (Aa 0) (Ac (Ah (.int 2)) Aj))) [some (.own,.lst as2),oI (2+d1),oI (1+d2),none,none,none,none,none]=some (.val (.fz (.int d3)),[some (.own,.lst as3),oI (2+d1),oI (1+d2),none,none,none,none,none]):=call_of rfl rfl rfl t3 rfl;have z3:AG 3 (Am Ae (Ac (Aa 0) (Ac (Ah (.int 2)) Aj))) [some (.own,.lst as2),oI (2+d1),oI (1+d2),none,none,none,none,none]=some (.next [some (.own,.lst as3),oI (2+d1),oI (1+d2),oI d3,none,none,none,none]):=Ho y5 rfl;refine(AL z1).trans ((AL z2).trans ((AL z3).trans ((AL (Z1:=[some (.own,.lst as3),oI (2+d1),oI (1+d2),oI d3,some (.own,.lst []),none,none,none]) rfl).trans ((AL (Z1:=(eK as3 (2+d1) (1+d2) d3 [] 0 none none)) rfl).trans ((AL f1).trans ?_)))));refine FY ?_;refine Ox (cons_of (He rfl rfl) (cons_of (He (r:=.ref 4) rfl ?_) rfl));have:=GW (ls'.map ld);rw[List.map_map] at this;simp only[unlock,share,List.getElem?_cons_zero,List.getElem?_cons_succ,er];rw[show(ls'.map fun p=>A.fz (ld p))=ls'.map (A.fz ∘ ld) from rfl,this];rfl
theorem app_list(z:Str)(c:Nat):(z++(⟨#[c]⟩:Str)).cps.toList=z.cps.toList++[c]:=by
 show(z.cps ++ #[c]).toList=_;simp
theorem NR(z:Str)(c:Nat):(z++(⟨#[c]⟩:Str)).length=z.length+1:=by
 show(z.cps ++ #[c]).size=z.cps.size+1;simp
theorem len_one(c:Nat):Str.length ⟨#[c]⟩=1:=rfl
theorem Ny{N j:Nat}{as:List A}{h:Hs}(ok:h.Ok){z:Str}{most size:Int}(hb:Bag N as)(hN:N<=100000)(hz:Row h z)(hl:z.length<=100):∃as' c,Bag (N+1) as'/\c∈h.ls.map (·.1)/\(AG 4 (opM Bs (m2L (Aa 4) (opM ixA (m2L (opM ixA (m2L (opM ixA (m2L (Aa 1) (Ah (.int 1)))) (Am Ae (Ac (Aa 0) (Ac (opM CQ (Ac (opM ixA (m2L (Aa 1) (Ah (.int 1)))) Aj)) Aj))))) (Ah (.int 0))))))) [some (.own,.lst as),some (.own,.fz h.d),some (.own,.fz (.int most)),some (.own,.fz (.int size)),some (.own,.fz (.str z)),some (.own,.fz (.int (0+(j:Int))))]=some (.next [some (.own,.lst as'),some (.own,.fz h.d),some (.own,.fz (.int most)),some (.own,.fz (.int size)),some (.own,.fz (.str (z++(⟨#[c]⟩:Str)))),some (.own,.fz (.int (0+(j:Int))))]):=by
 have l1:=ok.l1;have l2:=ok.l2;obtain⟨d,as',g1,g2,b1,t1⟩:=D4 hb (by lia) (h.ls.length:Int) (by lia) (by lia);have e5:=at1 (D.int h.n) (.lst (h.ls.map ld)) [];have hd:d.toNat<h.ls.length:=by lia
 have e7:=BS (xs:=h.ls.map ld) (i:=d) (k:=d.toNat) (by lia) (by simpa using hd);simp only[List.getElem_map] at e7;have e8:ld (h.ls[d.toNat])=.tup [.str ⟨#[(h.ls[d.toNat]).1]⟩,.lst (iL (h.ls[d.toNat]).2)]:=rfl;rw[e8] at e7;have e9:=at0 (D.str ⟨#[(h.ls[d.toNat]).1]⟩) [.lst (iL (h.ls[d.toNat]).2)];have hlim:1000<=LIM:=by decide
 have e10:(z.length+1<=LIM)=True:=by simp only[eq_iff_iff,iff_true]; lia
 have e11:=len_one (h.ls[d.toNat]).1;refine⟨as',(h.ls[d.toNat]).1,b1,List.mem_map.mpr ⟨_,List.getElem_mem hd,rfl⟩,?_⟩;simp only[Hs.d];clear hlim e8 b1 g1 g2 l1 l2 hb hN hz hl ok;walk_at "eo"
theorem s_row{N:Nat}{as:List A}{h:Hs}(ok:h.Ok)(hb:Bag N as)(hN:N<=1000)(most:Int)(hm:0<=most)(hm2:most<=40):∃z as' a2 a3,Row h z/\z.length<=40/\Bag (N+50) as'/\Eb [(.own,.lst as),(.own,.fz h.d),(.own,.fz (.int most))]=some (.fz (.str z),[.lst as',a2,a3]):=by
 obtain⟨d1,as1,g1,g2,b1,t1⟩:=D4 hb (by lia) (most+1) (by lia) (by lia);obtain⟨d2,as2,g3,g4,b2,t2⟩:=D4 b1 (by lia) 8 (by lia) (by lia);have st1:AG 3 (Am Ae (Ac (Aa 0) (Ac (opM Bs (m2L (Aa 2) (Ah (.int 1)))) Aj))) [some (.own,.lst as),some (.own,.fz h.d),some (.own,.fz (.int most)),none,none,none]=some (.next [some (.own,.lst as1),some (.own,.fz h.d),some (.own,.fz (.int most)),some (.own,.fz (.int d1)),none,none]):=by
  clear t2 b2 b1 g1 g2 g3 g4 hN hb hm hm2 ok;walk_at "eo"
 have st2:∃as3 size,Bag (N+3) as3/\0<=size/\size<=40/\ifS (AM (opM eqA (m2L (Am Ae (Ac (Aa 0) (Ac (Ah (.int 8)) Aj))) (Ah (.int 1))))) (AG 3 (Am Ae (Ac (Aa 0) (Ac (Ah (.int 41)) Aj)))) A9 [some (.own,.lst as1),some (.own,.fz h.d),some (.own,.fz (.int most)),some (.own,.fz (.int d1)),none,none]=some (.next [some (.own,.lst as3),some (.own,.fz h.d),some (.own,.fz (.int most)),some (.own,.fz (.int size)),none,none]):=by
  obtain⟨d3,as3,g5,g6,b3,t3⟩:=D4 b2 (by lia) 41 (by lia) (by lia);by_cases h1:d2=1
  .refine⟨as3,d3,b3.mono (by lia),g5,by lia,?_⟩
   have e1:(d2==1)=true:=by simpa using h1
   clear b2 b1 g1 g2 g3 g4 hN hb hm hm2 ok b3 g5 g6 h1 st1 t1;walk_at "eo"
  .refine⟨as2,d1,b2.mono (by lia),g1,by lia,?_⟩
   have e1:(d2==1)=false:=by simpa using h1
   clear b2 b1 g1 g2 g3 g4 hN hb hm hm2 ok b3 g5 g6 h1 st1 t1;walk_at "eo"
 obtain⟨as3,size,b3,z1,z2,st2⟩:=st2;have rg:Bh (Aa 3) [some (.own,.lst as3),some (.own,.fz h.d),some (.own,.fz (.int most)),some (.own,.fz (.int size)),some (.own,.fz (.str (Str.ofString ""))),none]=some (D7 0 size.toNat,none,[some (.own,.lst as3),some (.own,.fz h.d),some (.own,.fz (.int most)),some (.own,.fz (.int size)),some (.own,.fz (.str (Str.ofString ""))),none]):=by
  have e0:(-(2 ^ 62)<=size/\size<2 ^ 62)=True:=by simp; lia
  clear t1 t2 b1 b2 b3 g1 g2 g3 g4 hb hN st1 st2 z1 z2 hm hm2 ok;walk_at "eo"
 have em:(Str.ofString "").cps.toList=[]:=by decide +kernel
 have em2:(Str.ofString "").length=0:=by decide +kernel
 obtain⟨Z',f1,f2⟩:=Lp (is:=[5]) (one:=true) (b:=(AG 4 (opM Bs (m2L (Aa 4) (opM ixA (m2L (opM ixA (m2L (opM ixA (m2L (Aa 1) (Ah (.int 1)))) (Am Ae (Ac (Aa 0) (Ac (opM CQ (Ac (opM ixA (m2L (Aa 1) (Ah (.int 1)))) Aj)) Aj))))) (Ah (.int 0))))))))
  (fun j Z=>∃as' z x5,(pN x5)/\Bag (N+3+j) as'/\Row h z/\z.length=j/\Z=[some (.own,.lst as'),some (.own,.fz h.d),some (.own,.fz (.int most)),some (.own,.fz (.int size)),some (.own,.fz (.str z)),x5]) rg ⟨as3,Str.ofString "",none,.inl rfl,b3,⟨by rw[em2]; lia,by rw[em]; simp⟩,em2,rfl⟩ (fun j d Z hd hI=>by
   obtain⟨as',z,x5,hx5,hb',hz,hzl,rfl⟩:=hI;obtain⟨rfl,hj⟩:=HD hd;obtain⟨as'',c,s1,s2,s3⟩:=Ny (j:=j) (most:=most) (size:=size) ok hb' (by lia) hz (by lia);refine⟨_,_,?_,.inl s3,as'',_,_,.inr ⟨_,rfl⟩,s1,⟨?_,?_⟩,?_,rfl⟩
   .rcases hx5 with rfl|⟨d,rfl⟩<;>simp[FE,free,J.own]
   .rw[NR]; lia
   .rw[app_list]
    intro x hx;rcases List.mem_append.mp hx with hx|hx
    .exact hz.2 x hx
    .simp only[List.mem_singleton] at hx; subst hx; exact s2
   .rw[NR,hzl])
 rw[Jt] at f2;obtain⟨as',z,x5,_,hb',hz,hzl,rfl⟩:=f2;refine⟨z,as',_,_,hz,by lia,hb'.mono (by lia),B9 (Z:=[some (.own,.lst as'),some (.own,.fz h.d),some (.own,.fz (.int most)),some (.own,.fz (.int size)),some (.own,.fz (.str z)),x5]) rfl ?_⟩;show EO [some (.own,.lst as),some (.own,.fz h.d),some (.own,.fz (.int most)),none,none,none]=_;unfold EO;rw[AL st1,AL st2,AL (Z1:=[some (.own,.lst as3),some (.own,.fz h.d),some (.own,.fz (.int most)),some (.own,.fz (.int size)),some (.own,.fz (.str (Str.ofString ""))),none]) (by rfl),AL f1];exact FY rfl
theorem Oy{n j:Nat}{d:D}(h:(D7 0 n)[j]? = some d):d=.int j/\j<n:=by
 obtain⟨h1,h2⟩:=HD h;rw[Int.zero_add] at h1;exact⟨h1,h2⟩
theorem Nt(ns:List Int)(k:Nat):∃c a2,BU [(.ro,.scr ns),(.own,.fz (.int k))]=some (.fz (.int c),[.scr ns,a2]):=by
 by_cases h:k<ns.length
 .obtain⟨c,e2⟩:∃c,atI (ns.map D.int) (k:Int)=some (.int c):=⟨ns[k],by
   have e2:=BS (xs:=ns.map D.int) (i:=(k:Int)) (k:=k) rfl (by simpa using h);simpa using e2⟩
  refine⟨c,_,B9 (Z:=[some (.ro,.scr ns),some (.own,.fz (.int k))]) rfl ?_⟩;show B3 [some (.ro,.scr ns),some (.own,.fz (.int k))]=_;unfold B3;have e1:decide ((k:Int)<(ns.length:Int))=true:=by simpa using h
  clear h;walk_at "eo"
 .refine⟨0,_,B9 (Z:=[some (.ro,.scr ns),some (.own,.fz (.int k))]) rfl ?_⟩
  show B3 [some (.ro,.scr ns),some (.own,.fz (.int k))]=_;unfold B3;have e1:decide ((k:Int)<(ns.length:Int))=false:=by simpa using h
  clear h;walk_at "eo"
theorem Lq{h:Hs}(ok:h.Ok){p:Nat×List Int}(hp:p∈h.ls):h.hands p.1=p.2:=by
 obtain⟨j,hj,e1,_,e3⟩:=Ip ok (List.mem_map.mpr ⟨p,hp,rfl⟩);obtain⟨k,hk,rfl⟩:=List.mem_iff_getElem.mp hp;have:j=k:=by
  rcases Nat.lt_trichotomy j k with q|q|q
  .have:=List.pairwise_iff_getElem.mp ok.ri j k (by simpa using hj) (by simpa using hk) q
   simp at this;lia
  .exact q
  .have:=List.pairwise_iff_getElem.mp ok.ri k j (by simpa using hk) (by simpa using hj) q
   simp at this;lia
 subst this;exact e3
theorem DY{ms:MA}{Z Z1:Ro}{rs:List R}{as:List A}(h1:ms Z=some (rs,Z1))(h2:vals rs=some as)(h3:decide (as.length<=LIM)=true):lstM ms Z=some (.val (.lst as),Z1):=by
 simp only[lstM,h1,h2,Option.bind_some,if_pos (of_decide_eq_true h3)]
theorem Qd(h:Hs)(c:Nat):(!(Builtin.Str.occurrences h.text ⟨#[c]⟩ 0 h.text.length 1).isEmpty)=decide (c∈h.ls.map (·.1)):=by
 rw[StrLaws.found_one];exact decide_eq_decide.mpr Iff.rfl
theorem UI{a b:ME}{Z Z1:Ro}{r:Option (R×Ro)}(h1:a Z=some (.val (.fz (.bl true)),Z1))(h2:b Z1=r):J.andM a b Z=r:=by
 rw[<- h2];simp only[J.andM,K5 h1,Option.bind_some,if_true]
theorem VE(h:Hs)(c:Nat):inA false [.fz (.str ⟨#[c]⟩),.fz (.str h.text)]=some (.fz (.bl (decide (c∈h.ls.map (·.1))))):=by
 rw[<- Qd h c];simp only[inA,on2,Ck,Fx,fzU,Option.bind_some,Option.map_some];rfl
theorem Mg(s1 s2:Own)(h:Hs)(ok:h.Ok)(c:Nat):CB [(s1,.fz h.d),(s2,.fz (.str ⟨#[c]⟩))]=some (.fz (.bl (decide (c∈h.ls.map (·.1)))),[.fz h.d,.fz (.str ⟨#[c]⟩)]):=by
 have e2:=Hh .own h ok;refine B9 (Z:=[some (s1,.fz h.d),some (s2,.fz (.str ⟨#[c]⟩))]) rfl ?_;show Ew [some (s1,.fz h.d),some (s2,.fz (.str ⟨#[c]⟩))]=_;unfold Ew;have v1:Am Bq (Ac (Aa 0) Aj) [some (s1,.fz h.d),some (s2,.fz (.str ⟨#[c]⟩))]=some (.val (.fz (.str h.text)),[some (s1,.fz h.d),some (s2,.fz (.str ⟨#[c]⟩))]):=call_of rfl rfl rfl e2 rfl;exact FY (UI rfl (UI rfl (Eg (FQ (r1:=.val (.fz (.str ⟨#[c]⟩))) rfl v1) rfl (VE h c))))
theorem Gn(s1 s2:Own)(h:Hs)(ok:h.Ok)(c:Nat)(hc:c∈h.ls.map (·.1)):Bt [(s1,.fz h.d),(s2,.fz (.str ⟨#[c]⟩))]=some (.fz .non,[.fz h.d,.fz (.str ⟨#[c]⟩)]):=by
 have e:=Mg .own .own h ok c;rw[decide_eq_true hc] at e;have c1:(AM (Am CB (Ac (Aa 0) (Ac (Aa 1) Aj)))) [some (s1,.fz h.d),some (s2,.fz (.str ⟨#[c]⟩))]=some (true,[some (s1,.fz h.d),some (s2,.fz (.str ⟨#[c]⟩))]):=K5 (call_of rfl rfl rfl e rfl);refine SH (Z:=[some (s1,.fz h.d),some (s2,.fz (.str ⟨#[c]⟩))]) rfl ?_;show Dk [some (s1,.fz h.d),some (s2,.fz (.str ⟨#[c]⟩))]=_;unfold Dk;exact(VC (not_of c1)).trans rfl
theorem L0:∀(ls:List (Nat×List Int)),GD (ls.map ld)=some (ls.map fun p=>((Sum.inr (⟨#[p.1]⟩:Str):Key),D.lst (iL p.2)))
 | []=>rfl
 | p::ls=>by
  have ih:=L0 ls;simp only[List.map_cons,ld,chD,GD,Iz,Option.bind_some];rw[ih];rfl
theorem XB{h:Hs}{c:Nat}(hc:c∈h.ls.map (·.1)):Pq (h.ls.map fun p=>((Sum.inr (⟨#[p.1]⟩:Str):Key),D.lst (iL p.2))) (Sum.inr (⟨#[c]⟩:Str))=some (.lst (iL (h.hands c))):=by
 unfold Pq Hs.hands;rw[List.find?_map];have e1:((fun(kv:Key×D)=>decide (kv.1=Sum.inr (⟨#[c]⟩:Str))) ∘ fun(p:Nat×List Int)=>((Sum.inr (⟨#[p.1]⟩:Str):Key),D.lst (iL p.2)))=fun p=>p.1==c:=by
  funext p;rw[Bool.eq_iff_iff];simp
 rw[e1];cases hf:h.ls.find? (fun p=>p.1==c) with
 | none =>
  obtain⟨p,hp,rfl⟩:=List.mem_map.mp hc;have:=List.find?_eq_none.mp hf p hp;simp at this
 | some p=>rfl
theorem keys_nodup{h:Hs}(ok:h.Ok):((h.ls.map fun p=>((Sum.inr (⟨#[p.1]⟩:Str):Key),D.lst (iL p.2))).map (·.1)).Nodup:=by
 rw[List.map_map];have:=ok.ri;rw[List.pairwise_map] at this;unfold List.Nodup;rw[List.pairwise_map];refine this.imp fun {a b} hab e=>?_;simp at e;lia
theorem Str.list_len(z:Str):z.cps.toList.length=z.length:=by simp; rfl
theorem P5(z:Str)(j:Nat):z.cps.getD j 0=z.cps.toList.getD j 0:=by rw[Array.getD_eq_getD_getElem?]; simp[List.getD]
theorem Th{z:Str}{j:Nat}{d:D}(h:(HN z)[j]? = some d):d=.tup [.int j,.str ⟨#[z.cps.getD j 0]⟩]/\j<z.length:=by
 have hj:j<z.cps.size:=by have:=Aq h; simpa[HN] using this
 simp only[HN,List.getElem?_map,List.getElem?_range hj,Option.map_some,Option.some.injEq] at h;exact⟨h.symm,hj⟩
noncomputable abbrev oF(d:D):Slot:=some (.own,.fz d)
local macro_rules | `(tactic| walk_at "wp1")=>`(tactic| first
 | (with_reducible refine Ba ?_)|(with_reducible refine Au ?_)|(with_reducible refine Fb ?_)|(with_reducible refine Cd ?_)|(with_reducible refine Fo ?_)|(with_reducible refine Fj ?_)|(with_reducible refine Hi ?_)|(with_reducible refine C0 ?_)|(with_reducible refine Fq ?_)|(with_reducible refine Fm ?_)|(with_reducible refine Fi ?_)|(with_reducible refine Dx ?_)|(with_reducible refine Cv ?_)
 | (with_reducible refine GX ?_)|(with_reducible refine Dw ?_)|(with_reducible refine Ct ?_)|(with_reducible refine EX ?_)|(with_reducible refine ET ?_)|(with_reducible refine GY ?_)|(with_reducible refine EY ?_)|(with_reducible refine EW ?_)|(with_reducible refine Ex ?_)|(with_reducible refine EZ ?_)
 | (with_reducible refine Kh ?_)|(with_reducible refine Jv ?_)|(with_reducible refine Cp ?_)|(with_reducible refine DJ ?_)
 | (with_reducible refine Dr ?_)|(with_reducible refine Fu ?_)|(with_reducible refine Ft ?_)|(with_reducible refine Hj ?_)|(with_reducible refine Fs ?_)
 | (with_reducible refine Cq ?_)|(with_reducible refine DA ?_)|(with_reducible refine E5 ?_)|(with_reducible refine DC ?_)
 | ((with_reducible apply Cu); · rfl)
 | ((with_reducible refine Exists.intro _ (And.intro (BG ?_) ?_)); · rfl)
 | ((with_reducible apply ex1); · rfl)|((with_reducible apply ex2); · rfl)|((with_reducible apply ex3); · rfl)|((with_reducible apply ex0); · rfl)|((with_reducible refine And.intro ?_ ?_); · rfl)|((with_reducible refine G3 ?_ ?_); · rfl)|((with_reducible refine Gk ?_ ?_); · rfl))
local macro_rules | `(tactic| walk_at "wp")=>`(tactic| repeat walk_at "wp1")
open Nw
noncomputable def nmD:Nm->D
 | none=>.non
 | some p=>.tup [chD p.1,.int p.2]
theorem QO{x y:Nm}(h:nmD x=nmD y):x=y:=by
 cases x with
 | none=>cases y with
  | none=>rfl
  | some q=>cases h
 | some p=>cases y with
  | none=>cases h
  | some q =>
   obtain⟨a,b⟩:=p;obtain⟨c,d⟩:=q;simp only[nmD,chD,D.tup.injEq,List.cons.injEq,D.str.injEq,Str.mk.injEq,D.int.injEq,and_true] at h;obtain⟨h1,h2⟩:=h;have:[a]=[c]:=congrArg Array.toList h1;cases this;have:b=d:=by lia
   rw[this]
theorem UY(x y:Nm):eqD (nmD x) (nmD y)=decide (x=y):=by
 cases x with
 | none=>cases y<;>rfl
 | some p=>cases y with
  | none=>rfl
  | some q =>
   obtain⟨a,b⟩:=p;obtain⟨c,d⟩:=q;have e:eqD (nmD (some (a,b))) (nmD (some (c,d)))=(((⟨#[a]⟩:Str)==⟨#[c]⟩)&&(((b:Int)==(d:Int))&&true)):=rfl;rw[e,Bool.eq_iff_iff];simp only[Bool.and_true,Bool.and_eq_true,beq_iff_eq,Str.mk.injEq,decide_eq_true_eq,Option.some.injEq,Prod.mk.injEq];refine⟨fun h=>⟨?_,by lia⟩,fun h=>⟨by rw[h.1],by lia⟩⟩;have:[a]=[c]:=congrArg Array.toList h.1;cases this; rfl
theorem U0(k:Nat)(x:Nm):shB (k+1) (nmD x)=true:=by
 cases x<;>rfl
@[irreducible] def rgD(n:Nat)(g:Nat->D):D:=.tup ((List.range n).map g)
noncomputable def nwD(n:Nat)(f:N3):D:=rgD n fun i=>rgD n fun j=>rgD n fun k=>nmD (f i j k)
theorem Me(n:Nat)(g:Nat->D):rgD n g=.tup ((List.range n).map g):=by unfold rgD; rfl
theorem ixT{T:List D}{i:Int}{d:D}(h:atI T i=some d):ixA [.fz (.tup T),.fz (.int i)]=some (.fz d):=by
 simp only[on2,ixA,BB,fzU,FN,AH,Ck,Fx,h,Option.bind_some,Option.map_some,Option.none_or,Option.bind_none]
theorem Ik{n:Nat}{g:Nat->D}{i:Nat}(h:i<n):atI ((List.range n).map g) (i:Int)=some (g i):=by
 rw[BS rfl (by simpa using h)]; simp
theorem Lz{n:Nat}{g:Nat->D}{i:Nat}(h:i<n):ixA [.fz (rgD n g),.fz (.int (i:Int))]=some (.fz (g i)):=by
 rw[Me]; exact ixT (Ik h)
theorem Qj{n:Nat}{f:N3}{i:Nat}(h:i<n):ixA [.fz (nwD n f),.fz (.int (i:Int))]=some (.fz (rgD n fun j=>rgD n fun k=>nmD (f i j k))):=Lz h
theorem QB{n:Nat}{f:N3}:CQ [.fz (nwD n f)]=some (.fz (.int n)):=by
 unfold nwD;rw[Me];simp[CQ,on1,AH,Ck,Fx,fzU]
theorem QN(x y:Nm):eqA [.fz (nmD x),.fz (nmD y)]=some (.fz (.bl (decide (x=y)))):=by
 simp only[eqA,on2,J.er,Option.bind_some,U0 15 x,if_true,UY]
theorem QP(x:Nm):DV (.fz (nmD x))=decide (x=none):=by
 cases x<;>rfl
theorem VD(x:Nm)(l:List Nat)(p:Nat->Nm):inD (nmD x) (l.map fun k=>nmD (p k))=decide (x∈l.map p):=by
 induction l with
 | nil=>rfl
 | cons y l ih =>
  have e:inD (nmD x) ((y::l).map fun k=>nmD (p k))=(eqD (nmD (p y)) (nmD x) || inD (nmD x) (l.map fun k=>nmD (p k))):=rfl;rw[e,ih,UY,Bool.eq_iff_iff];simp only[Bool.or_eq_true,decide_eq_true_eq,List.map_cons,List.mem_cons];exact⟨fun h=>h.imp Eq.symm id,fun h=>h.imp Eq.symm id⟩
theorem V2(x:Nm)(n:Nat)(p:Nat->Nm):QC false [.fz (nmD x),.lst (((List.range n).map fun k=>nmD (p k)).map A.fz)]=some (.fz (.bl (decide (x∈(List.range n).map p)))):=by
 have hs:((List.range n).map fun k=>nmD (p k)).all (shB 8)=true:=by
  rw[List.all_eq_true];intro d hd;obtain⟨k,_,rfl⟩:=List.mem_map.mp hd;exact U0 7 _
 simp only[QC,on2,J.er,CS,BV,Option.bind_some,hs,if_true,Bool.false_eq_true,if_false,VD]
theorem F6{n:Nat}{f:N3}{i:Nat}(h:i<n):FV AO [(.own,.fz (nwD n f)),(.own,.fz (.int (i:Int)))] fun a _=>a=.fz (nmD (fi f i)):=by
 refine C5 rfl rfl ?_;show SV DP [some (.own,.fz (nwD n f)),some (.own,.fz (.int (i:Int)))] _;unfold DP;walk_at "wp";refine⟨_,Qj h,?_⟩;walk_at "wp";refine⟨_,Lz h,?_⟩;walk_at "wp";refine⟨_,Lz h,?_⟩;walk_at "wp";rfl
theorem Mh{n:Nat}{f:N3}{i:Nat}(h:i<n):FV Bu [(.own,.fz (nwD n f)),(.own,.fz (.int (i:Int)))] fun a _=>a=.fz (rgD n fun k=>nmD (f i i k)):=by
 refine C5 rfl rfl ?_;show SV Dm [some (.own,.fz (nwD n f)),some (.own,.fz (.int (i:Int)))] _;unfold Dm;walk_at "wp";refine⟨_,Qj h,?_⟩;walk_at "wp";refine⟨_,Lz h,?_⟩;walk_at "wp";rfl
theorem Vl(n:Nat)(p:Nat->Bool):OB [.lst (((List.range n).map fun k=>D.bl (p k)).map A.fz)]=some (.fz (.bl ((List.range n).any p))):=by
 have e:Df ((List.range n).map fun k=>D.bl (p k))=some ((List.range n).map p):=F1 _ p;simp only[OB,on1,CS,BV,Option.bind_some,e,Option.map_some];congr 3;simp[List.any_map]
theorem Ua{n:Nat}(hn:n<=4){other one:N3}{hand:Nat}(hh:hand<n):FV CA [(.own,.fz (nwD n other)),(.own,.fz (nwD n one)),(.own,.fz (.int (hand:Int)))] fun a _=>a=.fz (.bl (knw n other one hand)):=by
 refine C5 rfl rfl ?_;show SV Dj [some (.own,.fz (nwD n other)),some (.own,.fz (nwD n one)),some (.own,.fz (.int (hand:Int))),none,none] _;unfold Dj;walk_at "wp";refine AX (F6 hh) fun a _ e=>?_;subst e;walk_at "wp";refine EU n (fun k=>nmD (fi other k)) ?_;walk_at "wp";refine⟨_,QB,rfl,by lia,fun k hk=>?_,?_⟩
 .walk_at "wp"
  refine AX (F6 hk) fun a _ e=>?_;subst e;exact⟨_,rfl,rfl,rfl⟩
 walk_at "wp";show EV _ [some (.own,.fz (nwD n other)),some (.own,.fz (nwD n one)),some (.own,.fz (.int (hand:Int))),some (.own,.fz (nmD (fi one hand))),some (.own,.lst (((List.range n).map fun k=>nmD (fi other k)).map A.fz))] _;refine EU n (fun v=>D.bl (decide (fi one v∈(List.range n).map (fi other))&&decide (one v v hand=fi one hand))) ?_;walk_at "wp";refine⟨_,QB,rfl,by lia,fun k hk=>?_,?_⟩
 .walk_at "wp"
  refine AX (F6 hk) fun a _ e=>?_;subst e;walk_at "wp";refine⟨_,V2 _ _ _,?_⟩;walk_at "wp";refine EF (fun e=>?_) fun e=>?_
  .walk_at "wp"
   refine AX (Mh hk) fun a _ e=>?_;subst e;walk_at "wp";refine⟨_,Lz hh,?_⟩;walk_at "wp";refine⟨_,QN _ _,?_⟩;exact⟨_,rfl,rfl,by rw[e,Bool.true_and]⟩
  .exact⟨_,rfl,rfl,by rw[e,Bool.false_and]⟩
 walk_at "wp";refine⟨_,Vl n _,?_⟩;walk_at "wp";rfl
theorem Nu{n:Nat}(hn:n<=4){one other:N3}{hand:Nat}(hh:hand<n):FV Ec [(.own,.fz (nwD n one)),(.own,.fz (nwD n other)),(.own,.fz (.int (hand:Int)))] fun a _=>a=.fz (.int (cmp n one other hand)):=by
 refine C5 rfl rfl ?_;show SV ER [some (.own,.fz (nwD n one)),some (.own,.fz (nwD n other)),some (.own,.fz (.int (hand:Int))),none] _;unfold ER;walk_at "wp";refine AX (F6 hh) fun a _ e=>?_;subst e;walk_at "wp";refine AX (F6 hh) fun a _ e=>?_;subst e;walk_at "wp";refine⟨_,QN _ _,?_⟩;walk_at "wp";refine EF (fun e=>?_) fun e=>?_
 .walk_at "wp"
  have e:=of_decide_eq_true e;show _=_;rw[cmp,if_pos e]
 have e:=of_decide_eq_false e;walk_at "wp";refine EF (fun e2=>?_) fun e2=>?_
 .walk_at "wp"
  rw[QP] at e2;have e2:=of_decide_eq_true e2;show _=_;rw[cmp,if_neg e,if_pos (.inl e2)]
 rw[QP] at e2;have e2:=of_decide_eq_false e2;walk_at "wp";refine AX (Ua hn hh) fun a _ e=>?_;subst e;walk_at "wp";refine EF (fun e3=>?_) fun e3=>?_
 .walk_at "wp"
  show _=_;rw[cmp,if_neg e,if_pos (.inr e3)]
 .walk_at "wp"
  show _=_;rw[cmp,if_neg e,if_neg (fun z=>z.elim e2 fun z=>by rw[e3] at z; cases z)]
local macro_rules | `(tactic| walk_at "wp1")=>`(tactic| first
 | (with_reducible refine Ba ?_)|(with_reducible refine Au ?_)|(with_reducible refine Fb ?_)|(with_reducible refine Cd ?_)|(with_reducible refine Fo ?_)|(with_reducible refine Fj ?_)|(with_reducible refine Hi ?_)|(with_reducible refine C0 ?_)|(with_reducible refine Fq ?_)|(with_reducible refine Fm ?_)|(with_reducible refine Fi ?_)|(with_reducible refine Dx ?_)|(with_reducible refine Cv ?_)
 | (with_reducible refine GX ?_)|(with_reducible refine Dw ?_)|(with_reducible refine Ct ?_)|(with_reducible refine EX ?_)|(with_reducible refine ET ?_)|(with_reducible refine GY ?_)|(with_reducible refine EY ?_)|(with_reducible refine EW ?_)|(with_reducible refine Ex ?_)|(with_reducible refine EZ ?_)
 | (with_reducible refine Kh ?_)|(with_reducible refine Jv ?_)|(with_reducible refine Cp ?_)|(with_reducible refine DJ ?_)
 | (with_reducible refine Dr ?_)|(with_reducible refine Fu ?_)|(with_reducible refine Ft ?_)|(with_reducible refine Hj ?_)|(with_reducible refine Fs ?_)
 | (with_reducible refine Cq ?_)|(with_reducible refine DA ?_)|(with_reducible refine E5 ?_)|(with_reducible refine DC ?_)
 | ((with_reducible apply Cu); · rfl)
 | ((with_reducible refine Exists.intro _ (And.intro (BG ?_) ?_)); · rfl)
 | ((with_reducible apply ex1); · rfl)|((with_reducible apply ex2); · rfl)|((with_reducible apply ex3); · rfl)|((with_reducible apply ex0); · rfl)|((with_reducible refine And.intro ?_ ?_); · rfl)|((with_reducible refine G3 ?_ ?_); · rfl)|((with_reducible refine Gk ?_ ?_); · rfl))
local macro_rules | `(tactic| walk_at "wp")=>`(tactic| repeat walk_at "wp1")
open Nw
noncomputable abbrev nL(n:Nat)(fs:List N3):D:=.lst (fs.map (nwD n))
theorem O0{n hand:Nat}{a f:N3}{fs:List N3}{j:Nat}(h:fs[j]? = some f):C9 n hand a (fs.take (j+1))=if 0<cmp n f (C9 n hand a (fs.take j)) hand then f else C9 n hand a (fs.take j):=by
 unfold C9;rw[List.take_succ,h,List.foldl_append];rfl
theorem RN{n:Nat}(hn:n<=4){f0:N3}{fs:List N3}{hand:Nat}(hh:hand<n):FV B5 [(.own,.fz (nL n (f0::fs))),(.own,.fz (.int (hand:Int)))] fun a _=>a=.fz (nwD n (C9 n hand f0 (f0::fs))):=by
 refine C5 rfl rfl ?_;show SV CO [some (.own,.fz (nL n (f0::fs))),some (.own,.fz (.int (hand:Int))),none,none] _;unfold CO;walk_at "wp";refine⟨_,ixF (at0 _ _),?_⟩;walk_at "wp";show SV _ [some (.own,.fz (nL n (f0::fs))),some (.own,.fz (.int (hand:Int))),some (.own,.fz (nwD n f0)),none] _;refine CJ (DX ?_);walk_at "wp";refine⟨fun j Z=>∃x3,Fr x3/\Z=[some (.own,.fz (nL n (f0::fs))),some (.own,.fz (.int (hand:Int))),some (.own,.fz (nwD n (C9 n hand f0 ((f0::fs).take j)))),x3],⟨none,rfl,rfl⟩,fun j d Z hd hI=>?_,fun Z hI=>?_⟩
 .obtain⟨x3,h3,rfl⟩:=hI
  rw[List.getElem?_map,map_eq_some_iff] at hd;obtain⟨f,hd,rfl⟩:=hd;refine⟨_,DK h3,?_⟩;have ee:=O0 (n:=n) (hand:=hand) (a:=f0) hd;walk_at "wp";refine AX (Nu hn hh) fun a _ e=>?_;subst e;walk_at "wp";refine EF (fun e=>?_) fun e=>?_
  .rw[if_pos (of_decide_eq_true e)] at ee
   walk_at "wp";exact Bk ⟨_,rfl,by rw[ee]; rfl⟩
  .rw[if_neg (of_decide_eq_false e)] at ee
   walk_at "wp";exact Bk ⟨_,rfl,by rw[ee]; rfl⟩
 .obtain⟨x3,h3,rfl⟩:=hI
  rw[List.length_map,List.take_length];walk_at "wp";rfl
noncomputable abbrev Kv:=List (D×D)
noncomputable def adN(g:Kv)(ds:List D):Kv:=ds.foldl (fun g d=>Hg g d (.bl true)) g
theorem UD(g:Kv)(k v e:D):(HG (Hg g k v) e).isSome=(decide (e=k) || (HG g e).isSome):=by
 have isS:∀(g:Kv) (e:D),(HG g e).isSome=g.any fun kv=>decide (kv.1=e):=fun g e=>by
  rw[Bool.eq_iff_iff];simp[HG,List.find?_isSome]
 rw[isS,isS];unfold Hg;split
 .rename_i h
  have:((g.map fun kv=>if kv.1=k then (kv.1,v) else kv).any fun kv=>decide (kv.1=e))=g.any fun kv=>decide (kv.1=e):=by
   rw[List.any_map];congr 1;funext kv;simp only[Function.comp];split<;>rfl
  rw[this];by_cases he:e=k
  .subst he; rw[h]; simp
  .simp[he]
 .rw[List.any_append]
  by_cases he:e=k
  .simp[he]
  .have:¬k=e:=fun z=>he z.symm
   simp[he,this]
theorem Ta(g:Kv)(k v:D):(Hg g k v).length<=g.length+1:=by
 unfold Hg;split
 .rw[List.length_map]; lia
 .rw[List.length_append,List.length_singleton]; exact Nat.le_refl _
theorem XA(ds:List D)(e:D):∀g:Kv,(HG (adN g ds) e).isSome=(decide (e∈ds) || (HG g e).isSome):=by
 induction ds with
 | nil=>intro g; simp[adN]
 | cons d ds ih =>
  intro g;show(HG (adN (Hg g d (.bl true)) ds) e).isSome=_;rw[ih,UD];by_cases h1:e=d<;>by_cases h2:e∈ds<;>simp[h1,h2]
theorem KD(ds:List D):∀g:Kv,(adN g ds).length<=g.length+ds.length:=by
 induction ds with
 | nil=>intro g; exact Nat.le_refl _
 | cons d ds ih =>
  intro g;have h1:=ih (Hg g d (.bl true));have h2:=Ta g d (.bl true);show(adN (Hg g d (.bl true)) ds).length<=_;rw[List.length_cons]; lia
theorem EN(g:Kv)(a b:List D):adN g (a++b)=adN (adN g a) b:=List.foldl_append
theorem UZ(x:Nm):gk (nmD x)=true:=by
 cases x<;>rfl
theorem Qi{n:Nat}{g:Nat->D}:AH (.fz (rgD n g))=some ((List.range n).map g):=by rw[Me]; rfl
noncomputable def E9(n:Nat)(f:N3)(i j:Nat):List D:=(List.range n).map fun k=>nmD (f i j k)
noncomputable def LN(n:Nat)(f:N3)(i:Nat):List D:=(List.range n).flatMap fun j=>E9 n f i j
noncomputable def LO(n:Nat)(f:N3):List D:=(List.range n).flatMap fun i=>LN n f i
theorem Ks{α β:Type}{l:List α}{j:Nat}{x:α}(g:α -> List β)(h:l[j]? = some x):(l.take (j+1)).flatMap g=(l.take j).flatMap g++g x:=by
 rw[List.take_succ,h]; simp
theorem QU(n:Nat)(fs:List N3):fs.flatMap (LO n)=(used n fs).map nmD:=by
 simp only[used,List.map_flatMap,List.map_map,Function.comp_def];rfl
theorem QQ(n:Nat)(f:N3)(i:Nat):(LN n f i).length=n*n:=by
 have:∀l:List Nat,(l.flatMap fun j=>E9 n f i j).length=l.length*n:=fun l=>by
  induction l with
  | nil=>simp
  | cons x l ih=>rw[List.flatMap_cons,List.length_append,ih,List.length_cons,Nat.add_mul,Nat.one_mul,Nat.add_comm]; simp[E9]
 rw[LN,this,List.length_range]
local macro_rules | `(tactic| walk_at "wp1")=>`(tactic| first
 | (with_reducible refine Ba ?_)|(with_reducible refine Au ?_)|(with_reducible refine Fb ?_)|(with_reducible refine Cd ?_)|(with_reducible refine Fo ?_)|(with_reducible refine Fj ?_)|(with_reducible refine Hi ?_)|(with_reducible refine C0 ?_)|(with_reducible refine Fq ?_)|(with_reducible refine Fm ?_)|(with_reducible refine Fi ?_)|(with_reducible refine Dx ?_)|(with_reducible refine Cv ?_)
 | (with_reducible refine GX ?_)|(with_reducible refine Dw ?_)|(with_reducible refine Ct ?_)|(with_reducible refine EX ?_)|(with_reducible refine ET ?_)|(with_reducible refine GY ?_)|(with_reducible refine EY ?_)|(with_reducible refine EW ?_)|(with_reducible refine Ex ?_)|(with_reducible refine EZ ?_)
 | (with_reducible refine Kh ?_)|(with_reducible refine Jv ?_)|(with_reducible refine Cp ?_)|(with_reducible refine DJ ?_)
 | (with_reducible refine Dr ?_)|(with_reducible refine Fu ?_)|(with_reducible refine Ft ?_)|(with_reducible refine Hj ?_)|(with_reducible refine Fs ?_)
 | (with_reducible refine Cq ?_)|(with_reducible refine DA ?_)|(with_reducible refine E5 ?_)|(with_reducible refine DC ?_)
 | ((with_reducible apply Cu); · rfl)
 | ((with_reducible refine Exists.intro _ (And.intro (BG ?_) ?_)); · rfl)
 | ((with_reducible apply ex1); · rfl)|((with_reducible apply ex2); · rfl)|((with_reducible apply ex3); · rfl)|((with_reducible apply ex0); · rfl)|((with_reducible refine And.intro ?_ ?_); · rfl)|((with_reducible refine G3 ?_ ?_); · rfl)|((with_reducible refine Gk ?_ ?_); · rfl))
local macro_rules | `(tactic| walk_at "wp")=>`(tactic| repeat walk_at "wp1")
open Nw
noncomputable abbrev eU(c:D)(nw:D)(g:Kv)(x3 x4 x5 x6 x7:Slot):Ro:=[some (.own,.fz c),some (.own,.fz nw),some (.own,.dct g),x3,x4,x5,x6,x7]
section
variable{n:Nat}{c nw:D}{g:Kv}{f:N3}{x3 x4 x5 x6 x7:Slot}{QS:Fl->Prop}
noncomputable abbrev lp6:MS:=Ca [6] true (BW (Aa 5)) (G2 2 (Aa 6) (Ah (.bl true)))
noncomputable abbrev lp5:MS:=Ca [5] true (BW (Aa 4)) (Ca [6] true (BW (Aa 5)) (G2 2 (Aa 6) (Ah (.bl true))))
noncomputable abbrev lp4:MS:=Ca [4] true (BW (Aa 3)) (Ca [5] true (BW (Aa 4)) (Ca [6] true (BW (Aa 5)) (G2 2 (Aa 6) (Ah (.bl true)))))
theorem Yx{i j:Nat}(hg:g.length+n<=1000)(h6:Fr x6)(q:∀y6,Fr y6->QS (.next (eU c nw (adN g (E9 n f i j)) x3 x4 (oF (rgD n fun k=>nmD (f i j k))) y6 x7))):SV lp6 (eU c nw g x3 x4 (oF (rgD n fun k=>nmD (f i j k))) x6 x7) QS:=by
 have hL:100000<=LIM:=by decide
 refine CJ (DX ?_);walk_at "wp";refine⟨_,Qi,fun t Z=>∃y6,Fr y6/\Z=eU c nw (adN g ((E9 n f i j).take t)) x3 x4 (oF (rgD n fun k=>nmD (f i j k))) y6 x7,⟨x6,h6,rfl⟩,fun t d Z hd hI=>?_,fun Z hI=>?_⟩
 .obtain⟨y6,g6,rfl⟩:=hI
  have hd:(E9 n f i j)[t]? = some d:=hd;have e:adN g ((E9 n f i j).take (t+1))=Hg (adN g ((E9 n f i j).take t)) d (.bl true):=by rw[List.take_succ,hd,EN]; rfl
  have hl:=KD ((E9 n f i j).take t) g;have hl2:((E9 n f i j).take t).length<=n:=by simp[E9]; lia
  have hk:gk d=true:=by
   have hm:=List.mem_of_getElem? hd;simp only[E9,List.mem_map] at hm;obtain⟨k,_,rfl⟩:=hm;exact UZ _
  refine⟨_,DK g6,Um ?_⟩;walk_at "wp";refine⟨⟨_,rfl⟩,?_⟩;walk_at "wp";refine⟨hk,by lia,?_⟩;refine Bk ⟨oF d,rfl,?_⟩;rw[e]; rfl
 .obtain⟨y6,g6,rfl⟩:=hI
  have e:((List.range n).map fun k=>nmD (f i j k)).length=(E9 n f i j).length:=rfl;rw[e,List.take_length];exact q y6 g6
theorem Yw{i:Nat}(hn:n<=4)(hg:g.length+n*n<=1000)(h5:Fr x5)(h6:Fr x6)(q:∀y5 y6,Fr y5->Fr y6->QS (.next (eU c nw (adN g (LN n f i)) x3 (oF (rgD n fun j=>rgD n fun k=>nmD (f i j k))) y5 y6 x7))):SV lp5 (eU c nw g x3 (oF (rgD n fun j=>rgD n fun k=>nmD (f i j k))) x5 x6 x7) QS:=by
 refine CJ (DX ?_);walk_at "wp";refine⟨_,Qi,fun t Z=>∃y5 y6,Fr y5/\Fr y6/\Z=eU c nw (adN g (((List.range n).take t).flatMap fun j=>E9 n f i j)) x3 (oF (rgD n fun j=>rgD n fun k=>nmD (f i j k))) y5 y6 x7,⟨x5,x6,h5,h6,rfl⟩,fun t d Z hd hI=>?_,fun Z hI=>?_⟩
 .obtain⟨y5,y6,g5,g6,rfl⟩:=hI
  rw[List.getElem?_map,map_eq_some_iff] at hd;obtain⟨j,hd,rfl⟩:=hd;have ht:t<n:=by have:=(List.getElem?_eq_some_iff.mp hd).1; simpa using this
  have e:=Ks (fun j=>E9 n f i j) hd;have hl:=KD (((List.range n).take t).flatMap fun j=>E9 n f i j) g;have hl2:(((List.range n).take t).flatMap fun j=>E9 n f i j).length<=t*n:=by
   have:∀l:List Nat,(l.flatMap fun j=>E9 n f i j).length=l.length*n:=fun l=>by
    induction l with
    | nil=>simp
    | cons x l ih=>rw[List.flatMap_cons,List.length_append,ih,List.length_cons,Nat.add_mul,Nat.one_mul,Nat.add_comm]; simp[E9]
   rw[this];exact Nat.mul_le_mul_right _ (by simp; lia)
  have hl3:(t+1)*n<=n*n:=Nat.mul_le_mul_right _ ht;rw[Nat.add_mul,Nat.one_mul] at hl3;refine⟨_,DK g5,?_⟩;refine Yx (i:=i) (j:=j) (by lia) g6 fun z6 f6=>?_;refine Bk ⟨oF (rgD n fun k=>nmD (f i j k)),z6,rfl,f6,?_⟩;rw[e,EN]
 .obtain⟨y5,y6,g5,g6,rfl⟩:=hI
  have e:((List.range n).map fun j=>rgD n fun k=>nmD (f i j k)).length=(List.range n).length:=by rw[List.length_map]
  rw[e,List.take_length];exact q y5 y6 g5 g6
theorem J0(l:List Nat):(l.flatMap fun i=>LN n f i).length=l.length*(n*n):=by
 induction l with
 | nil=>simp
 | cons x l ih=>rw[List.flatMap_cons,List.length_append,ih,List.length_cons,Nat.add_mul,Nat.one_mul,Nat.add_comm,QQ]
theorem QR:(LO n f).length=n*(n*n):=by rw[LO,J0,List.length_range]
theorem Yv(hn:n<=4)(hg:g.length+n*(n*n)<=1000)(h4:Fr x4)(h5:Fr x5)(h6:Fr x6)(q:∀y4 y5 y6,Fr y4->Fr y5->Fr y6->QS (.next (eU c nw (adN g (LO n f)) (oF (nwD n f)) y4 y5 y6 x7))):SV lp4 (eU c nw g (oF (nwD n f)) x4 x5 x6 x7) QS:=by
 refine CJ (DX ?_);walk_at "wp";refine⟨_,Qi,fun t Z=>∃y4 y5 y6,Fr y4/\Fr y5/\Fr y6/\Z=eU c nw (adN g (((List.range n).take t).flatMap fun i=>LN n f i)) (oF (nwD n f)) y4 y5 y6 x7,⟨x4,x5,x6,h4,h5,h6,rfl⟩,fun t d Z hd hI=>?_,fun Z hI=>?_⟩
 .obtain⟨y4,y5,y6,g4,g5,g6,rfl⟩:=hI
  rw[List.getElem?_map,map_eq_some_iff] at hd;obtain⟨i,hd,rfl⟩:=hd;have ht:t<n:=by have:=(List.getElem?_eq_some_iff.mp hd).1; simpa using this
  have e:=Ks (fun i=>LN n f i) hd;have hl:=KD (((List.range n).take t).flatMap fun i=>LN n f i) g;rw[J0] at hl;have hl2:((List.range n).take t).length<=t:=by simp; lia
  have hl4:=Nat.mul_le_mul_right (n*n) hl2;have hl3:(t+1)*(n*n)<=n*(n*n):=Nat.mul_le_mul_right _ ht;rw[Nat.add_mul,Nat.one_mul] at hl3;refine⟨_,DK g4,?_⟩;refine Yw (i:=i) hn (by lia) g5 g6 fun z5 z6 f5 f6=>?_;refine Bk ⟨oF (rgD n fun j=>rgD n fun k=>nmD (f i j k)),z5,z6,rfl,f5,f6,?_⟩;rw[e,EN]
 .obtain⟨y4,y5,y6,g4,g5,g6,rfl⟩:=hI
  have e:((List.range n).map fun i=>rgD n fun j=>rgD n fun k=>nmD (f i j k)).length=(List.range n).length:=by rw[List.length_map]
  rw[e,List.take_length];exact q y4 y5 y6 g4 g5 g6
end
theorem OZ(n:Nat)(l:List N3):(l.flatMap (LO n)).length=l.length*(n*(n*n)):=by
 induction l with
 | nil=>simp
 | cons x l ih=>rw[List.flatMap_cons,List.length_append,ih,List.length_cons,Nat.add_mul,Nat.one_mul,Nat.add_comm,QR]
theorem n3{n:Nat}(hn:n<=4):n*(n*n)<=64:=by
 have h1:=Nat.mul_le_mul hn hn;have h2:=Nat.mul_le_mul hn h1;exact h2
theorem RP{n:Nat}(hn:n<=4){c:Nat}{fs:List N3}(hf:fs.length<=4):FV CC [(.own,.fz (chD c)),(.own,.fz (nL n fs))] fun a _=>a=.fz (nmD (some (c,num (used n fs) c))):=by
 refine C5 rfl rfl ?_;show SV Dn [some (.own,.fz (chD c)),some (.own,.fz (nL n fs)),none,none,none,none,none,none] _;unfold Dn;have hn3:=n3 hn;refine Ba (Cd ⟨_,_,rfl,_,_,rfl,rfl,Au ?_⟩);show SV _ (eU (chD c) (nL n fs) [] none none none none none) _;refine Ba (CJ (DX ?_));walk_at "wp";refine⟨fun t Z=>∃y3 y4 y5 y6,Fr y3/\Fr y4/\Fr y5/\Fr y6/\Z=eU (chD c) (nL n fs) (adN [] ((fs.take t).flatMap (LO n))) y3 y4 y5 y6 none,⟨none,none,none,none,rfl,rfl,rfl,rfl,rfl⟩,fun t d Z hd hI=>?_,fun Z hI=>?_⟩
 .obtain⟨y3,y4,y5,y6,g3,g4,g5,g6,rfl⟩:=hI
  rw[List.getElem?_map,map_eq_some_iff] at hd;obtain⟨f,hd,rfl⟩:=hd;have ht:t<fs.length:=(List.getElem?_eq_some_iff.mp hd).1;have e:=Ks (LO n) hd;have hl:=KD ((fs.take t).flatMap (LO n)) [];rw[OZ,List.length_take_of_le (by lia),List.length_nil] at hl;have hl2:t*(n*(n*n))<=4*64:=Nat.mul_le_mul (by lia) hn3;refine⟨_,DK g3,?_⟩;refine Yv hn (by lia) g4 g5 g6 fun z4 z5 z6 f4 f5 f6=>?_;refine Bk ⟨oF (nwD n f),z4,z5,z6,rfl,f4,f5,f6,?_⟩;rw[e,EN]
 obtain⟨y3,y4,y5,y6,g3,g4,g5,g6,rfl⟩:=hI;rw[List.length_map,List.take_length,QU];have us:∀x:Nm,(HG (adN [] ((used n fs).map nmD)) (nmD x)).isSome=decide (x∈used n fs):=fun x=>by
  rw[XA];have:(HG ([]:Kv) (nmD x)).isSome=false:=rfl;rw[this,Bool.or_false,Bool.eq_iff_iff];simp only[decide_eq_true_eq,List.mem_map];exact⟨fun⟨y,hy,e⟩=>QO e ▸ hy,fun h=>⟨x,h,rfl⟩⟩
 have hu:(used n fs).length<=256:=by rw[LD]; exact Nat.mul_le_mul hf hn3
 obtain⟨⟨s1,s2⟩,s3⟩:=ID (used n fs) c;generalize num (used n fs) c=N at s1 s2 s3;generalize adN [] ((used n fs).map nmD)=g at us;refine Au (Ba (Cd ⟨_,_,rfl,_,_,rfl,rfl,Au ?_⟩));show SV _ (eU (chD c) (nL n fs) g y3 y4 y5 y6 (oF (.int ((0:Nat):Int)))) _;refine Ba (RV (fun m Z=>m<=N/\Z=eU (chD c) (nL n fs) g y3 y4 y5 y6 (oF (.int ((N-m:Nat):Int)))) ⟨N,by lia,Nat.le_refl _,by rw[Nat.sub_self]⟩ fun m Z hI=>?_);obtain⟨hm,rfl⟩:=hI;walk_at "wp";have ee:((HG g (nmD (some (c,N-m)))).isSome != false)=decide (some (c,N-m)∈used n fs):=by rw[us,Bool.bne_false]
 refine EF (fun e=>?_) fun e=>?_
 .have e:=of_decide_eq_true (ee.symm.trans e)
  have hm0:m≠0:=fun z=>by subst z; exact s2 e
  walk_at "wp";refine Bk ⟨m-1,by lia,by lia,?_⟩;show eU _ _ _ _ _ _ _ (oF (.int (((N-m:Nat):Int)+1)))=_;rw[show((N-m:Nat):Int)+1=((N-(m-1):Nat):Int) by lia]
 .have e:=of_decide_eq_false (ee.symm.trans e)
  have hm0:m=0:=by
   rcases Nat.eq_zero_or_pos m with z|z
   .exact z
   .exact absurd (s1 (N-m) (by lia)) e
  subst hm0;walk_at "wp";rfl
local macro_rules | `(tactic| walk_at "wp1")=>`(tactic| first
 | (with_reducible refine Ba ?_)|(with_reducible refine Au ?_)|(with_reducible refine Fb ?_)|(with_reducible refine Cd ?_)|(with_reducible refine Fo ?_)|(with_reducible refine Fj ?_)|(with_reducible refine Hi ?_)|(with_reducible refine C0 ?_)|(with_reducible refine Fq ?_)|(with_reducible refine Fm ?_)|(with_reducible refine Fi ?_)|(with_reducible refine Dx ?_)|(with_reducible refine Cv ?_)
 | (with_reducible refine GX ?_)|(with_reducible refine Dw ?_)|(with_reducible refine Ct ?_)|(with_reducible refine EX ?_)|(with_reducible refine ET ?_)|(with_reducible refine GY ?_)|(with_reducible refine EY ?_)|(with_reducible refine EW ?_)|(with_reducible refine Ex ?_)|(with_reducible refine EZ ?_)
 | (with_reducible refine Kh ?_)|(with_reducible refine Jv ?_)|(with_reducible refine Cp ?_)|(with_reducible refine DJ ?_)
 | (with_reducible refine Dr ?_)|(with_reducible refine Fu ?_)|(with_reducible refine Ft ?_)|(with_reducible refine Hj ?_)|(with_reducible refine Fs ?_)
 | (with_reducible refine Cq ?_)|(with_reducible refine DA ?_)|(with_reducible refine E5 ?_)|(with_reducible refine DC ?_)
 | ((with_reducible apply Cu); · rfl)
 | ((with_reducible refine Exists.intro _ (And.intro (BG ?_) ?_)); · rfl)
 | ((with_reducible apply ex1); · rfl)|((with_reducible apply ex2); · rfl)|((with_reducible apply ex3); · rfl)|((with_reducible apply ex0); · rfl)|((with_reducible refine And.intro ?_ ?_); · rfl)|((with_reducible refine G3 ?_ ?_); · rfl)|((with_reducible refine Gk ?_ ?_); · rfl))
local macro_rules | `(tactic| walk_at "wp")=>`(tactic| repeat walk_at "wp1")
open Nw
theorem UA{n:Nat}{hs:List Int}{nm:Nm}{f0:N3}{fs:List N3}:nwD n (told n hs nm (f0::fs))=rgD n fun i=>if (i:Int)∈hs then (rgD n fun j=>if (j:Int)∈hs then (rgD n fun k=>nmD (if (k:Int)∈hs then nm else fi (C9 n k f0 (f0::fs)) k)) else rgD n fun k=>nmD (C9 n j f0 (f0::fs) j j k)) else rgD n fun j=>rgD n fun k=>nmD (C9 n i f0 (f0::fs) i j k):=by
 unfold nwD;congr 1;funext i;by_cases hi:(i:Int)∈hs
 .rw[if_pos hi]
  congr 1;funext j;by_cases hj:(j:Int)∈hs
  .rw[if_pos hj]
   congr 1;funext k;simp only[told,hi,hj,if_true,List.headD_cons]
  .rw[if_neg hj]
   congr 1;funext k;simp only[told,hi,hj,if_true,if_false,List.headD_cons]
 .rw[if_neg hi]
  congr 1;funext j;congr 1;funext k;simp only[told,hi,if_false,List.headD_cons]
theorem NH(n:Nat)(hn:n<=4)(g:Nat->D):K6 [.lst (((List.range n).map g).map A.fz)]=some (.fz (rgD n g)):=by
 have hL:100000<=LIM:=by decide
 have:((List.range n).map g).length<=LIM:=by rw[List.length_map,List.length_range]; lia
 simp only[K6,on1,CS,BV,Option.bind_some,this,if_true,Me]
noncomputable abbrev eB(h:Hs)(c:Nat)(nw:D)(x3 x4 x5 x6 x7 x8:Slot):Ro:=[some (.own,.fz h.d),some (.own,.fz (chD c)),some (.own,.fz nw),x3,x4,x5,x6,x7,x8]
theorem VG(xs:List D):AH (.lst (xs.map A.fz))=some xs:=by simp[AH,BV]
theorem MJ{n k:Nat}{g:Nat->D}{d:D}(h:((List.range n).map g)[k]? = some d):d=g k:=by
 rw[List.getElem?_map,map_eq_some_iff] at h;obtain⟨j,h,rfl⟩:=h;have:=(List.getElem?_eq_some_iff.mp h);obtain⟨h1,h2⟩:=this;simp at h2;rw[h2]
theorem JH{h:Hs}(ok:h.Ok){c:Nat}(hc:c∈h.ls.map (·.1)){f0:N3}{fs:List N3}(hf:(f0::fs).length<=4):FV BM [(.own,.fz h.d),(.own,.fz (chD c)),(.own,.fz (nL h.n.toNat (f0::fs)))] fun a _=>a=.fz (.tup [nmD (some (c,num (used h.n.toNat (f0::fs)) c)),nwD h.n.toNat (told h.n.toNat (h.hands c) (some (c,num (used h.n.toNat (f0::fs)) c)) (f0::fs))]):=by
 have n1:=ok.n1;have n2:=ok.n2;have e1:=Fh .own h ok;have e2:=Gn .own .own h ok c hc;have e3:=Jg .own .own h ok c hc;obtain⟨n,hn⟩:∃n:Nat,h.n=n:=⟨h.n.toNat,by lia⟩;have hn4:n<=4:=by lia
 rw[hn,Int.toNat_natCast];refine C5 rfl rfl ?_;rw[UA];have e4:=RP hn4 (c:=c) hf;generalize num (used n (f0::fs)) c=N at e4 |-;generalize h.hands c=hs at e3 |-;show SV Dl (eB h c (nL n (f0::fs)) none none none none none none) _;unfold Dl;walk_at "wp";refine C6 e1 ?_;walk_at "wp";refine C6 e2 ?_;walk_at "wp";refine C6 e3 ?_;refine⟨_,_,rfl,rfl,Au ?_⟩;show SV _ (eB h c (nL n (f0::fs)) (oF (.lst (iL hs))) none none none none none) _;walk_at "wp";refine AX e4 fun a _ e=>?_;subst e;refine⟨_,_,rfl,rfl,Au ?_⟩;show SV _ (eB h c (nL n (f0::fs)) (oF (.lst (iL hs))) (oF (nmD (some (c,N)))) none none none none) _;walk_at "wp";refine EU n (fun i=>nwD n (C9 n i f0 (f0::fs))) ?_;walk_at "wp";refine⟨by rw[hn],by lia,fun k hk=>?_,?_⟩
 .walk_at "wp"
  refine AX (RN hn4 hk) fun a _ e=>?_;subst e;exact⟨_,rfl,rfl,rfl⟩
 refine⟨_,_,rfl,rfl,Au ?_⟩;show SV _ (eB h c (nL n (f0::fs)) (oF (.lst (iL hs))) (oF (nmD (some (c,N)))) (some (.own,.lst (((List.range n).map fun i=>nwD n (C9 n i f0 (f0::fs))).map A.fz))) none none none) _;walk_at "wp";refine Kq (n:=n) ((List.range n).map fun i=>nwD n (C9 n i f0 (f0::fs))) (fun k=>nmD (if (k:Int)∈hs then some (c,N) else fi (C9 n k f0 (f0::fs)) k)) (by simp) ?_;refine Cu rfl ⟨_,rfl,rfl,VG _,by lia,fun k d hk hd=>?_,?_⟩
 .cases MJ hd
  walk_at "wp";refine⟨_,Ku _ _,?_⟩;walk_at "wp";refine EF (fun e=>?_) fun e=>?_
  .walk_at "wp"
   rw[if_pos (of_decide_eq_true e)]
  .walk_at "wp"
   refine AX (F6 hk) fun a _ e=>?_;subst e;exact⟨_,rfl,rfl,by rw[if_neg (of_decide_eq_false e)]⟩
 walk_at "wp";refine⟨_,NH n hn4 _,?_⟩;refine⟨_,_,rfl,rfl,Au ?_⟩;generalize hF:(rgD n fun k=>nmD (if (k:Int)∈hs then some (c,N) else fi (C9 n k f0 (f0::fs)) k))=F;show SV _ (eB h c (nL n (f0::fs)) (oF (.lst (iL hs))) (oF (nmD (some (c,N)))) (some (.own,.lst (((List.range n).map fun i=>nwD n (C9 n i f0 (f0::fs))).map A.fz))) (oF F) none none) _;walk_at "wp";refine Kq (n:=n) ((List.range n).map fun i=>nwD n (C9 n i f0 (f0::fs))) (fun j=>if (j:Int)∈hs then F else rgD n fun k=>nmD (C9 n j f0 (f0::fs) j j k)) (by simp) ?_;refine Cu rfl ⟨_,rfl,rfl,VG _,by lia,fun k d hk hd=>?_,?_⟩
 .cases MJ hd
  walk_at "wp";refine⟨_,Ku _ _,?_⟩;walk_at "wp";refine EF (fun e=>?_) fun e=>?_
  .walk_at "wp"
   rw[if_pos (of_decide_eq_true e)]
  .walk_at "wp"
   refine AX (Mh hk) fun a _ e=>?_;subst e;exact⟨_,rfl,rfl,by rw[if_neg (of_decide_eq_false e)]⟩
 walk_at "wp";refine⟨_,NH n hn4 _,?_⟩;refine⟨_,_,rfl,rfl,Au ?_⟩;generalize hS:(rgD n fun j=>if (j:Int)∈hs then F else rgD n fun k=>nmD (C9 n j f0 (f0::fs) j j k))=S;show SV _ (eB h c (nL n (f0::fs)) (oF (.lst (iL hs))) (oF (nmD (some (c,N)))) (some (.own,.lst (((List.range n).map fun i=>nwD n (C9 n i f0 (f0::fs))).map A.fz))) (oF F) (oF S) none) _;walk_at "wp";refine Kq (n:=n) ((List.range n).map fun i=>nwD n (C9 n i f0 (f0::fs))) (fun i=>if (i:Int)∈hs then S else rgD n fun j=>rgD n fun k=>nmD (C9 n i f0 (f0::fs) i j k)) (by simp) ?_;refine Cu rfl ⟨_,rfl,rfl,VG _,by lia,fun k d hk hd=>?_,?_⟩
 .cases MJ hd
  walk_at "wp";refine⟨_,Ku _ _,?_⟩;walk_at "wp";refine EF (fun e=>?_) fun e=>?_
  .walk_at "wp"
   rw[if_pos (of_decide_eq_true e)]
  .walk_at "wp"
   refine⟨_,Qj hk,?_⟩;exact⟨_,rfl,rfl,by rw[if_neg (of_decide_eq_false e)]⟩
 walk_at "wp";refine⟨_,NH n hn4 _,?_⟩;walk_at "wp";rw[<- hS,<- hF];rfl
local macro_rules | `(tactic| walk_at "wp1")=>`(tactic| first
 | (with_reducible refine Ba ?_)|(with_reducible refine Au ?_)|(with_reducible refine Fb ?_)|(with_reducible refine Cd ?_)|(with_reducible refine Fo ?_)|(with_reducible refine Fj ?_)|(with_reducible refine Hi ?_)|(with_reducible refine C0 ?_)|(with_reducible refine Fq ?_)|(with_reducible refine Fm ?_)|(with_reducible refine Fi ?_)|(with_reducible refine Dx ?_)|(with_reducible refine Cv ?_)
 | (with_reducible refine GX ?_)|(with_reducible refine Dw ?_)|(with_reducible refine Ct ?_)|(with_reducible refine EX ?_)|(with_reducible refine ET ?_)|(with_reducible refine GY ?_)|(with_reducible refine EY ?_)|(with_reducible refine EW ?_)|(with_reducible refine Ex ?_)|(with_reducible refine EZ ?_)
 | (with_reducible refine Kh ?_)|(with_reducible refine Jv ?_)|(with_reducible refine Cp ?_)|(with_reducible refine DJ ?_)
 | (with_reducible refine Dr ?_)|(with_reducible refine Fu ?_)|(with_reducible refine Ft ?_)|(with_reducible refine Hj ?_)|(with_reducible refine Fs ?_)
 | (with_reducible refine Cq ?_)|(with_reducible refine DA ?_)|(with_reducible refine E5 ?_)|(with_reducible refine DC ?_)
 | ((with_reducible apply Cu); · rfl)
 | ((with_reducible refine Exists.intro _ (And.intro (BG ?_) ?_)); · rfl)
 | ((with_reducible apply ex1); · rfl)|((with_reducible apply ex2); · rfl)|((with_reducible apply ex3); · rfl)|((with_reducible apply ex0); · rfl)|((with_reducible refine And.intro ?_ ?_); · rfl)|((with_reducible refine G3 ?_ ?_); · rfl)|((with_reducible refine Gk ?_ ?_); · rfl))
local macro_rules | `(tactic| walk_at "wp")=>`(tactic| repeat walk_at "wp1")
open Nw
noncomputable abbrev Lets(h:Hs)(l:List Nat):Prop:=∀c∈l,c∈h.ls.map (·.1)
noncomputable abbrev dK(h:Hs):List (Key×D):=h.ls.map fun p=>((Sum.inr (⟨#[p.1]⟩:Str):Key),D.lst (iL p.2))
theorem SA{h:Hs}(ok:h.Ok):Lj [.fz (.lst (h.ls.map ld))]=some (.dic (dK h)):=by
 simp only[Lj,on1,CS,Option.bind_some,L0,if_pos (keys_nodup ok)]
theorem Vs{h:Hs}{c:Nat}(hc:c∈h.ls.map (·.1)):OJ [.dic (dK h),.fz (chD c)]=some (.fz (.lst (iL (h.hands c)))):=by
 simp only[OJ,on2,Ga,fzU,Option.bind_some,chD,Iz,XB hc,Option.map_some]
theorem FL{h:Hs}(ok:h.Ok){c:Nat}(hc:c∈h.ls.map (·.1)):h.hands c≠[]/\∀x∈h.hands c,0<=x/\x<h.n:=by
 obtain⟨p,hp,rfl⟩:=List.mem_map.mp hc;rw[Lq ok hp];obtain⟨q1,_,q3⟩:=ok.hs p hp;exact⟨q1,q3⟩
theorem good{h:Hs}(ok:h.Ok){l:List Nat}(hl:Lets h l):Good h.n.toNat h.hands l:=by
 have n1:=ok.n1;refine⟨by lia,fun c hc=>(FL ok (hl c hc)).1,fun c hc x hx=>?_⟩;have:=(FL ok (hl c hc)).2 x hx;lia
theorem V6(l:List Nat)(x:Nat):mx (l++[x])=max (mx l) x:=by
 induction l with
 | nil=>simp[mx]
 | cons y l ih =>
  have e1:mx (y::l++[x])=max y (mx (l++[x])):=rfl;have e2:mx (y::l)=max y (mx l):=rfl;rw[e1,e2,ih,Nat.max_assoc]
section
variable(h:Hs)(l:List Nat)
noncomputable abbrev oW:Nat->List Nat:=owL h.hands l
noncomputable abbrev wI(d q:Nat):Int:=((W (oW h l) d q:Nat):Int)-1
noncomputable abbrev lI(k p:Nat):Int:=((L (oW h l) k p:Nat):Int)-1
noncomputable abbrev owD:D:=.lst (l.map fun c=>.lst (iL (h.hands c)))
noncomputable abbrev wL(d:Nat):D:=.lst ((List.range h.n.toNat).map fun q=>.int (wI h l d q))
noncomputable abbrev wT(k:Nat):List D:=(List.range k).map fun j=>wL h l (j+1)
noncomputable abbrev lT(k:Nat):List D:=(List.range h.n.toNat).map fun p=>.int (lI h l k p)
noncomputable abbrev mI(k:Nat)(os:List Int)(q:Nat):Nat:=mx (os.map fun x=>W (oW h l) (L (oW h l) k x.toNat) q)
noncomputable abbrev mT(k:Nat)(os:List Int):List D:=(List.range h.n.toNat).map fun q=>.int ((mI h l k os q:Int)-1)
end
theorem W7{h:Hs}(ok:h.Ok){z:Str}{l:List Nat}(hz:z.cps.toList=l)(hl:Lets h l)(hll:l.length<=100):FV Dy [(.own,.fz h.d),(.own,.fz (.str z))] fun a _=>a=.lst ((l.map fun c=>D.lst (iL (h.hands c))).map A.fz):=by
 subst hz;have e1:=SA ok;have hL:100000<=LIM:=by decide
 have zl:z.length=z.cps.toList.length:=by simp; rfl
 refine C5 rfl rfl ?_;show SV Et [oF h.d,oF (.str z),none] _;unfold Et;walk_at "wp";refine⟨_,e1,?_⟩;walk_at "wp";refine Kp (fun d=>match d with | .str y=>some (.lst (iL (h.hands (y.cps.toList.headD 0))))|_=>none) (z.cps.toList.map fun c=>D.lst (iL (h.hands c))) (VJ (Cu rfl ⟨z,rfl,decide_eq_true (by lia),by rw[GF,List.length_map]; lia,?_,fun d hd=>?_,?_⟩))
 .rw[GF,List.filterMap_map,<- List.filterMap_eq_map]; rfl
 .obtain⟨c,hc,rfl⟩:=List.mem_map.mp hd
  refine⟨[chD c],rfl,?_⟩;walk_at "wp";refine⟨_,Vs (hl c hc),?_⟩;walk_at "wp";rfl
 walk_at "wp";rfl
noncomputable abbrev eN(h:Hs)(l:List Nat)(nw la:List D)(x4 x5 x6 x7:Slot):Ro:=[oF (.int h.n),oF (owD h l),some (.own,.lst (nw.map A.fz)),some (.own,.lst (la.map A.fz)),x4,x5,x6,x7]
noncomputable abbrev ln1:MS:=Ca [7] true (BW (Aa 5)) (ifS (AM (opM geA (m2L (opM ixA (m2L (Aa 3) (Aa 7))) (Ah (.int 0))))) (AG 6 (AN (Mr (AK (Aa 6)) (AK (opM ixA (m2L (Aa 2) (opM ixA (m2L (Aa 3) (Aa 7))))))) 2 Ce (opM Td (Ac (Aa 0) (Ac (Aa 1) Aj))))) A9)
noncomputable abbrev ln2:MS:=Ca [7] true (BW (Aa 5)) (As (Gb 6 (Aa 7) (Aa 4)) (Gb 3 (Aa 7) (Aa 4)))
section
variable{h:Hs}{l:List Nat}{k c:Nat}{x4 x7:Slot}{QS:Fl->Prop}
theorem Yt(ok:h.Ok)(hc:c∈h.ls.map (·.1))(hk:k<=l.length)(h7:Fr x7)(q:∀y7,Fr y7->QS (.next (eN h l (wT h l k) (lT h l k) x4 (oF (.lst (iL (h.hands c)))) (some (.own,.lst ((mT h l k (h.hands c)).map A.fz))) y7))):
  SV ln1 (eN h l (wT h l k) (lT h l k) x4 (oF (.lst (iL (h.hands c)))) (some (.own,.lst ((mT h l k []).map A.fz))) x7) QS:=by
 have n1:=ok.n1;have n2:=ok.n2;refine CJ (DX (Cu rfl ⟨_,rfl,_,rfl,fun i Z=>∃y7,Fr y7/\Z=eN h l (wT h l k) (lT h l k) x4 (oF (.lst (iL (h.hands c)))) (some (.own,.lst ((mT h l k ((h.hands c).take i)).map A.fz))) y7,⟨x7,h7,rfl⟩,fun i d Z hd hI=>?_,fun Z hI=>?_⟩))
 .obtain⟨y7,g7,rfl⟩:=hI
  rw[iL,List.getElem?_map,map_eq_some_iff] at hd;obtain⟨x,hx,rfl⟩:=hd;obtain⟨q0,q1⟩:=(FL ok hc).2 x (List.mem_of_getElem? hx);obtain⟨p,rfl⟩:∃p:Nat,x=p:=⟨x.toNat,by lia⟩;have em:∀q,mI h l k ((h.hands c).take (i+1)) q=max (mI h l k ((h.hands c).take i) q) (W (oW h l) (L (oW h l) k p) q):=fun q=>by
   show mx _=_;rw[List.take_succ,hx,Option.toList,List.map_append];exact V6 _ _
  have ep:ixA [.lst ((lT h l k).map A.fz),.fz (.int (p:Int))]=some (.fz (.int (lI h l k p))):=ixL (Ik (by lia));refine⟨_,DK g7,?_⟩;walk_at "wp";refine⟨_,ep,?_⟩;walk_at "wp";refine EF (fun e=>?_) fun e=>?_
  .have e:lI h l k p ≥ 0:=of_decide_eq_true e
   have hLk:=GJ (ow:=oW h l) k p;have e5:ixA [.lst ((wT h l k).map A.fz),.fz (.int (lI h l k p))]=some (.fz (wL h l (L (oW h l) k p))):=by
    obtain⟨d,hd⟩:∃d,L (oW h l) k p=d+1:=⟨L (oW h l) k p-1,by lia⟩;have:lI h l k p=(d:Int):=by show((L (oW h l) k p:Nat):Int)-1=_; lia
    rw[this,hd];exact ixL (Ik (by lia))
   refine Cd ?_;refine SE h.n.toNat (fun q=>.int ((mI h l k ((h.hands c).take i) q:Int)-1)) (fun q=>.int (wI h l (L (oW h l) k p) q)) (fun q=>.int ((mI h l k ((h.hands c).take (i+1)) q:Int)-1)) (by lia) ?_;walk_at "wp";refine⟨_,_,F7 rfl,rfl,?_⟩;walk_at "wp";refine⟨_,ep,?_⟩;walk_at "wp";refine⟨_,e5,?_⟩;walk_at "wp";refine⟨fun q hq=>?_,?_⟩
   .walk_at "wp"
    rw[em q];congr 1;show(if _ > _ then _ else _)=_;split<;>lia
   walk_at "wp";exact Bk ⟨oF (.int (p:Int)),rfl,rfl⟩
  .have e:¬lI h l k p ≥ 0:=of_decide_eq_false e
   have e0:L (oW h l) k p=0:=by
    have:¬((L (oW h l) k p:Nat):Int)-1 ≥ 0:=e;lia
   have e6:mT h l k ((h.hands c).take (i+1))=mT h l k ((h.hands c).take i):=D3 fun q _=>by rw[em q,e0,Px,Nat.max_zero]
   walk_at "wp";refine Bk ⟨oF (.int (p:Int)),rfl,?_⟩;rw[e6]; rfl
 .obtain⟨y7,g7,rfl⟩:=hI
  have hlen:(iL (h.hands c)).length=(h.hands c).length:=DF _;rw[hlen,List.take_length];exact q y7 g7
noncomputable abbrev sT(h:Hs)(k:Nat)(os:List Int)(f:Nat->Int):List D:=(List.range h.n.toNat).map fun(q:Nat)=>D.int (if (q:Int)∈os then (k:Int) else f q)
theorem Nz{f:Nat->Int}{i p:Nat}(hx:(h.hands c)[i]? = some (p:Int)):((sT h k ((h.hands c).take i) f).map A.fz).set p (.fz (.int (k:Int)))=(sT h k ((h.hands c).take (i+1)) f).map A.fz:=by
 rw[W8];congr 1;refine D3 fun q hq=>?_;rw[List.take_succ,hx];by_cases z1:q=p
 .subst z1
  rw[if_pos rfl,if_pos (by simp)]
 .rw[if_neg z1]
  have z2:¬((q:Int)=(p:Int)):=fun z=>z1 (by lia);by_cases z3:(q:Int)∈(h.hands c).take i
  .rw[if_pos z3,if_pos (by simp[z3])]
  .rw[if_neg z3,if_neg (by simp[z3,z2])]
theorem Yu{nw:List D}{f g:Nat->Int}(ok:h.Ok)(hc:c∈h.ls.map (·.1))(h7:Fr x7)(q:∀y7,Fr y7->QS (.next (eN h l nw (sT h k (h.hands c) f) (oF (.int (k:Int))) (oF (.lst (iL (h.hands c)))) (some (.own,.lst ((sT h k (h.hands c) g).map A.fz))) y7))):
  SV ln2 (eN h l nw (sT h k [] f) (oF (.int (k:Int))) (oF (.lst (iL (h.hands c)))) (some (.own,.lst ((sT h k [] g).map A.fz))) x7) QS:=by
 have n1:=ok.n1;have n2:=ok.n2;refine CJ (DX (Cu rfl ⟨_,rfl,_,rfl,fun i Z=>∃y7,Fr y7/\Z=eN h l nw (sT h k ((h.hands c).take i) f) (oF (.int (k:Int))) (oF (.lst (iL (h.hands c)))) (some (.own,.lst ((sT h k ((h.hands c).take i) g).map A.fz))) y7,⟨x7,h7,rfl⟩,fun i d Z hd hI=>?_,fun Z hI=>?_⟩))
 .obtain⟨y7,g7,rfl⟩:=hI
  rw[iL,List.getElem?_map,map_eq_some_iff] at hd;obtain⟨x,hx,rfl⟩:=hd;obtain⟨q0,q1⟩:=(FL ok hc).2 x (List.mem_of_getElem? hx);obtain⟨p,rfl⟩:∃p:Nat,x=p:=⟨x.toNat,by lia⟩;refine⟨_,DK g7,Ba (K4 ?_)⟩;walk_at "wp";refine⟨⟨_,rfl⟩,?_⟩;walk_at "wp";refine⟨p,by rw[List.length_map,List.length_map,List.length_range]; exact Ky (by lia),Au (K4 ?_)⟩;walk_at "wp";refine⟨⟨_,rfl⟩,?_⟩;walk_at "wp";refine⟨p,by rw[List.length_map,List.length_map,List.length_range]; exact Ky (by lia),?_⟩;refine Bk ⟨oF (.int (p:Int)),rfl,?_⟩;have s1:=Nz (h:=h) (k:=k) (f:=f) hx;have s2:=Nz (h:=h) (k:=k) (f:=g) hx;unfold eN;rw[<- s1,<- s2];rfl
 .obtain⟨y7,g7,rfl⟩:=hI
  have hlen:(iL (h.hands c)).length=(h.hands c).length:=DF _;rw[hlen,List.take_length];exact q y7 g7
end
theorem UE{h:Hs}(ok:h.Ok){l:List Nat}(hl:Lets h l){k c:Nat}(hc:l[k]? = some c)(q:Nat):(if (q:Int)∈h.hands c then (k:Int) else (mI h l k (h.hands c) q:Int)-1)=wI h l (k+1) q:=by
 have g:=good ok hl;show _=((W (oW h l) (k+1) q:Nat):Int)-1;rw[Hn];by_cases hq:(q:Int)∈h.hands c
 .rw[if_pos hq,if_pos ((CY g hc q).mp hq)]; lia
 .rw[if_neg hq,if_neg (fun z=>hq ((CY g hc q).mpr z)),show oW h l (k+1)=(h.hands c).map Int.toNat from GC hc,List.map_map]; rfl
theorem N8{h:Hs}(ok:h.Ok){l:List Nat}(hl:Lets h l){k c:Nat}(hc:l[k]? = some c)(q:Nat):(if (q:Int)∈h.hands c then (k:Int) else lI h l k q)=lI h l (k+1) q:=by
 have g:=good ok hl;show _=((L (oW h l) (k+1) q:Nat):Int)-1;rw[L];by_cases hq:(q:Int)∈h.hands c
 .rw[if_pos hq,if_pos ((CY g hc q).mp hq)]; lia
 .rw[if_neg hq,if_neg (fun z=>hq ((CY g hc q).mpr z))]
theorem W6{h:Hs}(ok:h.Ok){l:List Nat}(hl:Lets h l)(hll:l.length<=100):FV Cy [(.own,.fz (.int h.n)),(.own,.fz (owD h l))] fun a _=>a=.lst ((wT h l l.length).map A.fz):=by
 have n1:=ok.n1;have n2:=ok.n2;have hL:100000<=LIM:=by decide
 have hnn:((h.n.toNat:Nat):Int)=h.n:=Int.toNat_of_nonneg (by lia);refine C5 rfl rfl ?_;show SV Dh [oF (.int h.n),oF (owD h l),none,none,none,none,none,none] _;unfold Dh;walk_at "wp";refine EU h.n.toNat (fun p=>D.int (lI h l 0 p)) ?_;walk_at "wp";refine⟨by rw[hnn],by lia,fun k hk=>?_,?_⟩
 .walk_at "wp"
  rfl
 refine⟨_,_,rfl,rfl,Au ?_⟩;show SV _ (eN h l (wT h l 0) (lT h l 0) none none none none) _;refine Ba (CJ (Ly (Cu rfl ⟨_,rfl,rfl,_,rfl,fun k Z=>∃x4 x5 x6 x7,Fr x4/\Fr x5/\Fr x6/\Fr x7/\Z=eN h l (wT h l k) (lT h l k) x4 x5 x6 x7,⟨none,none,none,none,rfl,rfl,rfl,rfl,rfl⟩,fun k d Z hd hI=>?_,fun Z hI=>?_⟩)))
 .obtain⟨x4,x5,x6,x7,h4,h5,h6,h7,rfl⟩:=hI
  obtain⟨e,he,rfl⟩:=QX hd;rw[List.getElem?_map,map_eq_some_iff] at he;obtain⟨c,hc0,rfl⟩:=he;have hk:k<l.length:=(List.getElem?_eq_some_iff.mp hc0).1;have hc:c∈h.ls.map (·.1):=hl c (List.mem_of_getElem? hc0);clear hd;refine⟨_,Mx h4 h5,?_⟩;show SV _ (eN h l (wT h l k) (lT h l k) (oF (.int (k:Int))) (oF (.lst (iL (h.hands c)))) x6 x7) _;walk_at "wp";refine EU h.n.toNat (fun q=>D.int ((mI h l k [] q:Int)-1)) ?_;walk_at "wp";refine⟨by rw[hnn],by lia,fun k hk=>?_,?_⟩
  .walk_at "wp"
   rfl
  refine⟨_,_,rfl,h6,Au ?_⟩;show SV _ (eN h l (wT h l k) (lT h l k) (oF (.int (k:Int))) (oF (.lst (iL (h.hands c)))) (some (.own,.lst ((mT h l k []).map A.fz))) x7) _;refine Ba (Yt ok hc (by lia) h7 fun y7 g7=>Au ?_);have e1:lT h l k=sT h k [] (lI h l k):=D3 fun q _=>by rw[if_neg (by simp)]
  have e2:mT h l k (h.hands c)=sT h k [] fun q=>(mI h l k (h.hands c) q:Int)-1:=D3 fun q _=>by rw[if_neg (by simp)]
  rw[e1,e2];refine Ba (Yu ok hc g7 fun z7 f7=>Au ?_);have e3:sT h k (h.hands c) (lI h l k)=lT h l (k+1):=D3 fun q _=>by rw[N8 ok hl hc0]
  have e4:sT h k (h.hands c) (fun q=>(mI h l k (h.hands c) q:Int)-1)=(List.range h.n.toNat).map fun q=>D.int (wI h l (k+1) q):=D3 fun q _=>by rw[UE ok hl hc0]
  rw[e3,e4];refine RU ⟨_,rfl⟩ ?_;walk_at "wp";refine⟨_,_,Qt rfl,?_⟩;walk_at "wp";refine⟨by rw[List.length_map,List.length_map,List.length_range]; lia,?_⟩;refine Bk ⟨oF (.int (k:Int)),oF (.lst (iL (h.hands c))),oF (wL h l (k+1)),z7,rfl,rfl,rfl,f7,?_⟩;have e5:(wT h l k).map A.fz++[.fz (wL h l (k+1))]=(wT h l (k+1)).map A.fz:=by
   rw[wT,wT,List.range_succ,List.map_append,List.map_append]; rfl
  unfold eN;rw[<- e5];rfl
 obtain⟨x4,x5,x6,x7,h4,h5,h6,h7,rfl⟩:=hI;have e6:(HW (l.map fun c=>D.lst (iL (h.hands c)))).length=l.length:=by simp[HW]
 rw[e6];walk_at "wp";rfl
local macro_rules | `(tactic| walk_at "wp1")=>`(tactic| first
 | (with_reducible refine Ba ?_)|(with_reducible refine Au ?_)|(with_reducible refine Fb ?_)|(with_reducible refine Cd ?_)|(with_reducible refine Fo ?_)|(with_reducible refine Fj ?_)|(with_reducible refine Hi ?_)|(with_reducible refine C0 ?_)|(with_reducible refine Fq ?_)|(with_reducible refine Fm ?_)|(with_reducible refine Fi ?_)|(with_reducible refine Dx ?_)|(with_reducible refine Cv ?_)
 | (with_reducible refine GX ?_)|(with_reducible refine Dw ?_)|(with_reducible refine Ct ?_)|(with_reducible refine EX ?_)|(with_reducible refine ET ?_)|(with_reducible refine GY ?_)|(with_reducible refine EY ?_)|(with_reducible refine EW ?_)|(with_reducible refine Ex ?_)|(with_reducible refine EZ ?_)
 | (with_reducible refine Kh ?_)|(with_reducible refine Jv ?_)|(with_reducible refine Cp ?_)|(with_reducible refine DJ ?_)
 | (with_reducible refine Dr ?_)|(with_reducible refine Fu ?_)|(with_reducible refine Ft ?_)|(with_reducible refine Hj ?_)|(with_reducible refine Fs ?_)
 | (with_reducible refine Cq ?_)|(with_reducible refine DA ?_)|(with_reducible refine E5 ?_)|(with_reducible refine DC ?_)
 | ((with_reducible apply Cu); · rfl)
 | ((with_reducible refine Exists.intro _ (And.intro (BG ?_) ?_)); · rfl)
 | ((with_reducible apply ex1); · rfl)|((with_reducible apply ex2); · rfl)|((with_reducible apply ex3); · rfl)|((with_reducible apply ex0); · rfl)|((with_reducible refine And.intro ?_ ?_); · rfl)|((with_reducible refine G3 ?_ ?_); · rfl)|((with_reducible refine Gk ?_ ?_); · rfl))
local macro_rules | `(tactic| walk_at "wp")=>`(tactic| repeat walk_at "wp1")
open Nw
theorem Yy{h:Hs}{l:List Nat}{d q:Nat}(hd:d<=l.length)(hq:q<h.n.toNat):FV DS [(.own,.fz (.lst (wT h l l.length))),(.own,.fz (.int ((d:Int)-1))),(.own,.fz (.int (q:Int)))] fun a _=>a=.fz (.int (wI h l d q)):=by
 refine C5 rfl rfl ?_;show SV FG [oF (.lst (wT h l l.length)),oF (.int ((d:Int)-1)),oF (.int (q:Int))] _;unfold FG;walk_at "wp";refine EF (fun e=>?_) fun e=>?_
 .have e:(d:Int)-1<0:=of_decide_eq_true e
  have:d=0:=by lia
  subst this;walk_at "wp";rfl
 .have e:¬(d:Int)-1<0:=of_decide_eq_false e
  obtain⟨k,rfl⟩:∃k,d=k+1:=⟨d-1,by lia⟩;have ek:((k+1:Nat):Int)-1=(k:Int):=by lia
  walk_at "wp";rw[ek];refine⟨_,ixF (Ik (by lia)),?_⟩;walk_at "wp";refine⟨_,ixF (Ik hq),?_⟩;walk_at "wp";rfl
theorem XO{ow:Nat->List Nat}{d m q:Nat}(h:d<=m):W ow d q<=m:=Nat.le_trans (Kg d q) h
local macro_rules | `(tactic| walk_at "wp1")=>`(tactic| first
 | (with_reducible refine Ba ?_)|(with_reducible refine Au ?_)|(with_reducible refine Fb ?_)|(with_reducible refine Cd ?_)|(with_reducible refine Fo ?_)|(with_reducible refine Fj ?_)|(with_reducible refine Hi ?_)|(with_reducible refine C0 ?_)|(with_reducible refine Fq ?_)|(with_reducible refine Fm ?_)|(with_reducible refine Fi ?_)|(with_reducible refine Dx ?_)|(with_reducible refine Cv ?_)
 | (with_reducible refine GX ?_)|(with_reducible refine Dw ?_)|(with_reducible refine Ct ?_)|(with_reducible refine EX ?_)|(with_reducible refine ET ?_)|(with_reducible refine GY ?_)|(with_reducible refine EY ?_)|(with_reducible refine EW ?_)|(with_reducible refine Ex ?_)|(with_reducible refine EZ ?_)
 | (with_reducible refine Kh ?_)|(with_reducible refine Jv ?_)|(with_reducible refine Cp ?_)|(with_reducible refine DJ ?_)
 | (with_reducible refine Dr ?_)|(with_reducible refine Fu ?_)|(with_reducible refine Ft ?_)|(with_reducible refine Hj ?_)|(with_reducible refine Fs ?_)
 | (with_reducible refine Cq ?_)|(with_reducible refine DA ?_)|(with_reducible refine E5 ?_)|(with_reducible refine DC ?_)
 | ((with_reducible apply Cu); · rfl)
 | ((with_reducible refine Exists.intro _ (And.intro (BG ?_) ?_)); · rfl)
 | ((with_reducible apply ex1); · rfl)|((with_reducible apply ex2); · rfl)|((with_reducible apply ex3); · rfl)|((with_reducible apply ex0); · rfl)|((with_reducible refine And.intro ?_ ?_); · rfl)|((with_reducible refine G3 ?_ ?_); · rfl)|((with_reducible refine Gk ?_ ?_); · rfl))
local macro_rules | `(tactic| walk_at "wp")=>`(tactic| repeat walk_at "wp1")
open Nw
theorem Rb{h:Hs}{l:List Nat}{k c:Nat}(hc:l[k]? = some c):ixA [.fz (owD h l),.fz (.int (k:Int))]=some (.fz (.lst (iL (h.hands c)))):=by
 obtain⟨h1,h2⟩:=List.getElem?_eq_some_iff.mp hc;refine ixF ?_;rw[BS rfl (by rw[List.length_map]; exact h1),List.getElem_map,h2]
theorem Ud{n:Nat}{as:List A}(hb:Bag n as)(hn:n<=1000000)(m:Int)(hm:0<m)(hm2:m<1099511627776):∃(d:Int) (as':List A),0<=d/\d<m/\Bag (n+1) as'/\Ae [(.own,.lst as),(.own,.fz (.int m))]=some (.fz (.int d),[.lst as',.fz (.int m)]):=by
 obtain⟨x,y,rfl,h1,h2⟩:=hb;have m1:decide (0<m)=true:=decide_eq_true hm;have m2:decide (0<m/\m<1099511627776)=true:=decide_eq_true ⟨hm,hm2⟩;have i0:ixN 2 0=some 0:=by rfl
 have i1:ixN 2 1=some 1:=by rfl
 by_cases hy:y=0
 .subst hy
  refine⟨x % m,[.fz (.int (x / m)),.fz (.int 0)],Int.emod_nonneg _ (by lia),Int.emod_lt_of_pos _ hm,⟨_,_,rfl,by lia,by lia⟩,B9 (Z:=[some (.own,.lst [.fz (.int (x / m)),.fz (.int 0)]),some (.own,.fz (.int m)),some (.own,.fz (.int (x % m)))]) rfl ?_⟩;show A3 [some (.own,.lst [.fz (.int x),.fz (.int 0)]),some (.own,.fz (.int m)),none]=_;unfold A3;have a0:=at0 (D.int x) [D.int 0];have a1:=at1 (D.int x) (D.int 0) [];clear hm hm2 h1 h2 hn;walk_at "eo"
 .let x':=(x*48271+7919*y*y+17) % 2147483647
  have e1:eqD (.int y) (.int 0)=false:=by simp[Gh,GV,HK,Gi,FJ,hy]
  have c1:(-(2 ^ 64)<x/\x<2 ^ 64 \/ -(2 ^ 64)<(48271:Int)/\(48271:Int)<2 ^ 64)=True:=by simp
  have c2:(-(2 ^ 64)<(7919:Int)/\(7919:Int)<2 ^ 64 \/ -(2 ^ 64)<y/\y<2 ^ 64)=True:=by simp
  have c3:(-(2 ^ 64)<7919*y/\7919*y<2 ^ 64 \/ -(2 ^ 64)<y/\y<2 ^ 64)=True:=by simp; lia
  have c4:(-(2 ^ 64)<x'/\x'<2 ^ 64 \/ -(2 ^ 64)<(69621:Int)/\(69621:Int)<2 ^ 64)=True:=by simp
  have d1:decide ((0:Int)<2147483647)=true:=by decide
  have d2:decide ((0:Int)<2147483629)=true:=by decide
  have d3:decide ((0:Int)<5/\(5:Int)<1099511627776)=true:=by decide
  have hx:(x*48271+7919*y*y+17) % 2147483647=x':=rfl;refine⟨x'*69621 % 2147483629 / 5 % m,[.fz (.int x'),.fz (.int (y+1))],Int.emod_nonneg _ (by lia),Int.emod_lt_of_pos _ hm,⟨_,_,rfl,by lia,by lia⟩,B9 (Z:=[some (.own,.lst [.fz (.int x'),.fz (.int (y+1))]),some (.own,.fz (.int m)),none]) rfl ?_⟩;show A3 [some (.own,.lst [.fz (.int x),.fz (.int y)]),some (.own,.fz (.int m)),none]=_;unfold A3;have a0:=at0 (D.int x) [D.int y];have a1:=at1 (D.int x) (D.int y) [];have a2:=at1 (D.int x') (D.int y) [];have a3:=at0 (D.int x') [D.int (y+1)];rw[AL (Z1:=[some (.own,.lst [.fz (.int x),.fz (.int y)]),some (.own,.fz (.int m)),none]) (by
   simp only[Gh,GV,HK,Gi,FJ] at e1;clear hm hm2 h1 h2 hn c1 c2 c3 c4 hx hy;walk_at "eo"),AL (Z1:=[some (.own,.lst [.fz (.int x'),.fz (.int y)]),some (.own,.fz (.int m)),none]) (by
   clear hm hm2 h1 h2 hn c4 hy e1;walk_at "eo"),AL (Z1:=[some (.own,.lst [.fz (.int x'),.fz (.int (y+1))]),some (.own,.fz (.int m)),none]) (by
   clear hm hm2 h1 h2 hn c4 hy e1 c1 c2 c3 hx;walk_at "eo")]
  refine FY ?_;clear hm hm2 h1 h2 hn hy e1 c1 c2 c3 hx;walk_at "eo"
theorem T5{x:Str}{n c:Nat}(h:c∈(D9 x n).cps.toList):c∈x.cps.toList:=by
 have key:∀(n:Nat) (a:Array Nat),(∀c∈a.toList,c∈x.cps.toList)->∀c∈((List.replicate n x.cps).foldl (· ++ ·) a).toList,c∈x.cps.toList:=by
  intro n;induction n with
  | zero=>intro a h c hc; exact h c hc
  | succ n ih =>
   intro a h c hc;rw[List.replicate_succ,List.foldl_cons] at hc;refine ih _ (fun c hc=>?_) c hc;rw[Array.toList_append] at hc;rcases List.mem_append.mp hc with q|q
   .exact h c q
   .exact q
 exact key n #[] (fun c hc=>by simp at hc) c h
theorem Pj{x:Str}{u v:Option Int}{c:Nat}(h:c∈(Txt.slice x u v).cps.toList):c∈x.cps.toList:=by
 unfold Txt.slice at h;split at h
 .exact h
 .obtain⟨i,_,e⟩:=List.mem_filterMap.mp (by simpa using h)
  rw[<- Array.getElem?_toList] at e;exact List.mem_of_getElem? e
theorem RS(x:Str):(Txt.slice x none (some 60)).length<=60:=by
 by_cases h:(60:Int)<=x.length
 .have:=eq_of_beq (PyProof.Rows.slice_closes_toL (x:=x) (j:=60) (by lia) h)
  rw[this,<- Str.list_len];simp;lia
 .have:=PySem.Txt.slice_le x none (some 60)
  lia
theorem W2{z:Str}{i:Int}(h:z.length<=1000)(h0:0<=i)(h1:i<=1000):T3 [.fz (.str z),.fz (.int i)]=some (.fz (.str (D9 z i.toNat))):=by
 simp only[T3,on2,Ck,fzU,Fx,BB,FN,Option.bind_some,if_pos (show z.length<=1000/\0<=i/\i<=1000 from⟨h,h0,h1⟩)]
theorem Ot(i:Int):FV BF [(.own,.fz (.int i))] fun a _=>a=.fz (.bl true):=by
 refine C5 rfl rfl ?_;show SV DO [oF (.int i)] _;unfold DO;walk_at "wp";rfl
theorem s_same(i:Int):FV Dz [(.own,.fz (.int i)),(.own,.fz (.int i))] fun a _=>a=.fz (.bl true):=by
 refine C5 rfl rfl ?_;show SV Eu [oF (.int i),oF (.int i)] _;unfold Eu;walk_at "wp";refine AX (Ot i) fun a _ e=>?_;subst e;walk_at "wp";exact DR (.int i) ▸ rfl
theorem three{n:Int}(h1:2<=n)(h2:n<=4):n=2\/n=3\/n=4:=by lia
theorem Uc{h:Hs}(ok:h.Ok){c:Nat}(hc:c∈h.ls.map (·.1)):FV GZ [(.own,.fz h.d),(.own,.fz (chD c))] fun a _=>a=.fz (.int (1+((iL (h.hands c)).length:Int)*h.n*h.n*h.n)):=by
 have e1:=Fh .own h ok;have e2:=Gn .own .own h ok c hc;have e3:=Jg .own .own h ok c hc;have hn:=three ok.n1 ok.n2;refine C5 rfl rfl ?_;show SV Hr [oF h.d,oF (chD c)] _;unfold Hr;walk_at "wp";refine C6 e1 ?_;walk_at "wp";refine C6 e2 ?_;walk_at "wp";refine C6 e3 ?_;generalize h.hands c=hs;obtain⟨n,ls⟩:=h;clear e1 e2 e3 hc ok;have hn:n=2\/n=3\/n=4:=hn;rcases hn with rfl|rfl|rfl
 .walk_at "wp"
  show A.fz (.int (((iL hs).length:Int)*8+1))=A.fz (.int (1+((iL hs).length:Int)*2*2*2));congr 2; lia
 .walk_at "wp"
  show A.fz (.int (((iL hs).length:Int)*27+1))=A.fz (.int (1+((iL hs).length:Int)*3*3*3));congr 2; lia
 .walk_at "wp"
  show A.fz (.int (((iL hs).length:Int)*64+1))=A.fz (.int (1+((iL hs).length:Int)*4*4*4));congr 2; lia
theorem UW{i n:Int}(h1:2<=n)(h2:n<=4):E8 [.fz (.int i),.fz (.int n)]=some (.fz (.int (i*n))):=BG (decide_eq_true ⟨by lia,by lia⟩)
theorem W5{h:Hs}(ok:h.Ok):FV Bx [(.own,.fz h.d)] fun a _=>a=.fz (.bl true):=by
 have n1:=ok.n1;have n2:=ok.n2;refine C5 rfl rfl ?_;show SV BZ [oF h.d,none,none] _;unfold BZ;refine Ba (CJ (DX ?_));walk_at "wp";refine⟨fun j Z=>∃x1 x2,Fr x1/\Fr x2/\Z=[oF h.d,x1,x2],⟨none,none,rfl,rfl,rfl⟩,fun j d Z hd hI=>?_,fun Z hI=>?_⟩
 .obtain⟨x1,x2,h1,h2,rfl⟩:=hI
  rw[List.getElem?_map,map_eq_some_iff] at hd;obtain⟨p,hp,rfl⟩:=hd;have hm:=List.mem_of_getElem? hp;have e4:=Uc ok (List.mem_map.mpr ⟨p,hm,rfl⟩);rw[Lq ok hm] at e4;refine⟨_,Mx h1 h2,?_⟩;show SV _ [oF h.d,oF (chD p.1),oF (.lst (iL p.2))] _;generalize hM:E8=M;have mm:∀i:Int,M [.fz (.int i),.fz (.int h.n)]=some (.fz (.int (i*h.n))):=fun i=>hM ▸ UW n1 n2;clear hM;walk_at "wp";refine AX e4 fun a _ e=>?_;subst e;walk_at "wp";refine⟨_,mm _,?_⟩;walk_at "wp";refine⟨_,mm _,?_⟩;walk_at "wp";refine⟨_,mm _,?_⟩;walk_at "wp";refine AX (s_same _) fun a _ e=>?_;subst e;walk_at "wp";exact Bk ⟨_,_,rfl,rfl,rfl⟩
 .obtain⟨x1,x2,h1,h2,rfl⟩:=hI
  walk_at "wp";rfl
local macro_rules | `(tactic| walk_at "wp1")=>`(tactic| first
 | (with_reducible refine Ba ?_)|(with_reducible refine Au ?_)|(with_reducible refine Fb ?_)|(with_reducible refine Cd ?_)|(with_reducible refine Fo ?_)|(with_reducible refine Fj ?_)|(with_reducible refine Hi ?_)|(with_reducible refine C0 ?_)|(with_reducible refine Fq ?_)|(with_reducible refine Fm ?_)|(with_reducible refine Fi ?_)|(with_reducible refine Dx ?_)|(with_reducible refine Cv ?_)
 | (with_reducible refine GX ?_)|(with_reducible refine Dw ?_)|(with_reducible refine Ct ?_)|(with_reducible refine EX ?_)|(with_reducible refine ET ?_)|(with_reducible refine GY ?_)|(with_reducible refine EY ?_)|(with_reducible refine EW ?_)|(with_reducible refine Ex ?_)|(with_reducible refine EZ ?_)
 | (with_reducible refine Kh ?_)|(with_reducible refine Jv ?_)|(with_reducible refine Cp ?_)|(with_reducible refine DJ ?_)
 | (with_reducible refine Dr ?_)|(with_reducible refine Fu ?_)|(with_reducible refine Ft ?_)|(with_reducible refine Hj ?_)|(with_reducible refine Fs ?_)
 | (with_reducible refine Cq ?_)|(with_reducible refine DA ?_)|(with_reducible refine E5 ?_)|(with_reducible refine DC ?_)
 | ((with_reducible apply Cu); · rfl)
 | ((with_reducible refine Exists.intro _ (And.intro (BG ?_) ?_)); · rfl)
 | ((with_reducible apply ex1); · rfl)|((with_reducible apply ex2); · rfl)|((with_reducible apply ex3); · rfl)|((with_reducible apply ex0); · rfl)|((with_reducible refine And.intro ?_ ?_); · rfl)|((with_reducible refine G3 ?_ ?_); · rfl)|((with_reducible refine Gk ?_ ?_); · rfl))
local macro_rules | `(tactic| walk_at "wp")=>`(tactic| repeat walk_at "wp1")
open Nw
theorem Ul{i:Nat}{mk me:ME}{Z:Ro}{QS:Fl->Prop}(h:EV me Z fun r Z1=>∃d Z2,share Z1 r=some (d,Z2)/\(∃p,JU Z2 i=some p)/\EV mk Z2 fun r2 Z3=>∃kd,r2=.val (.fz kd)/\∃st kvs,JU Z3 i=some (st,kvs)/\∃k,Iz kd=some k/\kvs.length<LIM/\QS (.next (Z3.set i (some (st,.dic (putD kvs k d)))))):SV (JQ i mk me) Z QS:=by
 obtain⟨r,Z1,e,d,Z2,e2,⟨p,e0⟩,r2,Z3,e3,kd,rfl,st,kvs,e4,k,e5,hl,q⟩:=h;refine⟨_,?_,q⟩;simp only[JQ,e,e2,e0,e3,e4,e5,Option.bind_some,if_pos hl]
noncomputable abbrev KVs(ks:List Int):List (Key×D):=ks.map fun k=>((Sum.inl k:Key),D.bl true)
theorem WU(ks:List Int)(k:Int):putD (KVs ks) (.inl k) (.bl true)=KVs (Sg.dd ks k):=by
 have e:((KVs ks).any fun kv=>decide (kv.1=Sum.inl k))=decide (k∈ks):=by
  rw[Bool.eq_iff_iff,List.any_eq_true,decide_eq_true_eq];constructor
  .rintro ⟨x,hx,h⟩
   obtain⟨i,hi,rfl⟩:=List.mem_map.mp hx;have:(Sum.inl i:Key)=Sum.inl k:=of_decide_eq_true h;injection this with this;exact this ▸ hi
  .intro h
   exact⟨_,List.mem_map.mpr ⟨k,h,rfl⟩,decide_eq_true rfl⟩
 unfold putD Sg.dd;rw[e];by_cases h:k∈ks
 .rw[if_pos (decide_eq_true h),if_pos h]
  refine(List.map_congr_left (g:=id) fun x hx=>?_).trans (List.map_id _);obtain⟨i,hi,rfl⟩:=List.mem_map.mp hx;dsimp only;split<;>rfl
 .rw[if_neg (by rw[decide_eq_false h]; exact Bool.false_ne_true),if_neg h]
  simp[KVs]
theorem Tb(ks:List Int):LF [.dic (KVs ks)]=some (.lst ((ks.map D.int).map A.fz)):=by
 have e:((KVs ks).all fun kv=>kSh kv.1)=true:=by
  rw[List.all_eq_true];intro x hx;obtain⟨i,_,rfl⟩:=List.mem_map.mp hx;rfl
 simp only[LF,on1,Ga,Option.bind_some,e,if_true,List.map_map];rfl
structure InU (h:Hs) (l:List Nat) (k:Nat) (ks:List Int):Prop where
 nd:ks.Nodup
 us:∀x∈ks,∃d,Use (oW h l) k d/\1<=d/\x=(d:Int)-1
theorem InU.nil{h:Hs}{l:List Nat}{k:Nat}:InU h l k []:=⟨List.nodup_nil,fun x hx=>by cases hx⟩
theorem InU.add{h:Hs}{l:List Nat}{k:Nat}{ks:List Int}(u:InU h l k ks){d:Nat}(hd:Use (oW h l) k d)(h1:1<=d):InU h l k (Sg.dd ks ((d:Int)-1)):=by
 unfold Sg.dd;split
 .exact u
 .rename_i hn
  refine⟨?_,fun x hx=>?_⟩
  .rw[List.nodup_append]
   exact⟨u.nd,List.pairwise_singleton _ _,fun a ha b hb e=>by rw[List.mem_singleton] at hb; exact hn (hb ▸ e ▸ ha)⟩
  .rcases List.mem_append.mp hx with hx|hx
   .exact u.us x hx
   .rw[List.mem_singleton] at hx
    exact⟨d,hd,h1,hx⟩
theorem Sa{ow:Nat->List Nat}{k d:Nat}(h:Use ow k d):d<=k:=by
 obtain⟨p,q,r,rfl⟩:=h;exact Nat.le_trans (Kg _ _) (Nat.le_trans (Kg _ _) (GJ _ _))
theorem InU.len{h:Hs}{l:List Nat}{k:Nat}{ks:List Int}(u:InU h l k ks):ks.length<=k:=by
 have e:=Sp.len_sub (a:=ks.map Int.toNat) (b:=List.range k) ?_ ?_
 .rw[List.length_map,List.length_range] at e; exact e
 .refine List.Pairwise.map _ (R:=fun a b:Int=>a≠b/\a∈ks/\b∈ks) (fun a b hab=>?_) ?_
  .obtain⟨d1,_,_,e1⟩:=u.us a hab.2.1
   obtain⟨d2,_,_,e2⟩:=u.us b hab.2.2;have:=hab.1;lia
  .rw[List.pairwise_iff_forall_sublist]
   intro a b hs;refine⟨?_,hs.subset (by simp),hs.subset (by simp)⟩;have:=u.nd.sublist hs;simp at this;exact this
 .intro x hx
  obtain⟨y,hy,rfl⟩:=List.mem_map.mp hx;obtain⟨d,u1,u2,e⟩:=u.us y hy;have:=Sa u1;rw[List.mem_range];lia
noncomputable abbrev eI(h:Hs)(l:List Nat)(k:Nat)(st:Own)(ks:List Int)(x4 x5 x6 x7 x8:Slot):Ro:=[oF (.int h.n),oF (.lst (wT h l l.length)),some (st,.lst ((lT h l k).map A.fz)),some (.own,.dic (KVs ks)),x4,x5,x6,x7,x8]
theorem UT(ds:List D):AH (.lst (ds.map A.fz))=some ds:=BV ds
theorem RM{h:Hs}(ok:h.Ok){l:List Nat}{k:Nat}(hk:k<=l.length)(hll:l.length<=100):FV Cw [(.own,.fz (.int h.n)),(.own,.fz (.lst (wT h l l.length))),(.lent,.lst ((lT h l k).map A.fz))] fun a os=>(∃ks,InU h l k ks/\a=.lst ((ks.map D.int).map A.fz))/\os=[.fz (.int h.n),.fz (.lst (wT h l l.length)),.lst ((lT h l k).map A.fz)]:=by
 have n1:=ok.n1;have n2:=ok.n2;have hL:100000<=LIM:=by decide
 refine C5 rfl rfl ?_;show SV Dg [oF (.int h.n),oF (.lst (wT h l l.length)),some (.lent,.lst ((lT h l k).map A.fz)),none,none,none,none,none,none] _;unfold Dg;refine Ba (Cd ⟨_,_,rfl,_,_,rfl,rfl,Au ?_⟩);show SV _ (eI h l k .lent [] none none none none none) _;refine Ba (CJ (DX ?_));walk_at "wp";refine⟨_,UT _,fun i Z=>∃ks x4 x5 x6 x7 x8,InU h l k ks/\Fr x4/\Fr x5/\Fr x6/\Fr x7/\Fr x8/\Z=eI h l k .ro ks x4 x5 x6 x7 x8,⟨[],none,none,none,none,none,.nil,rfl,rfl,rfl,rfl,rfl,rfl⟩,fun i d Z hd hI=>?_,fun Z hI=>?_⟩
 .obtain⟨ks,x4,x5,x6,x7,x8,u,h4,h5,h6,h7,h8,rfl⟩:=hI
  obtain⟨p,hp,rfl⟩:∃p,p<h.n.toNat/\d=.int (lI h l k p):=by
   rw[List.getElem?_map,map_eq_some_iff] at hd;obtain⟨p,hp,rfl⟩:=hd;have:=List.mem_of_getElem? hp;exact⟨p,List.mem_range.mp this,rfl⟩
  have hLk:=GJ (ow:=oW h l) k p;refine⟨_,DK h4,?_⟩;show SV _ (eI h l k .ro ks (oF (.int (lI h l k p))) x5 x6 x7 x8) _;refine CJ (MP (Cu rfl ⟨h.n,rfl,⟨by lia,by lia⟩,fun q Z=>∃ks x5 x6 x7 x8,InU h l k ks/\Fr x5/\Fr x6/\Fr x7/\Fr x8/\Z=eI h l k .ro ks (oF (.int (lI h l k p))) x5 x6 x7 x8,⟨ks,x5,x6,x7,x8,u,h5,h6,h7,h8,rfl⟩,fun q dd Z hdd hI=>?_,fun Z hI=>?_⟩))
  .obtain⟨ks,x5,x6,x7,x8,u,h5,h6,h7,h8,rfl⟩:=hI
   obtain⟨rfl,hq⟩:=Oy hdd;clear hdd;refine⟨_,DK h5,?_⟩;walk_at "wp";refine AX (Yy (d:=L (oW h l) k p) (by lia) hq) fun a _ e=>?_;subst e;refine⟨_,_,rfl,h6,Au ?_⟩;show SV _ (eI h l k .ro ks (oF (.int (lI h l k p))) (oF (.int (q:Int))) (oF (.int (wI h l (L (oW h l) k p) q))) x7 x8) _;refine CJ (MP (Cu rfl ⟨h.n,rfl,⟨by lia,by lia⟩,fun r Z=>∃ks x7 x8,InU h l k ks/\Fr x7/\Fr x8/\Z=eI h l k .ro ks (oF (.int (lI h l k p))) (oF (.int (q:Int))) (oF (.int (wI h l (L (oW h l) k p) q))) x7 x8,⟨ks,x7,x8,u,h7,h8,rfl⟩,fun r dd Z hdd hI=>?_,fun Z hI=>?_⟩))
   .obtain⟨ks,x7,x8,u,h7,h8,rfl⟩:=hI
    obtain⟨rfl,hr⟩:=Oy hdd;clear hdd;have hlen:=u.len;refine⟨_,DK h7,?_⟩;walk_at "wp";refine AX (Yy (d:=W (oW h l) (L (oW h l) k p) q) (XO (by lia)) hr) fun a _ e=>?_;subst e;refine⟨_,_,rfl,h8,Au ?_⟩;show SV _ (eI h l k .ro ks (oF (.int (lI h l k p))) (oF (.int (q:Int))) (oF (.int (wI h l (L (oW h l) k p) q))) (oF (.int (r:Int))) (oF (.int (wI h l (W (oW h l) (L (oW h l) k p) q) r)))) _;walk_at "wp";refine EF (fun e=>?_) fun e=>?_
    .have e:wI h l (W (oW h l) (L (oW h l) k p) q) r ≥ 0:=of_decide_eq_true e
     have e1:1<=W (oW h l) (W (oW h l) (L (oW h l) k p) q) r:=by
      have:((W (oW h l) (W (oW h l) (L (oW h l) k p) q) r:Nat):Int)-1 ≥ 0:=e;lia
     refine Ul ?_;walk_at "wp";refine⟨⟨_,rfl⟩,?_⟩;walk_at "wp";refine⟨by rw[List.length_map]; lia,?_⟩;refine Bk ⟨Sg.dd ks (wI h l (W (oW h l) (L (oW h l) k p) q) r),oF (.int (r:Int)),oF (.int (wI h l (W (oW h l) (L (oW h l) k p) q) r)),u.add ⟨p,q,r,rfl⟩ e1,rfl,rfl,?_⟩;unfold eI;rw[<- WU];rfl
    .walk_at "wp"
     exact Bk ⟨ks,oF (.int (r:Int)),oF (.int (wI h l (W (oW h l) (L (oW h l) k p) q) r)),u,rfl,rfl,rfl⟩
   obtain⟨ks,x7,x8,u,h7,h8,rfl⟩:=hI;exact Bk ⟨ks,oF (.int (q:Int)),oF (.int (wI h l (L (oW h l) k p) q)),x7,x8,u,rfl,rfl,h7,h8,rfl⟩
  obtain⟨ks,x5,x6,x7,x8,u,h5,h6,h7,h8,rfl⟩:=hI;exact Bk ⟨ks,oF (.int (lI h l k p)),x5,x6,x7,x8,u,rfl,h5,h6,h7,h8,rfl⟩
 obtain⟨ks,x4,x5,x6,x7,x8,u,h4,h5,h6,h7,h8,rfl⟩:=hI;refine Au ?_;show SV _ (eI h l k .lent ks x4 x5 x6 x7 x8) _;walk_at "wp";refine⟨_,Tb ks,?_⟩;walk_at "wp";exact⟨⟨ks,u,rfl⟩,rfl⟩
local macro_rules | `(tactic| walk_at "wp1")=>`(tactic| first
 | (with_reducible refine Ba ?_)|(with_reducible refine Au ?_)|(with_reducible refine Fb ?_)|(with_reducible refine Cd ?_)|(with_reducible refine Fo ?_)|(with_reducible refine Fj ?_)|(with_reducible refine Hi ?_)|(with_reducible refine C0 ?_)|(with_reducible refine Fq ?_)|(with_reducible refine Fm ?_)|(with_reducible refine Fi ?_)|(with_reducible refine Dx ?_)|(with_reducible refine Cv ?_)
 | (with_reducible refine GX ?_)|(with_reducible refine Dw ?_)|(with_reducible refine Ct ?_)|(with_reducible refine EX ?_)|(with_reducible refine ET ?_)|(with_reducible refine GY ?_)|(with_reducible refine EY ?_)|(with_reducible refine EW ?_)|(with_reducible refine Ex ?_)|(with_reducible refine EZ ?_)
 | (with_reducible refine Kh ?_)|(with_reducible refine Jv ?_)|(with_reducible refine Cp ?_)|(with_reducible refine DJ ?_)
 | (with_reducible refine Dr ?_)|(with_reducible refine Fu ?_)|(with_reducible refine Ft ?_)|(with_reducible refine Hj ?_)|(with_reducible refine Fs ?_)
 | (with_reducible refine Cq ?_)|(with_reducible refine DA ?_)|(with_reducible refine E5 ?_)|(with_reducible refine DC ?_)
 | ((with_reducible apply Cu); · rfl)
 | ((with_reducible refine Exists.intro _ (And.intro (BG ?_) ?_)); · rfl)
 | ((with_reducible apply ex1); · rfl)|((with_reducible apply ex2); · rfl)|((with_reducible apply ex3); · rfl)|((with_reducible apply ex0); · rfl)|((with_reducible refine And.intro ?_ ?_); · rfl)|((with_reducible refine G3 ?_ ?_); · rfl)|((with_reducible refine Gk ?_ ?_); · rfl))
local macro_rules | `(tactic| walk_at "wp")=>`(tactic| repeat walk_at "wp1")
open Nw Sp
noncomputable abbrev nmK(h:Hs)(l:List Nat)(d:Nat):Nm:=nmL h.n.toNat h.hands l d
noncomputable abbrev nmT(h:Hs)(l:List Nat)(k:Nat):List D:=(List.range k).map fun j=>nmD (nmK h l (j+1))
noncomputable abbrev Nk(h:Hs)(l:List Nat)(d:Nat):N3:=Nws (oW h l) (nmK h l) d
noncomputable abbrev nn3(n:Nat):D:=.tup (List.replicate n (.tup (List.replicate n (.tup (List.replicate n .non)))))
theorem V8(n:Nat):nn3 n=nwD n fun _ _ _=>none:=by
 have c:∀d:D,rgD n (fun _=>d)=.tup (List.replicate n d):=fun d=>by rw[Me,List.map_const',List.length_range]
 unfold nwD;rw[c,c,c];rfl
theorem Pe{h:Hs}(ok:h.Ok):FV E2 [(.own,.fz h.d)] fun a _=>a=.fz (nwD h.n.toNat fun _ _ _=>none):=by
 rw[<- V8];refine C5 rfl rfl ?_;show SV FI [some (.own,.fz h.d),none,none] _;unfold FI;have e:=Fh .own h ok;have hn:=three ok.n1 ok.n2;obtain⟨n,ls⟩:=h;clear ok;rcases hn with rfl|rfl|rfl
 all_goals
  walk_at "wp";refine C6 e ?_;walk_at "wp";rfl
noncomputable abbrev vD(n:Nat)(f:Nat->N3):List D:=(List.range n).map fun q=>nwD n (f q)
noncomputable def anD(h:Hs)(c:Nat)(fs:List N3):D:=.tup [nmD (some (c,num (used h.n.toNat fs) c)),nwD h.n.toNat (told h.n.toNat (h.hands c) (some (c,num (used h.n.toNat fs) c)) fs)]
theorem RL{h:Hs}(ok:h.Ok){c:Nat}(hc:c∈h.ls.map (·.1)){fs:List N3}(h0:fs≠[])(hf:fs.length<=4):FV BM [(.own,.fz h.d),(.own,.fz (chD c)),(.own,.fz (nL h.n.toNat fs))] fun a _=>a=.fz (anD h c fs):=by
 cases fs with
 | nil=>exact absurd rfl h0
 | cons f0 fs=>exact JH ok hc hf
theorem Vy(n:Nat)(hd:Nat->List Int)(f:Nat->N3)(c:Nat):(iL (hd c)).map (fun d=>nwD n (f (nD d).toNat))=(G0 hd f c).map (nwD n):=by
 rw[G0,List.map_map,iL,List.map_map]; rfl
theorem Sb{n:Nat}{f g:Nat->N3}(h:∀q,q<n->f q=g q):vD n f=vD n g:=List.map_congr_left fun q hq=>by rw[h q (List.mem_range.mp hq)]
theorem YC(n:Nat)(f:Nat->N3)(k:Nat)(T:N3):((vD n f).map A.fz).set k (.fz (nwD n T))=(vD n fun q=>if q=k then T else f q).map A.fz:=by
 rw[<- List.map_set];congr 1;refine List.ext_getElem? fun q=>?_;rw[List.getElem?_set];by_cases hk:k=q
 .subst hk
  rw[if_pos rfl];by_cases hq:k<n
  .simp[hq]
  .simp[hq]
 .rw[if_neg hk]
  have:¬q=k:=fun z=>hk z.symm;by_cases hq:q<n
  .simp[hq,this]
  .simp[hq]
noncomputable abbrev Fk(h:Hs)(l:List Nat)(k:Nat):Nat->N3:=fun p=>Nk h l (L (oW h l) k p)
theorem Vf{h:Hs}(ok:h.Ok){l:List Nat}(hl:Lets h l){k:Nat}(hk:k<=l.length):Fk h l k=Fw h.n.toNat h.hands F0' (l.take k):=funext fun p=>(Ob (good ok hl) k hk p).symm
theorem XQ{h:Hs}(ok:h.Ok){l:List Nat}(hl:Lets h l){k c:Nat}(hc:l[k]? = some c):anD h c (G0 h.hands (Fk h l k) c)=.tup [nmD (nmK h l (k+1)),nwD h.n.toNat (Nk h l (k+1))]:=by
 have g:=good ok hl;have hk:k<l.length:=(List.getElem?_eq_some_iff.mp hc).1;have e1:=LM (n:=h.n.toNat) (hd:=h.hands) hc;have e2:=Ow (Ni g) (IZ g) Tf QM (N4 g (show k<=l.length by lia)) (CY g hc) (Iq hc fun p=>rfl);have e3:M9 h.n.toNat h.hands (Fw h.n.toNat h.hands F0' (l.take k)) c=num (used h.n.toNat (G0 h.hands (Fk h l k) c)) c:=by rw[<- Vf ok hl (by lia)]; rfl
 rw[e3] at e1;unfold anD;rw[<- e1];show D.tup [_,nwD _ (told _ _ _ _)]=D.tup [_,nwD _ (Nws _ _ _)];rw[<- e2]
theorem Si{h:Hs}(ok:h.Ok){l:List Nat}(hl:Lets h l){k c:Nat}(hc:l[k]? = some c):(fun(q:Nat)=>if (q:Int)∈h.hands c then Nk h l (k+1) else Fk h l k q)=Fk h l (k+1):=by
 have g:=good ok hl;funext q;show _=Nws _ _ (L (oW h l) (k+1) q);rw[L];by_cases hq:(q:Int)∈h.hands c
 .rw[if_pos hq,if_pos ((CY g hc q).mp hq)]
 .rw[if_neg hq,if_neg (fun z=>hq ((CY g hc q).mpr z))]
theorem Xv{h:Hs}{c i p:Nat}(hx:(h.hands c)[i]? = some (p:Int))(T:N3)(f:Nat->N3):((vD h.n.toNat fun(q:Nat)=>if (q:Int)∈(h.hands c).take i then T else f q).map A.fz).set p (.fz (nwD h.n.toNat T))=(vD h.n.toNat fun(q:Nat)=>if (q:Int)∈(h.hands c).take (i+1) then T else f q).map A.fz:=by
 rw[YC];congr 1;refine Sb fun q hq=>?_;rw[List.take_succ,hx];by_cases z1:q=p
 .subst z1
  rw[if_pos rfl,if_pos (by simp)]
 .rw[if_neg z1]
  have z2:¬((q:Int)=(p:Int)):=fun z=>z1 (by lia);by_cases z3:(q:Int)∈(h.hands c).take i
  .rw[if_pos z3,if_pos (by simp[z3])]
  .rw[if_neg z3,if_neg (by simp[z3,z2])]
theorem Vw{f g:List A->Option A}{a b c:ME}{Z:Ro}{Q:R->Ro->Prop}(h:EV a Z fun r1 Z1=>EV b Z1 fun r2 Z2=>∃as,peeks Z2 [r1,r2]=some as/\∃z,f as=some z/\∃k,DL z=some k/\if k=true then EV c Z2 (fun r3 Z3=>∃bs,peeks Z3 [r2,r3]=some bs/\∃z,g bs=some z/\Q (.val z) Z3) else Q (.val (.fz (.bl false))) Z2):EV (GQ f g a b c) Z Q:=by
 obtain⟨r1,Z1,e1,r2,Z2,e2,as,e3,z,e4,k,e5,q⟩:=h;cases k with
 | false =>
  rw[if_neg Bool.false_ne_true] at q;refine⟨_,_,?_,q⟩;simp only[GQ,e1,e2,e3,e4,e5,Option.bind_some,Bool.false_eq_true,if_false]
 | true =>
  rw[if_pos rfl] at q;obtain⟨r3,Z3,e6,bs,e7,z2,e8,q⟩:=q;refine⟨_,_,?_,q⟩;simp only[GQ,e1,e2,e3,e4,e5,e6,e7,e8,Option.bind_some,Option.map_some,if_true]
theorem Qz(ds:List D){n:Nat}(h:ds.length=n):CQ [.lst (ds.map A.fz)]=some (.fz (.int (n:Int))):=by
 subst h;simp[CQ,on1,AH,Ck,Fx,fzU,BV]
theorem V3{h:Hs}(ok:h.Ok){l:List Nat}(hl:Lets h l)(hll:l.length<=60){k:Nat}(hk:k<=l.length){ks:List Int}(u:InU h l k ks):lsA [.lst (((ks.map D.int).map fun d=>nmD (nmK h l (nD d+1).toNat)).map A.fz)]=some (.fz (.int (ks.length:Int))):=by
 have hlen:=u.len;have e1:CS (.lst (((ks.map D.int).map fun d=>nmD (nmK h l (nD d+1).toNat)).map A.fz))=some ((ks.map D.int).map fun d=>nmD (nmK h l (nD d+1).toNat)):=BV _;have hd:∀x∈ks,∃d,Use (oW h l) k d/\1<=d/\(nD (D.int x)+1).toNat=d:=fun x hx=>by
  obtain⟨d,h1,h2,rfl⟩:=u.us x hx;refine⟨d,h1,h2,?_⟩;show((d:Int)-1+1).toNat=d;lia
 have c1:(((ks.map D.int).map fun d=>nmD (nmK h l (nD d+1).toNat)).all fun d=>gk d&&Jr d)=true:=by
  rw[List.all_eq_true];intro y hy;rw[List.map_map] at hy;obtain⟨x,hx,rfl⟩:=List.mem_map.mp hy;obtain⟨d,_,h2,e⟩:=hd x hx;show(gk (nmD (nmK h l (nD (D.int x)+1).toNat))&&Jr (nmD (nmK h l (nD (D.int x)+1).toNat)))=true;rw[e,UZ];cases q:nmK h l d with
  | none=>exact absurd q (QM d h2)
  | some p=>rfl
 have c2:((ks.map D.int).map fun d=>nmD (nmK h l (nD d+1).toNat)).Nodup:=by
  rw[List.map_map];refine List.Pairwise.map _ (R:=fun a b:Int=>a≠b/\a∈ks/\b∈ks) (fun a b hab=>?_) ?_
  .obtain⟨d1,a1,a2,a3⟩:=hd a hab.2.1
   obtain⟨d2,b1,b2,b3⟩:=hd b hab.2.2;show nmD (nmK h l (nD (D.int a)+1).toNat)≠nmD (nmK h l (nD (D.int b)+1).toNat);rw[a3,b3];intro e;have:=N4 (good ok hl) hk d1 d2 a1 b1 (QO e);have e3:(a+1).toNat=d1:=a3;have e4:(b+1).toNat=d2:=b3;have:=hab.1;lia
  .rw[List.pairwise_iff_forall_sublist]
   intro a b hs;refine⟨?_,hs.subset (by simp),hs.subset (by simp)⟩;have:=u.nd.sublist hs;simp at this;exact this
 have c3:((ks.map D.int).map fun d=>nmD (nmK h l (nD d+1).toNat)).length=ks.length:=by rw[List.length_map,List.length_map]
 show(CS _).bind _=_;rw[e1,Option.bind_some,if_pos ⟨c1,c2,by rw[c3]; lia⟩,c3]
noncomputable abbrev eW(ns:List Int)(h:Hs)(l:List Nat)(z:Str)(f:Nat->N3)(la nm:List D)(x9 x10 x11 x12 x13 x14:Slot):Ro:=[some (.ro,.scr ns),oF h.d,oF (.str z),oF (.int h.n),oF (owD h l),oF (.lst (wT h l l.length)),some (.own,.lst ((vD h.n.toNat f).map A.fz)),some (.own,.lst (la.map A.fz)),some (.own,.lst (nm.map A.fz)),x9,x10,x11,x12,x13,x14]
theorem Qx(ns:List Int)(hl:ns.length<=63):∃as',Hw [(.ro,.scr ns)]=some (.fz (.bl true),as'):=by
 suffices hh:FV Hw [(.ro,.scr ns)] fun a _=>a=.fz (.bl true) by
  obtain⟨a,os,e,rfl⟩:=hh;exact⟨os,e⟩
 have hL:100000<=LIM:=by decide
 obtain⟨c,c2,t1⟩:=Nt ns 0;obtain⟨as,q1,hb,t2⟩:=RK .own c;obtain⟨h,as1,ok,hb1,t3⟩:=T9 hb (by lia);obtain⟨c',c2',t4⟩:=Nt ns 1;obtain⟨bs,q2,hb2,t5⟩:=RK .own c';obtain⟨z0,bs1,o2,o3,hz0,hzl0,hb3,t6⟩:=s_row ok hb2 (by lia) 12 (by lia) (by lia);obtain⟨c3,c3',t7⟩:=Nt ns 2;obtain⟨cs,q3,hb4,t8⟩:=RK .own c3;obtain⟨d3,cs1,g1,g2,hb5,t9⟩:=Ud hb4 (by lia) 3 (by lia) (by lia);have n1:=ok.n1;have n2:=ok.n2;have hnn:((h.n.toNat:Nat):Int)=h.n:=Int.toNat_of_nonneg (by lia);refine C5 rfl rfl ?_;show SV Kn [some (.ro,.scr ns),none,none,none,none,none,none,none,none,none,none,none,none,none,none] _;unfold Kn;generalize hM:E8=M;have mm:∀i:Int,M [.fz (.int i),.fz (.int h.n)]=some (.fz (.int (i*h.n))):=fun i=>hM ▸ UW n1 n2;clear hM;walk_at "wp";refine C6 t1 ?_;walk_at "wp";refine C6 t2 ?_;walk_at "wp";refine C6 t3 ?_;refine⟨_,_,rfl,rfl,Au ?_⟩;show SV _ [some (.ro,.scr ns),oF h.d,none,none,none,none,none,none,none,none,none,none,none,none,none] _;walk_at "wp";refine C6 t4 ?_;walk_at "wp";refine C6 t5 ?_;walk_at "wp";refine C6 t6 ?_;refine⟨_,_,rfl,rfl,Au ?_⟩;show SV _ [some (.ro,.scr ns),oF h.d,oF (.str z0),none,none,none,none,none,none,none,none,none,none,none,none] _;walk_at "wp";refine C6 t7 ?_;walk_at "wp";refine C6 t8 ?_;walk_at "wp";refine C6 t9 ?_;walk_at "wp";refine⟨_,W2 (by lia) (by lia) (by lia),?_⟩;have hz:Lets h (Txt.slice (D9 z0 (1+d3).toNat) none (some 60)).cps.toList:=fun x hx=>hz0.2 x (T5 (Pj hx));have hzl:=RS (D9 z0 (1+d3).toNat);clear t1 t2 t3 t4 t5 t6 t7 t8 t9
 walk_at "wp";generalize Txt.slice (D9 z0 (1+d3).toNat) none (some 60)=z at hz hzl |-;obtain⟨l,hzl2⟩:∃l,z.cps.toList=l:=⟨_,rfl⟩;have hl:Lets h l:=hzl2 ▸ hz;have zl:z.length=l.length:=by rw[<- hzl2]; simp; rfl
 have hl60:l.length<=60:=by lia
 have hll:l.length<=100:=by lia
 have g:=good ok hl;refine AX (W7 ok hzl2 hl hll) fun a _ e=>?_;subst e;refine⟨_,_,rfl,rfl,Au ?_⟩;walk_at "wp";refine⟨_,_,F7 rfl,Au ?_⟩;show SV _ [some (.ro,.scr ns),oF h.d,oF (.str z),oF (.int h.n),oF (owD h l),none,none,none,none,none,none,none,none,none,none] _;walk_at "wp";refine AX (W6 ok hl hll) fun a _ e=>?_;subst e;refine⟨_,_,rfl,rfl,Au ?_⟩;walk_at "wp";refine⟨_,_,F7 rfl,Au ?_⟩;show SV _ [some (.ro,.scr ns),oF h.d,oF (.str z),oF (.int h.n),oF (owD h l),oF (.lst (wT h l l.length)),none,none,none,none,none,none,none,none,none] _;walk_at "wp";refine EU h.n.toNat (fun p=>nwD h.n.toNat (Fk h l 0 p)) ?_;walk_at "wp";refine⟨by rw[hnn],by lia,fun k hk=>?_,?_⟩
 .walk_at "wp"
  refine AX (Pe ok) fun a _ e=>?_;subst e;exact⟨_,rfl,rfl,rfl⟩
 refine⟨_,_,rfl,rfl,Au ?_⟩;walk_at "wp";refine EU h.n.toNat (fun p=>D.int (lI h l 0 p)) ?_;walk_at "wp";refine⟨by rw[hnn],by lia,fun k hk=>?_,?_⟩
 .walk_at "wp"
  rfl
 refine⟨_,_,rfl,rfl,Au ?_⟩;refine Ba (Cd (Ex (DJ ⟨[],rfl,rfl,_,_,rfl,rfl,Au ?_⟩)));show SV _ (eW ns h l z (Fk h l 0) (lT h l 0) (nmT h l 0) none none none none none none) _;refine Ba (CJ (SW (Cu rfl ⟨z,rfl,by lia,fun k Z=>∃x9 x10 x11 x12 x13 x14,Fr x9/\Fr x10/\Fr x11/\Fr x12/\Fr x13/\Fr x14/\Z=eW ns h l z (Fk h l k) (lT h l k) (nmT h l k) x9 x10 x11 x12 x13 x14,⟨none,none,none,none,none,none,rfl,rfl,rfl,rfl,rfl,rfl,rfl⟩,fun k d Z hd hI=>?_,fun Z hI=>?_⟩)))
 .obtain⟨x9,x10,x11,x12,x13,x14,h9,h10,h11,h12,h13,h14,rfl⟩:=hI
  obtain⟨rfl,hk⟩:=Th hd;rw[zl] at hk;have hc0:l[k]? = some l[k]:=List.getElem?_eq_getElem hk;have ec:z.cps.getD k 0=l[k]:=by rw[P5,hzl2,List.getD_eq_getElem?_getD,hc0]; rfl
  rw[ec];have hc:l[k]∈h.ls.map (·.1):=hl _ (List.getElem_mem hk);generalize l[k]=c at *;clear hd ec;obtain⟨hh1,hh2⟩:=FL ok hc;have hhl:=h.hands_len ok c;have fm:=Vy h.n.toNat h.hands (Fk h l k) c;have f1:G0 h.hands (Fk h l k) c≠[]:=fun e=>hh1 (List.map_eq_nil_iff.mp e);have f2:(G0 h.hands (Fk h l k) c).length<=4:=by rw[G0,List.length_map]; exact hhl
  have e3:=RL ok hc f1 f2;rw[XQ ok hl hc0] at e3;obtain⟨N,hN,hNle⟩:∃N,nmK h l (k+1)=some (c,N)/\N<=(h.hands c).length*(h.n.toNat*(h.n.toNat*h.n.toNat)):=⟨nuL h.n.toNat h.hands l (k+1),by rw[Na hc0]; exact LM hc0,X9 hc0⟩;rw[hN] at e3;refine⟨_,Mx h9 h10,?_⟩;show SV _ (eW ns h l z (Fk h l k) (lT h l k) (nmT h l k) (oF (.int (k:Int))) (oF (chD c)) x11 x12 x13 x14) _;walk_at "wp";refine NX (iL (h.hands c)) (fun d=>nwD h.n.toNat (Fk h l k (nD d).toNat)) ?_;walk_at "wp";refine⟨_,Rb hc0,?_⟩;walk_at "wp";refine⟨by rw[DF]; lia,fun d hd=>?_,?_⟩
  .obtain⟨x,hx,rfl⟩:=QH.mp hd
   obtain⟨q0,q1⟩:=hh2 x hx;obtain⟨p,rfl⟩:∃p:Nat,x=p:=⟨x.toNat,by lia⟩;walk_at "wp";refine⟨_,ixL (Ik (by lia)),?_⟩;exact⟨_,rfl,rfl,rfl⟩
  rw[fm];refine⟨_,_,J7 _ _,?_⟩;walk_at "wp";refine AX e3 fun a _ e=>?_;subst e;refine⟨_,_,rfl,_,rfl,_,YA h11 h12,Au ?_⟩;show SV _ (eW ns h l z (Fk h l k) (lT h l k) (nmT h l k) (oF (.int (k:Int))) (oF (chD c)) (oF (.tup [chD c,.int (N:Int)])) (oF (nwD h.n.toNat (Nk h l (k+1)))) x13 x14) _;walk_at "wp";rw[DR];walk_at "wp";refine AX (Ot _) fun a _ e=>?_;subst e;walk_at "wp";refine Vw ?_;walk_at "wp";refine⟨_,Rb hc0,?_⟩;walk_at "wp";refine⟨_,mm _,?_⟩;walk_at "wp";refine⟨_,mm _,?_⟩;walk_at "wp";refine⟨_,mm _,?_⟩;walk_at "wp";have hb:(N:Int)<1+((iL (h.hands c)).length:Int)*h.n*h.n*h.n:=by
   rw[DF];have e0:((h.hands c).length:Int)*h.n*h.n*h.n=(((h.hands c).length*(h.n.toNat*(h.n.toNat*h.n.toNat)):Nat):Int):=by
    rw[Int.natCast_mul,Int.natCast_mul,Int.natCast_mul,hnn,Int.mul_assoc,Int.mul_assoc]
   rw[e0];lia
  rw[decide_eq_true hb];refine Gk rfl (C0 (Au ?_));show SV _ (eW ns h l z (Fk h l k) (lT h l k) (nmT h l k) (oF (.int (k:Int))) (oF (chD c)) (oF (.tup [chD c,.int (N:Int)])) (oF (nwD h.n.toNat (Nk h l (k+1)))) x13 x14) _;refine Ba (RU ⟨_,rfl⟩ ?_);walk_at "wp";refine⟨by rw[List.length_map,List.length_map,List.length_range]; lia,Au ?_⟩;have e5:(nmT h l k).map A.fz++[.fz (.tup [chD c,.int (N:Int)])]=(nmT h l (k+1)).map A.fz:=by
   have e0:D.tup [chD c,.int (N:Int)]=nmD (nmK h l (k+1)):=by rw[hN]; rfl
   rw[e0,nmT,nmT,List.range_succ,List.map_append,List.map_append]; rfl
  show SV _ ((eW ns h l z (Fk h l k) (lT h l k) (nmT h l k) (oF (.int (k:Int))) (oF (chD c)) (oF (.tup [chD c,.int (N:Int)])) (oF (nwD h.n.toNat (Nk h l (k+1)))) x13 x14).set 8 (some (.own,.lst ((nmT h l k).map A.fz++[.fz (.tup [chD c,.int (N:Int)])])))) _;rw[e5];show SV _ (eW ns h l z (Fk h l k) (lT h l k) (nmT h l (k+1)) (oF (.int (k:Int))) (oF (chD c)) (oF (.tup [chD c,.int (N:Int)])) (oF (nwD h.n.toNat (Nk h l (k+1)))) x13 x14) _;refine Ba (CJ (DX ?_));walk_at "wp";refine⟨_,Rb hc0,?_⟩;walk_at "wp";refine⟨fun i Z=>∃y13,Fr y13/\Z=eW ns h l z (fun(q:Nat)=>if (q:Int)∈(h.hands c).take i then Nk h l (k+1) else Fk h l k q) (sT h k ((h.hands c).take i) (lI h l k)) (nmT h l (k+1)) (oF (.int (k:Int))) (oF (chD c)) (oF (.tup [chD c,.int (N:Int)])) (oF (nwD h.n.toNat (Nk h l (k+1)))) y13 x14,⟨x13,h13,rfl⟩,fun i d Z hd hI=>?_,fun Z hI=>?_⟩
  .obtain⟨y13,g13,rfl⟩:=hI
   rw[iL,List.getElem?_map,map_eq_some_iff] at hd;obtain⟨x,hx,rfl⟩:=hd;obtain⟨q0,q1⟩:=hh2 x (List.mem_of_getElem? hx);obtain⟨p,rfl⟩:∃p:Nat,x=p:=⟨x.toNat,by lia⟩;refine⟨_,DK g13,Ba (K4 ?_)⟩;walk_at "wp";refine⟨⟨_,rfl⟩,?_⟩;walk_at "wp";refine⟨p,by rw[List.length_map,List.length_map,List.length_range]; exact Ky (by lia),Au (K4 ?_)⟩;walk_at "wp";refine⟨⟨_,rfl⟩,?_⟩;walk_at "wp";refine⟨p,by rw[List.length_map,List.length_map,List.length_range]; exact Ky (by lia),?_⟩;refine Bk ⟨oF (.int (p:Int)),rfl,?_⟩;have s1:=Xv hx (Nk h l (k+1)) (Fk h l k);have s2:=Nz (h:=h) (k:=k) (f:=lI h l k) hx;unfold eW;rw[<- s1,<- s2];rfl
  .obtain⟨y13,g13,rfl⟩:=hI
   have hlen:(iL (h.hands c)).length=(h.hands c).length:=DF _;have e7:sT h k (h.hands c) (lI h l k)=lT h l (k+1):=D3 fun q _=>by rw[N8 ok hl hc0]
   rw[hlen,List.take_length,Si ok hl hc0,e7];refine Au ?_;show SV _ (eW ns h l z (Fk h l (k+1)) (lT h l (k+1)) (nmT h l (k+1)) (oF (.int (k:Int))) (oF (chD c)) (oF (.tup [chD c,.int (N:Int)])) (oF (nwD h.n.toNat (Nk h l (k+1)))) y13 x14) _;obtain⟨a,os,ea,⟨ks,u,rfl⟩,rfl⟩:=RM ok (l:=l) (k:=k+1) (by lia) hll;have hks:=u.len;refine Ba (Cd ?_);refine NX (ks.map D.int) (fun d=>nmD (nmK h l (nD d+1).toNat)) ?_;walk_at "wp";refine C6 ea ?_;refine⟨_,rfl,UT _,by rw[List.length_map]; lia,fun d hd=>?_,?_⟩
   .obtain⟨x,hx,rfl⟩:=List.mem_map.mp hd
    obtain⟨d,u1,u2,e8⟩:=u.us x hx;have u3:=Sa u1;obtain⟨m,rfl⟩:∃m:Nat,x=m:=⟨d-1,by lia⟩;walk_at "wp";refine⟨_,ixL (Ik (by lia)),?_⟩;exact⟨_,rfl,rfl,rfl⟩
   refine⟨_,_,rfl,h14,Au ?_⟩;show SV _ (eW ns h l z (Fk h l (k+1)) (lT h l (k+1)) (nmT h l (k+1)) (oF (.int (k:Int))) (oF (chD c)) (oF (.tup [chD c,.int (N:Int)])) (oF (nwD h.n.toNat (Nk h l (k+1)))) y13 (some (.own,.lst (((ks.map D.int).map fun d=>nmD (nmK h l (nD d+1).toNat)).map A.fz)))) _;walk_at "wp";refine⟨_,V3 ok hl hl60 (by lia) u,?_⟩;walk_at "wp";refine⟨_,Qz _ (by rw[List.length_map,List.length_map]),?_⟩;walk_at "wp";refine EF (fun e=>?_) fun _=>?_
   .have e:(ks.length:Int)<(ks.length:Int):=of_decide_eq_true e
    exact absurd e (Int.lt_irrefl _)
   walk_at "wp";exact Bk ⟨oF (.int (k:Int)),oF (chD c),oF (.tup [chD c,.int (N:Int)]),oF (nwD h.n.toNat (Nk h l (k+1))),y13,some (.own,.lst (((ks.map D.int).map fun d=>nmD (nmK h l (nD d+1).toNat)).map A.fz)),rfl,rfl,rfl,rfl,g13,rfl,rfl⟩
 obtain⟨x9,x10,x11,x12,x13,x14,h9,h10,h11,h12,h13,h14,rfl⟩:=hI;refine Au ?_;walk_at "wp";refine AX (W5 ok) fun a _ e=>?_;subst e;walk_at "wp";rfl
end Gk31
end
section
namespace Gk31
open PySem PySem.Spec PyProof.Rows L2 J
noncomputable def Fe(K:Frag)(n:Str)(st:Stmt):Prop:=∃(f:Addr) (fd:FuncData),PySem.W.nsIn K mainGlobals n=some (some (.ref f))/\Fun K n n st f fd
theorem XY{K:Frag}{n:Str}{st:Stmt}{f:Addr}{oc:Value}{od an:Option Addr}{sl:Array (Option Value)}{kV dc pm cd ct:Value}(a:PySem.W.nsIn K mainGlobals n=some (some (.ref f)))(l:K.lookup f=some ⟨oc,od,.func (PySem.W.fnOf n n (Ea st) (Cr st) (A6 st) .none kV dc pm an cd ct),sl⟩)(c:PySem.W.codeIn K cd n=true)(k:PySem.W.keepIn K (.ref f)=true):Fe K n st:=⟨f,_,a,Vz l c k⟩
theorem df(P:Program)(w:World){K:Frag}{h:Heap}{mg:Str->Option Value}{N:Nat}{n:Str}{st:Stmt}{ps:List Str}{sp:Sp}(X:K.In h)(G:h.Ns mainGlobals mg)(e:Fe K n st)(ok:∀{f fd},Fun K n n st f fd->∀base,FnOk P w K mg base CX0 N f fd ps sp)(hb:∀(kV doc pm:Value) (an:Option Addr) (cdv ct:Value) (us:List Value),us.length=ps.length->bindArgs (PySem.W.fnOf n n (Ea st) (Cr st) (A6 st) .none kV doc pm an cdv ct) ⟨us,[]⟩=pure (ps.zip us)):∀base,Def P w K mg base CX0 N n ps sp:=by
 obtain⟨f,fd,a,F⟩:=e;exact fun base=>⟨f,fd,PySem.W.mg_of X G a,F.kp,F.binds hb,ok F base⟩
theorem dfL(P:Program)(w:World){K:Frag}{h:Heap}{mg:Str->Option Value}{N:Nat}{st:Stmt}{ps:List Str}{sp:Sp}(X:K.In h)(G:h.Ns mainGlobals mg)(e:Fe K A8 st)(ok:∀{f fd},PySem.W.nsIn K mainGlobals A8=some (some (.ref f))->Fun K A8 A8 st f fd->∀base,FnOk P w K mg base CX0 N f fd ps sp)(hb:∀(kV doc pm:Value) (an:Option Addr) (cdv ct:Value) (us:List Value),us.length=ps.length->bindArgs (PySem.W.fnOf A8 A8 (Ea st) (Cr st) (A6 st) .none kV doc pm an cdv ct) ⟨us,[]⟩=pure (ps.zip us)):∀base,Def P w K mg base CX0 N A8 ps sp:=by
 obtain⟨f,fd,a,F⟩:=e;exact fun base=>⟨f,fd,PySem.W.mg_of X G a,F.kp,F.binds hb,ok a F base⟩
theorem ar1{α:Type}{P:List α -> Prop}(h:∀a,P [a])(us:List α)(e:us.length=1):P us:=by
 obtain⟨a,rfl⟩:=V1 e;exact h a
theorem ar2{α:Type}{P:List α -> Prop}(h:∀a b,P [a,b])(us:List α)(e:us.length=2):P us:=by
 obtain⟨a,b,rfl⟩:=Qy e;exact h a b
theorem ar3{α:Type}{P:List α -> Prop}(h:∀a b c,P [a,b,c])(us:List α)(e:us.length=3):P us:=by
 cases us with
 | nil=>cases e
 | cons a t=>exact ar2 (P:=fun t=>P (a::t)) (h a) t (Nat.succ.inj e)
theorem all_mk{l:PySem.W.OpenLaw}{w:World}{K:Frag}{h:Heap}{mg:Str->Option Value}{fa:Addr}(X:K.In h)(G:h.Ns mainGlobals mg)(hfa:mg "law" = some (.ref fa))(e0:Fe K "_law_take" (top 38))(e1:Fe K "_law_house" (top 39))(e2:Fe K "_law_row" (top 40))(e3:Fe K "_law_owns" (top 41))(e4:Fe K "_law_newest" (top 42))(e5:Fe K "_law_whole" (top 45))(e6:Fe K "_law_same" (top 46))(e7:Fe K "is_pair" (top 3))(e8:Fe K "is_whole" (top 1))(e9:Fe K "is_count_of_hands" (top 16))(e10:Fe K "is_number_below" (top 2))(e11:Fe K "are_numbers_below" (top 5))(e12:Fe K "is_list_of_numbers_below" (top 4))(e13:Fe K "is_rising_list_below" (top 6))(e14:Fe K "is_small_letter" (top 19))(e15:Fe K "is_entry" (top 18))(e16:Fe K "are_entries" (top 17))(e17:Fe K "is_house" (top 15))(e18:Fe K "need_house" (top 20))(e19:Fe K "letters_of" (top 21))(e20:Fe K "is_letter" (top 22))(e21:Fe K "need_letter" (top 23))(e22:Fe K "hands_of" (top 24))(e23:Fe K "stock" (top 27))(e24:Fe K "_law_stock_good" (top 48))(e25:Fe K "_law_bag" (top 37))(e26:Fe K "no_news" (top 26))(e27:Fe K "unused_name" (top 31))(e28:Fe K "first_hand" (top 28))(e29:Fe K "second_hand" (top 29))(e30:Fe K "is_known_to" (top 34))(e31:Fe K "compared" (top 33))(e32:Fe K "newest_about" (top 32))(e33:Fe K "news_behind" (top 30))(e34:Fe K "_law_cell" (top 36))(e35:Fe K "_law_of" (top 44))(e36:Fe K "_law_in_use" (top 47))(e37:Fe K "law" (top 49)){t_FEWEST_HANDS:Tok}(i_FEWEST_HANDS:PySem.W.nsIn K mainGlobals "FEWEST_HANDS" = some (some (.int 2 t_FEWEST_HANDS))){t_MOST_HANDS:Tok}(i_MOST_HANDS:PySem.W.nsIn K mainGlobals "MOST_HANDS" = some (some (.int 4 t_MOST_HANDS))){t_MOST_LETTERS:Tok}(i_MOST_LETTERS:PySem.W.nsIn K mainGlobals "MOST_LETTERS" = some (some (.int 6 t_MOST_LETTERS)))(z_isinstance:PySem.W.nsIn K mainGlobals "isinstance" = some none)(z_len:PySem.W.nsIn K mainGlobals "len" = some none)(z_all:PySem.W.nsIn K mainGlobals "all" = some none)(z_any:PySem.W.nsIn K mainGlobals "any" = some none)(z_range:PySem.W.nsIn K mainGlobals "range" = some none)(z_list:PySem.W.nsIn K mainGlobals "list" = some none)(z_int:PySem.W.nsIn K mainGlobals "int" = some none)(z_bool:PySem.W.nsIn K mainGlobals "bool" = some none)(z_tuple:PySem.W.nsIn K mainGlobals "tuple" = some none)(z_str:PySem.W.nsIn K mainGlobals "str" = some none)(z_abs:PySem.W.nsIn K mainGlobals "abs" = some none)(z_max:PySem.W.nsIn K mainGlobals "max" = some none)(z_min:PySem.W.nsIn K mainGlobals "min" = some none)(z_dict:PySem.W.nsIn K mainGlobals "dict" = some none)(z_sorted:PySem.W.nsIn K mainGlobals "sorted" = some none)(z_set:PySem.W.nsIn K mainGlobals "set" = some none)(z_enumerate:PySem.W.nsIn K mainGlobals "enumerate" = some none)(z_zip:PySem.W.nsIn K mainGlobals "zip" = some none)(z_reversed:PySem.W.nsIn K mainGlobals "reversed" = some none){c b:Addr}(ht:PySem.W.tabIn K A8=some (c,b))(hh:PySem.W.codeHdIn K c b=true): ∃fd:FuncData,(∀(s:Shared) (v:Value),BindsTo s fd ⟨[v],[]⟩ [("_law_script",v)])/\∀base:Heap,K.In base->base.Ns mainGlobals mg->FnOk l.prog w K mg base CX0 12 fa fd ["_law_script"] (spJ K Hw 1):=by
 have z {n:Str} (e:PySem.W.nsIn K mainGlobals n=some none):=PySem.W.mg_none_of X G e;have B:Blt mg K:=⟨z z_isinstance,z z_len,z z_all,z z_any,z z_range,z z_list,z z_int,z z_bool,z z_tuple,z z_str,z z_abs,z z_max,z z_min,z z_dict⟩;have B2:Blt2 mg:=⟨z z_sorted,z z_set,z z_enumerate,z z_zip,z z_reversed⟩;have DT:GInt mg "FEWEST_HANDS" 2:=⟨⟨_,PySem.W.mg_of X G i_FEWEST_HANDS⟩⟩;have E4:GInt mg "MOST_HANDS" 4:=⟨⟨_,PySem.W.mg_of X G i_MOST_HANDS⟩⟩;have DU:GInt mg "MOST_LETTERS" 6:=⟨⟨_,PySem.W.mg_of X G i_MOST_LETTERS⟩⟩;have AB:=df l.prog w X G e0 (fun F s=>KJ F B B2) fun _ _ _ _ _ _=>ar2 fun _ _=>rfl;have EM:=df l.prog w X G e1 (fun F s=>Jx F B B2 (AB s)) fun _ _ _ _ _ _=>ar1 fun _=>rfl;have Gp:=df l.prog w X G e2 (fun F s=>LR F B B2 (AB s)) fun _ _ _ _ _ _=>ar3 fun _ _ _=>rfl;have Fy:=df l.prog w X G e3 (fun F s=>KH F B B2) fun _ _ _ _ _ _=>ar2 fun _ _=>rfl;have Em:=df l.prog w X G e4 (fun F s=>IF F B B2) fun _ _ _ _ _ _=>ar2 fun _ _=>rfl;have BQ:=df l.prog w X G e5 (fun F s=>Jz F B B2) fun _ _ _ _ _ _=>ar1 fun _=>rfl;have GI:=df l.prog w X G e6 (fun _ _=>Jy) fun _ _ _ _ _ _=>ar2 fun _ _=>rfl;have Fz:=df l.prog w X G e6 (fun F s=>KI F B B2 (BQ s) (GI s)) fun _ _ _ _ _ _=>ar2 fun _ _=>rfl;have DE:=df l.prog w X G e7 (fun F s=>Nc F B B2) fun _ _ _ _ _ _=>ar1 fun _=>rfl;have CM:=df l.prog w X G e8 (fun F s=>LY F B B2) fun _ _ _ _ _ _=>ar1 fun _=>rfl;have BY:=df l.prog w X G e9 (fun F s=>FU F B B2 (CM s) DT E4) fun _ _ _ _ _ _=>ar1 fun _=>rfl;have Cn:=df l.prog w X G e10 (fun F s=>Gz F B B2 (CM s)) fun _ _ _ _ _ _=>ar2 fun _ _=>rfl
 have BX:=df l.prog w X G e11 (fun F s=>FT F B B2 (Cn s)) fun _ _ _ _ _ _=>ar2 fun _ _=>rfl;have Bi:=df l.prog w X G e12 (fun F s=>DB F B B2 (BX s)) fun _ _ _ _ _ _=>ar2 fun _ _=>rfl;have Bw:=df l.prog w X G e13 (fun F s=>EJ F B B2 (Bi s)) fun _ _ _ _ _ _=>ar2 fun _ _=>rfl;have Co:=df l.prog w X G e14 (fun F s=>GA F B B2) fun _ _ _ _ _ _=>ar1 fun _=>rfl;have Gr:=df l.prog w X G e15 (fun F s=>LW F B B2 (Bw s) (DE s) (Co s)) fun _ _ _ _ _ _=>ar2 fun _ _=>rfl;have En:=df l.prog w X G e16 (fun F s=>IG F B B2 (Gr s) DU) fun _ _ _ _ _ _=>ar2 fun _ _=>rfl;have Gs:=df l.prog w X G e17 (fun F s=>LX F B B2 (DE s) (BY s) (En s)) fun _ _ _ _ _ _=>ar1 fun _=>rfl;have Bc:=df l.prog w X G e18 (fun F s=>JF F B B2 (Gs s)) fun _ _ _ _ _ _=>ar1 fun _=>rfl;have BR:=df l.prog w X G e19 (fun F s=>JC F B B2) fun _ _ _ _ _ _=>ar1 fun _=>rfl;have FA:=df l.prog w X G e20 (fun F s=>KN F B B2 (BR s)) fun _ _ _ _ _ _=>ar2 fun _ _=>rfl;have BD:=df l.prog w X G e21 (fun F s=>IK F B B2 (FA s)) fun _ _ _ _ _ _=>ar2 fun _ _=>rfl;have CL:=df l.prog w X G e22 (fun F s=>LU F B B2 (BR s)) fun _ _ _ _ _ _=>ar2 fun _ _=>rfl;have Ka:=df l.prog w X G e23 (fun F s=>Q6 F B B2 (Bc s) (BD s) (CL s)) fun _ _ _ _ _ _=>ar2 fun _ _=>rfl;have Cm:=df l.prog w X G e24 (fun F s=>Gy F B B2 (Fz s) (Ka s)) fun _ _ _ _ _ _=>ar1 fun _=>rfl;have DG:=df l.prog w X G e25 (fun F s=>LQ F B B2) fun _ _ _ _ _ _=>ar1 fun _=>rfl;have Hm:=df l.prog w X G e26 (fun F s=>Nd F B B2 (Bc s)) fun _ _ _ _ _ _=>ar1 fun _=>rfl;have Er:=df l.prog w X G e27 (fun F s=>IS F B B2) fun _ _ _ _ _ _=>ar2 fun _ _=>rfl
 have AR:=df l.prog w X G e28 (fun F s=>JB F B B2) fun _ _ _ _ _ _=>ar2 fun _ _=>rfl;have BE:=df l.prog w X G e29 (fun F s=>IP F B B2) fun _ _ _ _ _ _=>ar2 fun _ _=>rfl;have Eo:=df l.prog w X G e30 (fun F s=>IH F B B2 (AR s) (BE s)) fun _ _ _ _ _ _=>ar3 fun _ _ _=>rfl;have Gq:=df l.prog w X G e31 (fun F s=>LS F B B2 (AR s) (Eo s)) fun _ _ _ _ _ _=>ar3 fun _ _ _=>rfl;have DH:=df l.prog w X G e32 (fun F s=>HX F B B2 (Gq s)) fun _ _ _ _ _ _=>ar2 fun _ _=>rfl;have Ep:=df l.prog w X G e33 (fun F s=>IM F B B2 (Bc s) (BD s) (CL s) (Er s) (DH s) (AR s) (BE s)) fun _ _ _ _ _ _=>ar3 fun _ _ _=>rfl;have C1:=df l.prog w X G e34 (fun F s=>KG F B B2) fun _ _ _ _ _ _=>ar2 fun _ _=>rfl;have F0:=df l.prog w X G e35 (fun F s=>Nb F B B2) fun _ _ _ _ _ _=>ar3 fun _ _ _=>rfl;have El:=df l.prog w X G e36 (fun F s=>IE F B B2 (F0 s)) fun _ _ _ _ _ _=>ar3 fun _ _ _=>rfl;obtain⟨f,fd,a,F⟩:=e37;cases hfa.symm.trans (PySem.W.mg_of X G a);refine⟨fd,?_,fun s hK _=>We F a ht hh B B2 (EM s) (Gp s) (Fy s) (Em s) (Cm s) (DG s) (Hm s) (Ep s) (C1 s) (AB s) (BQ s) (El s)⟩;obtain⟨_,_,_,_,_,_,_,_,_,rfl,_,_⟩:=F.ex;exact fun s v=>.of_eq rfl
theorem walk{l:PySem.W.OpenLaw}{q:Program}{loose:List Str}{XP:(Str->Option Value)->Heap->Prop}{YP:World->Heap->Prop}{d:DefRec}{K:Params->Frag}(hn:l.most=some 63)(hdf:d.params.defaults=[])(hY:∀(w:World) (h:Heap),YP w h->(K w.params).In h)(F:∀(w:World) (mg:Str->Option Value) (fa:Addr) (h:Heap),(K w.params).In h->h.Ns mainGlobals mg->mg d.name=some (.ref fa) ->
   ∃fd:FuncData,(∀(s:Shared) (u:Value),BindsTo s fd ⟨[u],[]⟩ [("_law_script",u)])/\∀base:Heap,(K w.params).In base->base.Ns mainGlobals mg->FnOk l.prog w (K w.params) mg base CX0 12 fa fd ["_law_script"] (spJ (K w.params) Hw 1))(hT:∀(w:World) (c b:Addr),PySem.W.tabIn (K w.params) A8=some (c,b)->(∃d2,(recsOf q).find? (fun e=>e.name==A8)=some d2)/\(K w.params).lookup b=none):
  PySem.W.WalkO q loose XP YP l.row.toRowW d [] (fun f vs=>PySem.call f vs):=
 L2.UG (n:=63) (k:=12) (x := "_law_script") (CX:=fun _=>CX0) (sp:=fun w=>spJ (K w.params) Hw 1) hn (by decide) hdf ⟨rfl,by decide,by decide⟩ hY F (fun _ H a ns hl hO hS=>let⟨_,e⟩:=Qx ns hl; VZ hl hO hS e) (fun _ _ _ _ _ z=>z) hT
noncomputable def fo(n:Str)(i:Nat)(m:Str)(t:Tok)(c:Addr):Obj:={ cls:=.type "function",data:=.func (PySem.W.fnOf n n (Ea (top i)) (Cr (top i)) (A6 (top i)) .none .none .none (.str m t) none (.ref c) .none) }
noncomputable def co(n:Str)(t:Nat)(l k:Int)(r:Nat)(x y:Value)(q:Nat)(u:Int)(v:Nat):Obj:={ cls:=.type "code",data:=.fields #[.str n t,.str n (t+1),.str "/claim/cut.py" (t+2),.int l 0,.int k 0,.int 0 0,.int 0 0,.int 3 0,.ref r,.bool true,.int 181 0,.ref (r+1),.none,x,y,.ref q,.int u 0,.int l 0,.str "/claim/cut.py" v] }
noncomputable def en(P:Params)(n:Str)(t:Tok)(v:Value):DictEntry:=⟨PyData.keyHash P n,.str n t,v⟩
noncomputable def gE(P:Params):List DictEntry:=[en P "__name__" 165 (.str "law_handsapart_k31_whole_names_in_use" 444),
 en P "__doc__" 166 .none,
 en P "__package__" 167 .none,
 en P "__loader__" 168 (.builtin "__main__.__loader__#opaque"),
 en P "__spec__" 169 .none,
 en P "__annotations__" 170 (.ref 6),
 en P "__builtins__" 171 (.ref 4),
 en P "__file__" 173 (.str "/claim/cut.py" 172),
 en P "__cached__" 174 .none,
 en P "is_whole" 195 (.ref 21),
 en P "is_number_below" 203 (.ref 28),
 en P "is_pair" 210 (.ref 35),
 en P "is_list_of_numbers_below" 218 (.ref 42),
 en P "are_numbers_below" 224 (.ref 47),
 en P "is_rising_list_below" 230 (.ref 52),
 en P "HandError" 250 (.ref 62),
 en P "NoHouse" 266 (.ref 75),
 en P "NoRow" 282 (.ref 87),
 en P "FEWEST_HANDS" 286 (.int 2 285),
 en P "MOST_HANDS" 288 (.int 4 287),
 en P "MOST_LETTERS" 290 (.int 6 289),
 en P "is_house" 297 (.ref 96),
 en P "is_count_of_hands" 304 (.ref 103),
 en P "are_entries" 310 (.ref 108),
 en P "is_entry" 318 (.ref 115),
 en P "is_small_letter" 325 (.ref 122),
 en P "need_house" 332 (.ref 129),
 en P "letters_of" 338 (.ref 134),
 en P "is_letter" 346 (.ref 141),
 en P "need_letter" 354 (.ref 148),
 en P "hands_of" 362 (.ref 155),
 en P "no_news" 373 (.ref 162),
 en P "stock" 381 (.ref 169),
 en P "first_hand" 389 (.ref 176),
 en P "second_hand" 397 (.ref 183),
 en P "news_behind" 403 (.ref 188),
 en P "unused_name" 417 (.ref 195),
 en P "newest_about" 427 (.ref 202),
 en P "compared" 437 (.ref 209),
 en P "is_known_to" 443 (.ref 214),
 en P "_law_cell" 453 (.ref 221),
 en P "_law_bag" 460 (.ref 228),
 en P "_law_take" 469 (.ref 235),
 en P "_law_house" 475 (.ref 240),
 en P "_law_row" 487 (.ref 247),
 en P "_law_owns" 493 (.ref 252),
 en P "_law_newest" 499 (.ref 257),
 en P "_law_last" 505 (.ref 262),
 en P "_law_of" 514 (.ref 269),
 en P "_law_whole" 521 (.ref 276),
 en P "_law_same" 527 (.ref 281),
 en P "_law_in_use" 542 (.ref 288),
 en P "_law_stock_good" 551 (.ref 295),
 en P "law" 557 (.ref 300)]
noncomputable def gD(P:Params):Obj:={ cls:=.type "dict",data:=.dict (gE P).toArray 54 }
noncomputable def Kf:Params->Frag:=fun P=>(nat_lit 3,gD P) ::
 (nat_lit 20,co "is_whole" 189 2 1 15 (.ref 17) (.ref 18) 19 193 194) ::
 (nat_lit 21,fo "is_whole" 1 "handsapart.checks" 187 20) ::
 (nat_lit 27,co "is_number_below" 196 4 2 22 (.ref 24) (.ref 25) 26 201 202) ::
 (nat_lit 28,fo "is_number_below" 2 "handsapart.checks" 187 27) ::
 (nat_lit 34,co "is_pair" 204 6 1 29 (.ref 31) (.ref 32) 33 208 209) ::
 (nat_lit 35,fo "is_pair" 3 "handsapart.checks" 187 34) ::
 (nat_lit 41,co "is_list_of_numbers_below" 211 8 2 36 (.ref 38) (.ref 39) 40 216 217) ::
 (nat_lit 42,fo "is_list_of_numbers_below" 4 "handsapart.checks" 187 41) ::
 (nat_lit 46,co "are_numbers_below" 219 10 2 43 .none .none 45 222 223) ::
 (nat_lit 47,fo "are_numbers_below" 5 "handsapart.checks" 187 46) ::
 (nat_lit 51,co "is_rising_list_below" 225 12 2 48 .none .none 50 228 229) ::
 (nat_lit 52,fo "is_rising_list_below" 6 "handsapart.checks" 187 51) ::
 (nat_lit 95,co "is_house" 291 27 1 90 (.ref 92) (.ref 93) 94 295 296) ::
 (nat_lit 96,fo "is_house" 15 "handsapart.houses" 283 95) ::
 (nat_lit 102,co "is_count_of_hands" 298 31 1 97 (.ref 99) (.ref 100) 101 302 303) ::
 (nat_lit 103,fo "is_count_of_hands" 16 "handsapart.houses" 283 102) ::
 (nat_lit 107,co "are_entries" 305 33 2 104 .none .none 106 308 309) ::
 (nat_lit 108,fo "are_entries" 17 "handsapart.houses" 283 107) ::
 (nat_lit 114,co "is_entry" 311 39 2 109 (.ref 111) (.ref 112) 113 316 317) ::
 (nat_lit 115,fo "is_entry" 18 "handsapart.houses" 283 114) ::
 (nat_lit 121,co "is_small_letter" 319 43 1 116 (.ref 118) (.ref 119) 120 323 324) ::
 (nat_lit 122,fo "is_small_letter" 19 "handsapart.houses" 283 121) ::
 (nat_lit 128,co "need_house" 326 45 1 123 (.ref 125) (.ref 126) 127 330 331) ::
 (nat_lit 129,fo "need_house" 20 "handsapart.houses" 283 128) ::
 (nat_lit 133,co "letters_of" 333 48 1 130 .none .none 132 336 337) ::
 (nat_lit 134,fo "letters_of" 21 "handsapart.houses" 283 133) ::
 (nat_lit 140,co "is_letter" 339 50 2 135 (.ref 137) (.ref 138) 139 344 345) ::
 (nat_lit 141,fo "is_letter" 22 "handsapart.houses" 283 140) ::
 (nat_lit 147,co "need_letter" 347 52 2 142 (.ref 144) (.ref 145) 146 352 353) ::
 (nat_lit 148,fo "need_letter" 23 "handsapart.houses" 283 147) ::
 (nat_lit 154,co "hands_of" 355 55 2 149 (.ref 151) (.ref 152) 153 360 361) ::
 (nat_lit 155,fo "hands_of" 24 "handsapart.houses" 283 154) ::
 (nat_lit 161,co "no_news" 365 58 1 156 (.ref 158) (.ref 159) 160 371 372) ::
 (nat_lit 162,fo "no_news" 26 "handsapart.news" 363 161) ::
 (nat_lit 168,co "stock" 374 63 2 163 (.ref 165) (.ref 166) 167 379 380) ::
 (nat_lit 169,fo "stock" 27 "handsapart.news" 363 168) ::
 (nat_lit 175,co "first_hand" 382 67 2 170 (.ref 172) (.ref 173) 174 387 388) ::
 (nat_lit 176,fo "first_hand" 28 "handsapart.news" 363 175) ::
 (nat_lit 182,co "second_hand" 390 69 2 177 (.ref 179) (.ref 180) 181 395 396) ::
 (nat_lit 183,fo "second_hand" 29 "handsapart.news" 363 182) ::
 (nat_lit 187,co "news_behind" 398 71 3 184 .none .none 186 401 402) ::
 (nat_lit 188,fo "news_behind" 30 "handsapart.news" 363 187) ::
 (nat_lit 194,co "unused_name" 404 81 2 189 (.ref 191) (.ref 192) 193 415 416) ::
 (nat_lit 195,fo "unused_name" 31 "handsapart.news" 363 194) ::
 (nat_lit 201,co "newest_about" 418 92 2 196 (.ref 198) (.ref 199) 200 425 426) ::
 (nat_lit 202,fo "newest_about" 32 "handsapart.news" 363 201) ::
 (nat_lit 208,co "compared" 428 98 3 203 (.ref 205) (.ref 206) 207 435 436) ::
 (nat_lit 209,fo "compared" 33 "handsapart.news" 363 208) ::
 (nat_lit 213,co "is_known_to" 438 105 3 210 .none .none 212 441 442) ::
 (nat_lit 214,fo "is_known_to" 34 "handsapart.news" 363 213) ::
 (nat_lit 220,co "_law_cell" 446 110 2 215 (.ref 217) (.ref 218) 219 451 452) ::
 (nat_lit 221,fo "_law_cell" 36 "law_handsapart_k31_whole_names_in_use" 444 220) ::
 (nat_lit 227,co "_law_bag" 454 114 1 222 (.ref 224) (.ref 225) 226 458 459) ::
 (nat_lit 228,fo "_law_bag" 37 "law_handsapart_k31_whole_names_in_use" 444 227) ::
 (nat_lit 234,co "_law_take" 461 118 2 229 (.ref 231) (.ref 232) 233 467 468) ::
 (nat_lit 235,fo "_law_take" 38 "law_handsapart_k31_whole_names_in_use" 444 234) ::
 (nat_lit 239,co "_law_house" 470 126 1 236 .none .none 238 473 474) ::
 (nat_lit 240,fo "_law_house" 39 "law_handsapart_k31_whole_names_in_use" 444 239) ::
 (nat_lit 246,co "_law_row" 476 140 3 241 (.ref 243) (.ref 244) 245 485 486) ::
 (nat_lit 247,fo "_law_row" 40 "law_handsapart_k31_whole_names_in_use" 444 246) ::
 (nat_lit 251,co "_law_owns" 488 148 2 248 .none .none 250 491 492) ::
 (nat_lit 252,fo "_law_owns" 41 "law_handsapart_k31_whole_names_in_use" 444 251) ::
 (nat_lit 256,co "_law_newest" 494 151 2 253 .none .none 255 497 498) ::
 (nat_lit 257,fo "_law_newest" 42 "law_handsapart_k31_whole_names_in_use" 444 256) ::
 (nat_lit 268,co "_law_of" 506 170 3 263 (.ref 265) (.ref 266) 267 512 513) ::
 (nat_lit 269,fo "_law_of" 44 "law_handsapart_k31_whole_names_in_use" 444 268) ::
 (nat_lit 275,co "_law_whole" 515 174 1 270 (.ref 272) (.ref 273) 274 519 520) ::
 (nat_lit 276,fo "_law_whole" 45 "law_handsapart_k31_whole_names_in_use" 444 275) ::
 (nat_lit 280,co "_law_same" 522 176 2 277 .none .none 279 525 526) ::
 (nat_lit 281,fo "_law_same" 46 "law_handsapart_k31_whole_names_in_use" 444 280) ::
 (nat_lit 287,co "_law_in_use" 528 186 3 282 (.ref 284) (.ref 285) 286 540 541) ::
 (nat_lit 288,fo "_law_in_use" 47 "law_handsapart_k31_whole_names_in_use" 444 287) ::
 (nat_lit 294,co "_law_stock_good" 543 196 1 289 (.ref 291) (.ref 292) 293 549 550) ::
 (nat_lit 295,fo "_law_stock_good" 48 "law_handsapart_k31_whole_names_in_use" 444 294) ::
 (nat_lit 299,co "law" 552 201 1 296 .none .none 298 555 556) ::
 (nat_lit 300,fo "law" 49 "law_handsapart_k31_whole_names_in_use" 444 299)::[]
theorem R6(P:Params):PySem.W.tabIn (Kf P) A8=some (nat_lit 299,nat_lit 297):=by kernel_rfl
theorem X1(P:Params):PySem.W.codeHdIn (Kf P) (nat_lit 299) (nat_lit 297)=true:=by kernel_rfl
theorem X8(P:Params):(Kf P).lookup (nat_lit 297)=none:=by kernel_rfl
end Gk31
def PySem.W.Fast.tw13336655477512220209:Nat:=0
def PySem.W.Fast.tw7511695026176516715:Nat:=0
def PySem.W.Fast.tw2638748271364249756:Nat:=0
def PySem.W.Fast.tw16343470318390717338:Nat:=0
def PySem.W.Fast.tw15426401568437526462:Nat:=0
def PySem.W.Fast.tw15214627191618906587:Nat:=0
def PySem.W.Fast.tw12303416508265279563:Nat:=0
def PySem.W.Fast.tw13933534287913731305:Nat:=0
def PySem.W.Fast.tw9082577546431731769:Nat:=0
open PySem PySem.W PyProof.Rows
set_option maxRecDepth 100000 in
set_option maxHeartbeats 0 in
theorem PySem.Challenge.cw_handsapart_k31_whole_names_in_use_holds : PySem.Challenge.rw_handsapart_k31_whole_names_in_use.Holds := by
 w_on; o_law; o_head (PySem.W.kHook Gk31.Kf (nat_lit 3 :: nat_lit 20 :: nat_lit 21 :: nat_lit 27 :: nat_lit 28 :: nat_lit 34 :: nat_lit 35 :: nat_lit 41 :: nat_lit 42 :: nat_lit 46 :: nat_lit 47 :: nat_lit 51 :: nat_lit 52 :: nat_lit 95 :: nat_lit 96 :: nat_lit 102 :: nat_lit 103 :: nat_lit 107 :: nat_lit 108 :: nat_lit 114 :: nat_lit 115 :: nat_lit 121 :: nat_lit 122 :: nat_lit 128 :: nat_lit 129 :: nat_lit 133 :: nat_lit 134 :: nat_lit 140 :: nat_lit 141 :: nat_lit 147 :: nat_lit 148 :: nat_lit 154 :: nat_lit 155 :: nat_lit 161 :: nat_lit 162 :: nat_lit 168 :: nat_lit 169 :: nat_lit 175 :: nat_lit 176 :: nat_lit 182 :: nat_lit 183 :: nat_lit 187 :: nat_lit 188 :: nat_lit 194 :: nat_lit 195 :: nat_lit 201 :: nat_lit 202 :: nat_lit 208 :: nat_lit 209 :: nat_lit 213 :: nat_lit 214 :: nat_lit 220 :: nat_lit 221 :: nat_lit 227 :: nat_lit 228 :: nat_lit 234 :: nat_lit 235 :: nat_lit 239 :: nat_lit 240 :: nat_lit 246 :: nat_lit 247 :: nat_lit 251 :: nat_lit 252 :: nat_lit 256 :: nat_lit 257 :: nat_lit 268 :: nat_lit 269 :: nat_lit 275 :: nat_lit 276 :: nat_lit 280 :: nat_lit 281 :: nat_lit 287 :: nat_lit 288 :: nat_lit 294 :: nat_lit 295 :: nat_lit 299 :: nat_lit 300 :: []) (fun _=>by kernel_rfl)); (case hw=>w_witness2)
 k_fill
 refine Gk31.walk (l:=PySem.Challenge.rw_handsapart_k31_whole_names_in_use) rfl rfl (fun w h Y=>PySem.W.kIn_of Y) ?F (fun w c b e=>by
  rw [Gk31.R6 w.params] at e;cases e;exact ⟨Option.isSome_iff_exists.mp (by kernel_rfl),Gk31.X8 w.params⟩)
 case F =>
  intro w mg fa h KX G hmg;refine' Gk31.all_mk KX G hmg ?_ ?_ ?_ ?_ ?_ ?_ ?_ ?_ ?_ ?_ ?_ ?_ ?_ ?_ ?_ ?_ ?_ ?_ ?_ ?_ ?_ ?_ ?_ ?_ ?_ ?_ ?_ ?_ ?_ ?_ ?_ ?_ ?_ ?_ ?_ ?_ ?_ ?_ ?_ ?_ ?_ ?_ ?_ ?_ ?_ ?_ ?_ ?_ ?_ ?_ ?_ ?_ ?_ ?_ ?_ ?_ ?_ ?_ ?_ ?_ (Gk31.R6 w.params) (Gk31.X1 w.params);all_goals first | k_is | (refine' Gk31.XY ?a ?l ?c ?k; (case a=>k_is); (case l=>k_is); (case c=>k_is); (case k=>k_is)) | skip
end
