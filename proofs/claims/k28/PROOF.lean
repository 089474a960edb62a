import PyProof.Rows.All
import Wide.All
import OpenK.AllK
import PySem.Challenge.RW_handsapart_k28_news_told
open PySem.W (Frag)
open Option (bind_eq_some_iff map_eq_some_iff)
set_option Elab.async false
set_option linter.all false
set_option maxRecDepth 100000
set_option maxHeartbeats 4000000
theorem dK{p:Prop}(h:p:=by decide +kernel):p:=h
section
namespace L2
open PySem PySem.Spec PyProof.Rows
noncomputable abbrev Key:=Sum Int Str
noncomputable def KL:Key->Value->Bool
 | .inl k,v=>Value.isInt k v
 | .inr x,v=>Value.isStrOf x v
noncomputable def YJ(w:World):Key->Int
 | .inl k=>hashInt k
 | .inr x=>hashStr w x
theorem BF:∀{k:Key} {v:Value},KL k v=true->(∃i t,k=Sum.inl i/\v=Value.int i t)\/(∃x t,k=Sum.inr x/\v=Value.str x t)
 | .inl i,v,h=>by
  obtain⟨t,e⟩:=Value.isInt_shape (k:=i) (v:=v) h;exact .inl ⟨i,t,rfl,e⟩
 | .inr x,v,h=>by
  obtain⟨t,e⟩:=Value.isStrOf_shape (x:=x) (v:=v) h;exact .inr ⟨x,t,rfl,e⟩
theorem Pp(i:Int)(t:Tok):KL (.inl i) (.int i t)=true:=by simp[KL,Value.isInt]
theorem Pq(x:Str)(t:Tok):KL (.inr x) (.str x t)=true:=by simp[KL,Value.isStrOf]
theorem VJ(a b:Int):decide ((Sum.inl a:Key)=Sum.inl b)=(a==b):=by
 by_cases e:a=b
 .subst e; simp
 .have h:¬(Sum.inl a:Key)=Sum.inl b:=fun q=>e (Sum.inl.inj q)
  rw[decide_eq_false h];exact(beq_eq_false_iff_ne.mpr e).symm
theorem VN(a b:Str):decide ((Sum.inr a:Key)=Sum.inr b)=decide (a=b):=by
 by_cases e:a=b
 .subst e; simp
 .have h:¬(Sum.inr a:Key)=Sum.inr b:=fun q=>e (Sum.inr.inj q)
  rw[decide_eq_false h,decide_eq_false e]
theorem VL(a:Int)(b:Str):decide ((Sum.inl a:Key)=Sum.inr b)=false:=decide_eq_false (fun q=>nomatch q)
theorem VM(a:Str)(b:Int):decide ((Sum.inr a:Key)=Sum.inl b)=false:=decide_eq_false (fun q=>nomatch q)
noncomputable def Dy(prog:Program)(w:World):PySem.KeyKind prog w Key where
 is:=KL
 hash:=YJ w
 inj:=fun v a b ha hb=>by
  rcases BF ha with ⟨i,t,rfl,rfl⟩|⟨x,t,rfl,rfl⟩
  .rcases BF hb with ⟨j,u,rfl,e⟩|⟨y,u,rfl,e⟩
   .injection e with e1 _; rw[e1]
   .exact nomatch e
  .rcases BF hb with ⟨j,u,rfl,e⟩|⟨y,u,rfl,e⟩
   .exact nomatch e
   .injection e with e1 _; rw[e1]
 byValue:=fun k v h=>by
  rcases BF h with ⟨i,t,rfl,rfl⟩|⟨x,t,rfl,rfl⟩<;>rfl
 pyHash:=fun hv h=>by
  rcases BF hv with ⟨i,t,rfl,rfl⟩|⟨x,t,rfl,rfl⟩
  .exact wpAny_pyHash_int h
  .exact wpAny_pyHash_str h
 eqBool:=fun hu hv h=>by
  rcases BF hu with ⟨i,t,rfl,rfl⟩|⟨x,t,rfl,rfl⟩
  .rcases BF hv with ⟨j,u,rfl,rfl⟩|⟨y,u,rfl,rfl⟩
   .rw[VJ] at h; exact wpAny_eqBool_int h
   .rw[VL] at h; exact SeqAt.EqAt.int_str i t y u _ _ _ _ h
  .rcases BF hv with ⟨j,u,rfl,rfl⟩|⟨y,u,rfl,rfl⟩
   .rw[VM] at h; exact SeqAt.EqAt.str_int x t j u _ _ _ _ h
   .rw[VN] at h; exact wpAny_eqBool_str h
 «strs»:=fun k x t v h=>by
  rcases BF h with ⟨i,u,rfl,e⟩|⟨y,u,rfl,e⟩
  .exact nomatch e
  .injection e with e1 _
   subst e1;cases v<;>rfl
theorem Mz(prog:Program)(w:World)(i:Int)(t:Tok):(Dy prog w).is (.inl i) (.int i t)=true:=Pp i t
theorem MB(prog:Program)(w:World)(x:Str)(t:Tok):(Dy prog w).is (.inr x) (.str x t)=true:=Pq x t
end L2
namespace L2
open PySem PySem.Spec PyProof.Rows
inductive V where
 | non|bl (b:Bool)|int (i:Int)|str (x:Str)|byt (b:Array UInt8)|flt (b:UInt64)|ref (a:Addr)|ty (n:String)
 deriving DecidableEq
noncomputable def RelV:V->Value->Prop
 | .non,u=>u=Value.none
 | .bl b,u=>u=Value.bool b
 | .int i,u=>∃t,u=Value.int i t
 | .str x,u=>∃t,u=Value.str x t
 | .byt b,u=>∃t,u=Value.bytes b t
 | .flt b,u=>∃t,u=Value.float b t
 | .ref a,u=>u=Value.ref a
 | .ty n,u=>u=Value.type n
noncomputable abbrev Vals:List V->List Value->Prop:=Paired RelV
theorem Vals.length{xs:List V}{us:List Value}(r:Vals xs us):xs.length=us.length:=Paired.length r
theorem Vals.get:∀{xs:List V} {us:List Value} {i:Nat} {x:V},Vals xs us->xs[i]? = some x->∃u,us[i]? = some u/\RelV x u
 | _,_,_,_,.nil,e=>by simp at e
 | _,_,0,_,.cons r _,e=>by simp at e; subst e; exact⟨_,rfl,r⟩
 | _,_,i+1,x,.cons _ t,e=>by
  obtain⟨u,h1,h2⟩:=Vals.get (i:=i) (x:=x) t (by simpa using e);exact⟨u,by simpa using h1,h2⟩
theorem Vals.set{x:V}{u:Value}(r:RelV x u):∀{xs:List V} {us:List Value} (i:Nat),Vals xs us->Vals (xs.set i x) (us.set i u)
 | _,_,_,.nil=>.nil
 | _,_,0,.cons _ t=>.cons r t
 | _,_,i+1,.cons q t=>.cons q (Vals.set r i t)
theorem Vals.append{xs ys:List V}{us ws:List Value}(h:Vals xs us)(s:Vals ys ws):Vals (xs++ys) (us++ws):=by
 induction h with
 | nil=>exact s
 | cons r t ih=>exact .cons r ih
noncomputable def Ja:Option V->Option Value->Prop
 | some v,some u=>RelV v u
 | none,none=>True
 | _,_=>False
noncomputable def KV{κ:Type}:List (κ×V)->List (κ×Value)->Prop:=Paired fun(p : κ×V) (q : κ×Value)=>p.1=q.1/\RelV p.2 q.2
noncomputable def kV:Key->V
 | .inl i=>.int i
 | .inr x=>.str x
inductive D where
 | non|bl (b:Bool)|int (i:Int)|str (x:Str)|lst (ds:List D)|tup (ds:List D)
mutual
noncomputable def eqS:D->D->Bool
 | .non,.non=>true
 | .bl a,.bl b=>a==b
 | .int a,.int b=>a==b
 | .str a,.str b=>a==b
 | .lst xs,.lst ys=>Ny xs ys
 | .tup xs,.tup ys=>Ny xs ys
 | _,_=>false
noncomputable def Ny:List D->List D->Bool
 | [],[]=>true
 | x::xs,y::ys=>eqS x y&&Ny xs ys
 | _,_=>false
end
mutual
theorem Mi:∀d,eqS d d=true
 | .non=>rfl
 | .bl a=>by show(a==a)=true; exact beq_self_eq_true a
 | .int a=>by show(a==a)=true; exact beq_self_eq_true a
 | .str a=>by show(a==a)=true; exact beq_self_eq_true a
 | .lst xs=>Ig xs
 | .tup xs=>Ig xs
theorem Ig:∀ds,Ny ds ds=true
 | []=>rfl
 | d::ds=>by show(eqS d d&&Ny ds ds)=true; rw[Mi d,Ig ds]; rfl
end
mutual
theorem Qt:∀(d e:D),eqS d e=true->d=e
 | .non,e,h=>by cases e<;>first|rfl|exact nomatch h
 | .bl a,e,h=>by
  cases e with
  | bl b=>rw[eq_of_beq (show(a==b)=true from h)]
  | _=>exact nomatch h
 | .int a,e,h=>by
  cases e with
  | int b=>rw[eq_of_beq (show(a==b)=true from h)]
  | _=>exact nomatch h
 | .str a,e,h=>by
  cases e with
  | str b=>rw[eq_of_beq (show(a==b)=true from h)]
  | _=>exact nomatch h
 | .lst xs,e,h=>by
  cases e with
  | lst ys=>rw[Lc xs ys h]
  | _=>exact nomatch h
 | .tup xs,e,h=>by
  cases e with
  | tup ys=>rw[Lc xs ys h]
  | _=>exact nomatch h
theorem Lc:∀(xs ys:List D),Ny xs ys=true->xs=ys
 | [],ys,h=>by cases ys with|nil=>rfl|cons _ _=>exact nomatch h
 | x::xs,ys,h=>by
  cases ys with
  | nil=>exact nomatch h
  | cons y ys =>
   have h':(eqS x y&&Ny xs ys)=true:=h;rw[Bool.and_eq_true] at h';rw[Qt x y h'.1,Lc xs ys h'.2]
end
noncomputable instance:DecidableEq D:=fun a b=>decidable_of_iff (eqS a b=true) ⟨Qt a b,fun e=>e ▸ Mi a⟩
mutual
noncomputable def D0(w:World):D->Int
 | .int i=>hashInt i
 | .str x=>hashStr w x
 | .tup ds=>reduceHash (Builtin.Tuple.tupleHashOf (Ii w ds))
 | .non=>0xFCA86420
 | .bl _=>0
 | .lst _=>0
noncomputable def Ii(w:World):List D->List Int
 | []=>[]
 | d::ds=>D0 w d::Ii w ds
end
inductive HO where
 /-- a list -/
 | lst (xs:List V)
 /-- a tuple (never changes) -/
 | tup (xs:List V)
 /-- a dict whose keys are ints and texts; one whose keys are tuples of ints and texts (the empty one is both) -/
 | dK (kvs:List (Key×V))|dT (kvs:List (D×V))
 /-- a set of ints: its members,its size -/
 | set (S:Int->Bool) (n:Nat)
 /-- an instance of the class at C,its dict at dx,its attributes -/
 | ins (C dx:Addr) (fs:List (Str×V))
 /-- the dict of the instance at x -/
 | own (x:Addr)
 /-- the dict of an exception -/
 | xd (fs:List (Str×V))
 /-- a bound method,f of x -/
 | met (f x:Addr)
 /-- a range object lo,lo+1,.. below hi -/
 | rng (lo hi:Int)
 /-- a thing that is known to the object (the script; a dict while a loop walks it): read,never written while it is so -/
 | frz (o:Obj) (u:HO)
 /-- a code object's table -/
 | tbl (ps:Array Value)
 /-- any other thing,by what is true of its one object (a def of one's own: SetO a S n:=HO.ext fun h=>..) -/
 | ext (φ : Heap->Prop)
noncomputable abbrev Hp:=Addr->Option HO
noncomputable def upd(H:Hp)(a:Addr)(o:HO):Hp:=fun b=>if b=a then some o else H b
theorem AQ{H:Hp}{a:Addr}{o:HO}:upd H a o a=some o:=by unfold upd; rw[if_pos rfl]
theorem AL{H:Hp}{a b:Addr}{o:HO}(h:b≠a):upd H a o b=H b:=by unfold upd; rw[if_neg h]
theorem XW{H:Hp}{a b:Addr}{o u:HO}(h:H a=some o)(h':H b=some u)(d:o≠u):a≠b:=by
 intro e; subst e; rw[h] at h'; exact d (Option.some.inj h')
theorem Dr{H:Hp}{a b:Addr}{o:HO}(h:H a=some o)(h':H b=none):a≠b:=by
 intro e; subst e; rw[h] at h'; cases h'
inductive Sh:Nat->D->Prop where
 | non {n:Nat}:Sh n .non
 | bl {n:Nat} (b:Bool):Sh n (.bl b)
 | int {n:Nat} (i:Int):Sh n (.int i)
 | str {n:Nat} (x:Str):Sh n (.str x)
 | lst {n:Nat} {ds:List D} (h:∀d∈ds,Sh n d):Sh (n+1) (.lst ds)
 | tup {n:Nat} {ds:List D} (h:∀d∈ds,Sh n d):Sh (n+1) (.tup ds)
inductive KR (H:Hp):V->D->Prop where
 | non:KR H .non .non
 | int (i:Int):KR H (.int i) (.int i)
 | str (x:Str) (hx:x.length<=sizeLine):KR H (.str x) (.str x)
 | tup {a:Addr} {vs:List V} {ds:List D} (h:H a=some (.tup vs)) (hz:vs.length<=sizeLine) (hl:vs.length=ds.length) (hr:∀(i:Nat) v d,vs[i]? = some v->ds[i]? = some d->KR H v d):KR H (.ref a) (.tup ds)
theorem KR.mono{H H':Hp}(t:∀b xs,H b=some (.tup xs)->H' b=some (.tup xs)){v:V}{d:D}(r:KR H v d):KR H' v d:=by
 induction r with
 | non=>exact .non
 | int i=>exact .int i
 | str x hx=>exact .str x hx
 | tup h hz hl _ ih=>exact .tup (t _ _ h) hz hl ih
noncomputable def II(w:World)(x:D×Value×Value):DictEntry:=⟨D0 w x.1,x.2.1,x.2.2⟩
noncomputable abbrev Bh:Str := "law"
noncomputable abbrev IT:Str := "law.<locals>.<lambda>"
noncomputable def XE(H:Hp)(h:Heap)(a:Addr)(ps:Array Value):Prop:=∃qs:Array Value,h.get? a=some { cls:=.none,data:=.fields qs }/\TriplesOk qs.toList /\
 ∀pos c,codeAmong pos qs.toList=some c->∃c' oc vs t q,c=.ref c'/\H c'=some (.own a)/\h.get? c'=some oc/\oc.data=.fields vs/\vs[1]? = some (.str q t)/\ps[0]? = some (.str q 0)
noncomputable def O4(K:Frag)(H:Hp):Prop:=∀c P,PySem.W.tabIn K Bh=some (c,P)->∃ps,H P=some (.tbl ps)/\ps[0]? = some (.str IT 0)
section
variable(P:Program)(w:World)
noncomputable def BB(H:Hp)(h:Heap)(a:Addr):HO->Prop
 | .lst xs=>xs.length<=sizeLine/\∃(its:List Value) (n:Nat),Vals xs its/\h.get? a=some { cls:=.type "list",data:=.seq its.toArray n }
 | .tup xs=>xs.length<=sizeLine/\∃its:List Value,Vals xs its/\IsTup h a its.toArray
 | .dK kvs=>kvs.length<=sizeLine/\(a==sysModules)=false/\∃vs,KV kvs vs/\h.DictOf (Dy P w) a vs
 | .dT kvs=>kvs.length<=sizeLine/\(a==sysModules)=false/\∃xs:List (D×Value×Value),
   Paired (fun(p:D×V) (q:D×Value×Value)=>p.1=q.1/\(Sh 8 p.1/\∃y,KR H y p.1/\RelV y q.2.1)/\RelV p.2 q.2.2) kvs xs /\
   ∃o es ep,h.get? a=some o/\o.ExactDict/\o.data=.dict es ep/\es.toList=xs.map (II w)/\(xs.map (·.1)).Nodup
 | .set S n=>h.SetOf (intKind P w) a S n
 | .ins C dx fs=>H dx=some (.own a)/\fs.length<=1000/\dx≠a/\h.get? a=some (PySem.W.instObj C dx) /\
   ∃mA,h.Ns1 dx mA/\(∀f,Ja (fs.lookup f) (mA f))/\PySem.Within mA (fs.map (·.1))
 | .own _=>∃o,h.get? a=some o
 | .xd fs=>∃mA,h.Ns1 a mA/\∀f,Ja (fs.lookup f) (mA f)
 | .rng lo hi=>∃t u v,h.get? a=some { cls:=.type "range",data:=.fields #[.int lo t,.int hi u,.int 1 v] }
 | .frz o u=>h.get? a=some o/\BB H h a u
 | .tbl ps=>XE H h a ps
 | .met f x=>h.get? a=some (PySem.W.methodObj (.ref f) (.ref x))
 | .ext φ=>φ h/\(∃o,h.get? a=some o)/\∀h1 h2:Heap,φ h1->(∀o,h1.get? a=some o->h2.get? a=some o) -> φ h2
noncomputable def HOk(H:Hp)(h:Heap):Prop:=∀a o,H a=some o->BB P w H h a o
end
section
variable{P:Program}{w:World}{H H':Hp}{h h':Heap}{a:Addr}{o:HO}
theorem BB.lt(x:BB P w H h a o):a<h.objs.size:=by
 cases o with
 | lst xs=>obtain⟨_,_,_,_,e⟩:=x; exact Heap.lt_size e
 | tup xs=>obtain⟨_,_,_,p⟩:=x; exact p.lt
 | dK kvs=>obtain⟨_,_,_,_,o,_,_,e,_⟩:=x; exact Heap.lt_size e
 | dT kvs=>obtain⟨_,_,_,_,o,_,_,e,_⟩:=x; exact Heap.lt_size e
 | set S n=>obtain⟨o,_,_,_,e,_⟩:=x; exact Heap.lt_size e
 | ins C dx fs=>obtain⟨_,_,_,e,_⟩:=x; exact Heap.lt_size e
 | own y=>obtain⟨_,e⟩:=x; exact Heap.lt_size e
 | xd fs=>obtain⟨_,⟨_,_,_,e,_⟩,_⟩:=x; exact Heap.lt_size e
 | rng lo hi=>obtain⟨_,_,_,e⟩:=x; exact Heap.lt_size e
 | frz ob u=>obtain⟨e,_⟩:=x; exact Heap.lt_size e
 | tbl ps=>obtain⟨_,e,_⟩:=x; exact Heap.lt_size e
 | met f y=>exact Heap.lt_size (show h.get? a=some _ from x)
 | ext φ=>obtain⟨_,⟨_,e⟩,_⟩:=x; exact Heap.lt_size e
theorem Paired.mapP{α β:Type}{F G:α -> β -> Prop}{l₁:List α}{l₂:List β}(h:Paired F l₁ l₂)(f:∀a b,F a b->G a b):Paired G l₁ l₂:=by
 induction h with
 | nil=>exact .nil
 | cons r t ih=>exact .cons (f _ _ r) ih
theorem BB.stay(x:BB P w H h a o)(k:∀b u,(b=a\/H b=some (.own a))->h.get? b=some u->h'.get? b=some u)(ho:∀b,H b=some (.own a)->H' b=some (.own a))(ht:∀b xs,H b=some (.tup xs)->H' b=some (.tup xs)):BB P w H' h' a o:=by
 induction o with
 | lst xs=>obtain⟨z,its,n,r,e⟩:=x; exact⟨z,its,n,r,k _ _ (.inl rfl) e⟩
 | tup xs=>obtain⟨z,its,r,ob,e,c⟩:=x; exact⟨z,its,r,ob,k _ _ (.inl rfl) e,c⟩
 | dK kvs=>obtain⟨z,y,vs,r,ob,es,ep,e,c⟩:=x; exact⟨z,y,vs,r,ob,es,ep,k _ _ (.inl rfl) e,c⟩
 | dT kvs =>
  obtain⟨z,y,xs,r,ob,es,ep,e,c⟩:=x;exact⟨z,y,xs,Paired.mapP r fun p q z=>⟨z.1,⟨z.2.1.1,z.2.1.2.imp fun y yy=>⟨yy.1.mono ht,yy.2⟩⟩,z.2.2⟩,ob,es,ep,k _ _ (.inl rfl) e,c⟩
 | set S n=>obtain⟨ob,es,ep,t,e,c⟩:=x; exact⟨ob,es,ep,t,k _ _ (.inl rfl) e,c⟩
 | ins C dx fs =>
  obtain⟨d,z,ne,e,mA,⟨od,es,ep,e2,c⟩,r⟩:=x;exact⟨ho _ d,z,ne,k _ _ (.inl rfl) e,mA,⟨od,es,ep,k _ _ (.inr d) e2,c⟩,r⟩
 | own y=>obtain⟨ob,e⟩:=x; exact⟨ob,k _ _ (.inl rfl) e⟩
 | xd fs=>obtain⟨mA,⟨od,es,ep,e,c⟩,r⟩:=x; exact⟨mA,⟨od,es,ep,k _ _ (.inl rfl) e,c⟩,r⟩
 | rng lo hi=>obtain⟨t,u,v,e⟩:=x; exact⟨t,u,v,k _ _ (.inl rfl) e⟩
 | frz ob u ih=>obtain⟨e,q⟩:=x; exact⟨k _ _ (.inl rfl) e,ih q⟩
 | tbl ps =>
  obtain⟨qs,e,tr,f⟩:=x;refine⟨qs,k _ _ (.inl rfl) e,tr,fun pos c hc=>?_⟩;obtain⟨c',oc,vs,t,q,e1,e2,e3,e4⟩:=f pos c hc;exact⟨c',oc,vs,t,q,e1,ho _ e2,k _ _ (.inr e2) e3,e4⟩
 | met f y =>
  have e:h.get? a=some (PySem.W.methodObj (.ref f) (.ref y)):=x;show h'.get? a=some (PySem.W.methodObj (.ref f) (.ref y));exact k a _ (.inl rfl) e
 | ext φ=>obtain⟨p,⟨o,e⟩,st⟩:=x; exact⟨st _ _ p fun o q=>k _ _ (.inl rfl) q,⟨o,k _ _ (.inl rfl) e⟩,st⟩
theorem HOk.lt(x:HOk P w H h)(e:H a=some o):a<h.objs.size:=(x a o e).lt
theorem HOk.fresh(x:HOk P w H h)(e:h.objs.size<=a):H a=none:=by
 cases q:H a with
 | none=>rfl
 | some u=>exact absurd (Nat.lt_of_lt_of_le (x.lt q) e) (Nat.lt_irrefl _)
theorem HOk.kept(x:HOk P w H h)(k:∀b u,h.get? b=some u->h'.get? b=some u):HOk P w H h':=fun a o e =>
 (x a o e).stay (fun b u _ q=>k b u q) (fun _ q=>q) fun _ _ q=>q
theorem HOk.laid(x:HOk P w H h)(k:∀b u,h.get? b=some u->h'.get? b=some u)(hp:h.objs.size<=a)(new:BB P w (upd H a o) h' a o):HOk P w (upd H a o) h':=fun b u e=>by
 have hn:=x.fresh hp;by_cases hb:b=a
 .subst hb; rw[AQ] at e; cases e; exact new
 .rw[AL hb] at e
  exact(x b u e).stay (fun c v _ q=>k c v q) (fun c q=>by rw[AL (Dr q hn)]; exact q) fun c xs q=>by rw[AL (Dr q hn)]; exact q
end
noncomputable def Rd(H:Hp)(a:Addr)(u:HO):Prop:=H a=some u\/∃o,H a=some (.frz o u)
theorem Rd.ok{P:Program}{w:World}{H:Hp}{h:Heap}{a:Addr}{u:HO}(r:Rd H a u)(x:HOk P w H h):BB P w H h a u:=by
 rcases r with r|⟨o,r⟩
 .exact x a u r
 .obtain⟨_,q⟩:=x a _ r
  exact q
noncomputable def Mut:Option HO->Prop
 | some (.lst _)=>True
 | some (.dK _)=>True
 | some (.dT _)=>True
 | some (.set _ _)=>True
 | some (.ins _ _ _)=>True
 | some (.ext _)=>True
 | _=>False
section
variable{P:Program}{w:World}{H:Hp}{h h':Heap}{x e:Addr}{o':HO}
theorem HOk.write(ok:HOk P w H h)(mu:Mut (H x))(he:e=x\/H e=some (.own x))(k:∀b u,b≠e->h.get? b=some u->h'.get? b=some u)(heo:∃u,h'.get? e=some u)(new:BB P w (upd H x o') h' x o'):HOk P w (upd H x o') h':=fun b u q=>by
 have nown:∀c y,H c=some (.own y)->c≠x:=fun c y r z=>by subst z; rw[r] at mu; exact mu
 have ntup:∀c xs,H c=some (.tup xs)->c≠x:=fun c xs r z=>by subst z; rw[r] at mu; exact mu
 by_cases hb:b=x
 .subst hb; rw[AQ] at q; cases q; exact new
 .rw[AL hb] at q
  by_cases hbe:b=e
  .have q':H b=some (.own x):=by
    rcases he with z|z
    .exact absurd (hbe.trans z) hb
    .rw[hbe]; exact z
   rw[q] at q'; cases q';obtain⟨v,hv⟩:=heo;exact⟨v,by rw[hbe]; exact hv⟩
  .refine(ok b u q).stay (fun c v hc r=>k c v ?_ r) (fun c r=>by rw[AL (nown c b r)]; exact r) fun c xs r=>by rw[AL (ntup c xs r)]; exact r
   rcases hc with rfl|hc
   .exact hbe
   .rintro rfl
    rcases he with z|z
    .exact nown c b hc z
    .rw[hc] at z; cases z; exact hb rfl
end
structure Un (fs ex:List Addr) (H H':Hp) (h h':Heap):Prop where
 keep:∀b o,h.get? b=some o->H b=none->b∉fs->b∉ex->h'.get? b=some o
 slot:∀b o,h.get? b=some o->H b=none->b∈fs->b∉ex->∃sl,h'.get? b=some { o with slots:=sl }
 free:∀b o,h.get? b=some o->H b=none->b∉ex->H' b=none
 there:∀b o,h.get? b=some o->b∉ex->∃o',h'.get? b=some o'
 tups:∀b xs,H b=some (.tup xs)->H' b=some (.tup xs)
 frzs:∀b o u,H b=some (.frz o u)->H' b=some (.frz o u)
 tbls:∀b ps,H b=some (.tbl ps)->∃more,H' b=some (.tbl (ps++more))
section
variable{fs fs' ex ex':List Addr}{H H1 H2:Hp}{h h1 h2 h':Heap}{a x e:Addr}{o:HO}
theorem Un.any(u:Un fs ex H H1 h h1){b:Addr}{ob:Obj}(q:h.get? b=some ob)(n:H b=none)(hx:b∉ex):∃sl,h1.get? b=some { ob with slots:=sl }:=by
 by_cases hb:b∈fs
 .exact u.slot b ob q n hb hx
 .exact⟨ob.slots,u.keep b ob q n hb hx⟩
theorem Un.kept(k:∀b u,h.get? b=some u->h'.get? b=some u):Un fs ex H H h h':=
 ⟨fun b ob q _ _ _=>k b ob q,fun b ob q _ _ _=>⟨ob.slots,k b ob q⟩,fun _ _ _ n _=>n,fun b ob q _=>⟨ob,k b ob q⟩,fun _ _ q=>q,fun _ _ _ q=>q,fun _ ps q=>⟨#[],by rw[q]; simp⟩⟩
theorem Un.refl:Un fs ex H H h h:=Un.kept fun _ _ q=>q
theorem Un.laid(k:∀b u,h.get? b=some u->h'.get? b=some u)(hp:h.objs.size<=a)(hn:H a=none):Un fs ex H (upd H a o) h h' where
 keep:=fun b u q _ _ _=>k b u q
 slot:=fun b u q _ _ _=>⟨u.slots,k b u q⟩
 free:=fun b u q n _=>by rw[AL (Nat.ne_of_lt (Nat.lt_of_lt_of_le (Heap.lt_size q) hp))]; exact n
 there:=fun b u q _=>⟨u,k b u q⟩
 tups:=fun b xs q=>by rw[AL (Dr q hn)]; exact q
 frzs:=fun b u xs q=>by rw[AL (Dr q hn)]; exact q
 tbls:=fun b ps q=>⟨#[],by rw[AL (Dr q hn),q]; simp⟩
theorem Un.write(mu:Mut (H x))(he:e=x\/H e=some (.own x))(k:∀b u,b≠e->h.get? b=some u->h'.get? b=some u)(heo:∃u,h'.get? e=some u):Un fs ex H (upd H x o) h h':=by
 have hx:∀b,H b=none->b≠x:=fun b n z=>by subst z; rw[n] at mu; exact mu
 have hb:∀b,H b=none->b≠e:=fun b n z=>by
  subst z;rcases he with r|r
  .exact hx b n r
  .rw[n] at r; cases r
 have hm:∀b u,H b=some u->¬Mut (some u)->b≠x:=fun b u q nm z=>by subst z; rw[q] at mu; exact nm mu
 refine⟨fun b u q n _ _=>k b u (hb b n) q,fun b u q n _ _=>⟨u.slots,k b u (hb b n) q⟩,fun b u q n _=>by rw[AL (hx b n)]; exact n,fun b u q _=>?_,
  fun b xs q=>by rw[AL (hm b _ q fun z=>z)]; exact q,fun b u xs q=>by rw[AL (hm b _ q fun z=>z)]; exact q,fun b ps q=>⟨#[],by rw[AL (hm b _ q fun z=>z),q]; simp⟩⟩
 by_cases hbe:b=e
 .subst hbe; exact heo
 .exact⟨u,k b u hbe q⟩
end
noncomputable def trk(h:Heap)(H:Hp):List Addr:=(List.range h.objs.size).filter fun a=>(H a).isSome
noncomputable def Ka(h:Heap)(H:Hp):Heap:=PySem.W.hideAll h (trk h H)
theorem Pg(h:Heap)(H:Hp):(Ka h H).objs.size=h.objs.size:=PySem.W.hideAll_size _ _
theorem QG{h:Heap}{H:Hp}{b:Addr}{o:Obj}(e:h.get? b=some o)(n:H b=none):(Ka h H).get? b=some o:=
 PySem.W.hideAll_get _ e fun hm=>by
  have q:(H b).isSome=true:=(List.mem_filter.mp hm).2;rw[n] at q; simp at q
theorem Tb{h:Heap}{H:Hp}{b:Addr}{o:Obj}(e:(Ka h H).get? b=some o):h.get? b=some o/\H b=none:=by
 have e':h.get? b=some o:=PySem.W.of_hideAll (trk h H) e;refine⟨e',?_⟩;cases q:H b with
 | none=>rfl
 | some x =>
  have hm:b∈trk h H:=List.mem_filter.mpr ⟨List.mem_range.mpr (Heap.lt_size e'),by simp[q]⟩;have z:(Ka h H).get? b=none:=PySem.W.hideAll_none (trk h H) hm;rw[z] at e; cases e
noncomputable def Sv(g h:Heap)(L:Addr):List (Addr×Obj):=(List.range h.objs.size).filterMap fun a=>if a=L\/(g.get? a).isSome=true then none else (h.get? a).map fun o=>(a,o)
noncomputable def rest(g h:Heap)(L d:Addr):List (Addr×Obj):=(Sv g h L).filter fun p=>decide (p.1≠d)
end L2
namespace L2
open PySem PySem.Spec PyProof.Rows
structure Mod (K:Frag) (mg:Str->Option Value) (base:Heap):Prop where
 kin:K.In base
 glob:base.Ns mainGlobals mg
 blt:∃mb,base.Ns builtinsNs mb/\∀x:Str,x ≠ "__name__" -> mb x=bootBuiltins x
 nolimit:base.NoLimit
 bmain:∃bm ob,mg "__builtins__" = some (.ref bm)/\bm≠builtinsNs/\base.get? bm=some ob/\ob.cls=.type "module" /\ ob.dict=some builtinsNs/\ob.data=.plain
structure Cx where
 prog:Program
 w:World
 K:Frag
 mg:Str->Option Value
 base:Heap
 A:Around
 N:List Str
 s₀:Shared
 H₀:Hp
 env:Env
 outer:List Env
 stack:List Env
 ex:List Addr
 fn:Str->Bool
 calm:Bool
 pn:List (Addr×Obj)
 xe:Value->Shared->Prop
noncomputable def frs(l:List Env):List Addr:=l.filterMap (·.frame)
noncomputable abbrev Cx.fs(X:Cx):List Addr:=frs X.outer
noncomputable def Vis(sc:Scope)(x:Str):Prop:=sc.names.lookup x=some .local\/sc.names.lookup x=some .cell\/sc.names.lookup x=some .free
noncomputable def Loc(sc:Scope)(x:Str):Prop:=sc.names.lookup x=some .local\/sc.names.lookup x=some .cell
noncomputable def Look(env:Env)(h:Heap)(m:Str->Option Value)(x:Str)(u:Value):Prop:=
 (env.kindOf x=some .local/\m x=some u)\/((env.kindOf x=some .cell\/env.kindOf x=some .free)/\∃c,env.cells.lookup x=some c/\h.IsCell c (some u))
structure Cx.Ok (X:Cx):Prop where
 mod:Mod X.K X.mg X.base
 kind:X.env.scope.kind=.function
 glob:X.env.globals=mainGlobals
 blt:X.env.builtins=builtinsNs
 above:X.s₀.heap.objs.size<=X.env.locals
 inj:∀x y c,X.env.cells.lookup x=some c->X.env.cells.lookup y=some c->x=y
 has:∀x,(X.env.kindOf x=some .cell\/X.env.kindOf x=some .free)->∃c,X.env.cells.lookup x=some c
 cab:∀x c,X.fn x=true->X.env.cells.lookup x=some c->X.s₀.heap.objs.size<=c
 hd:X.calm=true->X.A.handled=none
 frames:X.A.frames=some X.stack
 stk:X.stack=X.outer\/(X.stack=X.env::X.outer/\X.env.frame=some X.env.locals)
 exf:∀b∈X.ex,b≠X.env.locals/\∀x c,X.env.cells.lookup x=some c->c≠b
 bs:∀b o,X.base.get? b=some o->X.s₀.heap.get? b=some o/\X.H₀ b=none
 bsz:X.base.objs.size<=X.s₀.heap.objs.size
 noex:∀b o,X.base.get? b=some o->b∉X.ex
 exfs:∀b∈X.ex,b∉X.fs
 funs:X.s₀.heap.FunFrames X.base X.outer
 frf:∀b∈X.fs,X.H₀ b=none
 tb:O4 X.K X.H₀
structure Inv (X:Cx) (pins:List (Addr×Obj)) (U:List (Option V)) (H:Hp) (s:Shared):Prop where
 ok:X.Ok
 os:s.os=X.s₀.os
 bare:AllBare s.gens
 base:Un X.fs X.ex X.H₀ H X.s₀.heap s.heap
 loc:∃m,s.heap.Ns X.env.locals m/\∀(i:Nat) (x:Str) (v:V),X.N[i]? = some x -> U[i]? = some (some v)->Vis X.env.scope x->∃u,RelV v u/\Look X.env s.heap m x u
 cell:∀x c,X.env.cells.lookup x=some c->∃v,s.heap.IsCell c v
 free:H X.env.locals=none
 freeC:∀x c,X.env.cells.lookup x=some c->H c=none
 pin:∀p∈X.pn++pins,s.heap.get? p.1=some p.2/\H p.1=none/\p.1≠X.env.locals/\p.1∉X.fs/\∀v,p.2.data≠.cell v
 hok:HOk X.prog X.w H s.heap
 len : U.length=X.N.length
section
variable{X:Cx}{pins:List (Addr×Obj)}{U:List (Option V)}{H H':Hp}{s:Shared}{h':Heap}
theorem Cx.Ok.nofr(ok:X.Ok){b:Addr}{o:Obj}(e:X.base.get? b=some o):b∉X.fs:=fun hb=>by
 have:=(ok.funs.mem hb).1;rw[e] at this; cases this
theorem O4.grow{K:Frag}{H H':Hp}(x:O4 K H)(h:∀b ps,H b=some (.tbl ps)->∃more,H' b=some (.tbl (ps++more))):O4 K H':=fun c P e=>by
 obtain⟨ps,e1,e2⟩:=x c P e;obtain⟨more,e3⟩:=h P ps e1;refine⟨ps++more,e3,?_⟩;have hl:0<ps.size:=by
  cases hs:ps[0]? with
  | none=>rw[hs] at e2; cases e2
  | some v=>exact(Array.getElem?_eq_some_iff.mp hs).1
 rw[Array.getElem?_append_left hl];exact e2
theorem Inv.tabs(I:Inv X pins U H s):O4 X.K H:=I.ok.tb.grow I.base.tbls
theorem Inv.bs(I:Inv X pins U H s):∀b o,X.base.get? b=some o->s.heap.get? b=some o/\H b=none:=fun b o e =>
 ⟨I.base.keep b o (I.ok.bs b o e).1 (I.ok.bs b o e).2 (I.ok.nofr e) (I.ok.noex b o e),I.base.free b o (I.ok.bs b o e).1 (I.ok.bs b o e).2 (I.ok.noex b o e)⟩
theorem Inv.bk(I:Inv X pins U H s):∀b o,X.base.get? b=some o->s.heap.get? b=some o:=fun b o e=>(I.bs b o e).1
theorem Inv.mod(I:Inv X pins U H s):Mod X.K X.mg X.base:=I.ok.mod
theorem Inv.kIn(I:Inv X pins U H s):X.K.In s.heap:=I.ok.mod.kin.keeps I.bk
theorem Inv.lt(I:Inv X pins U H s):X.env.locals<s.heap.objs.size:=let⟨_,hn,_⟩:=I.loc; hn.lt
theorem Inv.sz(I:Inv X pins U H s):X.s₀.heap.objs.size<=s.heap.objs.size:=Nat.le_trans I.ok.above (Nat.le_of_lt I.lt)
theorem Inv.nofs(I:Inv X pins U H s){a:Addr}(h:s.heap.objs.size<=a):a∉X.fs:=fun hb=>by
 obtain⟨_,o,ho,_⟩:=I.ok.funs.mem hb;exact absurd (Nat.lt_of_lt_of_le (Heap.lt_size ho) (Nat.le_trans I.sz h)) (Nat.lt_irrefl _)
theorem Inv.cne(I:Inv X pins U H s):∀x c,X.env.cells.lookup x=some c->c≠X.env.locals:=fun x c e z=>by
 obtain⟨v,o,ho,hd⟩:=I.cell x c e;obtain⟨m,⟨o',es,ep,ho',hd',_⟩,_⟩:=I.loc;rw[z,ho'] at ho; cases ho; rw[hd'] at hd; cases hd
theorem Inv.funs(I:Inv X pins U H s):s.heap.FunFrames X.base X.outer:=by
 have all:∀(l:List Env),(∀b∈frs l,b∈X.fs)->X.s₀.heap.FunFrames X.base l->s.heap.FunFrames X.base l:=by
  intro l;induction l with
  | nil=>intro _ _; trivial
  | cons env r ih =>
   intro hs hl;obtain⟨hk,⟨L,o,hf,hn,ho,hd⟩,hr⟩:=hl;have hL:L∈X.fs:=hs L (by unfold frs; rw[List.filterMap_cons,hf]; exact List.mem_cons_self);obtain⟨sl,e⟩:=I.base.slot L o ho (I.ok.frf L hL) hL fun z=>I.ok.exfs L z hL;exact⟨hk,⟨L,_,hf,hn,e,hd⟩,ih (fun b hb=>hs b (by unfold frs; rw[List.filterMap_cons,hf]; exact List.mem_cons_of_mem _ hb)) hr⟩
 exact all X.outer (fun _ hb=>hb) I.ok.funs
theorem Inv.stack(I:Inv X pins U H s):s.heap.FunFrames X.base X.stack:=by
 rcases I.ok.stk with e|⟨e,hf⟩
 .rw[e]; exact I.funs
 .rw[e]
  obtain⟨m,hn,_⟩:=I.loc;refine .cons (by rw[I.ok.kind]; decide) hf hn ?_ I.funs;exact Heap.get?_none_of_le (Nat.le_trans I.ok.bsz I.ok.above)
theorem Inv.stkSub(I:Inv X pins U H s):∀b∈frs X.stack,b∈X.env.locals::X.fs:=fun b hb=>by
 rcases I.ok.stk with e|⟨e,hf⟩
 .rw[e] at hb; exact List.mem_cons_of_mem _ hb
 .rw[e] at hb
  unfold frs at hb;rw[List.filterMap_cons,hf] at hb;exact hb
theorem Inv.stkFree(I:Inv X pins U H s):∀b∈frs X.stack,H b=none:=fun b hb=>by
 rcases List.mem_cons.mp (I.stkSub b hb) with e|hb
 .rw[e]; exact I.free
 .obtain⟨_,o,ho,_⟩:=I.ok.funs.mem hb
  exact I.base.free b o ho (I.ok.frf b hb) fun z=>I.ok.exfs b z hb
theorem Inv.step{g':Array GenState}{t':Nat}{d':Drawn}{ch:List Addr}(I:Inv X pins U H s)(hch:∀b∈ch,(b∈X.ex\/X.s₀.heap.objs.size<=b)/\b≠X.env.locals/\(∀x c,X.env.cells.lookup x=some c->c≠b)/\∀p∈X.pn++pins,p.1≠b)(keep:∀b o,b≠X.env.locals->b∉X.fs->b∉ch->s.heap.get? b=some o->H b=none->h'.get? b=some o)(slot:∀b o,b≠X.env.locals->b∈X.fs->b∉ch->s.heap.get? b=some o->H b=none->∃sl,h'.get? b=some { o with slots:=sl })(free:∀b o,b∉ch->s.heap.get? b=some o->H b=none->H' b=none)(there:∀b o,b∉ch->s.heap.get? b=some o->∃o',h'.get? b=some o')(tups:∀b xs,H b=some (.tup xs)->H' b=some (.tup xs))(frzs:∀b o u,H b=some (.frz o u)->H' b=some (.frz o u))(tbls:∀b ps,H b=some (.tbl ps)->∃more,H' b=some (.tbl (ps++more)))(ns:∀m,s.heap.Ns X.env.locals m->h'.Ns X.env.locals m)(hok:HOk X.prog X.w H' h')(hg:AllBare g'):
  Inv X pins U H' { s with heap:=h',gens:=g',drawn:=d',toks:=t' }:=by
 have neL:∀b o,X.s₀.heap.get? b=some o->b≠X.env.locals:=fun b o e=>Nat.ne_of_lt (Nat.lt_of_lt_of_le (Heap.lt_size e) I.ok.above);have neC:∀b o,X.s₀.heap.get? b=some o->b∉X.ex->b∉ch:=fun b o e hx hb=>by
  rcases(hch b hb).1 with z|z
  .exact hx z
  .exact absurd (Nat.lt_of_lt_of_le (Heap.lt_size e) z) (Nat.lt_irrefl _)
 have cellK:∀x c,X.env.cells.lookup x=some c->∀v,s.heap.IsCell c v->h'.IsCell c v:=fun x c e v ⟨o,ho,hd⟩=>by
  have nch:c∉ch:=fun z=>(hch c z).2.2.1 x c e rfl;by_cases hc:c∈X.fs
  .obtain⟨sl,q⟩:=slot c o (I.cne x c e) hc nch ho (I.freeC x c e)
   exact⟨_,q,hd⟩
  .exact⟨o,keep c o (I.cne x c e) hc nch ho (I.freeC x c e),hd⟩
 refine⟨I.ok,I.os,hg,⟨fun b o e n hb hx=>?_,fun b o e n hb hx=>?_,fun b o e n hx=>?_,fun b o e hx=>?_,fun b xs e=>tups b xs (I.base.tups b xs e),fun b o xs e=>frzs b o xs (I.base.frzs b o xs e),fun b ps e=>?_⟩,?_,fun x c e=>?_,?_,fun x c e=>?_,fun p hp=>?_,hok,I.len⟩
 .exact keep b o (neL b o e) hb (neC b o e hx) (I.base.keep b o e n hb hx) (I.base.free b o e n hx)
 .obtain⟨sl,e1⟩:=I.base.slot b o e n hb hx
  obtain⟨sl',e2⟩:=slot b _ (neL b o e) hb (neC b o e hx) e1 (I.base.free b o e n hx);exact⟨sl',e2⟩
 .obtain⟨o',e1⟩:=I.base.there b o e hx
  exact free b o' (neC b o e hx) e1 (I.base.free b o e n hx)
 .obtain⟨o',e1⟩:=I.base.there b o e hx
  exact there b o' (neC b o e hx) e1
 .obtain⟨m1,e1⟩:=I.base.tbls b ps e
  obtain⟨m2,e2⟩:=tbls b _ e1;exact⟨m1++m2,by rw[e2,Array.append_assoc]⟩
 .obtain⟨m,hn,hl⟩:=I.loc
  refine⟨m,ns m hn,fun i x v e1 e2 e3=>?_⟩;obtain⟨u,r,l⟩:=hl i x v e1 e2 e3;refine⟨u,r,?_⟩;rcases l with l|⟨k,c,e,z⟩
  .exact .inl l
  .exact .inr ⟨k,c,e,cellK x c e _ z⟩
 .obtain⟨v,z⟩:=I.cell x c e
  exact⟨v,cellK x c e v z⟩
 .obtain⟨m,⟨o,_,_,ho,_⟩,_⟩:=I.loc
  exact free _ o (fun z=>(hch _ z).2.1 rfl) ho I.free
 .obtain⟨v,o,ho,hd⟩:=I.cell x c e
  exact free c o (fun z=>(hch c z).2.2.1 x c e rfl) ho (I.freeC x c e)
 .obtain⟨e,n,ne,nf,d⟩:=I.pin p hp
  have nch:p.1∉ch:=fun z=>(hch p.1 z).2.2.2 p hp rfl;exact⟨keep p.1 p.2 ne nf nch e n,free p.1 p.2 nch e n,ne,nf,d⟩
theorem Inv.un{t':Nat}(I:Inv X pins U H s)(u:Un X.fs [] H H' s.heap h')(hok:HOk X.prog X.w H' h'):Inv X pins U H' { s with heap:=h',toks:=t' }:=by
 obtain⟨m,⟨o,es,ep,ho,r⟩,_⟩:=id I.loc;obtain⟨sl,hL⟩:=u.any ho I.free (by simp);exact I.step (g':=s.gens) (d':=s.drawn) (ch:=[]) (fun _ z=>nomatch z) (fun b o _ hb _ e n=>u.keep b o e n hb (by simp)) (fun b o _ hb _ e n=>u.slot b o e n hb (by simp)) (fun b o _ e n=>u.free b o e n (by simp)) (fun b o _ e=>u.there b o e (by simp)) u.tups u.frzs u.tbls (fun m' hm=>by
  obtain⟨o',es',ep',ho',r'⟩:=hm;rw[ho] at ho'; cases ho';exact⟨_,es',ep',hL,r'⟩) hok I.bare
theorem Inv.call{g':Array GenState}{t':Nat}{d':Drawn}{ch:List Addr}(I:Inv X pins U H s)(u:Un (frs X.stack) ch H H' s.heap h')(hok:HOk X.prog X.w H' h')(hg:AllBare g')(hch:∀b∈ch,(b∈X.ex\/X.s₀.heap.objs.size<=b)/\b≠X.env.locals/\(∀x c,X.env.cells.lookup x=some c->c≠b)/\∀p∈X.pn++pins,p.1≠b):
  Inv X pins U H' { s with heap:=h',gens:=g',drawn:=d',toks:=t' }:=by
 obtain⟨m,⟨o,es,ep,ho,r⟩,_⟩:=id I.loc;obtain⟨sl,hL⟩:=u.any ho I.free fun z=>(hch _ z).2.1 rfl;exact I.step (ch:=ch) hch (fun b o hL hb hc e n=>u.keep b o e n (fun z=>(List.mem_cons.mp (I.stkSub b z)).elim hL hb) hc) (fun b o _ _ hc e n=>u.any e n hc) (fun b o hc e n=>u.free b o e n hc) (fun b o hc e=>u.there b o e hc) u.tups u.frzs u.tbls (fun m' hm=>by
  obtain⟨o',es',ep',ho',r'⟩:=hm;rw[ho] at ho'; cases ho';exact⟨_,es',ep',hL,r'⟩) hok hg
theorem Inv.turned{t':Nat}{it:Addr}(I:Inv X pins U H s)(k:∀b o,b≠it->s.heap.get? b=some o->h'.get? b=some o)(hn:H it=none)(hL:it≠X.env.locals)(h1:it∈X.ex\/X.s₀.heap.objs.size<=it)(h2:∀x c,X.env.cells.lookup x=some c->c≠it)(h3:∀p∈X.pn++pins,p.1≠it):Inv X pins U H { s with heap:=h',toks:=t' }:=by
 have nit:∀b u,H b=some u->b≠it:=fun b u e z=>by rw[z,hn] at e; cases e
 refine I.step (g':=s.gens) (d':=s.drawn) (ch:=[it]) (fun b hb=>?_) (fun b o _ _ hc e _=>k b o (fun z=>hc (by simp[z])) e) (fun b o _ _ hc e _=>⟨o.slots,k b o (fun z=>hc (by simp[z])) e⟩) (fun _ _ _ _ n=>n)
  (fun b o hc e=>⟨o,k b o (fun z=>hc (by simp[z])) e⟩) (fun _ _ e=>e) (fun _ _ _ e=>e) (fun b ps e=>⟨#[],by rw[e]; simp⟩) (fun m hm=>?_) (fun b u e=>?_) I.bare
 .have e:b=it:=by simpa using hb
  subst e;exact⟨h1,hL,h2,h3⟩
 .obtain⟨o,es,ep,ho,r⟩:=hm
  exact⟨o,es,ep,k _ o (Ne.symm hL) ho,r⟩
 .refine(I.hok b u e).stay (fun c v hc q=>k c v ?_ q) (fun _ q=>q) fun _ _ q=>q
  rcases hc with z|z
  .rw[z]; exact nit b u e
  .exact nit c _ z
theorem Inv.tok(I:Inv X pins U H s)(t:Nat):Inv X pins U H { s with toks:=t }:=I.un (h':=s.heap) (t':=t) Un.refl I.hok
theorem Inv.kept{t':Nat}(I:Inv X pins U H s)(k:∀b u,s.heap.get? b=some u->h'.get? b=some u):Inv X pins U H { s with heap:=h',toks:=t' }:=I.un (Un.kept k) (I.hok.kept k)
theorem Inv.laid{a:Addr}{o:HO}{t':Nat}(I:Inv X pins U H s)(k:∀b u,s.heap.get? b=some u->h'.get? b=some u)(hp:s.heap.objs.size<=a)(new:BB X.prog X.w (upd H a o) h' a o):
  Inv X pins U (upd H a o) { s with heap:=h',toks:=t' }:=I.un (Un.laid k hp (I.hok.fresh hp)) (I.hok.laid k hp new)
theorem Inv.write{x e:Addr}{o:HO}{t':Nat}(I:Inv X pins U H s)(mu:Mut (H x))(he:e=x\/H e=some (.own x))(k:∀b u,b≠e->s.heap.get? b=some u->h'.get? b=some u)(heo:∃u,h'.get? e=some u)(new:BB X.prog X.w (upd H x o) h' x o):Inv X pins U (upd H x o) { s with heap:=h',toks:=t' }:=I.un (Un.write mu he k heo) (I.hok.write mu he k heo new)
theorem Inv.pins_of{pins':List (Addr×Obj)}(I:Inv X pins U H s)(h:∀p∈pins',s.heap.get? p.1=some p.2/\H p.1=none/\p.1≠X.env.locals/\p.1∉X.fs/\∀v,p.2.data≠.cell v):Inv X pins' U H s:=
 ⟨I.ok,I.os,I.bare,I.base,I.loc,I.cell,I.free,I.freeC,fun p hp=>(List.mem_append.mp hp).elim (fun z=>I.pin p (List.mem_append_left _ z)) (h p),I.hok,I.len⟩
theorem MG{N:List Str}(hN:N.Nodup){i j:Nat}{x:Str}(a:N[i]? = some x)(b:N[j]? = some x):i=j:=by
 obtain⟨h1,e1⟩:=List.getElem?_eq_some_iff.mp a;obtain⟨h2,e2⟩:=List.getElem?_eq_some_iff.mp b;exact(List.getElem_inj hN).mp (e1.trans e2.symm)
theorem P6{M:Model}{A:Around}{E:Value->Shared->Prop}{i:Nat}{x:Str}{v:V}{u:Value}{Q:Unit->Shared->Prop}(I:Inv X pins U H s)(hN:X.N.Nodup)(hi:X.N[i]? = some x)(hx:Loc X.env.scope x)(r:RelV v u)(h:∀s',Inv X pins (U.set i (some v)) H s'->(∃a,Heap.SameBut a s.heap s'.heap/\(a=X.env.locals\/X.env.cells.lookup x=some a))->Q () s')(hf:X.fn x=true\/X.env.scope.names.lookup x=some .local:=by first|exact .inl rfl|exact .inr rfl|assumption):wpAny M A (storeName X.env x u) Q E s:=by
 obtain⟨m,hn,hl⟩:=id I.loc;have hcls:(X.env.scope.kind==.class || (X.env.scope.kind==.module&&X.env.locals != X.env.globals))=false:=by rw[I.ok.kind]; rfl
 have hiσ:i<U.length:=by rw[I.len]; exact(List.getElem?_eq_some_iff.mp hi).1
 have cne:=I.cne;have tracked:∀{a:Addr} {h':Heap},(∃o,s.heap.get? a=some o/\H a=none)->Heap.SameBut a s.heap h'->HOk X.prog X.w H h':=fun {a h'} ha hs b ob e=>by
  obtain⟨_,_,hfree⟩:=ha;refine(I.hok b ob e).stay (fun c w' hc q=>(hs.2 c ?_).trans q) (fun _ q=>q) fun _ _ q=>q;rintro rfl;rcases hc with rfl|hc
  .rw[hfree] at e; cases e
  .rw[hfree] at hc; cases hc
 rcases hx with hk|hk
 .refine wpAny_storeName_local hk hn (fun h' hn' hs=>?_) hcls
  obtain⟨oL,_,_,hoL,_⟩:=id hn;refine h _ ⟨I.ok,I.os,I.bare,⟨fun b o e n hb hx=>?_,fun b o e n hb hx=>?_,I.base.free,fun b o e hx=>?_,I.base.tups,I.base.frzs,I.base.tbls⟩,⟨_,hn',fun j y v' e1 e2 e3=>?_⟩,fun y c e=>?_,I.free,I.freeC,fun p hp=>?_,tracked ⟨oL,hoL,I.free⟩ hs,by simpa using I.len⟩ ⟨_,hs,.inl rfl⟩
  .exact(hs.2 b (Nat.ne_of_lt (Nat.lt_of_lt_of_le (Heap.lt_size e) I.ok.above))).trans (I.base.keep b o e n hb hx)
  .obtain⟨sl,e1⟩:=I.base.slot b o e n hb hx
   exact⟨sl,(hs.2 b (Nat.ne_of_lt (Nat.lt_of_lt_of_le (Heap.lt_size e) I.ok.above))).trans e1⟩
  .obtain⟨o',e1⟩:=I.base.there b o e hx
   exact⟨o',(hs.2 b (Nat.ne_of_lt (Nat.lt_of_lt_of_le (Heap.lt_size e) I.ok.above))).trans e1⟩
  .by_cases hj:j=i
   .subst hj
    rw[hi] at e1; cases e1;rw[List.getElem?_set_self hiσ] at e2;cases e2;exact⟨u,r,.inl ⟨hk,by simp⟩⟩
   .rw[List.getElem?_set_ne (Ne.symm hj)] at e2
    obtain⟨u',r',q⟩:=hl j y v' e1 e2 e3;refine⟨u',r',?_⟩;rcases q with ⟨k,e⟩|⟨k,c,e,z⟩
    .refine .inl ⟨k,?_⟩
     have:y≠x:=fun e=>hj (MG hN e1 (e ▸ hi));simp[this,e]
    .exact .inr ⟨k,c,e,z.sameBut hs (cne y c e)⟩
  .obtain⟨w',z⟩:=I.cell y c e
   exact⟨w',z.sameBut hs (cne y c e)⟩
  .obtain⟨e,n,ne,nf,d⟩:=I.pin p hp
   exact⟨(hs.2 p.1 ne).trans e,n,ne,nf,d⟩
 .have hfn:X.fn x=true:=by
   rcases hf with z|z
   .exact z
   .rw[z] at hk; cases hk
  obtain⟨c,hc⟩:=I.ok.has x (.inl hk);obtain⟨w',z⟩:=I.cell x c hc;refine wpAny_storeName_cell I.ok.kind hk hc z (fun h' hc' hs=>?_);obtain⟨oc,hoc,hocd⟩:=id z;refine h { s with heap:=h' } ⟨I.ok,I.os,I.bare,⟨fun b o e n hb hx=>?_,fun b o e n hb hx=>?_,I.base.free,fun b o e hx=>?_,I.base.tups,I.base.frzs,I.base.tbls⟩,⟨m,hn.sameBut hs (Ne.symm (cne x c hc)),fun j y v' e1 e2 e3=>?_⟩,fun y c' e=>?_,I.free,I.freeC,fun p hp=>?_,tracked ⟨oc,hoc,I.freeC x c hc⟩ hs,by simpa using I.len⟩ ⟨c,hs,.inr hc⟩
  .exact(hs.2 b (Nat.ne_of_lt (Nat.lt_of_lt_of_le (Heap.lt_size e) (I.ok.cab x c hfn hc)))).trans (I.base.keep b o e n hb hx)
  .obtain⟨sl,e1⟩:=I.base.slot b o e n hb hx
   exact⟨sl,(hs.2 b (Nat.ne_of_lt (Nat.lt_of_lt_of_le (Heap.lt_size e) (I.ok.cab x c hfn hc)))).trans e1⟩
  .obtain⟨o',e1⟩:=I.base.there b o e hx
   exact⟨o',(hs.2 b (Nat.ne_of_lt (Nat.lt_of_lt_of_le (Heap.lt_size e) (I.ok.cab x c hfn hc)))).trans e1⟩
  .by_cases hj:j=i
   .subst hj
    rw[hi] at e1; cases e1;rw[List.getElem?_set_self hiσ] at e2;cases e2;exact⟨u,r,.inr ⟨.inl hk,c,hc,hc'⟩⟩
   .rw[List.getElem?_set_ne (Ne.symm hj)] at e2
    obtain⟨u',r',q⟩:=hl j y v' e1 e2 e3;refine⟨u',r',?_⟩;rcases q with q|⟨k,c',e,z'⟩
    .exact .inl q
    .refine .inr ⟨k,c',e,z'.sameBut hs ?_⟩
     rintro rfl;exact hj (MG hN e1 (I.ok.inj _ _ _ e hc ▸ hi))
  .by_cases hcc:c'=c
   .subst hcc; exact⟨_,hc'⟩
   .obtain⟨w2,z2⟩:=I.cell y c' e
    exact⟨w2,z2.sameBut hs hcc⟩
  .obtain⟨e,n,ne,nf,d⟩:=I.pin p hp
   refine⟨(hs.2 p.1 ?_).trans e,n,ne,nf,d⟩;intro q;rw[q,hoc] at e;have q':oc=p.2:=Option.some.inj e;exact d w' (by rw[<- q']; exact hocd)
theorem FD{M:Model}{A:Around}{E:Value->Shared->Prop}{i:Nat}{x:Str}{v:V}{u:Value}{Q:Unit->Shared->Prop}(I:Inv X pins U H s)(hN:X.N.Nodup)(hi:X.N[i]? = some x)(hx:Loc X.env.scope x)(r:RelV v u)(h:∀s',Inv X pins (U.set i (some v)) H s'->Q () s')(hf:X.fn x=true\/X.env.scope.names.lookup x=some .local:=by first|exact .inl rfl|exact .inr rfl|assumption):wpAny M A (storeName X.env x u) Q E s:=
 P6 I hN hi hx r (fun s' I' _=>h s' I') hf
theorem Inv.call'{s':Shared}{ch:List Addr}(I:Inv X pins U H s)(ho:s'.os=s.os)(u:Un (frs X.stack) ch H H' s.heap s'.heap)(hok:HOk X.prog X.w H' s'.heap)(hg:AllBare s'.gens)(hch:∀b∈ch,(b∈X.ex\/X.s₀.heap.objs.size<=b)/\b≠X.env.locals/\(∀x c,X.env.cells.lookup x=some c->c≠b)/\∀p∈X.pn++pins,p.1≠b):Inv X pins U H' s':=by
 obtain⟨h',g',d',t',o'⟩:=s';have e:o'=s.os:=ho;subst e;exact I.call (g':=g') (t':=t') (d':=d') u hok hg hch
end
noncomputable abbrev XK:=Value->Option Addr->Hp->Prop
noncomputable abbrev St:=List (Option V)
noncomputable abbrev VK:=V->Hp->Prop
noncomputable abbrev TE:=St->Hp->VK->Prop
noncomputable abbrev TT:=St->Hp->(Bool->Hp->Prop)->Prop
noncomputable abbrev TA:=St->Hp->(List V->Hp->Prop)->Prop
structure Ends where
 nx:St->Hp->Prop
 rt:VK
 bk:St->Hp->Prop:=fun _ _=>False
 ct:St->Hp->Prop:=fun _ _=>False
noncomputable abbrev TS:=Ends->St->Hp->Prop
noncomputable def EP(X:Cx)(pins:List (Addr×Obj))(U:St)(Q:VK)(u:Value)(s':Shared):Prop:=∃v H',Inv X pins U H' s'/\RelV v u/\Q v H'
noncomputable def TP(X:Cx)(pins:List (Addr×Obj))(U:St)(Q:Bool->Hp->Prop)(b:Bool)(s':Shared):Prop:=∃H',Inv X pins U H' s'/\Q b H'
noncomputable def AP(X:Cx)(pins:List (Addr×Obj))(U:St)(Q:List V->Hp->Prop)(us:List Value)(s':Shared):Prop:=∃vs H',Inv X pins U H' s'/\Vals vs us/\Q vs H'
noncomputable def SP(X:Cx)(pins:List (Addr×Obj))(D:Ends)(f:Flow)(s':Shared):Prop:=
 match f with
 | .next=>∃σ' H',Inv X pins σ' H' s'/\D.nx σ' H'
 | .brk=>∃σ' H',Inv X pins σ' H' s'/\D.bk σ' H'
 | .cont=>∃σ' H',Inv X pins σ' H' s'/\D.ct σ' H'
 | .ret u=>∃v σ' H',Inv X pins σ' H' s'/\RelV v u/\D.rt v H'
noncomputable def PE(X:Cx)(e:Expr)(t:TE):Prop:=
 ∀(pins:List (Addr×Obj)) (s:Shared) (U:St) (H:Hp) (Q:VK),Inv X pins U H s->t U H Q->wpAny (model X.prog X.w) X.A (eval e X.env) (EP X pins U Q) X.xe s
noncomputable def PT(X:Cx)(e:Expr)(t:TT):Prop:=
 ∀(pins:List (Addr×Obj)) (s:Shared) (U:St) (H:Hp) (Q:Bool->Hp->Prop),Inv X pins U H s->t U H Q->wpAny (model X.prog X.w) X.A (isTrue e X.env (eval e X.env)) (TP X pins U Q) X.xe s
noncomputable def PW(X:Cx)(e:Expr)(t:TT):Prop:=
 ∀(whole:Sem Value) (pins:List (Addr×Obj)) (s:Shared) (U:St) (H:Hp) (Q:Bool->Hp->Prop),Inv X pins U H s->t U H Q->wpAny (model X.prog X.w) X.A (isTrue e X.env whole) (TP X pins U Q) X.xe s
theorem PW.pt{X:Cx}{e:Expr}{t:TT}(h:PW X e t):PT X e t:=h _
noncomputable def PA(X:Cx)(es:List Expr)(t:TA):Prop:=
 ∀(pos:Pos) (pins:List (Addr×Obj)) (s:Shared) (U:St) (H:Hp) (Q:List V->Hp->Prop),Inv X pins U H s->t U H Q->wpAny (model X.prog X.w) X.A (spliced (backTo pos (starEach es X.env))) (AP X pins U Q) X.xe s
noncomputable def PS(X:Cx)(st:Stmt)(t:TS):Prop:=
 ∀(pins:List (Addr×Obj)) (s:Shared) (U:St) (H:Hp) (D:Ends),Inv X pins U H s->t D U H->wpAny (model X.prog X.w) X.A (exec st X.env) (SP X pins D) X.xe s
noncomputable def PSs(X:Cx)(st:List Stmt)(t:TS):Prop:=
 ∀(pins:List (Addr×Obj)) (s:Shared) (U:St) (H:Hp) (D:Ends),Inv X pins U H s->t D U H->wpAny (model X.prog X.w) X.A (execs st X.env) (SP X pins D) X.xe s
theorem thn{α:Type}{t:Sem α}{Q Q':α -> Shared->Prop}{M:Model}{A:Around}{E:Value->Shared->Prop}{s:Shared}(h:wpAny M A t Q E s)(hQ:∀a s,Q a s->Q' a s):wpAny M A t Q' E s:=wpAny_mono h hQ fun _ _ x=>x
end L2
namespace L2
open PySem PySem.Spec PyProof.Rows
section
variable{X:Cx}
noncomputable def P7(i:Nat):TE:=fun U H Q=>∃v,U[i]? = some (some v)/\Q v H
noncomputable def tC(v:V):TE:=fun _ H Q=>Q v H
theorem JK{i:Nat}{x:Str}{pos:Pos}(hN:X.N[i]? = some x)(hv:Vis X.env.scope x)(hd:(x==("__debug__" : Str))=false:=by decide)(hcd:(x==("__classdict__" : Str))=false:=by decide):PE X (.Name x pos) (P7 i):=by
 intro pins s U H Q I h;obtain⟨v,e,h⟩:=h;obtain⟨m,hn,hl⟩:=I.loc;obtain⟨u,r,l⟩:=hl i x v hN e hv;have fin:EP X pins U Q u s:=⟨v,H,I,r,h⟩;rcases l with ⟨hk,hm⟩|⟨hk,c,hc,hcell⟩
 .exact wpAny_Name (wpAny_loadName_local I.ok.kind hk hn hm fin) hd
 .rcases hk with hk|hk
  .exact wpAny_Name (wpAny_loadName_cell I.ok.kind hk hc hcell fin) hd
  .exact wpAny_Name (wpAny_loadName_free I.ok.kind hk hc hcell fin hcd) hd
theorem Wh{i j pos}:PE X (.Constant (.int i) j pos) (tC (.int i)):=fun _ _ _ H _ I h=>wpAny_Constant_int ⟨.int i,H,I.tok _,⟨_,rfl⟩,h⟩
theorem X3{b j pos}:PE X (.Constant (.bool b) j pos) (tC (.bl b)):=fun _ _ _ H _ I h=>Constant_bool ⟨.bl b,H,I,rfl,h⟩
theorem Wr{j pos}:PE X (.Constant .none j pos) (tC .non):=fun _ _ _ H _ I h=>Constant_none ⟨.non,H,I,rfl,h⟩
theorem Wu{x j pos}:PE X (.Constant (.str x) j pos) (tC (.str x)):=fun _ _ _ H _ I h=>Calls.Constant_str ⟨.str x,H,I.tok _,⟨_,rfl⟩,h⟩
noncomputable def Gl(X:Cx)(x:Str):Prop:=X.env.kindOf x=some .globalImplicit
theorem OH{E:Value->Shared->Prop}{pins:List (Addr×Obj)}{s:Shared}{U:St}{H:Hp}{x:Str}{u:Value}{pos:Pos}{Q:Value->Shared->Prop}(I:Inv X pins U H s)(hg:Gl X x)(hm:X.mg x=some u)(h:Q u s)(hd:(x==("__debug__" : Str))=false:=by decide):wpAny (model X.prog X.w) X.A (eval (.Name x pos) X.env) Q E s:=
 Calls.Name_function_global I.ok.kind hg (Calls.loadGlobal_global (by rw[I.ok.glob]; exact I.mod.glob.keeps I.bk) hm h) hd
theorem Gy{E:Value->Shared->Prop}{pins:List (Addr×Obj)}{s:Shared}{U:St}{H:Hp}{x:Str}{u:Value}{pos:Pos}{Q:Value->Shared->Prop}(I:Inv X pins U H s)(hg:Gl X x)(hm:X.mg x=none)(hv:bootBuiltins x=some u)(h:Q u s)(hn:x ≠ "__name__" := by decide)(hd:(x==("__debug__" : Str))=false:=by decide):wpAny (model X.prog X.w) X.A (eval (.Name x pos) X.env) Q E s:=by
 obtain⟨mb,h1,h2⟩:=I.mod.blt;exact Calls.Name_function_global I.ok.kind hg (Calls.loadGlobal_builtin (by rw[I.ok.glob]; exact I.mod.glob.keeps I.bk) hm (by rw[I.ok.blt]; exact h1.keeps I.bk) ((h2 x hn).trans hv) h) hd
theorem Tq{x:Str}{v:V}{u:Value}{pos:Pos}(hg:Gl X x)(hm:X.mg x=some u)(r:RelV v u)(hd:(x==("__debug__" : Str))=false:=by decide):PE X (.Name x pos) (tC v):=
 fun _ _ _ H _ I h=>OH I hg hm ⟨v,H,I,r,h⟩ hd
theorem HP{x:Str}{v:V}{u:Value}{pos:Pos}(hg:Gl X x)(hm:X.mg x=none)(hv:bootBuiltins x=some u)(r:RelV v u)(hn:x ≠ "__name__" := by decide)(hd:(x==("__debug__" : Str))=false:=by decide):PE X (.Name x pos) (tC v):=
 fun _ _ _ H _ I h=>Gy I hg hm hv ⟨v,H,I,r,h⟩ hn hd
variable{a b:Expr}{ta tb:TE}{pos:Pos}
noncomputable def PC(X:Cx)(op:CmpOp)(a b:Expr)(t:TE):Prop:=
 ∀(pins:List (Addr×Obj)) (s:Shared) (U:St) (H:Hp) (Q:VK),Inv X pins U H s->t U H Q ->
  wpAny (model X.prog X.w) X.A (eval a X.env) (fun v s₁=>wpAny (model X.prog X.w) X.A (eval b X.env) (fun u s₂=>wpAny (model X.prog X.w) X.A (compareOp op v u) (EP X pins U Q) X.xe s₂) X.xe s₁) X.xe s
noncomputable def tB(t:TE):TT:=fun U H Q=>t U H fun x H1=>∃c,x=.bl c/\Q c H1
theorem WE{op:CmpOp}{t:TE}(h:PC X op a b t)(h1:behindInMarks op b=false:=by first|exact nobehind _ (by decide) (by decide)|rfl):PT X (.Compare a [op] [b] pos) (tB t):=by
 intro pins s U H Q I hw;refine wpAny_isTrue_Compare1 (thn (h pins s U H _ I hw) fun v s1 h1=>thn h1 fun u s2 h2=>thn h2 fun c s3 yy=>?_) h1;obtain⟨x,H1,I1,r1,q1⟩:=yy;obtain⟨d,rfl,q⟩:=q1;cases r1;exact wpAny_truthy_bool ⟨H1,I1,q⟩
theorem WH{e:Expr}{t:TE}(h:PE X e t)(he:∀whole,isTrue e X.env whole=(do let v <- whole; standAt e.pos; holding [v] (truthy v)):=by intro _; rfl):PT X e (tB t):=by
 intro pins s U H Q I hw;refine isTrue_plain (thn (h pins s U H _ I hw) fun v s1 ⟨x,H1,I1,r1,q1⟩=>?_) (he _);obtain⟨d,rfl,q⟩:=q1;cases r1;exact wpAny_truthy_bool ⟨H1,I1,q⟩
variable{tA tB':TT}{rest:List Expr}
noncomputable def Y0(t u:TT):TT:=fun U H Q=>t U H fun c H1=>if c=true then u U H1 Q else Q false H1
noncomputable def tOr(t u:TT):TT:=fun U H Q=>t U H fun c H1=>if c=true then Q true H1 else u U H1 Q
noncomputable def Y3(t:TT):TT:=fun U H Q=>t U H fun c H1=>Q (!c) H1
theorem TJ(ha:PT X a tA):PW X (.BoolOp .And [a] pos) tA:=by
 intro wh pins s U H Q I h;refine isTrue_and (thn (ha pins s U H Q I h) fun c s1 e=>?_);cases c with
 | true=>exact isTrue_and_nil e
 | false=>exact e
theorem WK(ha:PT X a tA):PW X (.BoolOp .Or [a] pos) tA:=by
 intro wh pins s U H Q I h;refine isTrue_or (thn (ha pins s U H Q I h) fun c s1 e=>?_);cases c with
 | false=>exact isTrue_or_nil e
 | true=>exact e
theorem WJ(ha:PT X a tA)(hb:PW X (.BoolOp .And (b::rest) pos) tB'):PW X (.BoolOp .And (a::b::rest) pos) (Y0 tA tB'):=by
 intro wh pins s U H Q I h;refine isTrue_and (thn (ha pins s U H _ I h) fun c s1 yy=>?_);obtain⟨H1,I1,q1⟩:=yy;cases c with
 | true=>exact hb wh pins s1 U H1 Q I1 q1
 | false=>exact⟨H1,I1,q1⟩
theorem X8(ha:PT X a tA)(hb:PW X (.BoolOp .Or (b::rest) pos) tB'):PW X (.BoolOp .Or (a::b::rest) pos) (tOr tA tB'):=by
 intro wh pins s U H Q I h;refine isTrue_or (thn (ha pins s U H _ I h) fun c s1 yy=>?_);obtain⟨H1,I1,q1⟩:=yy;cases c with
 | true=>exact⟨H1,I1,q1⟩
 | false=>exact hb wh pins s1 U H1 Q I1 q1
theorem WG(ha:PT X a tA):PT X (.UnaryOp .Not a pos) (Y3 tA):=by
 intro pins s U H Q I h;exact isTrue_not (ha pins s U H (fun c H1=>Q (!c) H1) I h)
noncomputable def Yp(ta tb:TE):TE:=fun U H Q=>ta U H fun x H1=>∃c,x=.bl c/\if c=true then tb U H1 Q else Q (.bl false) H1
noncomputable def Yv(ta:TE):TE:=fun U H Q=>ta U H fun x H1=>∃c,x=.bl c/\Q (.bl (!c)) H1
theorem Wt{op}{t:TE}(h:PE X a t):PE X (.BoolOp op [a] pos) t:=fun pins s U H Q I hw=>BoolOp_one (h pins s U H Q I hw)
theorem We(ha:PE X a ta)(hb:PE X (.BoolOp .And (b::rest) pos) tb):PE X (.BoolOp .And (a::b::rest) pos) (Yp ta tb):=by
 intro pins s U H Q I h;refine BoolOp_and (thn (ha pins s U H _ I h) fun v s1 yy=>?_);obtain⟨x,H1,I1,r1,q1⟩:=yy;obtain⟨c,rfl,q1⟩:=q1;cases r1;refine wpAny_truthy_bool ?_;cases c with
 | true=>exact hb pins s1 U H1 Q I1 q1
 | false=>exact⟨.bl false,H1,I1,rfl,q1⟩
theorem Ws(ha:PE X a ta):PE X (.UnaryOp .Not a pos) (Yv ta):=by
 intro pins s U H Q I h;refine UnaryOp_ (thn (ha pins s U H _ I h) fun v s1 yy=>?_);obtain⟨x,H1,I1,r1,q1⟩:=yy;obtain⟨c,rfl,q1⟩:=q1;cases r1;exact not_of (wpAny_truthy_bool ⟨.bl (!c),H1,I1,rfl,q1⟩)
noncomputable def tIf(t:TT)(ta tb:TE):TE:=fun U H Q=>t U H fun c H1=>if c=true then ta U H1 Q else tb U H1 Q
theorem Rz{c:Expr}(hc:PT X c tA)(ha:PE X a ta)(hb:PE X b tb):PE X (.IfExp c a b pos) (tIf tA ta tb):=by
 intro pins s U H Q I h;refine wpAny_IfExp (thn (hc pins s U H _ I h) fun d s1 yy=>?_);obtain⟨H1,I1,q1⟩:=yy;cases d with
 | true=>exact ha pins s1 U H1 Q I1 q1
 | false=>exact hb pins s1 U H1 Q I1 q1
end
end L2
namespace L2
open PySem PySem.Spec PyProof.Rows
noncomputable def SqL(K:Frag)(H:Hp)(a:Addr)(xs:List V):Prop:=
 Rd H a (.lst xs) \/
  ∃(o:Obj) (its:Array Value) (n:Nat),K.lookup a=some o/\o.cls=.type "list" /\ o.dict=none/\o.data=.seq its n/\its.size<=sizeLine/\Vals xs its.toList
noncomputable def SqT(K:Frag)(H:Hp)(a:Addr)(xs:List V):Prop:=
 Rd H a (.tup xs) \/
  ∃(o:Obj) (its:Array Value) (n:Nat),K.lookup a=some o/\o.cls=.type "tuple" /\ o.data=.seq its n/\its.size<=sizeLine/\Vals xs its.toList
noncomputable def YD:Value->Option V
 | .none=>some .non
 | .bool b=>some (.bl b)
 | .int i _=>some (.int i)
 | .str x _=>some (.str x)
 | .bytes b _=>some (.byt b)
 | .float b _=>some (.flt b)
 | .ref a=>some (.ref a)
 | .type n=>some (.ty n)
 | _=>none
theorem RelV.abs{x:V}{u:Value}(r:RelV x u):YD u=some x:=by
 cases x with
 | non=>cases r; rfl
 | bl _=>cases r; rfl
 | int _=>obtain⟨t,rfl⟩:=r; rfl
 | str _=>obtain⟨t,rfl⟩:=r; rfl
 | byt _=>obtain⟨t,rfl⟩:=r; rfl
 | flt _=>obtain⟨t,rfl⟩:=r; rfl
 | ref _=>cases r; rfl
 | ty _=>cases r; rfl
theorem RelV.inj{x y:V}{u:Value}(r:RelV x u)(q:RelV y u):x=y:=Option.some.inj (r.abs.symm.trans q.abs)
theorem Vals.inj{xs ys:List V}{us:List Value}(h:Vals xs us):Vals ys us->xs=ys:=by
 induction h generalizing ys with
 | nil=>intro q; cases q; rfl
 | cons r t ih =>
  intro q;cases q with
  | cons r' t'=>rw[r.inj r',ih t']
section
variable{X:Cx}{pins:List (Addr×Obj)}{U:St}{H:Hp}{s:Shared}{a:Addr}{xs ys:List V}
theorem Inv.list(I:Inv X pins U H s)(h:SqL X.K H a xs):∃its:List Value,Vals xs its/\PlainL s.heap a its.toArray/\xs.length<=sizeLine:=by
 rcases h with h|⟨o,its,n,hk,hc,hd,hs,hz,r⟩
 .obtain⟨z,its,n,r,e⟩:=h.ok I.hok
  exact⟨its,r,⟨_,n,e,rfl,rfl,rfl⟩,z⟩
 .refine⟨its.toList,r,⟨o,n,I.kIn a o hk,hc,hd,by simpa using hs⟩,?_⟩
  have e:=r.length;simp only[Array.length_toList] at e;lia
theorem Inv.tuple(I:Inv X pins U H s)(h:SqT X.K H a xs):∃its:List Value,Vals xs its/\IsTup s.heap a its.toArray/\xs.length<=sizeLine:=by
 rcases h with h|⟨o,its,n,hk,hc,hs,hz,r⟩
 .obtain⟨z,its,r,p⟩:=h.ok I.hok
  exact⟨its,r,p,z⟩
 .refine⟨its.toList,r,⟨o,I.kIn a o hk,hc,n,by simpa using hs⟩,?_⟩
  have e:=r.length;simp only[Array.length_toList] at e;lia
theorem Inv.list_inj(I:Inv X pins U H s)(h:SqL X.K H a xs)(h':SqL X.K H a ys):xs=ys:=by
 obtain⟨its,r,⟨o,n,e,_,_,d⟩,_⟩:=I.list h;obtain⟨its',r',⟨o',n',e',_,_,d'⟩,_⟩:=I.list h';rw[e] at e'; cases e';rw[d] at d';injection d' with d1 _;have:its=its':=by simpa using congrArg Array.toList d1
 subst this;exact r.inj r'
theorem Inv.tuple_inj(I:Inv X pins U H s)(h:SqT X.K H a xs)(h':SqT X.K H a ys):xs=ys:=by
 obtain⟨its,r,⟨o,e,_,n,d⟩,_⟩:=I.tuple h;obtain⟨its',r',⟨o',e',_,n',d'⟩,_⟩:=I.tuple h';rw[e] at e'; cases e';rw[d] at d';injection d' with d1 _;have:its=its':=by simpa using congrArg Array.toList d1
 subst this;exact r.inj r'
end
noncomputable abbrev Cx.wish(X:Cx)(E:Value->Shared->Prop):Cx:={ X with xe:=E }
noncomputable abbrev Cx.nox(X:Cx):Cx:=X.wish fun _ _=>False
theorem Cx.Ok.wish{X:Cx}(ok:X.Ok)(E:Value->Shared->Prop):(X.wish E).Ok:=
 ⟨ok.mod,ok.kind,ok.glob,ok.blt,ok.above,ok.inj,ok.has,ok.cab,ok.hd,ok.frames,ok.stk,ok.exf,ok.bs,ok.bsz,ok.noex,ok.exfs,ok.funs,ok.frf,ok.tb⟩
theorem Cx.Ok.unwish{X:Cx}{E:Value->Shared->Prop}(ok:(X.wish E).Ok):X.Ok:=
 ⟨ok.mod,ok.kind,ok.glob,ok.blt,ok.above,ok.inj,ok.has,ok.cab,ok.hd,ok.frames,ok.stk,ok.exf,ok.bs,ok.bsz,ok.noex,ok.exfs,ok.funs,ok.frf,ok.tb⟩
section
variable{X:Cx}{pins:List (Addr×Obj)}{U:St}{H:Hp}{s:Shared}{E:Value->Shared->Prop}
theorem Inv.wish(I:Inv X pins U H s)(E:Value->Shared->Prop):Inv (X.wish E) pins U H s:=⟨I.ok.wish E,I.os,I.bare,I.base,I.loc,I.cell,I.free,I.freeC,I.pin,I.hok,I.len⟩
theorem Inv.unwish(I:Inv (X.wish E) pins U H s):Inv X pins U H s:=⟨I.ok.unwish,I.os,I.bare,I.base,I.loc,I.cell,I.free,I.freeC,I.pin,I.hok,I.len⟩
theorem SP.unwish{D:Ends}{f:Flow}{s':Shared}(h:SP (X.wish E) pins D f s'):SP X pins D f s':=by
 cases f with
 | next=>obtain⟨σ',H',I,q⟩:=h; exact⟨σ',H',I.unwish,q⟩
 | brk=>obtain⟨σ',H',I,q⟩:=h; exact⟨σ',H',I.unwish,q⟩
 | cont=>obtain⟨σ',H',I,q⟩:=h; exact⟨σ',H',I.unwish,q⟩
 | ret u=>obtain⟨v,σ',H',I,r,q⟩:=h; exact⟨v,σ',H',I.unwish,r,q⟩
theorem PSs.nox{st:List Stmt}{t:TS}(h:PSs X.nox st t):PSs X st t:=fun pins s U H D I hw =>
 wpAny_mono (h pins s U H D (I.wish _) hw) (fun _ _ q=>q.unwish) fun _ _ z=>False.elim z
end
section
variable{X:Cx}{st:Stmt}{rest:List Stmt}{t u:TS}{e:Expr}{te:TE}{pos:Pos}
noncomputable def U2:TS:=fun D U H=>D.nx U H
noncomputable def Yy(t u:TS):TS:=fun D U H=>t { D with nx:=u D } U H
theorem Tw:PSs X [] U2:=fun _ _ U H _ I h=>wpAny_execs_nil ⟨U,H,I,h⟩
theorem RF(h1:PS X st t)(h2:PSs X rest u):PSs X (st::rest) (Yy t u):=by
 intro pins s U H D I h;refine wpAny_execs_cons (thn (h1 pins s U H { D with nx:=u D } I h) fun f s1 q=>?_);cases f with
 | next =>
  obtain⟨σ',H',I',q⟩:=q;exact h2 pins s1 σ' H' D I' q
 | ret v=>exact q
 | brk=>exact q
 | cont=>exact q
theorem Tx(h1:PS X st t):PSs X [st] t:=by
 intro pins s U H D I h;refine wpAny_execs_cons (thn (h1 pins s U H D I h) fun f s1 q=>?_);cases f with
 | next=>exact wpAny_execs_nil q
 | ret v=>exact q
 | brk=>exact q
 | cont=>exact q
theorem Inv.quiet{pins:List (Addr×Obj)}{U:St}{H:Hp}{s:Shared}(I:Inv X pins U H s):interactive X.env=false:=by simp[interactive,I.ok.kind]
noncomputable def OZ(te:TE):TS:=fun D U H=>te U H fun _ H1=>D.nx U H1
theorem LK(he:PE X e te)(hs:swapsWith e none pos.line X.env=pure false:=by rfl):PS X (.Expr e pos) (OZ te):=by
 intro pins s U H D I h;exact wpAny_Expr_any (thn (he pins s U H _ I h) fun v s1 ⟨x,H1,I1,r1,q1⟩=>⟨U,H1,I1,q1⟩) I.quiet hs
noncomputable def Yw(te:TE):TS:=fun D U H=>te U H D.rt
theorem WC(he:PE X e te):PS X (.Return (some e) pos) (Yw te):=by
 intro pins s U H D I h;exact wpAny_Return_some (thn (he pins s U H _ I h) fun v s1 ⟨x,H1,I1,r1,q1⟩=>⟨x,U,H1,I1,r1,q1⟩)
noncomputable def Yt(c:TT)(t u:TS):TS:=fun D U H=>c U H fun b H1=>if b=true then t D U H1 else u D U H1
theorem X7{c:Expr}{a b:List Stmt}{tc:TT}(hc:PT X c tc)(ha:PSs X a t)(hb:PSs X b u):PS X (.If c a b pos) (Yt tc t u):=by
 intro pins s U H D I h;refine wpAny_If (thn (hc pins s U H _ I h) fun d s1 yy=>?_);obtain⟨H1,I1,q1⟩:=yy;cases d with
 | true=>exact ha pins s1 U H1 D I1 q1
 | false=>exact hb pins s1 U H1 D I1 q1
end
noncomputable abbrev TG:=V->St->Hp->(St->Hp->Prop)->Prop
noncomputable abbrev TGs:=List V->St->Hp->(St->Hp->Prop)->Prop
noncomputable def PG(X:Cx)(target:Expr)(t:TG):Prop:=
 ∀(pins:List (Addr×Obj)) (s:Shared) (U:St) (H:Hp) (v:V) (u:Value) (Q:St->Hp->Prop),Inv X pins U H s->RelV v u->t v U H Q ->
  wpAny (model X.prog X.w) X.A (assign target X.env u) (fun _ s'=>∃σ' H',Inv X pins σ' H' s'/\Q σ' H') X.xe s
noncomputable def PGs(X:Cx)(ts:List Expr)(t:TGs):Prop:=
 ∀(pins:List (Addr×Obj)) (s:Shared) (U:St) (H:Hp) (vs:List V) (us:List Value) (Q:St->Hp->Prop),Inv X pins U H s->Vals vs us->t vs U H Q ->
  wpAny (model X.prog X.w) X.A (assignInOrder ((assignEach ts X.env).map (·.2)) us) (fun _ s'=>∃σ' H',Inv X pins σ' H' s'/\Q σ' H') X.xe s
noncomputable abbrev U8:=V->V->V->Hp->(Hp->Prop)->Prop
noncomputable def Xz(X:Cx)(t:U8):Prop:=
 ∀(pins:List (Addr×Obj)) (s:Shared) (U:St) (H:Hp) (o i v:V) (ov iv u:Value) (Q:Hp->Prop),Inv X pins U H s->RelV o ov->RelV i iv->RelV v u->t o i v H Q ->
  wpAny (model X.prog X.w) X.A (setItem ov iv u) (fun _ s'=>∃H',Inv X pins U H' s'/\Q H') X.xe s
noncomputable abbrev TIp:=V->V->Hp->VK->Prop
noncomputable def PIp(X:Cx)(op:Operator)(t:TIp):Prop:=
 ∀(pins:List (Addr×Obj)) (s:Shared) (U:St) (H:Hp) (x y:V) (v u:Value) (Q:VK),Inv X pins U H s->RelV x v->RelV y u->t x y H Q ->
  wpAny (model X.prog X.w) X.A (inplaceOp op v u) (EP X pins U Q) X.xe s
section
variable{X:Cx}{pos:Pos}
noncomputable def HA(i:Nat):TG:=fun v U H Q=>Q (U.set i (some v)) H
theorem IX{i:Nat}{x:Str}(hN:X.N.Nodup)(hi:X.N[i]? = some x)(hx:Loc X.env.scope x)(hf:X.fn x=true\/X.env.scope.names.lookup x=some .local:=by first|exact .inl rfl|exact .inr rfl|assumption):PG X (.Name x pos) (HA i):=by
 intro pins s U H v u Q I r h;exact wpAny_assign_Name (FD I hN hi hx r (fun s' I'=>⟨_,H,I',h⟩) hf)
noncomputable def XO:TGs:=fun vs U H Q=>vs=[]/\Q U H
noncomputable def UD(t:TG)(u:TGs):TGs:=fun vs U H Q=>∃v r,vs=v::r/\t v U H fun σ' H'=>u r σ' H' Q
theorem OP:PGs X [] XO:=by
 intro pins s U H vs us Q I r h;obtain⟨e,h⟩:=h;subst e;cases r;exact assignInOrder_nil ⟨U,H,I,h⟩
theorem JL{e:Expr}{es:List Expr}{t:TG}{u:TGs}(h1:PG X e t)(h2:PGs X es u)(hs:(assignEach (e::es) X.env).map (·.2)=assign e X.env::(assignEach es X.env).map (·.2):=by rfl):PGs X (e::es) (UD t u):=by
 intro pins s U H vs us Q I r h;obtain⟨v,vr,e1,h⟩:=h;subst e1;cases r with
 | cons r rr =>
  rw[hs];refine assignInOrder_cons (thn (h1 pins s U H _ _ _ I r h) fun _ s1 yy=>?_);obtain⟨σ1,H1,I1,q1⟩:=yy;exact h2 pins s1 σ1 H1 _ _ Q I1 rr q1
noncomputable def Vo(K:Frag)(n:Nat)(t:TGs):TG:=fun v U H Q=>∃a xs,v=.ref a/\SqT K H a xs/\xs.length=n/\t xs U H Q
theorem RB{es:List Expr}{k:Nat}{t:TGs}{n:Nat}(hc:X.calm=true)(h:PGs X es t)(hn:(assignEach es X.env).length=n:=by rfl)(hst:(assignEach es X.env).findIdx? (·.1)=none:=by rfl):PG X (.Tuple es k pos) (Vo X.K n t):=by
 intro pins s U H v u Q I r hw;obtain⟨a,xs,e1,hq,hl,hw⟩:=hw;subst e1;cases r;obtain⟨its,rv,ht,hz⟩:=I.tuple hq;refine assign_Tuple_tuple (I.ok.hd hc) ht (by simp[hn,<- hl,rv.length]) hst fun h' hx=>?_;have I1:Inv X pins U H { s with heap:=h' }:=I.kept (t':=s.toks) fun b o e=>hx b o (Nat.ne_of_lt (Heap.lt_size e)) e;exact h pins _ U H xs _ Q I1 (by simpa using rv) hw
noncomputable def XQ(to ti:TE)(t:U8):TG:=fun v U H Q=>to U H fun o H1=>ti U H1 fun i H2=>t o i v H2 fun H3=>Q U H3
theorem Ww{o i:Expr}{to ti:TE}{t:U8}(ho:PE X o to)(hi:PE X i ti)(hs:Xz X t)(ha:∀v,assign (.Subscript o i pos) X.env v=(do
   let ov <- holding [v] (eval o X.env)
   let iv <- holding [v,ov] (eval i X.env)
   standAt pos
   holding [v,ov,iv] (setItem ov iv v)
   release [v,ov,iv] []):=by intro _; rfl):PG X (.Subscript o i pos) (XQ to ti t):=by
 intro pins s U H v u Q I r h;rw[ha];refine wpAny_bind (wpAny_holding (thn (ho pins s U H _ I h) fun ov s1 yy=>?_));obtain⟨x,H1,I1,r1,q1⟩:=yy;refine wpAny_bind (wpAny_holding (thn (hi pins s1 U H1 _ I1 q1) fun iv s2 yy=>?_));obtain⟨y,H2,I2,r2,q2⟩:=yy;refine wpAny_bind (wpAny_standAt (wpAny_bind (wpAny_holding (thn (hs pins s2 U H2 x y v ov iv u _ I2 r1 r2 r q2) fun _ s3 yy=>?_))));obtain⟨H3,I3,q3⟩:=yy;exact wpAny_release ⟨U,H3,I3,q3⟩
noncomputable def Oa(te:TE)(g:TG):TS:=fun D U H=>te U H fun x H1=>g x U H1 D.nx
theorem RD{tg e:Expr}{te:TE}{g:TG}(he:PE X e te)(hg:PG X tg g)(hs:swapsWithSole [tg] e pos.line X.env=pure false:=by rfl)(hw:swappedStores [tg] e X.env=pure none:=by rfl)(h1:(assignEach [tg] X.env).map (·.2)=[assign tg X.env]:=by rfl):PS X (.Assign [tg] e pos) (Oa te g):=by
 intro pins s U H D I h;refine wpAny_Assign_stores (thn (he pins s U H _ I h) fun v s1 yy=>?_) hs hw;obtain⟨x,H1,I1,r1,q1⟩:=yy;rw[h1];exact thn (hg pins s1 U H1 x v _ I1 r1 q1) fun _ s2 q=>q
theorem WD{i:Nat}{x:Str}{e:Expr}{te:TE}{pos':Pos}(hN:X.N.Nodup)(hi:X.N[i]? = some x)(hx:Loc X.env.scope x)(he:PE X e te)(hs:swapsWith e (some (.Name x pos')) pos.line X.env=pure false:=by rfl)(hf:X.fn x=true\/X.env.scope.names.lookup x=some .local:=by first|exact .inl rfl|exact .inr rfl|assumption):
  PS X (.Assign [.Name x pos'] e pos) (Oa te (HA i)):=by
 intro pins s U H D I h;refine wpAny_Assign_Name (thn (he pins s U H _ I h) fun v s1 yy=>?_) hs;obtain⟨y,H1,I1,r1,q1⟩:=yy;exact FD I1 hN hi hx r1 (fun s2 I2=>⟨_,H1,I2,q1⟩) hf
noncomputable def Y1(i:Nat)(te:TE)(ti:TIp):TS:=fun D U H=>∃x,U[i]? = some (some x)/\te U H fun y H1=>ti x y H1 fun z H2=>D.nx (U.set i (some z)) H2
theorem WA{i:Nat}{x:Str}{e:Expr}{te:TE}{op:Operator}{ti:TIp}{pos':Pos}(hN:X.N.Nodup)(hi:X.N[i]? = some x)(hx:Loc X.env.scope x)(he:PE X e te)(ho:PIp X op ti)(hf:X.fn x=true\/X.env.scope.names.lookup x=some .local:=by first|exact .inl rfl|exact .inr rfl|assumption):
  PS X (.AugAssign (.Name x pos') op e pos) (Y1 i te ti):=by
 intro pins s U H D I h;obtain⟨v,e1,h⟩:=h;obtain⟨m,hn,hl⟩:=I.loc;have vis:Vis X.env.scope x:=by rcases hx with k|k; exact .inl k; exact .inr (.inl k)
 obtain⟨u,r,l⟩:=hl i x v hi e1 vis;refine wpAny_AugAssign_Name ?_;have go:wpAny (model X.prog X.w) X.A (eval e X.env) (fun w s₂=>wpAny (model X.prog X.w) X.A (inplaceOp op u w) (fun r s₃=>wpAny (model X.prog X.w) X.A (storeName X.env x r) (fun _=>SP X pins D .next) X.xe s₃) X.xe s₂) X.xe s:=by
  refine thn (he pins s U H _ I h) fun w s1 yy=>?_;obtain⟨y,H1,I1,r1,q1⟩:=yy;refine thn (ho pins s1 U H1 v y u w _ I1 r r1 q1) fun z s2 yy=>?_;obtain⟨zv,H2,I2,r2,q2⟩:=yy;exact FD I2 hN hi hx r2 (fun s3 I3=>⟨_,H2,I3,q2⟩) hf
 rcases l with ⟨hk,hm⟩|⟨hk,c,hc,hcell⟩
 .exact wpAny_loadName_local I.ok.kind hk hn hm go
 .rcases hk with hk|hk
  .exact wpAny_loadName_cell I.ok.kind hk hc hcell go
  .rcases hx with k|k
   .have:X.env.scope.names.lookup x=some .free:=hk
    rw[k] at this; cases this
   .have:X.env.scope.names.lookup x=some .free:=hk
    rw[k] at this; cases this
noncomputable def ipI(f:Int->Int->Int):TIp:=fun x y H Q=>∃i j,x=.int i/\y=.int j/\Q (.int (f i j)) H
theorem Vt:PIp X .Add (ipI fun i j=>i+j):=by
 intro pins s U H x y v u Q I r1 r2 h;obtain⟨i,j,e1,e2,q⟩:=h;subst e1; subst e2;obtain⟨t,rfl⟩:=r1;obtain⟨t',rfl⟩:=r2;exact iadd_int ⟨.int _,H,I.tok _,⟨_,rfl⟩,q⟩
end
section
variable{X:Cx}{pos:Pos}
noncomputable def R8(c:TT)(tb:TS):TS:=fun D U H=>∃W:Nat->St->Hp->Prop,(∃m,W m U H)/\∀m U H,W m U H ->
 c U H fun b H1=>if b=true then ∃N:St->Hp->Prop,(∀σ' H',N σ' H'->∃m',m'<m/\W m' σ' H')/\tb { D with nx:=N,ct:=N,bk:=D.nx } U H1 else D.nx U H1
theorem RE{c:Expr}{body:List Stmt}{tc:TT}{tb:TS}(hp:PassesOwn (model X.prog X.w) X.A X.env X.xe)(hc:PT X c tc)(hb:PSs X body tb):PS X (.While c body [] pos) (R8 tc tb):=by
 intro pins s U H D I h;obtain⟨W,⟨m0,w0⟩,turn⟩:=h;refine wpAny_While (codeAny_whileLoop (fun n s'=>∃σ' H',Inv X pins σ' H' s'/\W n σ' H') ?_ m0 ⟨U,H,I,w0⟩);rintro n s1 ⟨σ1,H1,I1,w1⟩;refine wpAny_passesOwn hp (thn (hc pins s1 σ1 H1 _ I1 (turn n σ1 H1 w1)) fun b s2 yy=>?_);obtain⟨H2,I2,q2⟩:=yy;cases b with
 | true =>
  obtain⟨N,hN,q2⟩:=q2;rw[if_pos rfl];refine wpAny_passesOwn hp (thn (hb pins s2 σ1 H2 _ I2 q2) fun f s3 q3=>?_);cases f with
  | next =>
   obtain⟨σ3,H3,I3,n3⟩:=q3;obtain⟨m',hm,w3⟩:=hN σ3 H3 n3;exact⟨m',hm,σ3,H3,I3,w3⟩
  | cont =>
   obtain⟨σ3,H3,I3,n3⟩:=q3;obtain⟨m',hm,w3⟩:=hN σ3 H3 n3;exact⟨m',hm,σ3,H3,I3,w3⟩
  | brk=>exact q3
  | ret v=>exact q3
 | false =>
  rw[if_neg Bool.false_ne_true];exact wpAny_execs_nil ⟨σ1,H2,I2,q2⟩
end
structure It where
 go:Nat->Hp->Prop
 yld:Nat->Hp->V->Hp->Prop
 stop:Nat->Hp->Prop
noncomputable def Ge(X:Cx)(pins:List (Addr×Obj))(H:Hp)(b:Addr):Prop:=
 H b=none/\b≠X.env.locals/\b∉X.fs/\(b∈X.ex\/X.s₀.heap.objs.size<=b)/\(∀x c,X.env.cells.lookup x=some c->c≠b)/\∀p∈X.pn++pins,p.1≠b
theorem Inv.fpOk{X:Cx}{pins:List (Addr×Obj)}{U:St}{H H':Hp}{s:Shared}{b:Addr}(I:Inv X pins U H s)(hb:s.heap.objs.size<=b)(hn:H' b=none):Ge X pins H' b:=by
 refine⟨hn,Nat.ne_of_gt (Nat.lt_of_lt_of_le I.lt hb),I.nofs hb,.inr (Nat.le_trans I.sz hb),fun x c e z=>?_,fun p hp z=>?_⟩
 .obtain⟨v,q⟩:=I.cell x c e
  exact absurd (Nat.lt_of_lt_of_le q.lt (by rw[z]; exact hb)) (Nat.lt_irrefl _)
 .exact absurd (Nat.lt_of_lt_of_le (Heap.lt_size (I.pin p hp).1) (by rw[z]; exact hb)) (Nat.lt_irrefl _)
structure Turn (P:Program) (w:World) (K:Frag) (tg:Expr) (J:It) (fp:List Addr) (it:Addr) (tn:Nat->Heap->Prop):Prop where
 mem:it∈fp
 obj:∀i h,tn i h->∀b∈fp,∃o,h.get? b=some o/\∀v,o.data≠.cell v
 keep:∀i h h',tn i h->(∀b∈fp,∀o,h.get? b=some o->h'.get? b=some o)->tn i h'
 item:∀(X:Cx),X.prog=P->X.w=w->X.K=K->X.calm=true->∀(i:Nat) (pins:List (Addr×Obj)) (s:Shared) (U:St) (H:Hp) (E:Value->Shared->Prop),Inv X pins U H s->(∀b∈fp,Ge X pins H b)->tn i s.heap->J.go i H ->
  wpAny (model P w) X.A (pyNext (.ref it)) (fun r s1=>∃u,r=some u /\
   wpAny (model P w) X.A (letOwnedTupleGo tg (.ref it) u) (fun _ s2=>∃x H',Inv X pins U H' s2/\RelV x u/\J.yld i H x H'/\tn (i+1) s2.heap/\∀b∈fp,H' b=none) E s1) E s
 done:∀(X:Cx),X.prog=P->X.w=w->X.K=K->X.calm=true->∀(i:Nat) (pins:List (Addr×Obj)) (s:Shared) (U:St) (H:Hp) (E:Value->Shared->Prop),Inv X pins U H s->(∀b∈fp,Ge X pins H b)->tn i s.heap->J.stop i H ->
  wpAny (model P w) X.A (pyNext (.ref it)) (fun r s1=>r=none/\Inv X pins U H s1) E s
 self:∀(A:Around) (i:Nat) (s:Shared) (Q:Value->Shared->Prop) (E:Value->Shared->Prop),tn i s.heap->Q (.ref it) s->wpAny (model P w) A (pyIter (.ref it)) Q E s
noncomputable abbrev TI:=St->Hp->(It->Hp->Prop)->Prop
noncomputable def PIE(X:Cx)(pins:List (Addr×Obj))(U:St)(tg:Expr)(R:It->Hp->Prop)(itv:Value)(s2:Shared):Prop:=
 ∃(it:Addr) (fp:List Addr) (tn:Nat->Heap->Prop) (J:It) (H':Hp),itv=.ref it/\Inv X pins U H' s2/\Turn X.prog X.w X.K tg J fp it tn/\tn 0 s2.heap/\(∀b∈fp,Ge X pins H' b)/\R J H'
noncomputable def PI(X:Cx)(tg iter:Expr)(wi:TI):Prop:=
 ∀(pins:List (Addr×Obj)) (s:Shared) (U:St) (H:Hp) (R:It->Hp->Prop),Inv X pins U H s->wi U H R ->
  wpAny (model X.prog X.w) X.A (eval iter X.env) (fun v s1=>wpAny (model X.prog X.w) X.A (pyIter v) (PIE X pins U tg R) X.xe s1) X.xe s
theorem Ow{M:Model}{A:Around}{E:Value->Shared->Prop}{s:Shared}{tg:Expr}{it:Addr}{u:Value}{o:Obj}{n:String}{vs:Array Value}{Q:Unit->Shared->Prop}(ho:s.heap.get? it=some o)(hc:o.cls=.type n)(hd:o.data=.fields vs)(hn:["enumerate","zip","dict_itemiterator","dict_reverseitemiterator","odict_iterator","itertools.zip_longest","itertools.pairwise"].contains n=false)(hQ:Q () s):wpAny M A (letOwnedTupleGo tg (.ref it) u) Q E s:=by
 unfold letOwnedTupleGo;cases tg<;>first
  | exact wpAny_pure hQ
  | (cases u<;>first
    | exact wpAny_pure hQ
    | (refine wpAny_bind (wpAny_load ho ?_)
       rw[hc,hd];show wpAny M A (if (["enumerate","zip","dict_itemiterator","dict_reverseitemiterator","odict_iterator","itertools.zip_longest","itertools.pairwise"].contains n&&vs[0]? == some (rawInt _))=true then _ else _) Q E s;rw[if_neg (by intro h; rw[hn,Bool.false_and] at h; cases h)];exact wpAny_pure hQ))
noncomputable def Itl(K:Frag)(a:Addr):It:=
 ⟨fun i H=>∃xs x,SqL K H a xs/\xs[i]? = some x,fun i H x H'=>H'=H/\∀xs,SqL K H a xs->xs[i]? = some x,fun i H=>∃xs,SqL K H a xs/\xs.length<=i⟩
noncomputable def Itt(K:Frag)(a:Addr):It:=
 ⟨fun i H=>∃xs x,SqT K H a xs/\xs[i]? = some x,fun i H x H'=>H'=H/\∀xs,SqT K H a xs->xs[i]? = some x,fun i H=>∃xs,SqT K H a xs/\xs.length<=i⟩
noncomputable def Itr(lo:Int)(n:Nat):It:=⟨fun i _=>i<n,fun i H x H'=>H'=H/\x=.int (lo+i),fun i _=>n<=i⟩
theorem Qa{P:Program}{w:World}{K:Frag}{tg:Expr}(a it:Addr):Turn P w K tg (Itl K a) [it] it (fun i h=>h.IsListIter it a i) where
 mem:=by simp
 obj:=fun i h st b hb=>by
  have e:b=it:=by simpa using hb
  subst e;obtain⟨o,e,c,d⟩:=st;exact⟨o,e,fun v z=>by rw[d] at z; cases z⟩
 keep:=fun i h h' st k=>st.at fun o e=>k it (by simp) o e
 item:=by
  intro X hP hw hK hc i pins s U H E I hf st hg;subst hP hw hK;obtain⟨xs,x,hq,hx⟩:=hg;obtain⟨its,rv,p,hz⟩:=I.list hq;obtain⟨u,hu,ru⟩:=rv.get hx;obtain⟨f0,f1,f2,f3,f4,f5⟩:=hf it (by simp);refine wpAny_pyNext_list_item st p.isList (x:=u) (by simpa using hu) fun h' st' sb=>?_;have I1:Inv X pins U H { s with heap:=h' }:=I.turned (t':=s.toks) (fun b o hb e=>(sb.2 b hb).trans e) f0 f1 f3 f4 f5;obtain⟨o,e,c,d⟩:=id st';exact⟨u,rfl,Ow (s:={ s with heap:=h' }) e c d (by decide) ⟨x,H,I1,ru,⟨rfl,fun ys hy=>by rw[I.list_inj hy hq]; exact hx⟩,st',fun b hb=>(hf b hb).1⟩⟩
 done:=by
  intro X hP hw hK hc i pins s U H E I hf st hg;subst hP hw hK;obtain⟨xs,hq,hx⟩:=hg;obtain⟨its,rv,p,hz⟩:=I.list hq;obtain⟨f0,f1,f2,f3,f4,f5⟩:=hf it (by simp);have hl:=rv.length;exact wpAny_pyNext_list_end (I.ok.hd hc) st p.isList (by simp; lia) fun h' eb=>⟨rfl,I.turned (t':=s.toks) (fun b o hb e=>eb b o hb e) f0 f1 f3 f4 f5⟩
 self:=fun _ _ _ _ _ st h=>wpAny_pyIter_listiter st h
theorem Of{P:Program}{w:World}{K:Frag}{tg:Expr}(a it:Addr):Turn P w K tg (Itt K a) [it] it (fun i h=>h.IsTupleIter it a i) where
 mem:=by simp
 obj:=fun i h st b hb=>by
  have e:b=it:=by simpa using hb
  subst e;obtain⟨o,e,c,d⟩:=st;exact⟨o,e,fun v z=>by rw[d] at z; cases z⟩
 keep:=fun i h h' st k=>st.at fun o e=>k it (by simp) o e
 item:=by
  intro X hP hw hK hc i pins s U H E I hf st hg;subst hP hw hK;obtain⟨xs,x,hq,hx⟩:=hg;obtain⟨its,rv,p,hz⟩:=I.tuple hq;obtain⟨u,hu,ru⟩:=rv.get hx;obtain⟨f0,f1,f2,f3,f4,f5⟩:=hf it (by simp);refine wpAny_pyNext_tuple_item st (show s.heap.IsTuple a its.toArray from p) (x:=u) (by simpa using hu) fun h' st' sb=>?_;have I1:Inv X pins U H { s with heap:=h' }:=I.turned (t':=s.toks) (fun b o hb e=>(sb.2 b hb).trans e) f0 f1 f3 f4 f5;obtain⟨o,e,c,d⟩:=id st';exact⟨u,rfl,Ow (s:={ s with heap:=h' }) e c d (by decide) ⟨x,H,I1,ru,⟨rfl,fun ys hy=>by rw[I.tuple_inj hy hq]; exact hx⟩,st',fun b hb=>(hf b hb).1⟩⟩
 done:=by
  intro X hP hw hK hc i pins s U H E I hf st hg;subst hP hw hK;obtain⟨xs,hq,hx⟩:=hg;obtain⟨its,rv,p,hz⟩:=I.tuple hq;obtain⟨f0,f1,f2,f3,f4,f5⟩:=hf it (by simp);have hl:=rv.length;exact wpAny_pyNext_tuple_end (I.ok.hd hc) st (show s.heap.IsTuple a its.toArray from p) (by simp; lia) fun h' eb=>⟨rfl,I.turned (t':=s.toks) (fun b o hb e=>eb b o hb e) f0 f1 f3 f4 f5⟩
 self:=fun _ _ _ _ _ st h=>wpAny_pyIter_tupleiter st h
theorem Oe{P:Program}{w:World}{K:Frag}{tg:Expr}(it:Addr)(lo:Int)(n:Nat):Turn P w K tg (Itr lo n) [it] it (fun i h=>IsRangeIter h it (lo+(i:Nat)*1) ((n:Int)-(i:Nat)) 1) where
 mem:=by simp
 obj:=fun i h st b hb=>by
  have e:b=it:=by simpa using hb
  subst e;exact⟨_,st,fun v z=>by
   have z':Data.fields _=Data.cell v:=z;cases z'⟩
 keep:=fun i h h' st k=>k it (by simp) _ st
 item:=by
  intro X hP hw hK hc i pins s U H E I hf st hg;subst hP hw hK;obtain⟨f0,f1,f2,f3,f4,f5⟩:=hf it (by simp);have W:=Walks.range (prog:=X.prog) (w:=X.w) (I.ok.hd hc) it lo 1 n;refine W.item i s _ _ hg st fun v h' tk hv st' kk=>?_;obtain⟨t,rfl⟩:=hv;have I1:Inv X pins U H { s with heap:=h',toks:=tk }:=I.turned (fun b o hb e=>kk b o (by simpa using hb) e) f0 f1 f3 f4 f5;refine⟨_,rfl,Ow (s:={ s with heap:=h',toks:=tk }) (n := "range_iterator") st' rfl rfl (by decide) ⟨.int (lo+i),H,I1,⟨t,?_⟩,⟨rfl,rfl⟩,st',fun b hb=>(hf b hb).1⟩⟩;rw[Int.mul_one]
 done:=by
  intro X hP hw hK hc i pins s U H E I hf st hg;subst hP hw hK;obtain⟨f0,f1,f2,f3,f4,f5⟩:=hf it (by simp);exact wpAny_pyNext_range_end (I.ok.hd hc) st (by have:n<=i:=hg; lia) fun h' eb=>⟨rfl,I.turned (t':=s.toks) (fun b o hb e=>eb b o hb e) f0 f1 f3 f4 f5⟩
 self:=fun _ _ _ _ _ st h=>wpAny_pyIter_rangeiter st h
end L2
namespace L2
open PySem PySem.Spec PyProof.Rows
section
variable{X:Cx}{tg:Expr}
theorem RJ{pins:List (Addr×Obj)}{U:St}{H:Hp}{s:Shared}{R:It->Hp->Prop}{E:Value->Shared->Prop}{lo hi:Int}{t u v:Tok}{tk:Nat}(I:Inv X pins U H s)(h1 : -(2 ^ 62)<=lo)(h2:lo<2 ^ 62)(h3 : -(2 ^ 62)<=hi)(h4:hi<2 ^ 62)(q:R (Itr lo (hi-lo).toNat) H):wpAny (model X.prog X.w) X.A (pyIter (.ref s.heap.objs.size)) (PIE X pins U tg R) E { s with heap:=s.heap.push { cls:=.type "range",data:=.fields #[.int lo t,.int hi u,.int 1 v] },toks:=tk }:=by
 refine wpAny_pyIter_range (IsRange.new ..) (small_one h1 h2 h3 h4) ?_;have I1:Inv X pins U H { s with heap:=s.heap.push { cls:=.type "range",data:=.fields #[.int lo t,.int hi u,.int 1 v] },toks:=tk }:=I.kept fun b o e=>Heap.get?_push_of_some _ e;refine⟨(s.heap.push { cls:=.type "range",data:=.fields #[.int lo t,.int hi u,.int 1 v] }).objs.size,[(s.heap.push { cls:=.type "range",data:=.fields #[.int lo t,.int hi u,.int 1 v] }).objs.size],_,_,H,rfl,
  I1.kept (t':=tk) fun b o e=>Heap.get?_push_of_some _ e,Oe _ lo (hi-lo).toNat,?_,fun b hb=>?_,q⟩
 .have e1:lo+((0:Nat):Int)*1=lo:=by simp
  have e2:(((hi-lo).toNat:Nat):Int)-((0:Nat):Int)=Builtin.Range.rangeSize lo hi 1:=by rw[rangeSize_one]; split<;>lia
  show IsRangeIter _ _ (lo+((0:Nat):Int)*1) ((((hi-lo).toNat:Nat):Int)-((0:Nat):Int)) 1;rw[e1,e2];exact Heap.get?_push_size _ rfl
 .have e:b=(s.heap.push { cls:=.type "range",data:=.fields #[.int lo t,.int hi u,.int 1 v] }).objs.size:=by simpa using hb
  subst e;exact I1.fpOk (Nat.le_refl _) (I1.hok.fresh (Nat.le_refl _))
noncomputable def UJ(ta:TA):TI:=fun U H R=>ta U H fun vs H1=>∃j:Int,vs=[.int j]/\-(2 ^ 62)<=j/\j<2 ^ 62/\R (Itr 0 j.toNat) H1
theorem PN{a:Expr}{ta:TA}{p pos:Pos}(hg:Gl X "range")(hm:X.mg "range" = none)(ha:PA X [a] ta)(hs:starEach [a] X.env=[(false,eval a X.env)]:=by rfl):PI X tg (.Call (.Name "range" p) [a] [] pos) (UJ ta):=by
 intro pins s U H R I h;refine Call_ (Gy I hg hm boot_range (PyProof.Rows.callWith_type1 (thn (ha pos pins s U H _ I h) fun us s1 ⟨vs,H1,I1,r1,q1⟩=>?_) hs rfl));obtain⟨j,e,q1,q2,q⟩:=q1;subst e;cases r1 with
 | cons r rr =>
  cases rr;obtain⟨t,rfl⟩:=r;exact call_range_1 (RJ I1 (by lia) (by lia) q1 q2 (by simpa using q))
noncomputable def Ys(wi:TI)(g:TG)(tb:TS):TS:=fun D U H=>wi U H fun J H1=>∃W:Nat->Nat->St->Hp->Prop,(∃m,W 0 m U H1)/\∀i m U H,W i m U H ->
 (J.stop i H/\D.nx U H)\/(J.go i H/\∃N:St->Hp->Prop,(∀σ' H',N σ' H'->∃m',m'<m/\W (i+1) m' σ' H')/\∀x H',J.yld i H x H'->g x U H' fun σ2 H2=>tb { D with nx:=N,ct:=N,bk:=D.nx } σ2 H2)
noncomputable def JM(fp:List Addr)(h:Heap):List (Addr×Obj):=fp.filterMap fun b=>(h.get? b).map fun o=>(b,o)
theorem FX{fp:List Addr}{h:Heap}{b:Addr}{o:Obj}(hb:b∈fp)(e:h.get? b=some o):(b,o)∈JM fp h:=List.mem_filterMap.mpr ⟨b,hb,by rw[e]; rfl⟩
theorem PB{fp:List Addr}{h:Heap}{p:Addr×Obj}(hp:p∈JM fp h):p.1∈fp/\h.get? p.1=some p.2:=by
 obtain⟨b,hb,e⟩:=List.mem_filterMap.mp hp;cases q:h.get? b with
 | none=>rw[q] at e; cases e
 | some o =>
  rw[q] at e;have e':(b,o)=p:=Option.some.inj e;subst e';exact⟨hb,q⟩
theorem Inv.pinned{pins:List (Addr×Obj)}{U:St}{H:Hp}{s:Shared}{fp:List Addr}(I:Inv X pins U H s)(hf:∀b∈fp,Ge X pins H b)(ho:∀b∈fp,∃o,s.heap.get? b=some o/\∀v,o.data≠.cell v):Inv X (pins++JM fp s.heap) U H s:=
 I.pins_of fun p hp=>(List.mem_append.mp hp).elim (fun z=>I.pin p (List.mem_append_right _ z)) fun z=>by
  obtain⟨hb,e⟩:=PB z;obtain⟨f0,f1,f2,_⟩:=hf p.1 hb;obtain⟨o,e',d⟩:=ho p.1 hb;rw[e] at e'; cases e';exact⟨e,f0,f1,f2,d⟩
theorem Inv.unpinned{pins pl:List (Addr×Obj)}{U:St}{H:Hp}{s:Shared}(I:Inv X (pins++pl) U H s):Inv X pins U H s:=I.pins_of fun p hp=>I.pin p (List.mem_append_right _ (List.mem_append_left _ hp))
theorem WB{iter:Expr}{body:List Stmt}{wi:TI}{g:TG}{tb:TS}{pos:Pos}(hp:PassesOwn (model X.prog X.w) X.A X.env X.xe)(hc:X.calm=true)(hi:PI X tg iter wi)(hg:PG X tg g)(hb:PSs X body tb)(hs:∀x,foldedSetIterable iter X.env x=pure x:=by intro _; rfl):PS X (.For tg iter body [] pos) (Ys wi g tb):=by
 intro pins s U H D I h;refine wpAny_For (thn (hi pins s U H _ I h) fun v s1 h1=>thn h1 fun itv s2 h2=>?_) hs;obtain⟨it,fp,tn,J,H2,e,I2,T,st2,f2,W,⟨m0,w0⟩,turn⟩:=h2;subst e
 -- what stays true of the iterator's objects through the loop
 have stat:∀{H':Hp},(∀b∈fp,H' b=none)->∀b∈fp,Ge X pins H' b:=fun hn b hb=>⟨hn b hb,(f2 b hb).2⟩;refine codeAny_forLoop_any (fun n s'=>∃i σ' H',Inv X pins σ' H' s'/\tn i s'.heap/\(∀b∈fp,H' b=none)/\W i n σ' H') ?_ m0 ⟨0,U,H2,I2,st2,fun b hb=>(f2 b hb).1,w0⟩;rintro n s3 ⟨i,σ3,H3,I3,st3,fr3,w3⟩;rcases turn i n σ3 H3 w3 with ⟨stop,qn⟩|⟨go,N,hN,step⟩
 .refine wpAny_passesOwn hp (thn (T.done X rfl rfl rfl hc i pins s3 σ3 H3 X.xe I3 (stat fr3) st3 stop) fun r s4 yy=>?_)
  obtain⟨hr,I4⟩:=yy;subst hr;exact wpAny_execs_nil ⟨σ3,H3,I4,qn⟩
 .refine wpAny_passesOwn hp (thn (T.item X rfl rfl rfl hc i pins s3 σ3 H3 X.xe I3 (stat fr3) st3 go) fun r s4 yy=>?_)
  obtain⟨u,hr,h4⟩:=yy;subst hr;refine wpAny_passesOwn hp (thn h4 fun _ s5 yy=>?_);obtain⟨x,H5,I5,r5,y5,st5,fr5⟩:=yy;have I5':=I5.pinned (stat fr5) (T.obj _ _ st5);refine wpAny_passesOwn hp (thn (hg _ s5 σ3 H5 x u _ I5' r5 (step x H5 y5)) fun _ s6 yy=>?_);obtain⟨σ6,H6,I6,q6⟩:=yy;refine wpAny_passesOwn hp (thn (hb _ s6 σ6 H6 _ I6 q6) fun f s7 q7=>?_);have again:∀{σ7:St} {H7:Hp},Inv X (pins++JM fp s5.heap) σ7 H7 s7->N σ7 H7->∃m,m<n/\∃i σ' H',Inv X pins σ' H' s7/\tn i s7.heap/\(∀b∈fp,H' b=none)/\W i m σ' H':=fun {σ7 H7} I7 n7=>by
   obtain⟨m',hm,w7⟩:=hN σ7 H7 n7;refine⟨m',hm,i+1,σ7,H7,I7.unpinned,T.keep _ _ _ st5 fun b hb o e=>(I7.pin (b,o) (List.mem_append_right _ (List.mem_append_right _ (FX hb e)))).1,fun b hb=>?_,w7⟩;obtain⟨o,e,d⟩:=T.obj _ _ st5 b hb;exact(I7.pin (b,o) (List.mem_append_right _ (List.mem_append_right _ (FX hb e)))).2.1
  cases f with
  | next=>obtain⟨σ7,H7,I7,n7⟩:=q7; exact again I7 n7
  | cont=>obtain⟨σ7,H7,I7,n7⟩:=q7; exact again I7 n7
  | brk=>obtain⟨σ7,H7,I7,q7⟩:=q7; exact⟨σ7,H7,I7.unpinned,q7⟩
  | ret v=>obtain⟨x7,σ7,H7,I7,r7,q7⟩:=q7; exact⟨x7,σ7,H7,I7.unpinned,r7,q7⟩
end
end L2
namespace L2
open PySem PySem.Spec PyProof.Rows
noncomputable abbrev R2:=V->V->Hp->VK->Prop
noncomputable def OpR(X:Cx)(f:Value->Value->Sem Value)(r:R2):Prop:=
 ∀(pins:List (Addr×Obj)) (s:Shared) (U:St) (H:Hp) (x y:V) (v u:Value) (Q:VK),Inv X pins U H s->RelV x v->RelV y u->r x y H Q ->
  wpAny (model X.prog X.w) X.A (f v u) (EP X pins U Q) X.xe s
noncomputable def UnR(X:Cx)(f:Value->Sem Value)(r:V->Hp->VK->Prop):Prop:=
 ∀(pins:List (Addr×Obj)) (s:Shared) (U:St) (H:Hp) (x:V) (v:Value) (Q:VK),Inv X pins U H s->RelV x v->r x H Q ->
  wpAny (model X.prog X.w) X.A (f v) (EP X pins U Q) X.xe s
noncomputable def Cv(X:Cx)(f:Value)(r:List V->Hp->VK->Prop):Prop:=
 ∀(pins:List (Addr×Obj)) (s:Shared) (U:St) (H:Hp) (xs:List V) (us:List Value) (Q:VK),Inv X pins U H s->Vals xs us->r xs H Q ->
  wpAny (model X.prog X.w) X.A (call f us) (EP X pins U Q) X.xe s
noncomputable def tOp(r:R2)(ta tb:TE):TE:=fun U H Q=>ta U H fun x H1=>tb U H1 fun y H2=>r x y H2 Q
noncomputable def tUn(r:V->Hp->VK->Prop)(ta:TE):TE:=fun U H Q=>ta U H fun x H1=>r x H1 Q
noncomputable def rI(C:Int->Int->Prop)(g:Int->Int->V):R2:=fun x y H Q=>∃i j,x=.int i/\y=.int j/\C i j/\Q (g i j) H
noncomputable def rI0(g:Int->Int->V):R2:=fun x y H Q=>∃i j,x=.int i/\y=.int j/\Q (g i j) H
noncomputable def rU(g:Int->V):V->Hp->VK->Prop:=fun x H Q=>∃i,x=.int i/\Q (g i) H
section
variable{X:Cx}{a b c:Expr}{ta tb tc:TE}{pos:Pos}
theorem Ve(ha:PE X a ta)(hb:PE X b tb){pins:List (Addr×Obj)}{s:Shared}{U:St}{H:Hp}{R:V->V->Hp->Prop}(I:Inv X pins U H s)(h:ta U H fun x H1=>tb U H1 fun y H2=>R x y H2){Q:Value->Shared->Prop}{f:Value->Value->Sem Value}(hf:∀v u s2 x y H2,Inv X pins U H2 s2->RelV x v->RelV y u->R x y H2->wpAny (model X.prog X.w) X.A (f v u) Q X.xe s2):
  wpAny (model X.prog X.w) X.A (eval a X.env) (fun v s₁=>wpAny (model X.prog X.w) X.A (eval b X.env) (fun u s₂=>wpAny (model X.prog X.w) X.A (f v u) Q X.xe s₂) X.xe s₁) X.xe s:=by
 refine thn (ha pins s U H _ I h) fun v s1 yy=>?_;obtain⟨x,H1,I1,r1,q1⟩:=yy;refine thn (hb pins s1 U H1 _ I1 q1) fun u s2 yy=>?_;obtain⟨y,H2,I2,r2,q2⟩:=yy;exact hf v u s2 x y H2 I2 r1 r2 q2
theorem X5{op:Operator}{r:R2}(ho:OpR X (binaryOp op) r)(ha:PE X a ta)(hb:PE X b tb):PE X (.BinOp a op b pos) (tOp r ta tb):=by
 intro pins s U H Q I h;exact wpAny_BinOp (Ve ha hb I h fun v u s2 x y H2 I2 rx ry q=>ho pins s2 U H2 x y v u Q I2 rx ry q)
theorem X6{op:UnaryOp}{r:V->Hp->VK->Prop}(ho:UnR X (unaryOp op) r)(ha:PE X a ta):PE X (.UnaryOp op a pos) (tUn r ta):=by
 intro pins s U H Q I h;exact UnaryOp_ (thn (ha pins s U H _ I h) fun v s1 ⟨x,H1,I1,r1,q1⟩=>ho pins s1 U H1 x v Q I1 r1 q1)
theorem opI{f:Value->Value->Sem Value}{C:Int->Int->Prop}{g:Int->Int->Int}(rule:∀(i j:Int) (t u:Tok) (s:Shared) (Q:Value->Shared->Prop) (E:Value->Shared->Prop),C i j->Q (.int (g i j) s.toks) { s with toks:=s.toks+1 }->wpAny (model X.prog X.w) X.A (f (.int i t) (.int j u)) Q E s):
  OpR X f (rI C fun i j=>.int (g i j)):=by
 intro pins s U H x y v u Q I rx ry h;obtain⟨i,j,rfl,rfl,hc,q⟩:=h;obtain⟨t,rfl⟩:=rx;obtain⟨t',rfl⟩:=ry;exact rule i j t t' s _ _ hc ⟨.int (g i j),H,I.tok _,⟨_,rfl⟩,q⟩
theorem Tg{f:Value->Value->Sem Value}{g:Int->Int->Int}(rule:∀(i j:Int) (t u:Tok) (s:Shared) (Q:Value->Shared->Prop) (E:Value->Shared->Prop),Q (.int (g i j) s.toks) { s with toks:=s.toks+1 }->wpAny (model X.prog X.w) X.A (f (.int i t) (.int j u)) Q E s):
  OpR X f (rI0 fun i j=>.int (g i j)):=by
 intro pins s U H x y v u Q I rx ry h;obtain⟨i,j,rfl,rfl,q⟩:=h;obtain⟨t,rfl⟩:=rx;obtain⟨t',rfl⟩:=ry;exact rule i j t t' s _ _ ⟨.int (g i j),H,I.tok _,⟨_,rfl⟩,q⟩
theorem Tf{f:Value->Value->Sem Value}{g:Int->Int->Bool}(rule:∀(i j:Int) (t u:Tok) (s:Shared) (Q:Value->Shared->Prop) (E:Value->Shared->Prop),Q (.bool (g i j)) s->wpAny (model X.prog X.w) X.A (f (.int i t) (.int j u)) Q E s):
  OpR X f (rI0 fun i j=>.bl (g i j)):=by
 intro pins s U H x y v u Q I rx ry h;obtain⟨i,j,rfl,rfl,q⟩:=h;obtain⟨t,rfl⟩:=rx;obtain⟨t',rfl⟩:=ry;exact rule i j t t' s _ _ ⟨.bl (g i j),H,I,rfl,q⟩
theorem fdB{x y:Int}(h:y.natAbs<1099511627776):Builtin.divisionGoesByPylong x y=false:=PyProof.noPylong_of_log2 (by
 by_cases h0:y.natAbs=0
 .rw[h0]; decide
 .have h1:y.natAbs<2 ^ 40:=by simpa using h
  have:=(Nat.log2_lt h0).mpr h1;omega)
noncomputable def U5(i j:Int):Prop:=0<j/\j<1099511627776
noncomputable def O3(i j:Int):Prop:=0<=j/\j<=1000000/\i.natAbs<2 ^ 64
noncomputable def So(i j:Int):Prop:=(-(2 ^ 64)<i/\i<2 ^ 64)\/(-(2 ^ 64)<j/\j<2 ^ 64)
theorem So.ok{i j:Int}(h:So i j):IntMulOk i j:=by
 rcases h with ⟨h1,h2⟩|⟨h1,h2⟩
 .exact .of_left (intBits_le_64 h1 h2)
 .exact .of_right (intBits_le_64 h1 h2)
theorem Og(k:Nat):(0:Int)<=2 ^ k:=by
 rw[two_pow_cast];exact Int.natCast_nonneg _
theorem V6:OpR X (binaryOp .Add) (rI0 fun i j=>.int (i+j)):=Tg fun _ _ _ _ _ _ _ q=>add_int q
theorem JC:OpR X (binaryOp .Sub) (rI0 fun i j=>.int (i-j)):=Tg fun _ _ _ _ _ _ _ q=>sub_int q
theorem LD:OpR X (binaryOp .Mult) (rI So fun i j=>.int (i*j)):=opI fun _ _ _ _ _ _ _ hc q=>mul_int q hc.ok
theorem OL:OpR X (binaryOp .FloorDiv) (rI U5 fun i j=>.int (i / j)):=opI fun i j _ _ _ _ _ hc q=>by
 have h1:(0:Int)<j:=hc.1;have h2:j<1099511627776:=hc.2;exact floordiv_int (by lia) (by rw[Int.fdiv_eq_ediv_of_nonneg i (by lia)]; exact q) (.inl (fdB (by lia)))
theorem Jz:OpR X (binaryOp .Mod) (rI (fun _ j=>0<j) fun i j=>.int (i % j)):=opI fun i j _ _ _ _ _ hc q=>by
 have h1:(0:Int)<j:=hc;exact mod_int' (by lia) (by rw[Int.fmod_eq_emod_of_nonneg i (by lia)]; exact q)
theorem Wa:OpR X (binaryOp .Pow) (rI O3 fun i j=>.int (i ^ j.toNat)):=opI fun _ _ _ _ _ _ _ hc q=>pow_int_small hc.1 hc.2.1 hc.2.2 q
theorem NW:OpR X (binaryOp .LShift) (rI O3 fun i j=>.int (i*2 ^ j.toNat)):=opI fun _ _ _ _ _ _ _ hc q=>lshift_int_small hc.1 hc.2.1 hc.2.2 q
theorem Wb:OpR X (binaryOp .RShift) (rI (fun _ j=>0<=j) fun i j=>.int (i / 2 ^ j.toNat)):=opI fun i j _ _ _ _ _ hc q =>
 rshift_int hc (by rw[Int.fdiv_eq_ediv_of_nonneg i (Og _)]; exact q)
theorem V7:OpR X (binaryOp .BitAnd) (rI0 fun i j=>.int (Builtin.bitAnd i j)):=Tg fun _ _ _ _ _ _ _ q=>and_int q
theorem X2:OpR X (binaryOp .BitOr) (rI0 fun i j=>.int (Builtin.bitOr i j)):=Tg fun _ _ _ _ _ _ _ q=>or_int q
theorem unI{f:Value->Sem Value}{g:Int->Int}(rule:∀(i:Int) (t:Tok) (s:Shared) (Q:Value->Shared->Prop) (E:Value->Shared->Prop),Q (.int (g i) s.toks) { s with toks:=s.toks+1 }->wpAny (model X.prog X.w) X.A (f (.int i t)) Q E s):
  UnR X f (rU fun i=>.int (g i)):=by
 intro pins s U H x v Q I rx h;obtain⟨i,rfl,q⟩:=h;obtain⟨t,rfl⟩:=rx;exact rule i t s _ _ ⟨.int (g i),H,I.tok _,⟨_,rfl⟩,q⟩
theorem Iu:UnR X (unaryOp .USub) (rU fun i=>.int (-i)):=unI fun _ _ _ _ _ q=>neg_int q
end
section
variable{X:Cx}{a b c:Expr}{ta tb tc:TE}{pos:Pos}
theorem Le{pins:List (Addr×Obj)}{U:St}{H:Hp}{s:Shared}{Q:VK}{k k':Bool}(I:Inv X pins U H s)(q:Q (.bl k) H)(e:k=k'):EP X pins U Q (.bool k') s:=by
 subst e;exact⟨.bl k,H,I,rfl,q⟩
theorem X1:OpR X (compareOp .Lt) (rI0 fun i j=>.bl (decide (i<j))):=Tf fun _ _ _ _ _ _ _ q=>lt_int q
theorem X0:OpR X (compareOp .LtE) (rI0 fun i j=>.bl (decide (i<=j))):=Tf fun _ _ _ _ _ _ _ q=>le_int q
theorem UR:OpR X (compareOp .Gt) (rI0 fun i j=>.bl (decide (j<i))):=Tf fun _ _ _ _ _ _ _ q=>gt_int q
theorem OM:OpR X (compareOp .GtE) (rI0 fun i j=>.bl (decide (j<=i))):=Tf fun _ _ _ _ _ _ _ q=>ge_int q
theorem PJ:OpR X (compareOp .Lt) (fun x y H Q=>∃i j,x=.str i/\y=.str j/\Q (.bl (decide (i.cps.toList<j.cps.toList))) H):=by
 intro pins s U H x y v u Q I rx ry h;obtain⟨i,j,rfl,rfl,q⟩:=h;obtain⟨t,rfl⟩:=rx;obtain⟨t',rfl⟩:=ry;exact lt_str (Le I q rfl)
theorem PF:OpR X (compareOp .In) (fun x y H Q=>∃i j,x=.str i/\y=.str j/\Q (.bl (!(Builtin.Str.occurrences j i 0 j.length 1).isEmpty)) H):=by
 intro pins s U H x y v u Q I rx ry h;obtain⟨i,j,rfl,rfl,q⟩:=h;obtain⟨t,rfl⟩:=rx;obtain⟨t',rfl⟩:=ry;exact in_str (Le I q rfl)
theorem EE:OpR X (compareOp .Is) (fun x y H Q=>y=.non/\Q (.bl (decide (x=.non))) H):=by
 intro pins s U H x y v u Q I rx ry h;obtain⟨rfl,q⟩:=h;cases ry;refine is_none_gen (Le I q ?_);cases x<;>first
  | (cases rx; rfl)
  | (obtain⟨t,rfl⟩:=rx; rfl)
theorem OpR.or{f:Value->Value->Sem Value}{r r':R2}(h:OpR X f r)(h':OpR X f r'):OpR X f (fun x y H Q=>r x y H Q\/r' x y H Q):=by
 intro pins s U H x y v u Q I rx ry q;rcases q with q|q
 .exact h pins s U H x y v u Q I rx ry q
 .exact h' pins s U H x y v u Q I rx ry q
theorem AE(b:Expr){op:CmpOp}(h:op≠.In:=by decide)(h2:op≠.NotIn:=by decide):behindInMarks op b=false:=by
 have e1:(op==CmpOp.In)=false:=by cases op<;>first|rfl|exact absurd rfl h
 have e2:(op==CmpOp.NotIn)=false:=by cases op<;>first|rfl|exact absurd rfl h2
 cases b with
 | Set elts k pos =>
  show(k==0&&(op==.In || op==.NotIn)&&elts.all (constantsAlone 8))=false;rw[e1,e2,Bool.or_self,Bool.and_false,Bool.false_and]
 | _=>rfl
theorem Tn{op:CmpOp}{r:R2}(ho:OpR X (compareOp op) r)(ha:PE X a ta)(hb:PE X b tb)(hm:behindInMarks op b=false):PE X (.Compare a [op] [b] pos) (tOp r ta tb):=by
 intro pins s U H Q I h;exact wpAny_Compare1 (Ve ha hb I h fun v u s2 x y H2 I2 rx ry q=>ho pins s2 U H2 x y v u Q I2 rx ry q) hm
noncomputable def U3(t:TE):TT:=fun U H Q=>t U H fun x H'=>∃k,x=.bl k/\Q k H'
theorem Tz{op:CmpOp}{r:R2}(ho:OpR X (compareOp op) r)(ha:PE X a ta)(hb:PE X b tb)(hm:behindInMarks op b=false):PT X (.Compare a [op] [b] pos) (U3 (tOp r ta tb)):=by
 intro pins s U H Q I h;refine wpAny_isTrue_Compare1 (thn (ha pins s U H _ I h) fun v s1 yy=>?_) hm;obtain⟨x,H1,I1,r1,q1⟩:=yy;refine thn (hb pins s1 U H1 _ I1 q1) fun u s2 yy=>?_;obtain⟨y,H2,I2,r2,q2⟩:=yy;refine thn (ho pins s2 U H2 x y v u _ I2 r1 r2 q2) fun c s3 yy=>?_;obtain⟨z,H3,I3,r3,k,e,q3⟩:=yy;subst e;cases r3;exact wpAny_truthy_bool ⟨H3,I3,q3⟩
noncomputable def Ob(r r':R2)(ta tb tc:TE):TE:=fun U H Q=>ta U H fun x H1=>tb U H1 fun y H2=>r x y H2 fun z H3=>∃k,z=.bl k /\
 (if k=true then tc U H3 fun w' H4=>r' y w' H4 Q else Q (.bl false) H3)
theorem Rx{op op':CmpOp}{r r':R2}(ho:OpR X (compareOp op) r)(ho':OpR X (compareOp op') r')(ha:PE X a ta)(hb:PE X b tb)(hc:PE X c tc)(hm:lastMarks [op,op'] [b,c]=false:=by with_unfolding_all rfl):PE X (.Compare a [op,op'] [b,c] pos) (Ob r r' ta tb tc):=by
 intro pins s U H Q I h;refine Compare_chain (thn (ha pins s U H _ I h) fun v s1 yy=>?_) hm;obtain⟨x,H1,I1,r1,q1⟩:=yy;refine chain_link (thn (hb pins s1 U H1 _ I1 q1) fun u s2 yy=>?_);obtain⟨y,H2,I2,r2,q2⟩:=yy;refine thn (ho pins s2 U H2 x y v u _ I2 r1 r2 q2) fun d s3 yy=>?_;obtain⟨z,H3,I3,r3,k,e,q3⟩:=yy;subst e;cases r3;refine wpAny_truthy_bool ?_;cases k with
 | false=>exact ite_ff ⟨.bl false,H3,I3,rfl,q3⟩
 | true=>exact ite_tt (chain_last (thn (hc pins s3 U H3 _ I3 q3) fun w' s4 ⟨z',H4,I4,r4,q4⟩=>ho' pins s4 U H4 y z' u w' Q I4 r2 r4 q4))
theorem RG{op op':CmpOp}{r r':R2}(ho:OpR X (compareOp op) r)(ho':OpR X (compareOp op') r')(ha:PE X a ta)(hb:PE X b tb)(hc:PE X c tc)(hm:lastMarks [op,op'] [b,c]=false:=by with_unfolding_all rfl):PT X (.Compare a [op,op'] [b,c] pos) (U3 (Ob r r' ta tb tc)):=by
 intro pins s U H Q I h;refine isTrue_chain (thn (ha pins s U H _ I h) fun v s1 yy=>?_) hm;obtain⟨x,H1,I1,r1,q1⟩:=yy;refine test_link (thn (hb pins s1 U H1 _ I1 q1) fun u s2 yy=>?_);obtain⟨y,H2,I2,r2,q2⟩:=yy;refine thn (ho pins s2 U H2 x y v u _ I2 r1 r2 q2) fun d s3 yy=>?_;obtain⟨z,H3,I3,r3,k,e,q3⟩:=yy;subst e;cases r3;refine wpAny_truthy_bool ?_;cases k with
 | false =>
  obtain⟨k',e',q'⟩:=q3;cases e';exact ite_ff ⟨H3,I3,q'⟩
 | true =>
  refine ite_tt (test_last (thn (hc pins s3 U H3 _ I3 q3) fun w' s4 ⟨z',H4,I4,r4,q4⟩=>thn (ho' pins s4 U H4 y z' u w' _ I4 r2 r4 q4) fun d' s5 yy=>?_));obtain⟨z2,H5,I5,r5,k2,e2,q5⟩:=yy;subst e2;cases r5;exact wpAny_truthy_bool ⟨H5,I5,q5⟩
theorem Il:(sizeLine:Nat)<2 ^ 63:=by rw[sizeLine_eq]; decide
theorem NV:OpR X (binaryOp .Add) (fun x y H Q=>∃i j,x=.str i/\y=.str j/\i.length+j.length<=sizeLine/\Q (.str (i++j)) H):=by
 intro pins s U H x y v u Q I rx ry h;obtain⟨i,j,rfl,rfl,hz,q⟩:=h;obtain⟨t,rfl⟩:=rx;obtain⟨t',rfl⟩:=ry;exact add_str (fun t' tk=>⟨.str (i++j),H,I.tok _,⟨_,rfl⟩,q⟩) hz
theorem vals1{x:V}{us:List Value}(r:Vals [x] us):∃u,us=[u]/\RelV x u:=by
 cases r with
 | cons r1 r2=>cases r2; exact⟨_,rfl,r1⟩
theorem vals2{x y:V}{us:List Value}(r:Vals [x,y] us):∃u w',us=[u,w']/\RelV x u/\RelV y w':=by
 cases r with
 | cons r1 r2 =>
  cases r2 with
  | cons r3 r4=>cases r4; exact⟨_,_,rfl,r1,r3⟩
theorem L9:Cv X (.builtin "abs") (fun xs H Q=>∃i,xs=[.int i]/\Q (.int (if i<0 then -i else i)) H):=by
 intro pins s U H xs us Q I r h;obtain⟨i,rfl,q⟩:=h;obtain⟨u,rfl,t,rfl⟩:=vals1 r;exact call_abs_int fun u tk=>⟨.int (if i<0 then -i else i),H,I.tok _,⟨_,rfl⟩,q⟩
theorem O7(hc:X.calm=true):Cv X (.builtin "max") (fun xs H Q=>∃i j,xs=[.int i,.int j]/\Q (.int (if j > i then j else i)) H):=by
 intro pins s U H xs us Q I r h;obtain⟨i,j,rfl,q⟩:=h;obtain⟨u,w',rfl,⟨t,rfl⟩,⟨t',rfl⟩⟩:=vals2 r;refine max_two_ints (I.ok.hd hc) fun h' tk k=>⟨_,H,I.kept k,?_,q⟩;by_cases hj:j > i
 .rw[if_pos hj,if_pos hj]; exact⟨_,rfl⟩
 .rw[if_neg hj,if_neg hj]; exact⟨_,rfl⟩
end
end L2
namespace L2
open PySem PySem.Spec PyProof.Rows
structure ObjM (h:Heap) (x dx C:Addr) (mA:Str->Option Value):Prop where
 obj:h.get? x=some (PySem.W.instObj C dx)
 ns:h.Ns1 dx mA
 ne:dx≠x
theorem Pu{h:Heap}{dx:Addr}{mA:Str->Option Value}(n:h.Ns1 dx mA):∃od,h.get? dx=some od/\∀name,PySem.W.lookIn name od=some (mA name):=by
 obtain⟨o,es,ep,ho,hd,hk,_,hm⟩:=n;refine⟨o,ho,fun name=>?_⟩;have e:=hm name;unfold nsFind findBy at e;rw[<- Array.find?_toList] at e;unfold PySem.W.lookIn;rw[hd];dsimp only;split
 .rename_i y q
  rw[q] at e;exact congrArg some e
 .rename_i q
  rw[q] at e;have a:es.toList.any (·.refKey)=false:=by
   rw[List.any_eq_false];intro y hy;obtain⟨z,t,hkey⟩:=hk y (Array.mem_toList_iff.mp hy);simp[DictEntry.refKey,hkey]
  have a':¬es.toList.any (·.refKey)=true:=by rw[a]; exact Bool.false_ne_true
  rw[if_neg a'];exact congrArg some e
theorem ObjM.look{h:Heap}{x dx C:Addr}{mA:Str->Option Value}(I:ObjM h x dx C mA):∃od,PySem.W.InstAt h x (PySem.W.instObj C dx) C (some od)/\∀name,PySem.W.lookIn name od=some (mA name):=
 let⟨od,ho,hl⟩:=Pu I.ns
 ⟨od,⟨I.obj,rfl,rfl,ho⟩,hl⟩
section
variable{prog:Program}{w:World}{A:Around}{E:Value->Shared->Prop}{s:Shared}{K:Frag}{x dx C f:Addr}{mA:Str->Option Value}{name:Str}{v:Value}
end
theorem Ja.some_of{v:V}{o:Option Value}(r:Ja (some v) o):∃u,o=some u/\RelV v u:=by
 cases o with
 | none=>exact(show False from r).elim
 | some u=>exact⟨u,rfl,r⟩
section
variable{P:Program}{w:World}{H H':Hp}{h h':Heap}{a C dx:Addr}{fs fs':List (Str×V)}
theorem SR(hok:HOk P w H h)(e:H a=some (.ins C dx fs)):∃mA,ObjM h a dx C mA/\(∀f,Ja (fs.lookup f) (mA f))/\PySem.Within mA (fs.map (·.1))/\fs.length<=1000/\H dx=some (.own a):=by
 obtain⟨d,z,ne,ob,mA,n,r,q⟩:=(show BB P w H h a (.ins C dx fs) from hok a _ e);exact⟨mA,⟨ob,n,ne⟩,r,q,z,d⟩
end
structure Cls (K:Frag) (C:Addr):Prop where
 pg:PySem.W.plainGet K C Str.empty=true
 hd:PySem.W.hasDictIn K C=true
 po:PySem.W.plainOver K C=true
 sa:PySem.W.findIn K (.ref C) "__setattr__" = some (some (.builtin "object.__setattr__"))
theorem Cls.get{K:Frag}{C:Addr}(c:Cls K C)(f:Str):PySem.W.plainGet K C f=true:=c.pg
section
variable{X:Cx}{pins:List (Addr×Obj)}{U:St}{H:Hp}{s:Shared}{a C dx:Addr}{fs:List (Str×V)}{f:Str}{v:V}{A:Around}{E:Value->Shared->Prop}
end
section
variable{X:Cx}{o e value:Expr}{f:Str}{pos pos' tpos:Pos}{ta tv:TE}
end
section
variable{X:Cx}{pins:List (Addr×Obj)}{U:St}{H:Hp}{s:Shared}{A:Around}{E:Value->Shared->Prop}{Q:Value->Shared->Prop}{c:Value}{b:Bool}
inductive TyOf (K:Frag) (H:Hp):V->Value->Prop where
 | non:TyOf K H .non (.type "NoneType")
 | bl (x:Bool):TyOf K H (.bl x) (.type "bool")
 | int (i:Int):TyOf K H (.int i) (.type "int")
 | str (x:Str):TyOf K H (.str x) (.type "str")
 | flt (x:UInt64):TyOf K H (.flt x) (.type "float")
 | lst {a:Addr} {xs:List V} (e:H a=some (.lst xs)):TyOf K H (.ref a) (.type "list")
 | frz {a:Addr} {o:Obj} {xs:List V} (e:H a=some (.frz o (.lst xs))):TyOf K H (.ref a) (.type "list")
 | tup {a:Addr} {xs:List V} (e:H a=some (.tup xs)):TyOf K H (.ref a) (.type "tuple")
 | dK {a:Addr} {kvs:List (Key×V)} (e:H a=some (.dK kvs)):TyOf K H (.ref a) (.type "dict")
 | dT {a:Addr} {kvs:List (D×V)} (e:H a=some (.dT kvs)):TyOf K H (.ref a) (.type "dict")
 | ins {a C dx:Addr} {fs:List (Str×V)} (e:H a=some (.ins C dx fs)) (cl:Cls K C) (ha:PySem.W.findIn K (.ref C) "__class__" = some (some (.builtin "object.__class__")))
   (hn:PySem.W.specialIn K (.builtin "object.__class__") "__get__" = some (some (.builtin "getset_descriptor.__get__"))) (htk:PySem.W.takesIn K (.builtin "object.__class__")=some true)
   (hm:PySem.W.mroIn K C (.type "object")=some true):TyOf K H (.ref a) (.ref C)
theorem Pl{x:V}{u t:Value}(I:Inv X pins U H s)(rx:RelV x u)(ty:TyOf X.K H x t)(e:PySem.W.kitOne X.K t c=some b)(h:∀tk,Q (.bool b) { s with toks:=tk }):
  wpAny (model X.prog X.w) A (call (.builtin "isinstance") [u,c]) Q E s:=by
 cases ty with
 | non=>cases (show u=Value.none from rx); exact PySem.W.kia_one PySem.W.kitx_none I.kIn True.intro e (fun z=>nomatch z) h
 | bl y=>cases (show u=Value.bool y from rx); exact PySem.W.kia_one PySem.W.kitx_bool I.kIn True.intro e (fun z=>nomatch z) h
 | int i=>obtain⟨t,q⟩:=(show ∃t,u=Value.int i t from rx); cases q; exact PySem.W.kia_one PySem.W.kitx_int I.kIn True.intro e (fun z=>nomatch z) h
 | str y=>obtain⟨t,q⟩:=(show ∃t,u=Value.str y t from rx); cases q; exact PySem.W.kia_one PySem.W.kitx_str I.kIn True.intro e (fun z=>nomatch z) h
 | flt y=>obtain⟨t,q⟩:=(show ∃t,u=Value.float y t from rx); cases q; exact PySem.W.kia_one PySem.W.kitx_float I.kIn True.intro e (fun z=>nomatch z) h
 | @lst a xs ea =>
  cases (show u=Value.ref a from rx);obtain⟨_,_,n,_,h1⟩:=(show BB X.prog X.w H s.heap a (.lst xs) from I.hok a _ ea);exact PySem.W.kia_one PySem.W.kitx_list I.kIn ⟨_,h1,rfl⟩ e (fun z=>nomatch z) h
 | @frz a ob xs ea =>
  cases (show u=Value.ref a from rx);obtain⟨_,_,_,n,_,h1⟩:=(show BB X.prog X.w H s.heap a (.frz ob (.lst xs)) from I.hok a _ ea);exact PySem.W.kia_one PySem.W.kitx_list I.kIn ⟨_,h1,rfl⟩ e (fun z=>nomatch z) h
 | @tup a xs ea =>
  cases (show u=Value.ref a from rx);obtain⟨_,_,_,p⟩:=(show BB X.prog X.w H s.heap a (.tup xs) from I.hok a _ ea);obtain⟨o,h1,h2,_⟩:=p;exact PySem.W.kia_one PySem.W.kitx_tuple I.kIn ⟨o,h1,h2⟩ e (fun z=>nomatch z) h
 | @dK a kvs ea =>
  cases (show u=Value.ref a from rx);obtain⟨_,_,vs,_,p⟩:=(show BB X.prog X.w H s.heap a (.dK kvs) from I.hok a _ ea);obtain⟨o,es,ep,h1,h2,_⟩:=p;exact PySem.W.kia_one PySem.W.kitx_dict I.kIn ⟨o,h1,h2.1⟩ e (fun z=>nomatch z) h
 | @dT a kvs ea =>
  cases (show u=Value.ref a from rx);obtain⟨_,_,xs,_,o,es,ep,h1,h2,_⟩:=(show BB X.prog X.w H s.heap a (.dT kvs) from I.hok a _ ea);exact PySem.W.kia_one PySem.W.kitx_dict I.kIn ⟨o,h1,h2.1⟩ e (fun z=>nomatch z) h
 | @ins a C dx fs ea cl ha hn htk hm =>
  cases (show u=Value.ref a from rx);obtain⟨mA,O,_⟩:=SR I.hok ea;obtain⟨od,J,_⟩:=O.look;exact PySem.W.kia_one (PySem.W.kitx_own (cl.get _) cl.hd ha hn htk hm) I.kIn J e (fun z=>nomatch z) h
end
end L2
namespace L2
open PySem PySem.Spec PyProof.Rows
structure Room (k:Nat) (A:Around):Prop where
 hd:A.handled=none
 dp:A.depth+3*k+5<recursionLimit
 un:A.units+16*k+200<cLine
theorem Room.mono{j k:Nat}{A:Around}(r:Room k A)(h:j<=k):Room j A:=⟨r.hd,by have:=r.dp; lia,by have:=r.un; lia⟩
theorem Room.deeper{k:Nat}{A:Around}(r:Room (k+1) A)(env:Env):Room k (A.deeper env):=
 ⟨r.hd,by have:=r.dp; show A.depth+1+3*k+5<_; lia,by have:=r.un; show A.units+3+16*k+200<_; lia⟩
theorem Room.depth{k:Nat}{A:Around}(r:Room k A):A.depth<recursionLimit:=by have:=r.dp; lia
theorem Room.units{k:Nat}{A:Around}(r:Room k A):A.units+64<cLine:=by have:=r.un; lia
noncomputable def Hl:TA:=fun _ H Q=>Q [] H
noncomputable def Cs(ta:TE)(tr:TA):TA:=fun U H Q=>ta U H fun x H1=>tr U H1 fun xs H2=>Q (x::xs) H2
section
variable{X:Cx}{e:Expr}{es:List Expr}{te:TE}{t:TA}{pos:Pos}
theorem GF:PA X [] Hl:=fun _ _ _ _ H Q I h=>Calls.spliced_nil ⟨[],H,I,.nil,h⟩
theorem D6(ha:PE X e te)(hr:PA X es t)(hs:starEach (e::es) X.env=(false,eval e X.env)::starEach es X.env:=by rfl):PA X (e::es) (Cs te t):=by
 intro pos pins s U H Q I h;rw[hs];show wpAny _ _ (spliced ((false,eval e X.env)::backTo pos (starEach es X.env))) _ _ s;refine Calls.spliced_cons (thn (ha pins s U H _ I h) fun u s1 yy=>?_);obtain⟨x,H1,I1,r1,q1⟩:=yy;exact thn (hr pos pins s1 U H1 _ I1 q1) fun us s2 ⟨xs,H2,I2,r2,q2⟩=>⟨x::xs,H2,I2,.cons r1 r2,q2⟩
noncomputable def YA(t:TA):TE:=fun U H Q=>t U H fun xs H1=>xs.length<=sizeLine/\∀p,H1 p=none->Q (.ref p) (upd H1 p (.tup xs))
noncomputable def Yu(t:TA):TE:=fun U H Q=>t U H fun xs H1=>xs.length<=sizeLine/\∀p,H1 p=none->Q (.ref p) (upd H1 p (.lst xs))
theorem Wv{x1}(h:PA X es t):PE X (.Tuple es x1 pos) (YA t):=by
 intro pins s U H Q I hq;refine wpAny_Tuple_spliced (thn (h pos pins s U H _ I hq) fun us s1 ⟨xs,H1,I1,r,z,q⟩=>⟨by rw[<- r.length]; exact z,?_⟩);have hf:H1 s1.heap.objs.size=none:=I1.hok.fresh (Nat.le_refl _);refine⟨.ref s1.heap.objs.size,upd H1 s1.heap.objs.size (.tup xs),I1.laid (t':=s1.toks) (fun b u e=>Heap.get?_push_of_some _ e) (Nat.le_refl _) ?_,rfl,q _ hf⟩;exact⟨z,us,r,⟨_,Heap.get?_push_size _ rfl,rfl,_,rfl⟩⟩
theorem Wq(h:PA X es t):PE X (.List es pos) (Yu t):=by
 intro pins s U H Q I hq;refine wpAny_List_spliced (thn (h pos pins s U H _ I hq) fun us s1 ⟨xs,H1,I1,r,z,q⟩=>⟨by rw[<- r.length]; exact z,?_⟩);have hf:H1 s1.heap.objs.size=none:=I1.hok.fresh (Nat.le_refl _);refine⟨.ref s1.heap.objs.size,upd H1 s1.heap.objs.size (.lst xs),I1.laid (t':=s1.toks) (fun b u e=>Heap.get?_push_of_some _ e) (Nat.le_refl _) ?_,rfl,q _ hf⟩;exact⟨z,us,0,r,Heap.get?_push_size _ rfl⟩
end
noncomputable abbrev Sp:=List V->Hp->VK->XK->Prop
noncomputable abbrev CXT:=List Env->Hp->Shared->XK->Value->Shared->Prop
structure Env0 (P:Program) (w:World) (K:Frag) (mg:Str->Option Value) (base:Heap) (A:Around) (outer:List Env) (s:Shared) (H:Hp):Prop where
 frames:A.frames=some outer
 mod:Mod K mg base
 bs:∀b o,base.get? b=some o->s.heap.get? b=some o/\H b=none
 bsz:base.objs.size<=s.heap.objs.size
 funs:s.heap.FunFrames base outer
 frf:∀b∈frs outer,H b=none
 hok:HOk P w H s.heap
 bare:AllBare s.gens
 tb:O4 K H
noncomputable def CE(outer:List Env)(P:Program)(w:World)(H:Hp)(s:Shared)(Q:VK)(u:Value)(s':Shared):Prop:=
 ∃v H',s'.os=s.os/\AllBare s'.gens/\Un (frs outer) [] H H' s.heap s'.heap/\HOk P w H' s'.heap/\RelV v u/\Q v H'
noncomputable def CR(CX:CXT)(outer:List Env)(P:Program)(w:World)(H:Hp)(s:Shared)(Q:VK)(E:XK)(r:Result)(s':Shared):Prop:=
 match r with
 | .ok (.ret u)=>CE outer P w H s Q u s'
 | .ok _=>False
 | .error e=>CX outer H s E e s'
structure FnOk (P:Program) (w:World) (K:Frag) (mg:Str->Option Value) (base:Heap) (CX:CXT) (k:Nat) (f:Addr) (fd:FuncData) (ps:List Str) (sp:Sp):Prop where
 len:∀vs H Q E,sp vs H Q E->vs.length=ps.length
 run:∀(A:Around) (outer:List Env) (s:Shared) (H:Hp) (args:Args) (us:List Value) (vs:List V) (Q:VK) (E:XK),Room k A->Env0 P w K mg base A outer s H->BindsTo s fd args (ps.zip us)->Vals vs us->sp vs H Q E ->
  codeAny (model P w) A (.call (.ref f) args) (CR CX outer P w H s Q E) s
section
variable{X:Cx}{pins:List (Addr×Obj)}{U:St}{H:Hp}{s s':Shared}
theorem Inv.env0(I:Inv X pins U H s):Env0 X.prog X.w X.K X.mg X.base X.A X.stack s H:=
 ⟨I.ok.frames,I.ok.mod,I.bs,Nat.le_trans I.ok.bsz I.sz,I.stack,I.stkFree,I.hok,I.bare,I.tabs⟩
theorem Inv.after{Q:VK}{u:Value}(I:Inv X pins U H s)(h:CE X.stack X.prog X.w H s Q u s'):EP X pins U Q u s':=by
 obtain⟨v,H',os,bare,un,hok,r,q⟩:=h;obtain⟨hh,g,d,t,os'⟩:=s';obtain rfl:os'=s.os:=os;exact⟨v,H',I.call (h':=hh) (g':=g) (d':=d) (t':=t) (ch:=[]) un hok bare (fun b z=>absurd z (by simp)),r,q⟩
end
noncomputable def R0(sp:Sp)(dvs:List V)(E:XK)(t:TA):TE:=fun U H Q=>t U H fun vs H1=>sp (vs++dvs) H1 Q E
noncomputable def Binds(K:Frag)(fd:FuncData)(ps:List Str)(ds:List Value):Prop:=
 ∀(s:Shared) (us:List Value),K.In s.heap->(us++ds).length=ps.length->BindsTo s fd ⟨us,[]⟩ (ps.zip (us++ds))
theorem Binds.all{K:Frag}{fd:FuncData}{ps:List Str}(h:∀us:List Value,us.length=ps.length->bindArgs fd ⟨us,[]⟩=pure (ps.zip us)):Binds K fd ps []:=fun s us _ hl=>by
 rw[List.append_nil] at hl |-;exact .of_eq (h us hl)
noncomputable def Passes(CX:CXT)(X:Cx)(E:XK):Prop:=∀(pins:List (Addr×Obj)) (U:St) (H:Hp) (s:Shared) (e:Value) (s':Shared),Inv X pins U H s->CX X.stack H s E e s'->X.xe e s'
section
variable{X:Cx}{CX:CXT}{k:Nat}{f C:Addr}{fd:FuncData}{ps:List Str}{sp:Sp}{dvs:List V}{ds:List Value}{E:XK}{x m:Str}{p pos apos:Pos}{e o:Expr}{es:List Expr}{ta:TE}{t:TA}
theorem WO{pins:List (Addr×Obj)}{U:St}{H:Hp}{s:Shared}{Q:VK}{us:List Value}{vs:List V}(F:FnOk X.prog X.w X.K X.mg X.base CX k f fd ps sp)(hr:Room k X.A)(hb:Binds X.K fd ps ds)(hd:Vals dvs ds)(hx:Passes CX X E)(I:Inv X pins U H s)(r:Vals vs us)(h:sp (vs++dvs) H Q E):wpAny (model X.prog X.w) X.A (call (.ref f) us) (EP X pins U Q) X.xe s:=by
 have r2:Vals (vs++dvs) (us++ds):=r.append hd;have hl:(us++ds).length=ps.length:=by rw[<- r2.length]; exact F.len _ _ _ _ h
 refine wpAny_call (codeAny_mono (F.run X.A X.stack s H ⟨us,[]⟩ (us++ds) (vs++dvs) Q E hr I.env0 (hb s us I.kIn hl) r2 h) fun r s' hq=>?_);cases r with
 | error e=>exact hx pins U H s e s' I hq
 | ok fl =>
  cases fl with
  | ret u=>exact I.after hq
  | next=>exact False.elim hq
  | brk=>exact False.elim hq
  | cont=>exact False.elim hq
theorem Tj(F:FnOk X.prog X.w X.K X.mg X.base CX k f fd ps sp)(hr:Room k X.A)(hg:Gl X x)(hm:X.mg x=some (.ref f))(hk:PySem.W.keepIn X.K (.ref f)=true)(hb:Binds X.K fd ps ds)(hd:Vals dvs ds)(hx:Passes CX X E)(ha:PA X (e::es) t)(hdb:(x==("__debug__" : Str))=false:=by decide)(he:starEach (e::es) X.env=(false,eval e X.env)::starEach es X.env:=by rfl)(hpl:(backTo pos (starEach es X.env)).any (·.1)=false:=by rfl):
  PE X (.Call (.Name x p) (e::es) [] pos) (R0 sp dvs E t):=by
 intro pins s U H Q I h;refine wpAny_Call_Name_kw (OH I hg hm ?_ hdb);refine PySem.W.callWith_K (h₀:=X.base) I.ok.mod.kin hk (thn (ha pos pins s U H _ I h) fun us s1 ⟨vs,H1,I1,r,q⟩=>⟨I1.kIn,?_⟩) he hpl;exact WO F hr hb hd hx I1 r q
end
section
variable{X:Cx}{CX:CXT}{k:Nat}{f C:Addr}{fd:FuncData}{ps ks:List Str}{sp:Sp}{E:XK}{x m:Str}{p pos apos kpos:Pos}{e o:Expr}{es:List Expr}{kws:List Keyword}{te ta:TE}{t tk:TA}{nm:Option Str}
variable{g:List Value->List Value->List Value}{gV:List V->List V->List V}
end
structure FnScope (N P:List Str) (sc:Scope):Prop where
 kind:sc.kind=.function
 co:sc.isCoroutine=false
 gen:sc.isGenerator=false
 nd:N.Nodup
 pre:N.take P.length=P
 par:∀x∈P,sc.names.lookup x=some .local\/sc.names.lookup x=some .cell
 nofree:∀y∈sc.names,y.2≠.free
theorem KA{kindOf:Str->Option NameKind}{x:Str}:∀{binds:List (Str×Value)} {m:Str->Option Value},(∀v,(x,v)∉binds)->bindL kindOf binds m x=m x
 | [],_,_=>rfl
 | (n,v)::r,m,h=>by
  unfold bindL;rw[KA fun w hw=>h w (List.mem_cons_of_mem _ hw)];split
  .have:x≠n:=by rintro rfl; exact h v List.mem_cons_self
   simp[this]
  .rfl
theorem Ky{kindOf:Str->Option NameKind}{x:Str}:∀{binds:List (Str×Value)} {m:Str->Option Value},(∀v,(x,v)∉binds)->bindC kindOf binds m x=m x
 | [],_,_=>rfl
 | (n,v)::r,m,h=>by
  unfold bindC;rw[Ky fun w hw=>h w (List.mem_cons_of_mem _ hw)];split
  .rfl
  .have:x≠n:=by rintro rfl; exact h v List.mem_cons_self
   simp[this]
theorem Kz{kindOf:Str->Option NameKind}{x:Str}{v:Value}:∀{P:List Str} {vs:List Value} {i:Nat} {m:Str->Option Value},P.Nodup->P[i]? = some x->vs[i]? = some v->kindOf x=some .local ->
  bindL kindOf (P.zip vs) m x=some v
 | [],_,_,_,_,h,_,_=>by simp at h
 | _::_,[],_,_,_,_,h,_=>by simp at h
 | p::P,w::vs,0,m,nd,h1,h2,hk=>by
  simp at h1 h2; subst h1; subst h2;show bindL kindOf ((p,w)::P.zip vs) m p=_;unfold bindL;rw[KA fun v hv=>(List.nodup_cons.mp nd).1 (List.of_mem_zip hv).1,if_pos hk];simp
 | p::P,w::vs,i+1,m,nd,h1,h2,hk=>by
  show bindL kindOf ((p,w)::P.zip vs) m x=_;unfold bindL;exact Kz (i:=i) (List.nodup_cons.mp nd).2 (by simpa using h1) (by simpa using h2) hk
theorem Kx{kindOf:Str->Option NameKind}{x:Str}{v:Value}:∀{P:List Str} {vs:List Value} {i:Nat} {m:Str->Option Value},P.Nodup->P[i]? = some x->vs[i]? = some v->kindOf x≠some .local ->
  bindC kindOf (P.zip vs) m x=some v
 | [],_,_,_,_,h,_,_=>by simp at h
 | _::_,[],_,_,_,_,h,_=>by simp at h
 | p::P,w::vs,0,m,nd,h1,h2,hk=>by
  simp at h1 h2; subst h1; subst h2;show bindC kindOf ((p,w)::P.zip vs) m p=_;unfold bindC;rw[Ky fun v hv=>(List.nodup_cons.mp nd).1 (List.of_mem_zip hv).1,if_neg hk];simp
 | p::P,w::vs,i+1,m,nd,h1,h2,hk=>by
  show bindC kindOf ((p,w)::P.zip vs) m x=_;unfold bindC;exact Kx (i:=i) (List.nodup_cons.mp nd).2 (by simpa using h1) (by simpa using h2) hk
noncomputable def start(N:List Str)(vs:List V):St:=vs.map some++List.replicate (N.length-vs.length) none
noncomputable def Me(CX:CXT)(P:Program)(w:World)(K:Frag)(mg:Str->Option Value)(base:Heap)(N:List Str)(qual:Str)(scope:Scope)(f:Addr)(cd:Value)(A:Around)(outer:List Env)(s:Shared)(H:Hp)(E:XK):Cx where
 prog:=P
 w:=w
 K:=K
 mg:=mg
 base:=base
 A:=A.deeper (envOfC qual scope s.heap.objs.size f cd)
 N:=N
 s₀:=s
 H₀:=H
 env:=envOfC qual scope s.heap.objs.size f cd
 outer:=outer
 stack:=envOfC qual scope s.heap.objs.size f cd::outer
 ex:=[]
 calm:=true
 fn:=fun _=>true
 pn:=[]
 xe:=fun e s'=>wpAny (model P w) (A.deeper (envOfC qual scope s.heap.objs.size f cd)) (leaving (envOfC qual scope s.heap.objs.size f cd) e) (fun _ s''=>CX outer H s E e s'') (fun e' s''=>CX outer H s E e' s'') s'
theorem Ma{sc:Scope}{n:Nat}{x:Str}(h:sc.names.lookup x=some .cell):∃c,(cellsFrom n sc.names []).lookup x=some c:=by
 have q:=PySem.W.cellsFrom_some sc.names n [] (.inl h);exact Option.isSome_iff_exists.mp q
theorem Pj{CX:CXT}{P:Program}{w:World}{K:Frag}{mg:Str->Option Value}{base:Heap}{N ps:List Str}{qual:Str}{scope:Scope}{f:Addr}{cd:Value}{A:Around}{outer:List Env}{s s1:Shared}{H:Hp}{E:XK}{us:List Value}{vs:List V}(S:FnScope N ps scope)(hd:A.handled=none)(e0:Env0 P w K mg base A outer s H)(hl:vs.length=ps.length)(r:Vals vs us)(x:InCallC s s.heap.objs.size (bindL (envOfC qual scope s.heap.objs.size f cd).kindOf (ps.zip us) fun _=>none) (cellsFrom (s.heap.objs.size+1) scope.names []) (bindC (envOfC qual scope s.heap.objs.size f cd).kindOf (ps.zip us) fun _=>none) s1):
  Inv (Me CX P w K mg base N qual scope f cd A outer s H E) [] (start N vs) H s1:=by
 have hpl:ps.length<=N.length:=by have:=congrArg List.length S.pre; rw[List.length_take] at this; lia
 obtain⟨h1,tk,rfl,hk⟩:=x.done;have noA:∀b:Addr,b∉(Me CX P w K mg base N qual scope f cd A outer s H E).ex:=fun b z=>absurd (show b∈([]:List Addr) from z) (by simp);refine⟨⟨e0.mod,S.kind,rfl,rfl,Nat.le_refl _,fun y z c h1 h2=>?_,fun y hy=>?_,fun y c _ h=>?_,fun _=>hd,Around.frames_deeper e0.frames,.inr ⟨rfl,rfl⟩,fun b z=>absurd z (noA b),e0.bs,e0.bsz,fun b _ _=>noA b,fun b z=>absurd z (noA b),e0.funs,e0.frf,e0.tb⟩,
  rfl,e0.bare,Un.kept hk,⟨_,x.toInCall.ns,fun i y v h1 h2 h3=>?_⟩,fun y c h=>⟨_,x.cell y c h⟩,e0.hok.fresh (Nat.le_refl _),fun y c h=>?_,fun p hp=>absurd (show p∈([]:List (Addr×Obj)) from hp) (by simp),e0.hok.kept hk,?_⟩
 .exact name_of_addr x.apart (PySem.mem_of_lookup h1) (PySem.mem_of_lookup h2)
 .have hy:scope.names.lookup y=some .cell\/scope.names.lookup y=some .free:=hy
  rcases hy with hy|hy
  .exact Ma hy
  .exact absurd rfl (S.nofree _ (PySem.mem_of_lookup hy))
 .exact Nat.le_of_lt (x.above y c (PySem.mem_of_lookup h))
 .have hi:i<vs.length:=by
   unfold start at h2;by_cases hi:i<vs.length
   .exact hi
   .rw[List.getElem?_append_right (by simpa using hi)] at h2
    rw[List.getElem?_replicate] at h2;split at h2<;>cases h2
  have ha:vs[i]? = some v:=by
   unfold start at h2;rw[List.getElem?_append_left (by simpa using hi),List.getElem?_map] at h2;cases e:vs[i]? with
   | none=>rw[e] at h2; cases h2
   | some a=>rw[e] at h2; cases h2; rfl
  obtain⟨u,hu,rv⟩:=r.get ha;have hp:ps[i]? = some y:=by
   rw[<- S.pre,List.getElem?_take_of_lt (by lia)]; exact h1
  have ndP:ps.Nodup:=by rw[<- S.pre]; exact S.nd.sublist (List.take_sublist _ _)
  refine⟨u,rv,?_⟩;rcases S.par y (List.mem_of_getElem? hp) with k|k
  .exact .inl ⟨k,Kz ndP hp hu k⟩
  .obtain⟨c,e⟩:=Ma (n:=s.heap.objs.size+1) k
   refine .inr ⟨.inl k,c,e,?_⟩;have q:=x.cell y c e;rw[Kx ndP hp hu (by show scope.names.lookup y≠_; rw[k]; decide)] at q;exact q
 .exact e0.hok.fresh (Nat.le_of_lt (x.above y c (PySem.mem_of_lookup h)))
 .unfold start
  show _=N.length;rw[List.length_append,List.length_map,List.length_replicate];lia
theorem UC{CX:CXT}{P:Program}{w:World}{K:Frag}{mg:Str->Option Value}{base:Heap}{k:Nat}{f:Addr}{name qual:Str}{params:Arguments}{body:List Stmt}{scope:Scope}{dV kV doc pm cdv ct oc:Value}{an od:Option Addr}{osl:Array (Option Value)}{N ps:List Str}{sp:Sp}(lk:K.lookup f=some ⟨oc,od,.func (PySem.W.fnOf name qual params body scope dV kV doc pm an cdv ct),osl⟩)(hcd:PySem.W.codeIn K cdv qual=true)(S:FnScope N ps scope)(len:∀vs H Q E,sp vs H Q E->vs.length=ps.length)(hbody:∀(A:Around) (outer:List Env) (s:Shared) (H:Hp) (vs:List V) (Q:VK) (E:XK),Room k (A.deeper (envOfC qual scope s.heap.objs.size f cdv))->sp vs H Q E ->
   ∃t,PSs (Me CX P w K mg base N qual scope f cdv A outer s H E) body t/\t { nx:=fun _ H'=>Q .non H',rt:=Q } (start N vs) H):
  FnOk P w K mg base CX (k+1) f (PySem.W.fnOf name qual params body scope dV kV doc pm an cdv ct) ps sp:=by
 refine⟨len,fun A outer s H args us vs Q E hr e0 hb r hsp=>?_⟩;have hl:=len _ _ _ _ hsp;have KX:K.In s.heap:=e0.mod.kin.keeps fun b o e=>(e0.bs b o e).1;have lim:s.heap.NoLimit:=e0.mod.nolimit.keeps fun b o e=>(e0.bs b o e).1;have hkind:∀y∈ps.zip us,scope.names.lookup y.1=some .local\/(scope.names.lookup y.1=some .cell/\((cellsFrom (s.heap.objs.size+1) scope.names []).lookup y.1).isSome=true):=fun⟨n,v⟩ hy=>by
  rcases S.par n (List.of_mem_zip hy).1 with q|q
  .exact .inl q
  .exact .inr ⟨q,PySem.W.cellsFrom_some _ _ _ (.inl q)⟩
 refine codeAny_call_function hr.depth (KX _ _ lk) rfl S.co S.gen rfl (PySem.W.codeRec_of KX hcd) (hb _ _ _ _ ?_);refine wpAny_newFunctionEnv_cells S.kind hkind fun env he s1 x=>?_;subst he;refine⟨lim.keeps x.toInCall.keep,codeAny_func ?_⟩;obtain⟨t,ht,hq⟩:=hbody A outer s H vs Q E (hr.deeper _) hsp;have I:Inv (Me CX P w K mg base N qual scope f cdv A outer s H E) [] (start N vs) H s1:=Pj S hr.hd e0 hl r x;refine wpAny_mono (ht [] s1 (start N vs) H _ I hq) (fun fl s' hs=>?_) fun e s' hs=>hs;have fin:∀{σ':St} {H':Hp} {v:V} {u:Value},Inv (Me CX P w K mg base N qual scope f cdv A outer s H E) [] σ' H' s'->RelV v u->Q v H'->CE outer P w H s Q u s':=
  fun {σ' H' v u} J rv q=>⟨v,H',J.os,J.bare,J.base,J.hok,rv,q⟩
 cases fl with
 | ret u =>
  obtain⟨v,σ',H',J,rv,q⟩:=hs;exact fin J rv q
 | next =>
  obtain⟨σ',H',J,q⟩:=hs;exact fin (v:=V.non) (u:=Value.none) J rfl q
 | brk =>
  obtain⟨_,_,_,q⟩:=hs;exact False.elim q
 | cont =>
  obtain⟨_,_,_,q⟩:=hs;exact False.elim q
end L2
namespace L2
open PySem PySem.Spec PyProof.Rows
section
variable{X:Cx}{x:Str}{p pos:Pos}{e:Expr}{es:List Expr}{t:TA}{id T:String}{r:List V->Hp->VK->Prop}
noncomputable def tCB(r:List V->Hp->VK->Prop)(t:TA):TE:=fun U H Q=>t U H fun vs H1=>r vs H1 Q
theorem MX(hc:Cv X (.builtin id) r)(hg:Gl X x)(hm:X.mg x=none)(hv:bootBuiltins x=some (.builtin id))(ha:PA X (e::es) t)(hn:x ≠ "__name__" := by decide)(hdb:(x==("__debug__" : Str))=false:=by decide)(he:starEach (e::es) X.env=(false,eval e X.env)::starEach es X.env:=by rfl)(hpl:(backTo pos (starEach es X.env)).any (·.1)=false:=by rfl):PE X (.Call (.Name x p) (e::es) [] pos) (tCB r t):=by
 intro pins s U H Q I h;refine wpAny_Call_Name_kw (Gy I hg hm hv ?_ hn hdb);exact PyProof.Rows.callWith_builtin1 (thn (ha pos pins s U H _ I h) fun us s1 ⟨vs,H1,I1,r1,q1⟩=>hc pins s1 U H1 vs us Q I1 r1 q1) he hpl
theorem PM(hc:Cv X (.type T) r)(hg:Gl X x)(hm:X.mg x=none)(hv:bootBuiltins x=some (.type T))(ha:PA X (e::es) t)(hn:x ≠ "__name__" := by decide)(hdb:(x==("__debug__" : Str))=false:=by decide)(he:starEach (e::es) X.env=(false,eval e X.env)::starEach es X.env:=by rfl)(hpl:(backTo pos (starEach es X.env)).any (·.1)=false:=by rfl):PE X (.Call (.Name x p) (e::es) [] pos) (tCB r t):=by
 intro pins s U H Q I h;refine wpAny_Call_Name_kw (Gy I hg hm hv ?_ hn hdb);exact PyProof.Rows.callWith_type1 (thn (ha pos pins s U H _ I h) fun us s1 ⟨vs,H1,I1,r1,q1⟩=>hc pins s1 U H1 vs us Q I1 r1 q1) he hpl
end
end L2
namespace HT
open PySem PyProof.Rows
section
open PySem.SeqAt
open PySem.AutoSeq1 (wpAny_loadPart')
open PySem.MeetsSeq PySem.MeetsSeq2 PySem.MeetsSeq3
end
section
variable{prog:Program}{w:World}{A:Around}{E:Value->Shared->Prop}{s:Shared}
end
end HT
namespace L2
open PySem PySem.Spec PyProof.Rows
noncomputable abbrev TO:=St->Hp->(Option Int->Hp->Prop)->Prop
section
variable{X:Cx}{e:Expr}{te:TE}{lo hi:Option Expr}{tl th:TO}{pos p2:Pos}
end
end L2
namespace L2
open PySem PySem.Spec PyProof.Rows
noncomputable def ixN(n:Nat)(i:Int):Option Nat:=if 0<=i then (if i<n then some i.toNat else none) else if -(n:Int)<=i then some (i+n).toNat else none
noncomputable def atI{α:Type}(xs:List α)(i:Int):Option α:=(ixN xs.length i).bind fun j=>xs[j]?
theorem OA{n:Nat}{i:Int}{j:Nat}(h:ixN n i=some j):seqIndex? i n=some j/\j<n/\-(n:Int)<=i/\i<n:=by
 unfold ixN at h;by_cases h0:0<=i
 .rw[if_pos h0] at h
  by_cases h1:i<n
  .rw[if_pos h1] at h
   have e:i.toNat=j:=Option.some.inj h;exact⟨by rw[seqIndex_of h0 h1,e],by lia,by lia,h1⟩
  .rw[if_neg h1] at h; cases h
 .rw[if_neg h0] at h
  by_cases h1 : -(n:Int)<=i
  .rw[if_pos h1] at h
   have e:(i+n).toNat=j:=Option.some.inj h;exact⟨by rw[seqIndex_neg (by lia) h1,e],by lia,h1,by lia⟩
  .rw[if_neg h1] at h; cases h
theorem B9{α:Type}{xs:List α}{i:Int}{v:α}(h:atI xs i=some v):∃j,seqIndex? i xs.length=some j/\xs[j]? = some v/\j<xs.length/\-(xs.length:Int)<=i/\i<xs.length:=by
 unfold atI at h;cases e:ixN xs.length i with
 | none=>rw[e] at h; cases h
 | some j =>
  rw[e] at h;obtain⟨h1,h2,h3,h4⟩:=OA e;exact⟨j,h1,h,h2,h3,h4⟩
noncomputable def Oi(b:Expr):Prop:=∀o i,subscripted b false o i=operate [o,i] (getItem o i)
noncomputable def IxR(X:Cx)(r:R2):Prop:=
 ∀(value slice:Expr) (pins:List (Addr×Obj)) (s:Shared) (U:St) (H:Hp) (x y:V) (v u:Value) (Q:VK),Inv X pins U H s->RelV x v->RelV y u->r x y H Q ->
  subscripted slice false v u=operate [v,u] (getItem v u)->wpAny (model X.prog X.w) X.A (subscriptTail value slice v u) (EP X pins U Q) X.xe s
noncomputable def MtR(X:Cx)(id:String)(r:V->List V->Hp->VK->Prop):Prop:=
 ∀(pins:List (Addr×Obj)) (s:Shared) (U:St) (H:Hp) (x:V) (xs:List V) (v:Value) (us:List Value) (Q:VK),Inv X pins U H s->RelV x v->Vals xs us->r x xs H Q ->
  wpAny (model X.prog X.w) X.A (call (.builtin id) (v::us)) (EP X pins U Q) X.xe s
section
variable{X:Cx}{a b:Expr}{ta tb:TE}{pos:Pos}
theorem IxR.or{r r':R2}(h:IxR X r)(h':IxR X r'):IxR X (fun x y H Q=>r x y H Q\/r' x y H Q):=by
 intro value slice pins s U H x y v u Q I rx ry q hs;rcases q with q|q
 .exact h value slice pins s U H x y v u Q I rx ry q hs
 .exact h' value slice pins s U H x y v u Q I rx ry q hs
theorem X4{r:R2}(hr:IxR X r)(ha:PE X a ta)(hb:PE X b tb)(hs:Oi b):PE X (.Subscript a b pos) (tOp r ta tb):=by
 intro pins s U H Q I h;exact Subscript_ (Ve ha hb I h fun v u s2 x y H2 I2 rx ry q=>hr a b pins s2 U H2 x y v u Q I2 rx ry q (hs _ _))
noncomputable def Ya(K:Frag):R2:=fun x y H Q=>∃p xs i v,x=.ref p/\y=.int i/\SqL K H p xs/\atI xs i=some v/\Q v H
noncomputable def Yc(K:Frag):R2:=fun x y H Q=>∃p xs i v,x=.ref p/\y=.int i/\SqT K H p xs/\atI xs i=some v/\Q v H
noncomputable def Yb:R2:=fun x y H Q=>∃z i c,x=.str z/\y=.int i/\z.length<=sizeLine/\atI z.cps.toList i=some c/\Q (.str ⟨#[c]⟩) H
theorem SX:IxR X (Ya X.K):=by
 intro value slice pins s U H x y v u Q I rx ry h hs;obtain⟨p,xs,i,z,rfl,rfl,hq,he,q⟩:=h;cases rx;obtain⟨t,rfl⟩:=ry;obtain⟨its,r,pl,hz⟩:=I.list hq;obtain⟨j,h1,h2,h3,h4,h5⟩:=B9 he;obtain⟨w,ew,rw'⟩:=r.get h2;have hl:=r.length;have hn:=Il;have fin:EP X pins U Q w s:=⟨z,H,I,rw',q⟩;by_cases h0:0<=i
 .have hj:i.toNat=j:=by
   rw[seqIndex_of h0 h5] at h1;exact Option.some.inj h1
  exact item_listR pl.isList h0 (by lia) (by rw[hj]; simpa using ew) fin hs
 .have hj:(i+(its.toArray.size:Int)).toNat=j:=by
   rw[seqIndex_neg (by lia) h4] at h1;rw[List.size_toArray,<- hl];exact Option.some.inj h1
  exact subscriptTail_builtinR (x:=w) pl.isList.typeIs slot_list_getitem.lookup
   (wpAny_getItem_list_neg (Q:=fun r s'=>r=w/\EP X pins U Q r s') pl.isList (by lia) (by rw[List.size_toArray]<;>lia) (by lia) (by rw[hj]; simpa using ew) ⟨rfl,fin⟩) hs
theorem Vy:IxR X (Yc X.K):=by
 intro value slice pins s U H x y v u Q I rx ry h hs;obtain⟨p,xs,i,z,rfl,rfl,hq,he,q⟩:=h;cases rx;obtain⟨t,rfl⟩:=ry;obtain⟨its,r,pl,hz⟩:=I.tuple hq;obtain⟨j,h1,h2,h3,h4,h5⟩:=B9 he;obtain⟨w,ew,rw'⟩:=r.get h2;have hl:=r.length;have hn:=Il;have fin:EP X pins U Q w s:=⟨z,H,I,rw',q⟩;exact subscriptTail_builtinR (x:=w) pl.typeIs slot_tuple_getitem.lookup
  (getItem_tuple (j:=j) (Q:=fun r s'=>r=w/\EP X pins U Q r s') pl (by lia) (by lia) (by rw[List.size_toArray,<- hl]; exact h1) (by simpa using ew) ⟨rfl,fin⟩) hs
theorem Vx:IxR X Yb:=by
 intro value slice pins s U H x y v u Q I rx ry h hs;obtain⟨z,i,c,rfl,rfl,hz,he,q⟩:=h;obtain⟨t,rfl⟩:=rx;obtain⟨t',rfl⟩:=ry;obtain⟨j,h1,h2,h3,h4,h5⟩:=B9 he;have hl:z.cps.toList.length=z.length:=by simp[Str.length]
 rw[hl] at h1 h4 h5;have hn:=Il;exact tail_any (typeIs_str s z t) slot_str_getitem.lookup (getItem_str (c:=c) (by
  have e1:decide (i < -(2 ^ 63:Int))=false:=decide_eq_false (by lia);have e2:decide (i ≥ 2 ^ 63)=false:=decide_eq_false (by lia);rw[e1,e2,Bool.or_false]) (by rw[h1]; simpa using h2) ⟨.str ⟨#[c]⟩,H,I.tok _,⟨_,rfl⟩,q⟩) hs
noncomputable def rIx(K:Frag):R2:=fun x y H Q=>Ya K x y H Q\/Yc K x y H Q\/Yb x y H Q
theorem Ar:IxR X (rIx X.K):=SX.or (Vy.or Vx)
theorem NJ(its:List Value)(n j:Nat)(u:Value):Obj.mapSeq (·.setIfInBounds j u) { cls:=.type "list",data:=.seq its.toArray n }={ cls:=.type "list",data:=.seq (its.set j u).toArray n }:=by
 simp[Obj.mapSeq]
theorem Inv.lst{pins:List (Addr×Obj)}{U:St}{H:Hp}{s:Shared}{p:Addr}{xs:List V}(I:Inv X pins U H s)(h:H p=some (.lst xs)):
  ∃(its:List Value) (n:Nat),Vals xs its/\s.heap.get? p=some { cls:=.type "list",data:=.seq its.toArray n }/\xs.length<=sizeLine:=by
 obtain⟨z,its,n,r,e⟩:=I.hok p _ h;exact⟨its,n,r,e,z⟩
theorem Inv.lstUpd{pins:List (Addr×Obj)}{U:St}{H:Hp}{s:Shared}{p:Addr}{xs ys:List V}{its its':List Value}{n n':Nat}{f:Obj->Obj}(I:Inv X pins U H s)(h:H p=some (.lst xs))(ho:s.heap.get? p=some { cls:=.type "list",data:=.seq its.toArray n })(hf:f { cls:=.type "list",data:=.seq its.toArray n }={ cls:=.type "list",data:=.seq its'.toArray n' })(r:Vals ys its')(hz:ys.length<=sizeLine)(t:Nat):
  Inv X pins U (upd H p (.lst ys)) { s with heap:=s.heap.update p f,toks:=t }:=by
 have e:(s.heap.update p f).get? p=some { cls:=.type "list",data:=.seq its'.toArray n' }:=by
  rw[Heap.get?_update_self f ho (by rw[hf]<;>rfl),hf]
 refine I.write (x:=p) (e:=p) (by rw[h]; trivial) (.inl rfl) (fun b u hb q=>(Heap.get?_update_other _ _ (Ne.symm hb)).trans q) ⟨_,e⟩ ?_;exact⟨hz,its',n',r,e⟩
noncomputable def UX:V->V->V->Hp->(Hp->Prop)->Prop:=fun o i v H Q=>∃p xs k j,o=.ref p/\i=.int k/\H p=some (.lst xs)/\ixN xs.length k=some j/\Q (upd H p (.lst (xs.set j v)))
theorem set_list:Xz X UX:=by
 intro pins s U H o i v ov iv u Q I ro ri rv h;obtain⟨p,xs,k,j,rfl,rfl,hp,hj,q⟩:=h;cases ro;obtain⟨t,rfl⟩:=ri;obtain⟨its,n,r,ho,hz⟩:=I.lst hp;obtain⟨h1,h2,h3,h4⟩:=OA hj;have hl:=r.length;have hn:=Il;have I':Inv X pins U (upd H p (.lst (xs.set j v))) { s with heap:=s.heap.update p (Obj.mapSeq (·.setIfInBounds j u)) }:=
  I.lstUpd hp ho (NJ its n j u) (r.set rv j) (by rw[List.length_set]; exact hz) s.toks
 by_cases h0:0<=k
 .have hk:k.toNat=j:=by
   rw[seqIndex_of h0 h4] at h1;exact Option.some.inj h1
  exact PySem.W.ki_setAt ho h0 (by lia) (by rw[List.size_toArray,<- hl]; exact h4) (by rw[hk]; exact⟨_,I',q⟩)
 .have hk:(k+(its.toArray.size:Int)).toNat=j:=by
   rw[seqIndex_neg (by lia) h3] at h1;rw[List.size_toArray,<- hl];exact Option.some.inj h1
  exact PySem.W.ki_setBack ho (by lia) (by rw[List.size_toArray,<- hl]; exact h3) (by lia) (by rw[hk]; exact⟨_,I',q⟩)
noncomputable def GZ:V->Bool
 | .non=>true
 | .bl _=>true
 | .int _=>true
 | .str _=>true
 | _=>false
noncomputable def eqV:V->V->Bool
 | .non,.non=>true
 | .bl a,.bl b=>a==b
 | .bl a,.int b=>(if a then 1 else 0)==b
 | .int a,.bl b=>a==(if b then 1 else 0)
 | .int a,.int b=>a==b
 | .str a,.str b=>a==b
 | _,_=>false
theorem Vj{A:Around}{s:Shared}{y x:V}{u v:Value}(ry:RelV y u)(rx:RelV x v)(fy:GZ y=true)(fx:GZ x=true):SeqAt.EqAt A s u v (eqV y x):=by
 cases y with
 | non =>
  cases ry;cases x with
  | non=>cases rx; exact SeqAt.EqAt.same _
  | bl b=>cases rx; exact SeqAt.EqAt.none_bool b
  | int b=>obtain⟨t,rfl⟩:=rx; exact SeqAt.EqAt.none_int b t
  | str b=>obtain⟨t,rfl⟩:=rx; exact SeqAt.EqAt.none_str b t
  | _=>exact absurd (show false=true from fx) Bool.false_ne_true
 | bl a =>
  cases ry;cases x with
  | non=>cases rx; exact SeqAt.EqAt.bool_none a
  | bl b=>cases rx; exact SeqAt.EqAt.bool_bool a b
  | int b=>obtain⟨t,rfl⟩:=rx; exact SeqAt.EqAt.bool_int a b t
  | str b=>obtain⟨t,rfl⟩:=rx; exact SeqAt.EqAt.bool_str a b t
  | _=>exact absurd (show false=true from fx) Bool.false_ne_true
 | int a =>
  obtain⟨t',rfl⟩:=ry;cases x with
  | non=>cases rx; exact SeqAt.EqAt.int_none a t'
  | bl b=>cases rx; exact SeqAt.EqAt.int_bool a t' b
  | int b=>obtain⟨t,rfl⟩:=rx; exact SeqAt.EqAt.int_int a t' b t
  | str b=>obtain⟨t,rfl⟩:=rx; exact SeqAt.EqAt.int_str a t' b t
  | _=>exact absurd (show false=true from fx) Bool.false_ne_true
 | str a =>
  obtain⟨t',rfl⟩:=ry;cases x with
  | non=>cases rx; exact SeqAt.EqAt.str_none a t'
  | bl b=>cases rx; exact SeqAt.EqAt.str_bool a t' b
  | int b=>obtain⟨t,rfl⟩:=rx; exact SeqAt.EqAt.str_int a t' b t
  | str b=>obtain⟨t,rfl⟩:=rx; exact SeqAt.EqAt.str_str a t' b t
  | _=>exact absurd (show false=true from fx) Bool.false_ne_true
 | _=>exact absurd (show false=true from fy) Bool.false_ne_true
noncomputable def eqU(x:V)(u:Value):Bool:=match u with
 | .none=>eqV .non x
 | .bool b=>eqV (.bl b) x
 | .int i _=>eqV (.int i) x
 | .str z _=>eqV (.str z) x
 | _=>false
theorem Qu{x y:V}{u:Value}(r:RelV y u)(f:GZ y=true):eqU x u=eqV y x:=by
 cases y with
 | non=>cases r; rfl
 | bl b=>cases r; rfl
 | int i=>obtain⟨t,rfl⟩:=r; rfl
 | str z=>obtain⟨t,rfl⟩:=r; rfl
 | _=>exact absurd (show false=true from f) Bool.false_ne_true
theorem Oj{x:V}{xs:List V}{us:List Value}(h:Vals xs us):xs.all GZ=true->us.any (eqU x)=xs.any fun y=>eqV y x:=by
 induction h with
 | nil=>exact fun _=>rfl
 | cons r t ih =>
  intro f;rw[List.all_cons,Bool.and_eq_true] at f;rw[List.any_cons,List.any_cons,Qu r f.1,ih f.2]
theorem Jn{A:Around}{s:Shared}{x:V}{v:Value}(rx:RelV x v)(fx:GZ x=true):∀{xs:List V} {us:List Value},Vals xs us->xs.all GZ=true->∀u∈us,SeqAt.EqAt A s u v (eqU x u)
 | _,_,.nil,_=>fun u hu=>by cases hu
 | y::xs,u::us,.cons r t,f=>fun u' hu=>by
  rw[List.all_cons,Bool.and_eq_true] at f;rcases List.mem_cons.mp hu with rfl|hu
  .rw[Qu r f.1]; exact Vj r rx f.1 fx
  .exact Jn rx fx t f.2 u' hu
noncomputable def inV(x:V)(xs:List V):Bool:=xs.any fun y=>eqV y x
noncomputable def rIn(K:Frag)(neg:Bool):R2:=fun x y H Q=>∃p xs,y=.ref p/\(SqL K H p xs\/SqT K H p xs)/\GZ x=true/\xs.all GZ=true/\Q (.bl (if neg then !inV x xs else inV x xs)) H
theorem PD:OpR X (compareOp .In) (rIn X.K false):=by
 intro pins s U H x y v u Q I rx ry h;obtain⟨p,xs,rfl,hq,fx,fs,q⟩:=h;cases ry;rcases hq with hq|hq
 .obtain⟨its,r,pl,hz⟩:=I.list hq
  refine SeqAt.in_listAt (eqU x) pl.isList (fun w hw=>Jn rx fx r fs w (by simpa using hw)) ⟨.bl _,H,I,rfl,?_⟩;rw[show its.toArray.any (eqU x)=its.any (eqU x) by simp,Oj r fs];exact q
 .obtain⟨its,r,pl,hz⟩:=I.tuple hq
  refine SeqAt.in_tupleAt (eqU x) pl (fun w hw=>Jn rx fx r fs w (by simpa using hw)) ⟨.bl _,H,I,rfl,?_⟩;rw[show its.toArray.any (eqU x)=its.any (eqU x) by simp,Oj r fs];exact q
theorem K7:Cv X (.builtin "len") (fun xs H Q=>∃p ys,xs=[.ref p]/\(SqL X.K H p ys\/SqT X.K H p ys)/\Q (.int ys.length) H):=by
 intro pins s U H xs us Q I r h;obtain⟨p,ys,rfl,hq,q⟩:=h;obtain⟨u,rfl,rx⟩:=vals1 r;cases rx;have hn:=Il;rcases hq with hq|hq
 .obtain⟨its,r',pl,hz⟩:=I.list hq
  have hlen:=r'.length;exact Calls.call_len_list pl.isList (by simp only[List.size_toArray]<;>lia) ⟨.int ys.length,H,I.tok _,⟨s.toks+1,by rw[List.size_toArray,hlen]⟩,q⟩
 .obtain⟨its,r',pl,hz⟩:=I.tuple hq
  have hlen:=r'.length;exact len_tuple pl (by simp only[List.size_toArray]<;>lia) ⟨.int ys.length,H,I.tok _,⟨s.toks+1,by rw[List.size_toArray,hlen]⟩,q⟩
theorem K8:Cv X (.builtin "len") (fun xs H Q=>∃z,xs=[.str z]/\z.length<=sizeLine/\Q (.int z.length) H):=by
 intro pins s U H xs us Q I r h;obtain⟨z,rfl,hz,q⟩:=h;obtain⟨u,rfl,t,rfl⟩:=vals1 r;have hn:=Il;exact len_str (by lia) ⟨.int z.length,H,I.tok _,⟨_,rfl⟩,q⟩
theorem Cv.or{f:Value}{r r':List V->Hp->VK->Prop}(h:Cv X f r)(h':Cv X f r'):Cv X f (fun xs H Q=>r xs H Q\/r' xs H Q):=by
 intro pins s U H xs us Q I rs q;rcases q with q|q
 .exact h pins s U H xs us Q I rs q
 .exact h' pins s U H xs us Q I rs q
noncomputable def tyV(K:Frag)(T:String)(x:V)(H:Hp):Prop:=match x with
 | .str _=>T = "str"
 | .int _=>T = "int"
 | .ref p=>(T = "list" /\ ∃xs,SqL K H p xs)\/(T = "tuple" /\ ∃o,K.lookup p=some o/\o.cls=.type "tuple" /\ o.dict=none) \/
   (T = "dict" /\ ((∃kvs,H p=some (.dK kvs))\/∃kvs,H p=some (.dT kvs)))\/(T = "set" /\ ∃S n,H p=some (.set S n))
 | _=>False
theorem Se{pins:List (Addr×Obj)}{U:St}{H:Hp}{s:Shared}{T:String}{x:V}{v:Value}(I:Inv X pins U H s)(r:RelV x v)(ty:tyV X.K T x H):
  s.TypeIs v T/\∀a,v=.ref a->∃ob,s.heap.get? a=some ob/\ob.dict=none:=by
 cases x with
 | str z =>
  obtain⟨t,rfl⟩:=r;cases (show T = "str" from ty);exact⟨typeIs_str s z t,fun _ e=>nomatch e⟩
 | int i =>
  obtain⟨t,rfl⟩:=r;cases (show T = "int" from ty);exact⟨typeIs_int s i t,fun _ e=>nomatch e⟩
 | ref p =>
  cases r;rcases ty with ⟨rfl,xs,hq⟩|⟨rfl,o,hk,hc,hd⟩|⟨rfl,hk⟩|⟨rfl,S,n,hk⟩
  .obtain⟨its,_,pl,_⟩:=I.list hq
   refine⟨pl.isList.typeIs,fun a e=>?_⟩;cases e;obtain⟨o,n,e,c,hd,_⟩:=pl;exact⟨o,e,hd⟩
  .refine⟨⟨o,I.kIn p o hk,hc⟩,fun a e=>?_⟩
   cases e;exact⟨o,I.kIn _ o hk,hd⟩
  .have z:∃o,s.heap.get? p=some o/\o.ExactDict:=by
    rcases hk with ⟨kvs,hk⟩|⟨kvs,hk⟩
    .obtain⟨_,_,_,_,o,_,_,e,ex,_⟩:=I.hok p _ hk
     exact⟨o,e,ex⟩
    .obtain⟨_,_,_,_,o,_,_,e,ex,_⟩:=I.hok p _ hk
     exact⟨o,e,ex⟩
   obtain⟨o,e,ex⟩:=z;refine⟨⟨o,e,ex.1⟩,fun a e2=>?_⟩;cases e2;exact⟨o,e,ex.2.1⟩
  .obtain⟨o,_,_,_,e,ex,_⟩:=I.hok p _ hk
   refine⟨⟨o,e,ex.1⟩,fun a e2=>?_⟩;cases e2;exact⟨o,e,ex.2.1⟩
 | _=>exact False.elim ty
noncomputable def Yq(K:Frag)(T:String)(r:V->List V->Hp->VK->Prop)(to:TE):TE:=fun U H Q=>to U H fun x H1=>tyV K T x H1/\r x [] H1 Q
noncomputable def tBM(K:Frag)(T:String)(r:V->List V->Hp->VK->Prop)(to:TE)(t:TA):TE:=fun U H Q=>to U H fun x H1=>tyV K T x H1/\t U H1 fun xs H2=>r x xs H2 Q
variable{o e:Expr}{es:List Expr}{to:TE}{t:TA}{name:Str}{apos cpos:Pos}{T id:String}{r:V->List V->Hp->VK->Prop}
theorem Wf(pa:PlainAttrs T)(slot:Slot T name id)(hty:typeOf (.builtin id)=pure (.type "method_descriptor"))(hm:MtR X id r)(ho:PE X o to)(hbase:attributeBase o name X.env (eval o X.env)=eval o X.env:=by rfl)(hline:(apos.endLine==cpos.line)=true:=by rfl):PE X (.Call (.Attribute o name apos) [] [] cpos) (Yq X.K T r to):=by
 intro pins s U H Q I h;refine wpAny_Call_method0_late hbase hline (thn (ho pins s U H _ I h) fun v s1 yy=>?_);obtain⟨x,H1,I1,r1,ty,q1⟩:=yy;obtain⟨h1,h2⟩:=Se I1 r1 ty;exact⟨T,id,pa,slot,hty,h1,h2,Calls.callWith_builtin rfl (PySem.evalArgs_none (hm pins s1 U H1 x [] v [] Q I1 r1 .nil q1))⟩
theorem Rw(pa:PlainAttrs T)(slot:Slot T name id)(hty:typeOf (.builtin id)=pure (.type "method_descriptor"))(hm:MtR X id r)(ho:PE X o to)(ha:PA X (e::es) t)(hbase:attributeBase o name X.env (eval o X.env)=eval o X.env:=by rfl)(hfew:((backTo cpos (starEach (e::es) X.env)).all (fun x=>!x.1)&&(backToKw cpos (keywordEach [] X.env)).all (fun x=>x.1.isSome)
   && decide ((e::es).length+([]:List Keyword).length+(if ([]:List Keyword).isEmpty then 0 else 1)<30))=true:=by rfl)(hline:(apos.endLine==cpos.line)=true:=by rfl)(hs:starEach (e::es) X.env=(false,eval e X.env)::starEach es X.env:=by rfl)(hplain:(backTo cpos (starEach es X.env)).any (·.1)=false:=by rfl):
  PE X (.Call (.Attribute o name apos) (e::es) [] cpos) (tBM X.K T r to t):=by
 intro pins s U H Q I h;refine wpAny_Call_method_late hbase hfew hline rfl (thn (ho pins s U H _ I h) fun v s1 yy=>?_);obtain⟨x,H1,I1,r1,ty,q1⟩:=yy;obtain⟨h1,h2⟩:=Se I1 r1 ty;refine⟨T,id,pa,slot,hty,h1,h2,?_⟩;have hA:=ha cpos pins s1 U H1 _ I1 q1;rw[hs] at hA |-;refine Calls.callWith_builtin (by show(false || (backTo cpos (starEach es X.env)).any (·.1))=false; rw[hplain]<;>rfl) (Calls.evalArgs_plain ?_);exact thn hA fun us s2 ⟨vs,H2,I2,r2,q2⟩=>hm pins s2 U H2 x vs v us Q I2 r1 r2 q2
/- xs.append(e),list.index on a module's tuple .. are MtR facts of 06m -/
end
end L2
namespace L2
open PySem PySem.Spec PyProof.Rows
noncomputable def MtM(X:Cx)(id:String)(r:V->List V->Hp->VK->Prop):Prop:=
 ∀(pins:List (Addr×Obj)) (s:Shared) (U:St) (H:Hp) (x:V) (xs:List V) (v:Value) (us:List Value) (Q:VK),Inv X pins U H s->RelV x v->Vals xs us->r x xs H Q ->
  wpAny (model X.prog X.w) X.A (call (.builtin id) (v::us)) (EP X pins U Q) X.xe s
theorem Vals.one{x:V}{us:List Value}(h:Vals [x] us):∃u,us=[u]/\RelV x u:=by
 cases h with
 | cons r t=>cases t; exact⟨_,rfl,r⟩
theorem Vals.two{x y:V}{us:List Value}(h:Vals [x,y] us):∃u v,us=[u,v]/\RelV x u/\RelV y v:=by
 cases h with
 | cons r t =>
  obtain⟨v,rfl,q⟩:=Vals.one t;exact⟨_,_,rfl,r,q⟩
theorem Vals.zero:∀{us:List Value},Vals [] us->us=[]
 | _,.nil=>rfl
theorem Vals.rep{xs:List V}{us:List Value}(h:Vals xs us):∀k:Nat,Vals (List.replicate k xs).flatten (List.replicate k us).flatten
 | 0=>.nil
 | k+1=>by
  rw[List.replicate_succ,List.replicate_succ,List.flatten_cons,List.flatten_cons];exact Vals.append h (Vals.rep h k)
theorem foldl_rep(its:List Value):∀(k:Nat) (acc:List Value),
  List.foldl (fun x1 x2=>x1++x2) acc.toArray (List.replicate k its.toArray)=(acc++(List.replicate k its).flatten).toArray
 | 0,acc=>by simp
 | k+1,acc=>by
  have e:acc.toArray++its.toArray=(acc++its).toArray:=by simp
  have e2:(acc++its)++(List.replicate k its).flatten=acc++(List.replicate (k+1) its).flatten:=by
   rw[List.replicate_succ,List.flatten_cons,List.append_assoc]
  rw[<- e2,<- foldl_rep its k (acc++its),<- e,List.replicate_succ,List.foldl_cons]
section
variable{X:Cx}{pins:List (Addr×Obj)}{U:St}{H:Hp}{s:Shared}{l b:Addr}{xs ys zs:List V}
theorem Inv.lset{its its':List Value}{n:Nat}{f:Array Value->Array Value}{t':Nat}(I:Inv X pins U H s)(hH:H l=some (.lst xs))(e:s.heap.get? l=some { cls:=.type "list",data:=.seq its.toArray n })(hf:f its.toArray=its'.toArray)(hv:Vals ys its')(hz:ys.length<=sizeLine):
  Inv X pins U (upd H l (.lst ys)) { s with heap:=s.heap.update l (Obj.mapSeq f),toks:=t' }:=by
 have q:=PySem.IsL.update e f;rw[hf] at q;refine I.write (x:=l) (e:=l) (by rw[hH]; exact trivial) (.inl rfl) (fun b' u hb hu=>(Heap.get?_update_other s.heap (Obj.mapSeq f) (Ne.symm hb)).trans hu) ⟨_,q⟩ ?_;exact⟨hz,its',_,hv,q⟩
theorem Inv.lnew{its:List Value}{t':Nat}(I:Inv X pins U H s)(hv:Vals ys its)(hz:ys.length<=sizeLine):
  Inv X pins U (upd H s.heap.objs.size (.lst ys)) { s with heap:=s.heap.push { cls:=.type "list",data:=.seq its.toArray },toks:=t' }:=
 I.laid (fun _ _ q=>Heap.get?_push_of_some _ q) (Nat.le_refl _) ⟨hz,its,0,hv,Heap.get?_push_size _ rfl⟩
theorem Inv.fresh(I:Inv X pins U H s):H s.heap.objs.size=none:=I.hok.fresh (Nat.le_refl _)
theorem Inv.lstM(I:Inv X pins U H s)(hH:H l=some (.lst xs)):xs.length<=sizeLine/\∃(its:List Value) (n:Nat),Vals xs its/\xs.length=its.length/\s.heap.get? l=some { cls:=.type "list",data:=.seq its.toArray n }:=by
 obtain⟨z,its,n,r,e⟩:=I.hok l _ hH;exact⟨z,its,n,r,r.length,e⟩
theorem Rp{n:Nat}(h:n<=sizeLine):Builtin.List.listTooLong n=false:=by
 unfold Builtin.List.listTooLong;exact decide_eq_false (by lia)
end
section
variable{X:Cx}
noncomputable def OS:V->List V->Hp->VK->Prop:=fun x vs H Q=>∃l xs y,x=.ref l/\vs=[y]/\H l=some (.lst xs)/\xs.length<sizeLine/\Q .non (upd H l (.lst (xs++[y])))
theorem KN:MtM X "list.append" OS:=by
 intro pins s U H x vs v us Q I rx rv h;obtain⟨l,xs,y,rfl,rfl,hH,hz,q⟩:=h;cases rx;obtain⟨u,rfl,ru⟩:=rv.one;obtain⟨z,its,n,r,hl,e⟩:=I.lstM hH;refine call_meets F.slot_list_append ⟨_,e,rfl⟩ F.entry_list_append (F.args_list_append_2 _ _) (PySem.list_append l its.toArray n u (by rw[List.size_toArray]; lia)) ⟨e,?_⟩;refine⟨.non,_,I.lset (its':=its++[u]) hH e (by simp) (r.append (.cons ru .nil)) ?_,rfl,q⟩;rw[List.length_append,List.length_singleton];lia
noncomputable def RH:V->List V->Hp->VK->Prop:=fun x vs H Q=>∃l xs,x=.ref l/\vs=[]/\H l=some (.lst xs)/\Q .non (upd H l (.lst []))
theorem Ra:MtM X "list.clear" RH:=by
 intro pins s U H x vs v us Q I rx rv h;obtain⟨l,xs,rfl,rfl,hH,q⟩:=h;cases rx;have hus:=rv.zero;subst hus;obtain⟨z,its,n,r,hl,e⟩:=I.lstM hH;refine call_meets F.slot_list_clear ⟨_,e,rfl⟩ F.entry_list_clear (F.args_list_clear_1 _) (AutoSeq1.list_clear_list_0 l its.toArray n (by rw[List.size_toArray]; lia)) ⟨e,?_⟩;exact⟨.non,_,I.lset (its':=[]) (ys:=[]) hH e rfl .nil (Nat.zero_le _),rfl,q⟩
noncomputable def WL:R2:=fun x y H Q=>∃l b xs zs,x=.ref l/\y=.ref b/\H l=some (.lst xs)/\H b=some (.lst zs)/\xs.length+zs.length<=sizeLine/\∀p,H p=none->Q (.ref p) (upd H p (.lst (xs++zs)))
theorem V8:OpR X (binaryOp .Add) WL:=by
 intro pins s U H x y v u Q I rx ry h;obtain⟨l,b,xs,zs,rfl,rfl,hH,hB,hz,q⟩:=h;cases rx;cases ry;obtain⟨z,its,n,r,hl,e⟩:=I.lstM hH;obtain⟨z2,its2,n2,r2,hl2,e2⟩:=I.lstM hB;refine PySem.P.add_list e e2 ?_ (by rw[List.size_toArray,List.size_toArray]; lia);have ea:its.toArray++its2.toArray=(its++its2).toArray:=by simp
 rw[ea];exact⟨.ref _,_,I.lnew (t':=s.toks) (r.append r2) (by rw[List.length_append]; lia),rfl,q _ I.fresh⟩
noncomputable def Yf:R2:=fun x y H Q=>∃l k xs,x=.ref l/\y=.int k/\H l=some (.lst xs)/\-(2 ^ 63)<=k/\k<2 ^ 63/\xs.length*k.toNat<=sizeLine /\
 ∀p,H p=none->Q (.ref p) (upd H p (.lst (List.replicate k.toNat xs).flatten))
theorem len_rep{α:Type}(xs:List α)(k:Nat):(List.replicate k xs).flatten.length=k*xs.length:=by
 induction k with
 | zero=>simp
 | succ k ih=>rw[List.replicate_succ,List.flatten_cons,List.length_append,ih,Nat.succ_mul,Nat.add_comm]
theorem JB:OpR X (binaryOp .Mult) Yf:=by
 intro pins s U H x y v u Q I rx ry h;obtain⟨l,k,xs,rfl,rfl,hH,h1,h2,hz,q⟩:=h;cases rx;obtain⟨t,rfl⟩:=ry;obtain⟨z,its,n,r,hl,e⟩:=I.lstM hH;have hlen:its.toArray.size*k.toNat<=sizeLine:=by rw[List.size_toArray,<- hl]; exact hz
 have hcap:¬its.toArray.size*k.toNat > (2 ^ 63-1) / 8:=by
  have:(sizeLine:Nat)<=(2 ^ 63-1) / 8:=by decide
  lia
 have hfit:¬(!Builtin.List.listFitsIndex k)=true:=by
  rw[fitsIndex_both h1 h2];exact Bool.false_ne_true
 have hlong:¬Builtin.List.listTooLong (its.toArray.size*k.toNat)=true:=by
  rw[Rp hlen];exact Bool.false_ne_true
 have hnew:List.foldl (fun x1 x2=>x1++x2) #[] (List.replicate (if its.toArray.isEmpty=true then 0 else k.toNat) its.toArray)=(List.replicate k.toNat its).flatten.toArray:=by
  have f0:∀m:Nat,List.foldl (fun x1 x2=>x1++x2) #[] (List.replicate m its.toArray)=(List.replicate m its).flatten.toArray:=fun m=>by
   have:=foldl_rep its m [];rw[List.nil_append] at this;exact this
  rw[f0];cases its with
  | nil=>simp
  | cons a r'=>rw[if_neg (by simp)]
 refine wpAny_binaryOp_repeat_ref (T := "list") (U := "int") (by decide) ⟨_,e,rfl⟩ (fun s'=>typeIs_int s' k t) noFill_list_mul F.fills_int_mul F.slot_int_rmul repeat_list F.slot_int_index.lookup
  (call_meets F.slot_int_rmul (typeIs_int s k t) F.entry_int_rmul (F.args_int_rmul_2 _ _) (int___rmul___int_list k t l its.toArray n)
   ⟨e,rfl,⟨_,e,rfl⟩,call_meets F.slot_list_mul ⟨_,e,rfl⟩ F.entry_list_mul (F.args_list_mul_2 _ _) (AutoListH.list___mul___list_int_3 l its.toArray n k t hfit hcap hlong) ⟨e,?_⟩⟩)
 rw[hnew];exact⟨.ref _,_,I.lnew (t':=s.toks) (r.rep k.toNat) (by rw[len_rep,Nat.mul_comm]; exact hz),rfl,q _ I.fresh⟩
end
section
variable{prog:Program}{w:World}{A:Around}{E:Value->Shared->Prop}{s:Shared}
set_option maxRecDepth 100000 in
end
section
variable{X:Cx}
end
end L2
namespace Att
open PySem PySem.W PySem.Calls PyProof.Rows
theorem IJ{P:Params}{h:Heap}:∀(ns:List Int) (vs:List Value),WellAll P h vs (ns.map WData.int)->IntsAre vs ns:=by
 intro ns;induction ns with
 | nil =>
  intro vs w;rw[List.map_nil] at w;cases w;exact .nil
 | cons n ns ih =>
  intro vs w;rw[List.map_cons] at w;cases w with
  | cons a b =>
   cases a;exact .cons _ _ (ih _ b)
theorem P4{l:OpenLaw}{n:Nat}(hn:l.most=some n){P:Params}{h:Heap}{args:List WData}{vals:List Value}(hpre:l.row.toRowW.claim.pre args=true)(hwl:WellAll P h vals args):
  ∃a vs ns,vals=[Value.ref a]/\args=[WData.list (ns.map WData.int)]/\h.get? a=some { cls:=.type "list",data:=.seq vs.toArray }/\IntsAre vs ns/\ns.length<=n:=by
 have hsh:WShape.hasAll [] args [.list .int]=true:=(pre_splitW hpre).1;have hc:l.pre.holds [] { args:=args }=true:=(pre_splitW hpre).2;obtain⟨d,r,rfl,h1,h2⟩:=hasAllW_cons hsh;obtain rfl:=hasAllW_nil h2;obtain⟨xs,rfl,h3⟩:=hasW_list h1;obtain⟨ns,rfl⟩:=items_int h3;have hlen:ns.length<=n:=by
  unfold OpenLaw.pre at hc;have h4:(WTm.not (.lt (.lit (.int (n:Int))) (.len (.arg 0)))).holds [] { args:=[.list (ns.map .int)] }=true:=by
   have h4:=(holds_andW hc).1;rw[hn] at h4;exact h4
  have h5:=condW_of h4 (w_not (w_lt w_lit (w_len_list (w_arg rfl))));rw[List.length_map] at h5;refine Nat.le_of_not_lt fun q=>?_;have q':(n:Int)<((ns.length:Nat):Int):=by lia
  first
   | (rw[decide_eq_true q'] at h5; exact absurd h5 (by decide))
   | (simp at h5; lia)
 cases hwl with
 | cons w1 w2 =>
  cases w2;cases w1 with
  | list ho hall=>exact⟨_,_,ns,rfl,rfl,ho,IJ ns _ hall,hlen⟩
theorem PQ(l:OpenLaw)(args:List WData):l.row.toRowW.claim.post args (.bool true) args=true:=
 postW_of (r:=l.row.toRowW) (X:=(true==true))
  (show WShape.has [] (.bool true) .bool=true by first|rfl|decide|simp[WShape.has,WShape.arms,WShape.armsAll])
  (show(WTm.eq .res (.lit (.bool true))).value [] { args:=args,res:=some (.bool true),after:=args }=some (.bool (true==true)) from w_eq_bool (w_res rfl) w_lit) rfl
theorem L6{l:OpenLaw}{n:Nat}{q:Program}{loose:List Str}{XP:(Str->Option Value)->Heap->Prop}{YP:World->Heap->Prop}{d:DefRec}(hn:l.most=some n)(hdf:d.params.defaults=[])(call:∀(w:World) (s₀ s₁:Shared) (mg mb:Str->Option Value) (fa:Addr) (o:Obj) (pm cd doc:Value) (a:Addr) (vs:List Value) (ns:List Int),
   Ground q loose [] XP w s₀ mg mb s₁.heap->YP w s₁.heap ->
   s₁.heap.get? fa=some o->o.data=.func (docDef d.name d.params d.body d.scope pm cd doc)->s₁.heap.CodeRec cd d.name->mg d.name=some (.ref fa) ->
   s₁.heap.get? a=some { cls:=.type "list",data:=.seq vs.toArray }->IntsAre vs ns->ns.length<=n->s₁.gens = #[] ->
   codeAny (model l.prog w) callerA (.call (.ref fa) ⟨[.ref a],[]⟩) (fun r s'=>r=.ok (.ret (.bool true))/\OldK s₁.heap s'.heap/\s'.os=s₁.os/\AllBare s'.gens) s₁):
  WalkO q loose XP YP l.row.toRowW d [] (fun f vs=>PySem.call f vs):=by
 intro w s₀ s₁ mg mb G Y fa o pm cd doc dV kV ho hd hcd hD hmg hg args vals as hpre hlay hrd hwl hlo;obtain rfl:dV=.none:=Dflts.none hD hdf;obtain rfl:kV=.none:=Dflts.noKw hD;obtain⟨a,vs,ns,rfl,rfl,hobj,hints,hlen⟩:=P4 hn hpre hwl;refine enter_call (codeAny_mono (call w s₀ s₁ mg mb fa o pm cd doc a vs ns G Y ho (fd_plain hd) hcd hmg hobj hints hlen hg) fun r s' hq=>?_);obtain⟨rfl,h2,h3,h4⟩:=hq;exact⟨.inl ⟨.bool true,.bool true,[],rfl,fun _=>rfl,.bool true,PQ l _,fun _=>⟨List.Pairwise.nil,fun _ hm=>(nomatch hm)⟩⟩,h2,h3,h4⟩
section
variable{prog:Program}{w:World}{A:Around}{E:Value->Shared->Prop}{s:Shared}{K:Frag}
end
end Att
namespace L2
open PySem PySem.Spec PyProof.Rows
theorem Qf{vs:List Value}{ns:List Int}(h:IntsAre vs ns):Vals (ns.map V.int) vs:=by
 induction h with
 | nil=>exact .nil
 | cons n t h ih=>exact .cons ⟨t,rfl⟩ ih
noncomputable def Sr(H:Hp):Prop:=∀b,H b=none\/(∃o xs,H b=some (.frz o (.lst xs)))\/∃ps,H b=some (.tbl ps)
noncomputable def IP(K:Frag)(b:Addr):Prop:=∃c,PySem.W.tabIn K Bh=some (c,b)
noncomputable def Up(K:Frag)(H:Hp):Hp:=fun b=>by classical exact if IP K b then some (.tbl #[.str IT 0]) else H b
theorem Uq{K:Frag}{H:Hp}{b:Addr}(h:IP K b):Up K H b=some (.tbl #[.str IT 0]):=if_pos h
theorem Nb{K:Frag}{H:Hp}{b:Addr}(h:¬IP K b):Up K H b=H b:=if_neg h
theorem Q3{P:Program}{w:World}{K:Frag}{mg mb:Str->Option Value}{CX:CXT}{k:Nat}{fa a:Addr}{fd:FuncData}{x:Str}{sp:Sp}{s₁:Shared}{vs:List Value}{ns:List Int}(KX:K.In s₁.heap)(hns:s₁.heap.Ns mainGlobals mg)(hb:s₁.heap.Ns builtinsNs mb)(hbb:∀x:Str,x ≠ "__name__" -> mb x=bootBuiltins x)(hlim:s₁.heap.NoLimit)(hg:s₁.gens = #[])(ha:s₁.heap.get? a=some { cls:=.type "list",data:=.seq vs.toArray })(hi:IntsAre vs ns)(hl:ns.length<=sizeLine)(hr:Room k callerA)(F:∀base:Heap,K.In base->base.Ns mainGlobals mg->FnOk P w K mg base CX k fa fd [x] sp)(hbind:∀(s:Shared) (u:Value),BindsTo s fd ⟨[u],[]⟩ [(x,u)])(hsp:∀H:Hp,Sr H->SqL K H a (ns.map V.int)->sp [.ref a] H (fun v _=>v=.bl true) fun _ _ _=>False)(hCX:∀H e s',CX [] H s₁ (fun _ _ _=>False) e s'->False)(hT:∀c b,PySem.W.tabIn K Bh=some (c,b)->PySem.W.CodeHd s₁.heap c b/\s₁.heap.get? b=some { cls:=.none,data:=.fields #[] }/\K.lookup b=none)(hbm:∃bm ob,mg "__builtins__" = some (.ref bm)/\bm≠builtinsNs/\s₁.heap.get? bm=some ob/\ob.cls=.type "module" /\ ob.dict=some builtinsNs/\ob.data=.plain):
  codeAny (model P w) callerA (.call (.ref fa) ⟨[.ref a],[]⟩) (fun r s'=>r=.ok (.ret (.bool true))/\OldK s₁.heap s'.heap/\s'.os=s₁.os/\AllBare s'.gens) s₁:=by
 have rv:=Qf hi;have lenV:=hi.length;have naT:¬IP K a:=fun⟨c,e⟩=>by
  obtain⟨_,e2,_⟩:=hT c a e;rw[ha] at e2; cases e2
 have core:∀H₁:Hp,(∀b,H₁ b=none\/∃o xs,H₁ b=some (.frz o (.lst xs)))->SqL K (Up K H₁) a (ns.map V.int)->HOk P w H₁ s₁.heap->(∀b,H₁ b≠none->b=a)->(H₁ a≠none->K.lookup a=none) ->
   codeAny (model P w) callerA (.call (.ref fa) ⟨[.ref a],[]⟩) (fun r s'=>r=.ok (.ret (.bool true))/\OldK s₁.heap s'.heap/\s'.os=s₁.os/\AllBare s'.gens) s₁:=by
  intro H₁ hO₁ hS hok₁ hA₁ hK₁;generalize hH:Up K H₁=H at hS;have hin:∀{b},IP K b->H b=some (.tbl #[.str IT 0]):=fun h=>by rw[<- hH]; exact Uq h
  have hout:∀{b},¬IP K b->H b=H₁ b:=fun h=>by rw[<- hH]; exact Nb h
  have hO:Sr H:=fun b=>by
   by_cases q:IP K b
   .exact .inr (.inr ⟨_,hin q⟩)
   .rw[hout q]
    exact(hO₁ b).imp id .inl
  have hok:HOk P w H s₁.heap:=fun b u e=>by
   by_cases q:IP K b
   .rw[hin q] at e; cases e
    obtain⟨c,ec⟩:=q;exact⟨#[],(hT c b ec).2.1,trivial,fun pos c h=>by cases h⟩
   .rw[hout q] at e
    rcases hO₁ b with z|⟨o,xs,z⟩
    .rw[z] at e; cases e
    .rw[z] at e; cases e
     obtain⟨e1,e2⟩:=hok₁ b _ z;exact⟨e1,e2⟩
  have hA:∀b,H b≠none->b=a\/IP K b:=fun b z=>by
   by_cases q:IP K b
   .exact .inr q
   .rw[hout q] at z; exact .inl (hA₁ b z)
  have base_of:∀{b:Addr} {o:Obj},s₁.heap.get? b=some o->H b=none->(Ka s₁.heap H).get? b=some o:=fun e n=>QG e n;have noA:∀{b:Addr} {o:Obj} {es:Array DictEntry} {ep:Nat},s₁.heap.get? b=some o->o.data=.dict es ep->H b=none:=fun {b o es ep} e d=>by
   cases q:H b with
   | none=>rfl
   | some u =>
    rcases hA b (by rw[q]; simp) with e'|⟨c,ec⟩
    .subst e'
     rw[ha] at e; cases e;have d':Data.seq vs.toArray _=Data.dict es ep:=d;cases d'
    .rw[(hT c b ec).2.1] at e; cases e
     have d':Data.fields _=Data.dict es ep:=d;cases d'
  have nsK:∀{b:Addr} {m:Str->Option Value},s₁.heap.Ns b m->(Ka s₁.heap H).Ns b m:=fun {b m} ⟨o,es,ep,e,d,r⟩=>⟨o,es,ep,base_of e (noA e d),d,r⟩;have hKb:K.In (Ka s₁.heap H):=fun b o e=>base_of (KX b o e) (by
   cases q:H b with
   | none=>rfl
   | some u =>
    rcases hA b (by rw[q]; simp) with e'|⟨c,ec⟩
    .subst e'
     rw[hout naT] at q;rw[hK₁ (by rw[q]; simp)] at e; cases e
    .rw[(hT c b ec).2.2] at e; cases e)
  have bmK:∃bm ob,mg "__builtins__" = some (.ref bm)/\bm≠builtinsNs/\(Ka s₁.heap H).get? bm=some ob/\ob.cls=.type "module" /\ ob.dict=some builtinsNs/\ob.data=.plain:=by
   obtain⟨bm,ob,m1,m2,m3,m4,m5,m6⟩:=hbm;refine⟨bm,ob,m1,m2,base_of m3 ?_,m4,m5,m6⟩;cases q:H bm with
   | none=>rfl
   | some u =>
    rcases hA bm (by rw[q]; simp) with e'|⟨c,ec⟩
    .subst e'
     rw[ha] at m3; cases m3;cases m6
    .rw[(hT c bm ec).2.1] at m3; cases m3
     cases m6
  have hM:Mod K mg (Ka s₁.heap H):=⟨hKb,nsK hns,⟨mb,nsK hb,hbb⟩,let⟨mc,h1,h2⟩:=hlim; ⟨mc,nsK h1,h2⟩,bmK⟩;have e0:Env0 P w K mg (Ka s₁.heap H) callerA [] s₁ H:=⟨rfl,hM,fun b o e=>Tb e,Nat.le_of_eq (Pg _ _),trivial,fun b hb=>absurd (show b∈([]:List Addr) from hb) (by simp),hok,.of_eq hg,fun c b e=>⟨_,hin ⟨c,e⟩,rfl⟩⟩;refine codeAny_mono ((F _ hKb (nsK hns)).run callerA [] s₁ H ⟨[.ref a],[]⟩ [.ref a] [.ref a] _ _ hr e0 (hbind s₁ (.ref a)) (.cons rfl .nil) (hsp H hO hS)) fun r s' h=>?_;cases r with
  | error e=>exact(hCX H e s' h).elim
  | ok fl =>
   cases fl with
   | next=>exact False.elim h
   | brk=>exact False.elim h
   | cont=>exact False.elim h
   | ret u =>
    obtain⟨v,H',os,bare,un,hok',r',q⟩:=h;have q':v=.bl true:=q;subst q';obtain rfl:u=Value.bool true:=r';have fin:∀b o,s₁.heap.get? b=some o->s'.heap.get? b=some o\/∃qs,IP K b/\s'.heap.get? b=some { cls:=.none,data:=.fields qs }:=fun b o e=>by
     cases q:H b with
     | none=>exact .inl (un.keep b o e q (by intro z; exact absurd (show b∈([]:List Addr) from z) (by simp)) (by simp))
     | some u =>
      by_cases tq:IP K b
      .rw[hin tq] at q; cases q
       obtain⟨more,z2⟩:=un.tbls b _ (hin tq);obtain⟨qs,e2,_⟩:=hok' b _ z2;exact .inr ⟨qs,tq,e2⟩
      .rcases hO₁ b with z|⟨ob,xs,z⟩
       .rw[hout tq,z] at q; cases q
       .have z2:=un.frzs b ob _ (by rw[hout tq]; exact z)
        obtain⟨e1,_⟩:=hok₁ b _ z;obtain⟨e2,_⟩:=hok' b _ z2;rw[e] at e1; cases e1;exact .inl e2
    refine⟨rfl,⟨fun b o e=>?_,fun b o e=>?_⟩,os,bare⟩
    .rcases fin b o e with z|⟨qs,⟨c,ec⟩,z⟩
     .exact .inl z
     .obtain⟨h1,h2,_⟩:=hT c b ec
      rw[e] at h2; cases h2;refine .inr (.inl ⟨(h1.tab e).isCodeTable,rfl,#[],qs,rfl,?_⟩);rw[z]; simp
    .rcases fin b o e with z|⟨qs,_,z⟩
     .exact⟨_,z⟩
     .exact⟨_,z⟩
 cases hk:K.lookup a with
 | some o =>
  -- the script is one of the module's own objects
  have e:=KX a o hk;rw[ha] at e;cases e;refine core (fun _=>none) (fun _=>.inl rfl) (.inr ⟨_,vs.toArray,_,hk,rfl,rfl,rfl,by rw[List.size_toArray,lenV]; exact hl,by simpa using rv⟩) (fun b u z=>by have z':(none:Option HO)=some u:=z; cases z') (fun b z=>absurd rfl z) fun z=>absurd rfl z
 | none =>
  refine core (fun b=>if b=a then some (.frz { cls:=.type "list",data:=.seq vs.toArray } (.lst (ns.map V.int))) else none) (fun b=>?_) (.inl (.inr ⟨{ cls:=.type "list",data:=.seq vs.toArray },by rw[Nb naT]; exact if_pos rfl⟩)) (fun b u z=>?_) (fun b z=>?_) fun _=>hk
  .by_cases hb:b=a
   .exact .inr ⟨_,_,if_pos hb⟩
   .exact .inl (if_neg hb)
  .by_cases hb:b=a
   .have z':=(if_pos hb).symm.trans z
    cases z';subst hb;exact⟨ha,by rw[List.length_map]; exact hl,vs,_,rv,ha⟩
   .have z':=(if_neg hb).symm.trans z
    cases z'
  .by_cases hb:b=a
   .exact hb
   .exact absurd (if_neg hb) z
end L2
namespace L2
open PySem PySem.Spec PyProof.Rows
noncomputable abbrev KOf{K:Frag}{h:Heap}(_:K.In h):Frag:=K
theorem Uw{l:PySem.W.OpenLaw}{n k:Nat}{q:Program}{loose:List Str}{XP:(Str->Option Value)->Heap->Prop}{YP:World->Heap->Prop}{d:DefRec}{K:Params->Frag}{CX:World->CXT}{sp:World->Sp}{x:Str}(hn:l.most=some n)(hn2:n<=sizeLine)(hdf:d.params.defaults=[])(hr:Room k callerA)(hY:∀(w:World) (h:Heap),YP w h->(K w.params).In h)(F:∀(w:World) (mg:Str->Option Value) (fa:Addr) (h:Heap),(K w.params).In h->h.Ns mainGlobals mg->mg d.name=some (.ref fa) ->
   ∃fd:FuncData,(∀(s:Shared) (u:Value),BindsTo s fd ⟨[u],[]⟩ [(x,u)]) /\
    ∀base:Heap,(K w.params).In base->base.Ns mainGlobals mg->FnOk l.prog w (K w.params) mg base (CX w) k fa fd [x] (sp w))(hsp:∀(w:World) (H:Hp) (a:Addr) (ns:List Int),ns.length<=n->Sr H->SqL (K w.params) H a (ns.map V.int)->sp w [.ref a] H (fun v _=>v=.bl true) fun _ _ _=>False)(hCX:∀(w:World) (H:Hp) (s:Shared) (e:Value) (s':Shared),CX w [] H s (fun _ _ _=>False) e s'->False)(hT:∀(w:World) (c b:Addr),PySem.W.tabIn (K w.params) Bh=some (c,b)->(∃d',(recsOf q).find? (fun e=>e.name==Bh)=some d')/\(K w.params).lookup b=none):
  PySem.W.WalkO q loose XP YP l.row.toRowW d [] (fun f vs=>PySem.call f vs):=by
 refine Att.L6 hn hdf fun w s₀ s₁ mg mb fa o pm cd doc a vs ns G Y ho hd hcd hmg hobj hints hlen hg=>?_;have KX:=hY w _ Y;obtain⟨fd,hb,hF⟩:=F w mg fa _ KX G.T.g hmg;exact Q3 KX G.T.g G.T.b G.T.builtins G.T.nolimit hg hobj hints (Nat.le_trans hlen hn2) hr hF hb (fun H hO hS=>hsp w H a ns hlen hO hS) (fun H e s'=>hCX w H s₁ e s') (fun c b e=>by
  obtain⟨⟨d',hd'⟩,hk⟩:=hT w c b e;obtain⟨z1,z2⟩:=PySem.W.tab_of G.T KX hd' e;exact⟨z1,z2,hk⟩) G.T.bmain
end L2

namespace L2
open PySem PySem.Spec PyProof.Rows
noncomputable def EZ(s:Stmt):Arguments:=match s with
 | .FunctionDef _ a _ _ _ _ _ _ _ _=>a
 | _=>{ posonlyargs:=[],args:=[],vararg:=none,kwonlyargs:=[],kw_defaults:=[],kwarg:=none,defaults:=[] }
noncomputable def CT(s:Stmt):List Stmt:=match s with
 | .FunctionDef _ _ b _ _ _ _ _ _ _=>b
 | _=>[]
noncomputable def Bf(s:Stmt):Scope:=match s with
 | .FunctionDef _ _ _ _ _ _ sc _ _ _=>sc
 | _=>{ kind:=.function,names:=[],isGenerator:=false,isCoroutine:=false }
noncomputable abbrev CX0:CXT:=fun _ _ _ _ _ _=>False
noncomputable abbrev E0:XK:=fun _ _ _=>False
theorem Av{X:Cx}:Passes CX0 X E0:=fun _ _ _ _ _ _ _ h=>h.elim
structure Fun (K:Frag) (x qual:Str) (st:Stmt) (f:Addr) (fd:FuncData):Prop where
 ex:∃(oc:Value) (od:Option Addr) (kV doc pm:Value) (an:Option Addr) (cdv ct:Value) (osl:Array (Option Value)),
  fd=PySem.W.fnOf x qual (EZ st) (CT st) (Bf st) .none kV doc pm an cdv ct/\K.lookup f=some ⟨oc,od,.func fd,osl⟩/\PySem.W.codeIn K cdv qual=true
 kp:PySem.W.keepIn K (.ref f)=true
section
variable{P:Program}{w:World}{K:Frag}{mg:Str->Option Value}{base:Heap}
theorem Fun.ok{x qual:Str}{st:Stmt}{f:Addr}{fd:FuncData}{N ps:List Str}{k:Nat}{sp:Sp}(F:Fun K x qual st f fd)(S:FnScope N ps (Bf st))(len:∀vs H Q E,sp vs H Q E->vs.length=ps.length)(hbody:∀(cdv:Value) (A:Around) (outer:List Env) (s:Shared) (H:Hp) (vs:List V) (Q:VK) (E:XK),Room k (A.deeper (envOfC qual (Bf st) s.heap.objs.size f cdv))->sp vs H Q E ->
   ∃t,PSs (Me CX0 P w K mg base N qual (Bf st) f cdv A outer s H E).nox (CT st) t/\t { nx:=fun _ H'=>Q .non H',rt:=Q } (start N vs) H):FnOk P w K mg base CX0 (k+1) f fd ps sp:=by
 obtain⟨oc,od,kV,doc,pm,an,cdv,ct,osl,rfl,lk,hcd⟩:=F.ex;refine UC lk hcd S len fun A outer s H vs Q E hr hsp=>?_;obtain⟨t,h,q⟩:=hbody cdv A outer s H vs Q E hr hsp;exact⟨t,h.nox,q⟩
theorem Fun.binds{x qual:Str}{st:Stmt}{f:Addr}{fd:FuncData}{ps:List Str}(F:Fun K x qual st f fd)(h:∀(kV doc pm:Value) (an:Option Addr) (cdv ct:Value) (us:List Value),us.length=ps.length->bindArgs (PySem.W.fnOf x qual (EZ st) (CT st) (Bf st) .none kV doc pm an cdv ct) ⟨us,[]⟩=pure (ps.zip us)):Binds K fd ps []:=by
 obtain⟨oc,od,kV,doc,pm,an,cdv,ct,osl,rfl,lk,hcd⟩:=F.ex;exact .all (h kV doc pm an cdv ct)
theorem Vn{x qual:Str}{st:Stmt}{f:Addr}{oc:Value}{od an:Option Addr}{osl:Array (Option Value)}{kV doc pm cdv ct:Value}(l:K.lookup f=some ⟨oc,od,.func (PySem.W.fnOf x qual (EZ st) (CT st) (Bf st) .none kV doc pm an cdv ct),osl⟩)(c:PySem.W.codeIn K cdv qual=true)(k:PySem.W.keepIn K (.ref f)=true):Fun K x qual st f (PySem.W.fnOf x qual (EZ st) (CT st) (Bf st) .none kV doc pm an cdv ct):=⟨⟨oc,od,kV,doc,pm,an,cdv,ct,osl,rfl,l,c⟩,k⟩
end
theorem Ox{A:Around}{k:Nat}(hr:Room k A):A.units+10<cLine:=Nat.lt_of_le_of_lt (Nat.add_le_add_left (by decide:10<=64) _) hr.units
section
variable{X:Cx}
end
noncomputable def Gf(H H':Hp):Prop:=∀b o,H b=some o->H' b=some o
end L2
end
section
namespace L2
open PySem PySem.Spec PyProof.Rows
section
variable{M:Model}{A:Around}{E:Value->Shared->Prop}{s:Shared}
end
noncomputable def clo(cells:List (Str×Addr)):List (Str×NameKind)->List (Str×Addr)->List (Str×Addr)
 | [],cs=>cs
 | (n,k)::r,cs=>clo cells r (if (k==.free)=true then (n,(cells.lookup n).getD 0)::cs else cs)
theorem Mc{env:Env}:∀(names:List (Str×NameKind)) (cs:List (Str×Addr)),(∀x∈names,(x.2==.free)=true->(env.cells.lookup x.1).isSome=true) ->
  (forIn names cs fun(x:Str×NameKind) (r:List (Str×Addr))=>(if (x.2==NameKind.free)=true then do let c <- cellOf env x.1; pure (ForInStep.yield ((x.1,c)::r)) else pure (ForInStep.yield r):Sem (ForInStep (List (Str×Addr)))))=pure (clo env.cells names cs)
 | [],cs,_=>rfl
 | (n,k)::r,cs,h=>by
  rw[List.forIn_cons];have hr:=fun cs'=>Mc (env:=env) r cs' fun x hx=>h x (List.mem_cons_of_mem _ hx);cases hk:(k==NameKind.free) with
  | true =>
   have hc:=h (n,k) List.mem_cons_self hk;obtain⟨c,hc⟩:=Option.isSome_iff_exists.mp hc;have e:cellOf env n=pure c:=by unfold cellOf; rw[hc]
   dsimp only at hc;simp only[hk,if_true,e,pure_bind];rw[hr];simp only[clo,hk,if_true,hc,Option.getD_some]
  | false =>
   simp only[hk,Bool.false_eq_true,if_false,pure_bind];rw[hr];simp only[clo,hk,Bool.false_eq_true,if_false]
theorem La{env:Env}{scope:Scope}(h:∀x∈scope.names,(x.2==.free)=true->(env.cells.lookup x.1).isSome=true):closureFor scope env=pure (clo env.cells scope.names []):=by
 rw[<- Mc _ _ h];unfold closureFor;simp
theorem Oo{cells:List (Str×Addr)}{x:Str}{c:Addr}:∀{names:List (Str×NameKind)} {cs:List (Str×Addr)},(∀y∈names,(y.2==.free)=true->(cells.lookup y.1).isSome=true) ->
  (clo cells names cs).lookup x=some c->cs.lookup x=some c\/cells.lookup x=some c
 | [],_,_,h=>.inl h
 | (n,k)::r,cs,hn,h=>by
  simp only[clo] at h;have hr:=Oo (names:=r) (fun y hy=>hn y (List.mem_cons_of_mem _ hy)) h;rcases hr with hr|hr
  .cases hk:(k==NameKind.free) with
   | true =>
    simp only[hk,if_true] at hr;rw[List.lookup_cons] at hr;cases hx:(x==n) with
    | true =>
     simp only[hx] at hr;obtain⟨c',hc'⟩:=Option.isSome_iff_exists.mp (hn (n,k) List.mem_cons_self hk);have hx':x=n:=by simpa using hx
     rw[hc'] at hr;refine .inr ?_;rw[hx'];exact hc'.trans hr
    | false =>
     simp only[hx] at hr;exact .inl hr
   | false =>
    simp only[hk,Bool.false_eq_true,if_false] at hr;exact .inl hr
  .exact .inr hr
theorem Mb{cells:List (Str×Addr)}{x:Str}:∀{names:List (Str×NameKind)} {cs:List (Str×Addr)},(∃c,cs.lookup x=some c)->∃c,(clo cells names cs).lookup x=some c
 | [],_,h=>h
 | (n,k)::r,cs,h=>by
  simp only[clo];refine Mb (names:=r) ?_;cases hk:(k==NameKind.free) with
  | true =>
   simp only[if_true];rw[List.lookup_cons];cases hx:(x==n) with
   | true=>exact⟨_,rfl⟩
   | false=>exact h
  | false =>
   simp only[Bool.false_eq_true,if_false];exact h
theorem K9{cells:List (Str×Addr)}{x:Str}:∀{names:List (Str×NameKind)} {cs:List (Str×Addr)},names.lookup x=some .free->∃c,(clo cells names cs).lookup x=some c
 | [],_,h=>by simp at h
 | (n,k)::r,cs,h=>by
  rw[List.lookup_cons] at h;simp only[clo];cases hx:(x==n) with
  | true =>
   simp only[hx] at h;have hk:k=.free:=Option.some.inj h;subst hk;refine Mb (names:=r) ⟨(cells.lookup n).getD 0,?_⟩;rw[if_pos (by decide),List.lookup_cons];simp only[hx]
  | false =>
   simp only[hx] at h;exact K9 (names:=r) h
noncomputable abbrev cxD(X:Cx)(own:List Str)(scope:Scope)(C:Addr)(cl:List (Str×Addr))(fn:Str->Bool)(s:Shared)(H:Hp)(fp:List Addr)(pins:List (Addr×Obj)):Cx:=
 { X with N:=own++X.N,s₀:=s,H₀:=H,env:=compEnvC scope cl C X.env,outer:=X.stack,ex:=fp,fn:=fn,pn:=X.pn++pins,xe:=fun _ _=>False }
noncomputable abbrev cxC(X:Cx)(own:List Str)(scope:Scope)(C:Addr)(s:Shared)(H:Hp)(fp:List Addr)(pins:List (Addr×Obj)):Cx:=
 cxD X own scope C (clo X.env.cells scope.names []) (fun _=>false) s H fp pins
noncomputable def Bx(own N:List Str)(sc sco:Scope):Bool:=
 N.all (fun x=>match sc.names.lookup x with
  | some .local=>false
  | some .cell=>false
  | some .free=>sco.names.lookup x==some .cell || sco.names.lookup x==some .free
  | _=>true) &&
 sc.names.all (fun y=>(y.2 != .cell)&&(y.2 != .free || sco.names.lookup y.1==some .cell || sco.names.lookup y.1==some .free)&&(y.2 != .local || sc.names.lookup y.1==some .local)) &&
 (sc.kind==.function)&&own.all fun x=>!N.contains x
theorem Cn{env:Env}:∀{names:List (Str×NameKind)} {x:Str} {k:NameKind},
  (names.map fun(n,k)=>if (k==NameKind.free&&env.scope.kind==.function&&env.kindOf n==some .cell) then (n,NameKind.cell) else (n,k)).lookup x=some k ->
  names.lookup x=some k\/(k=.cell/\names.lookup x=some .free)
 | [],_,_,h=>by simp at h
 | (n,j)::r,x,k,h=>by
  have ih:=@Cn env r x k;have h':List.lookup x ((if (j==NameKind.free&&env.scope.kind==.function&&env.kindOf n==some .cell)=true then (n,NameKind.cell) else (n,j))::_)=some k:=h;rw[List.lookup_cons];cases hx:x==n with
  | true =>
   by_cases hc:(j==NameKind.free&&env.scope.kind==.function&&env.kindOf n==some .cell)=true
   .rw[if_pos hc,List.lookup_cons] at h'
    simp only[hx] at h';have hj:j=.free:=by
     simp only[Bool.and_eq_true] at hc;simpa using hc.1.1
    exact .inr ⟨(Option.some.inj h').symm,by simp only[hj]⟩
   .rw[if_neg hc,List.lookup_cons] at h'
    simp only[hx] at h';exact .inl h'
  | false =>
   refine ih ?_;by_cases hc:(j==NameKind.free&&env.scope.kind==.function&&env.kindOf n==some .cell)=true
   .rw[if_pos hc,List.lookup_cons] at h'
    simp only[hx] at h';exact h'
   .rw[if_neg hc,List.lookup_cons] at h'
    simp only[hx] at h';exact h'
theorem Nu{prog:Program}{w:World}{A:Around}{R:Result->Shared->Prop}{s:Shared}{elt target iter:Expr}{ifs:List Expr}{scope:Scope}{pos:Pos}{it acc:Value}{env:Env}(I:Nat->Shared->Prop)(turn:∀n s,I n s->wpAny (model prog w) A (pyNext it) (fun r s₁=>match r with
   | none=>R (.ok .next) s₁
   | some v=>wpAny (model prog w) A (letOwnedTupleGo target it v) (fun _ s₁'=>wpAny (model prog w) A (assign target env v) (fun _ s₂ =>
     wpAny (model prog w) A (forIn ifs true fun c r=>if r=true then do let ok <- isTrue c env (eval c env); pure (ForInStep.yield ok) else pure (ForInStep.yield r)) (fun ok s₃ =>
      if ok=true then wpAny (model prog w) A (eval elt env) (fun x s₄ =>
       wpAny (model prog w) A (call (.builtin "list.append") [acc,x]) (fun _ s₅=>∃m,m<n/\I m s₅) (fun _ _=>False) s₄) (fun _ _=>False) s₃
      else ∃m,m<n/\I m s₃) (fun _ _=>False) s₂) (fun _ _=>False) s₁') (fun _ _=>False) s₁) (fun _ _=>False) s)(n:Nat)(h:I n s):codeAny (model prog w) A (.compLoop (.ListComp elt [⟨target,iter,ifs,0⟩] scope pos) 0 it acc env) R s:=by
 refine codeAny_loop rfl I (fun n s hI=>?_) n h;show wpAny _ A ((compTurn (.ListComp elt [⟨target,iter,ifs,0⟩] scope pos) 0 it acc env).onRaise (fun x=>do noteFrame x env; theTreesLotGoes x)) _ _ s;refine wpAny_noted ?_;rw[compTurn_list];refine wpAny_bind (wpAny_standAt (wpAny_bind (wpAny_mono (turn n s hI) (fun r s₁ h₁=>?_) fun _ _ h'=>h'.elim)));cases r with
 | none=>exact wpAny_pure h₁
 | some v =>
  refine wpAny_bind (wpAny_mono h₁ (fun _ s₁' h₁'=>?_) fun _ _ h'=>h'.elim);refine wpAny_bind (wpAny_mono h₁' (fun _ s₂ h₂=>wpAny_bind (wpAny_mono h₂ (fun ok s₃ h₃=>?_) fun _ _ h'=>h'.elim)) fun _ _ h'=>h'.elim);cases ok with
  | false=>exact wpAny_pure ⟨rfl,h₃⟩
  | true =>
   exact wpAny_bind (wpAny_bind (wpAny_mono h₃ (fun x s₄ h₄=>wpAny_bind (wpAny_mono h₄ (fun _ s₅ h₅=>wpAny_pure (wpAny_pure ⟨rfl,h₅⟩)) fun _ _ h'=>h'.elim)) fun _ _ h'=>h'.elim))
noncomputable def PTs(X:Cx)(ifs:List Expr)(t:TT):Prop:=
 ∀(pins:List (Addr×Obj)) (s:Shared) (U:St) (H:Hp) (Q:Bool->Hp->Prop),Inv X pins U H s->t U H Q ->
  wpAny (model X.prog X.w) X.A (forIn ifs true fun c r=>if r=true then do let ok <- isTrue c X.env (eval c X.env); pure (ForInStep.yield ok) else pure (ForInStep.yield r)) (TP X pins U Q) X.xe s
noncomputable def Y4:TT:=fun _ H Q=>Q true H
theorem TC{X:Cx}:PTs X [] Y4:=fun _ _ _ H _ I h=>wpAny_tests_nil ⟨H,I,h⟩
theorem TF{X:Cx}{c:Expr}{t:TT}(h:PT X c t):PTs X [c] t:=fun pins s U H Q I q=>wpAny_tests_one (h pins s U H Q I q)
noncomputable abbrev TU:=V->Hp->List V->Prop
noncomputable def PGo(X:Cx)(target:Expr)(n:Nat)(un:TU):Prop:=
 ∀(pins:List (Addr×Obj)) (s:Shared) (σ0 U:St) (H:Hp) (v:V) (u:Value) (vs:List V),σ0.length=n->Inv X pins (σ0++U) H s->RelV v u->un v H vs ->
  wpAny (model X.prog X.w) X.A (assign target X.env u) (fun _ s'=>vs.length=n/\Inv X pins (vs.map some++U) H s') X.xe s
noncomputable def Si:TU:=fun v _ vs=>vs=[v]
noncomputable def YB(K:Frag):TU:=fun v H vs=>∃a x y,v=.ref a/\SqT K H a [x,y]/\vs=[x,y]
theorem VP{α:Type}{l:List α}(h:l.length=1):∃o,l=[o]:=by
 cases l with
 | nil=>cases h
 | cons a t=>cases t with
  | nil=>exact⟨a,rfl⟩
  | cons b t=>cases h
theorem Q5{α:Type}{l:List α}(h:l.length=2):∃o p,l=[o,p]:=by
 cases l with
 | nil=>cases h
 | cons a t =>
  obtain⟨p,rfl⟩:=VP (Nat.succ.inj h);exact⟨a,p,rfl⟩
theorem HQ{X:Cx}{x:Str}{pos:Pos}(hi:X.N[0]? = some x)(hN:X.N.Nodup)(hx:X.env.scope.names.lookup x=some .local):PGo X (.Name x pos) 1 Si:=by
 intro pins s σ0 U H v u vs hl I r h;obtain⟨o,rfl⟩:=VP hl;cases h;exact wpAny_assign_Name (FD I hN hi (.inl hx) r (fun s' I'=>⟨rfl,I'⟩) (.inr hx))
theorem MY{X:Cx}{x y:Str}{px py pos:Pos}{k:Nat}(hc:X.calm=true)(hi:X.N[0]? = some x)(hj:X.N[1]? = some y)(hN:X.N.Nodup)(hx:X.env.scope.names.lookup x=some .local)(hy:X.env.scope.names.lookup y=some .local):
  PGo X (.Tuple [.Name x px,.Name y py] k pos) 2 (YB X.K):=by
 intro pins s σ0 U H v u vs hl I r h;obtain⟨o,o',rfl⟩:=Q5 hl;obtain⟨a,v1,v2,rfl,hq,rfl⟩:=h;have P:=RB (X:=X) (pos:=pos) (k:=k) hc (JL (IX (pos:=px) hN hi (.inl hx) (.inr hx)) (JL (IX (pos:=py) hN hj (.inl hy) (.inr hy)) OP)) (n:=2);refine thn (P pins s _ H (.ref a) u (fun σ2 H2=>σ2=[v1,v2].map some++U/\H2=H) I r ⟨a,_,rfl,hq,rfl,v1,[v2],rfl,v2,[],rfl,rfl,rfl,rfl⟩) fun _ s1 yy=>?_;obtain⟨σ2,H2,I2,e1,e2⟩:=yy;subst e1; subst e2;exact⟨rfl,I2⟩
noncomputable def LcR(J:It)(un:TU)(tc:TT)(te:TE)(U:St)(H1:Hp)(Q:VK):Prop:=∀acc,H1 acc=none->∃W:Nat->Nat->List V->Hp->Prop,(∃m,W 0 m [] (upd H1 acc (.lst [])))/\∀i m ys H,W i m ys H->H acc=some (.lst ys) /\
 ((J.stop i H/\Q (.ref acc) H)\/(J.go i H/\∀x H',J.yld i H x H'->∃vs,un x H' vs/\tc (vs.map some++U) H' fun b H3 =>
  if b=true then te (vs.map some++U) H3 fun v H4=>H4 acc=some (.lst ys)/\ys.length<sizeLine/\∃m',m'<m/\W (i+1) m' (ys++[v]) (upd H4 acc (.lst (ys++[v])))
  else ∃m',m'<m/\W (i+1) m' ys H3))
noncomputable def tLc(wi:TI)(un:TU)(tc:TT)(te:TE):TE:=fun U H Q=>wi U H fun J H1=>LcR J un tc te U H1 Q
section
variable{X:Cx}{pins:List (Addr×Obj)}{U:St}{H:Hp}{s:Shared}
theorem Bx.free{own:List Str}{scope:Scope}(hok:Bx own X.N scope X.env.scope=true)(I:Inv X pins U H s):∀x∈scope.names,(x.2==NameKind.free)=true->(X.env.cells.lookup x.1).isSome=true:=fun x hx hf=>by
 simp only[Bx,Bool.and_eq_true,List.all_eq_true] at hok;have:=(hok.1.1.2 x hx).1.2;have hf':x.2=.free:=by simpa using hf
 rw[hf'] at this;simp only[bne_self_eq_false,Bool.false_or,Bool.or_eq_true] at this;obtain⟨c,hc⟩:=I.ok.has x.1 (this.elim (fun z=>.inl (by simpa[Env.kindOf] using z)) fun z=>.inr (by simpa[Env.kindOf] using z));rw[hc]; rfl
theorem Ph{own:List Str}{scope:Scope}{fp:List Addr}{h1:Heap}{t':Nat}(hok:Bx own X.N scope X.env.scope=true)(I:Inv X pins U H s)(f2:∀b∈fp,Ge X pins H b)(fo:∀b∈fp,∃o,s.heap.get? b=some o)(hns:h1.Ns s.heap.objs.size fun _=>none)(hk:∀b o,s.heap.get? b=some o->h1.get? b=some o):
  Inv (cxC X own scope s.heap.objs.size s H fp pins) [] (List.replicate own.length none++U) H { s with heap:=h1,toks:=t' }:=by
 have hfree:=Bx.free hok I;simp only[Bx,Bool.and_eq_true,List.all_eq_true] at hok;obtain⟨⟨⟨hN,hS⟩,hkd⟩,hown⟩:=hok;have hkind:scope.kind=.function:=by simpa using hkd
 have sub:∀x c,(clo X.env.cells scope.names []).lookup x=some c->X.env.cells.lookup x=some c:=fun x c e=>by
  rcases Oo hfree e with z|z
  .simp at z
  .exact z
 have ltS:∀{b:Addr} {o:Obj},s.heap.get? b=some o->b≠s.heap.objs.size:=fun e=>Nat.ne_of_lt (Heap.lt_size e);have isFree:∀x,((relabel scope X.env).names.lookup x=some .cell\/(relabel scope X.env).names.lookup x=some .free)->scope.names.lookup x=some .free:=fun x hx'=>by
  rcases hx' with z|z
  .rcases Cn z with z|z
   .have:=(hS _ (PySem.mem_of_lookup z)).1.1
    simp at this
   .exact z.2
  .rcases Cn z with z|z
   .exact z
   .cases z.1
 refine⟨⟨I.ok.mod,hkind,I.ok.glob,I.ok.blt,Nat.le_refl _,fun x y c e1 e2=>I.ok.inj x y c (sub x c e1) (sub y c e2),fun x hx=>K9 (isFree x hx),fun x c z=>(by cases z),I.ok.hd,I.ok.frames,.inl rfl,fun b hb=>?_,I.bs,Nat.le_trans I.ok.bsz I.sz,fun b o e hb=>?_,fun b hb hz=>?_,I.stack,I.stkFree,I.tabs⟩,
  rfl,I.bare,Un.kept hk,⟨_,hns,fun i x v e1 e2 e3=>?_⟩,fun x c e=>?_,I.hok.fresh (Nat.le_refl _),fun x c e=>I.freeC x c (sub x c e),fun p hp=>?_,I.hok.kept hk,?_⟩
 .refine⟨fun z=>?_,fun x c e z=>?_⟩
  .obtain⟨o,e⟩:=fo b hb
   exact ltS e z
  .exact(f2 b hb).2.2.2.2.1 x c (sub x c e) z
 .obtain⟨_,_,_,f4,_⟩:=f2 b hb
  rcases f4 with f4|f4
  .exact I.ok.noex b o e f4
  .have:=Nat.lt_of_lt_of_le (Heap.lt_size e) (Nat.le_trans I.ok.bsz f4)
   exact absurd this (Nat.lt_irrefl _)
 .obtain⟨_,f1,f3,_⟩:=f2 b hb
  rcases List.mem_cons.mp (I.stkSub b hz) with z|z
  .exact f1 z
  .exact f3 z
 .by_cases hi:i<own.length
  .rw[List.getElem?_append_left (by simpa using hi),List.getElem?_replicate] at e2
   split at e2<;>cases e2
  .have e1':X.N[i-own.length]? = some x:=by
    have e1:(own++X.N)[i]? = some x:=e1;rw[List.getElem?_append_right (by omega)] at e1;exact e1
   have e2' : U[i-own.length]? = some (some v):=by
    rw[List.getElem?_append_right (by simpa using hi)] at e2;simpa using e2
   have hx:=hN x (List.mem_of_getElem? e1');have q:scope.names.lookup x=some .free:=by
    rcases e3 with z|z
    .rcases Cn z with z|z
     .rw[z] at hx; cases hx
     .cases z.1
    .exact isFree x z
   rw[q] at hx;simp only[Bool.or_eq_true] at hx;have hx2:X.env.scope.names.lookup x=some .cell\/X.env.scope.names.lookup x=some .free:=hx.elim (fun z=>.inl (by simpa using z)) fun z=>.inr (by simpa using z);obtain⟨m,_,hl⟩:=I.loc;obtain⟨u,r,l⟩:=hl _ x v e1' e2' (.inr hx2);refine⟨u,r,?_⟩;obtain⟨c',hc'⟩:=K9 (cells:=X.env.cells) (cs:=[]) q;rcases l with ⟨k,_⟩|⟨k,c,hc,o,ho,hd⟩
   .have k':X.env.scope.names.lookup x=some .local:=k
    rcases hx2 with z|z<;>(rw[k'] at z; cases z)
   .have ec:=sub x c' hc'
    have ec':c'=c:=Option.some.inj (ec.symm.trans hc);rw[ec'] at hc';refine .inr ⟨?_,c,hc',o,hk c o ho,hd⟩;rcases e3 with z|z
    .rcases Cn z with z|z
     .rw[q] at z; cases z
     .cases z.1
    .exact z
 .obtain⟨v,o,ho,hd⟩:=I.cell x c (sub x c e)
  exact⟨v,o,hk c o ho,hd⟩
 .have hp':p∈X.pn++pins:=by simpa using hp
  obtain⟨e,n,ne,nf,d⟩:=I.pin p hp';refine⟨hk _ _ e,n,ltS e,fun hz=>?_,d⟩;rcases List.mem_cons.mp (I.stkSub p.1 hz) with z|z
  .exact ne z
  .exact nf z
 .show(List.replicate own.length none++U).length=(own++X.N).length
  rw[List.length_append,List.length_replicate,List.length_append,I.len]
theorem E4{own:List Str}{scope:Scope}{fp:List Addr}{cl:List (Str×Addr)}{fn:Str->Bool}{σ':St}{H':Hp}{s':Shared}{h':Heap}(I:Inv X pins U H s)(f2:∀b∈fp,Ge X pins H b)(J:Inv (cxD X own scope s.heap.objs.size cl fn s H fp pins) [] σ' H' s')(hs:Heap.SameBut s.heap.objs.size s'.heap h'):Inv X pins U H' { s' with heap:=h' }:=by
 have lt:∀{b:Addr} {o:Obj},s.heap.get? b=some o->b≠s.heap.objs.size:=fun e=>Nat.ne_of_lt (Heap.lt_size e);have hC:H' s.heap.objs.size=none:=J.free;have u:=J.base;refine I.call' (s':={ s' with heap:=h' }) (ch:=fp) J.os ⟨fun b o e n hb hx=>(hs.2 b (lt e)).trans (u.keep b o e n hb hx),fun b o e n hb hx=>?_,u.free,fun b o e hx=>?_,u.tups,u.frzs,u.tbls⟩ (fun b o e=>?_) J.bare fun b hb=>?_
 .obtain⟨sl,q⟩:=u.slot b o e n hb hx
  exact⟨sl,(hs.2 b (lt e)).trans q⟩
 .obtain⟨o',q⟩:=u.there b o e hx
  exact⟨o',(hs.2 b (lt e)).trans q⟩
 .refine(J.hok b o e).stay (fun c w' hc q=>(hs.2 c ?_).trans q) (fun _ q=>q) fun _ _ q=>q
  rintro rfl;rcases hc with z|z
  .rw[<- z,hC] at e; cases e
  .rw[hC] at z; cases z
 .obtain⟨_,f1,_,f4,f5,f6⟩:=f2 b hb
  exact⟨f4,f1,f5,f6⟩
theorem RT{own:List Str}{scope:Scope}{fp:List Addr}{it:Addr}{tn:Nat->Heap->Prop}{J:It}{target iter elt:Expr}{ifs:List Expr}{pos:Pos}{un:TU}{tc:TT}{te:TE}{acc:Addr}{Q:VK}{R:Result->Shared->Prop}{cl:List (Str×Addr)}{fn:Str->Bool}{h1:Heap}{t1:Nat}(hc:X.calm=true)(hg:PGo (cxD X own scope s.heap.objs.size cl fn s H fp pins) target own.length un)(ht:PTs (cxD X own scope s.heap.objs.size cl fn s H fp pins) ifs tc)(he:PE (cxD X own scope s.heap.objs.size cl fn s H fp pins) elt te)(I:Inv X pins U H s)(T:Turn X.prog X.w X.K target J fp it tn)(st:tn 0 s.heap)(f2:∀b∈fp,Ge X pins H b)(W:Nat->Nat->List V->Hp->Prop)(w0:∃m,W 0 m [] H)(turn:∀i m ys H,W i m ys H->H acc=some (.lst ys) /\
   ((J.stop i H/\Q (.ref acc) H)\/(J.go i H/\∀x H',J.yld i H x H'->∃vs,un x H' vs/\tc (vs.map some++U) H' fun b H3 =>
    if b=true then te (vs.map some++U) H3 fun v H4=>H4 acc=some (.lst ys)/\ys.length<sizeLine/\∃m',m'<m/\W (i+1) m' (ys++[v]) (upd H4 acc (.lst (ys++[v])))
    else ∃m',m'<m/\W (i+1) m' ys H3)))(fin:∀s' σ' H',Inv (cxD X own scope s.heap.objs.size cl fn s H fp pins) [] σ' H' s'->Q (.ref acc) H'->R (.ok .next) s')(hk:∀b o,s.heap.get? b=some o->h1.get? b=some o)(I0:Inv (cxD X own scope s.heap.objs.size cl fn s H fp pins) [] (List.replicate own.length none++U) H { s with heap:=h1,toks:=t1 }):
  codeAny (model X.prog X.w) X.A (.compStart (.ListComp elt [⟨target,iter,ifs,0⟩] scope pos) 0 (.ref it) (.ref acc) (compEnvC scope cl s.heap.objs.size X.env)) R { s with heap:=h1,toks:=t1 }:=by
 have st1:tn 0 h1:=T.keep _ _ _ st fun b _ o e=>hk b o e;have stat:∀{H':Hp},(∀b∈fp,H' b=none)->∀b∈fp,Ge (cxD X own scope s.heap.objs.size cl fn s H fp pins) [] H' b:=fun hn b hb=>by
  obtain⟨_,f1,f3,_,f5,f6⟩:=f2 b hb;obtain⟨o,e,_⟩:=T.obj _ _ st b hb;refine⟨hn b hb,Nat.ne_of_lt (Heap.lt_size e),fun hz=>?_,.inl hb,(I0.ok.exf b hb).2,fun p hp=>f6 p (by simpa using hp)⟩;rcases List.mem_cons.mp (I.stkSub b hz) with z|z
  .exact f1 z
  .exact f3 z
 have loop:∀s4,s4={ s with heap:=h1,toks:=t1 }->codeAny (model X.prog X.w) X.A (.compLoop (.ListComp elt [⟨target,iter,ifs,0⟩] scope pos) 0 (.ref it) (.ref acc) (compEnvC scope cl s.heap.objs.size X.env)) R s4:=by
  rintro s4 rfl;obtain⟨m0,w0⟩:=w0;refine Nu (fun n s'=>∃i ys σ0 H',σ0.length=own.length/\Inv (cxD X own scope s.heap.objs.size cl fn s H fp pins) [] (σ0++U) H' s'/\tn i s'.heap/\(∀b∈fp,H' b=none)/\W i n ys H') ?_ m0 ⟨0,[],_,H,by rw[List.length_replicate],I0,st1,fun b hb=>(f2 b hb).1,w0⟩;rintro n s3 ⟨i,ys,σ0,H3,hl3,I3,st3,fr3,w3⟩;obtain⟨ha,turn3⟩:=turn i n ys H3 w3;rcases turn3 with ⟨stop,qn⟩|⟨go,step⟩
  .refine thn (T.done (cxD X own scope s.heap.objs.size cl fn s H fp pins) rfl rfl rfl hc i [] s3 _ H3 _ I3 (stat fr3) st3 stop) fun r s4 yy=>?_
   obtain⟨hr,I4⟩:=yy;subst hr;exact fin s4 _ H3 I4 qn
  .refine thn (T.item (cxD X own scope s.heap.objs.size cl fn s H fp pins) rfl rfl rfl hc i [] s3 _ H3 _ I3 (stat fr3) st3 go) fun r s4 yy=>?_
   obtain⟨u,hr,h4⟩:=yy;subst hr;refine thn h4 fun _ s5 yy=>?_;obtain⟨x,H5,I5,r5,y5,st5,fr5⟩:=yy;obtain⟨vs,hu,q5⟩:=step x H5 y5;have I5':=I5.pinned (stat fr5) (T.obj _ _ st5);have again:∀{H7:Hp} {s7:Shared},vs.length=own.length->Inv (cxD X own scope s.heap.objs.size cl fn s H fp pins) ([]++JM fp s5.heap) (vs.map some++U) H7 s7->∀{ys'},(∃m',m'<n/\W (i+1) m' ys' H7) ->
     ∃m,m<n/\∃i ys σ0 H',σ0.length=own.length/\Inv (cxD X own scope s.heap.objs.size cl fn s H fp pins) [] (σ0++U) H' s7/\tn i s7.heap/\(∀b∈fp,H' b=none)/\W i m ys H':=fun {H7 s7} hl I7 {ys'} ⟨m',hm,w7⟩=>by
    refine⟨m',hm,i+1,ys',vs.map some,H7,by rw[List.length_map,hl],I7.unpinned,T.keep _ _ _ st5 fun b hb o e=>(I7.pin (b,o) (List.mem_append_right _ (List.mem_append_right _ (FX hb e)))).1,fun b hb=>?_,w7⟩;obtain⟨o,e,d⟩:=T.obj _ _ st5 b hb;exact(I7.pin (b,o) (List.mem_append_right _ (List.mem_append_right _ (FX hb e)))).2.1
   refine thn (hg _ s5 σ0 U H5 x u vs hl3 I5' r5 hu) fun _ s6 yy=>?_;obtain⟨hl,I6⟩:=yy;refine thn (ht _ s6 _ H5 _ I6 q5) fun ok s7 yy=>?_;obtain⟨H7,I7,q7⟩:=yy;cases ok with
   | false =>
    rw[if_neg Bool.false_ne_true] at q7;rw[if_neg Bool.false_ne_true];exact again hl I7 q7
   | true =>
    rw[if_pos rfl] at q7;rw[if_pos rfl];refine thn (he _ s7 _ H7 _ I7 q7) fun v s8 yy=>?_;obtain⟨y,H8,I8,r8,ha8,hz8,q8⟩:=yy;refine thn (KN _ s8 _ H8 (.ref acc) [y] (.ref acc) [v] (fun _ H9=>∃m',m'<n/\W (i+1) m' (ys++[y]) H9) I8 rfl (.cons r8 .nil) ⟨acc,ys,y,rfl,rfl,ha8,hz8,q8⟩) fun _ s9 yy=>?_;obtain⟨_,H9,I9,_,q9⟩:=yy;exact again hl I9 q9
 exact codeAny_compStart_list (loop _ rfl) (T.self X.A 0 _ _ _ st1 (loop _ rfl))
theorem GQ{own:List Str}{scope:Scope}{fp:List Addr}{it:Addr}{tn:Nat->Heap->Prop}{J:It}{target iter elt:Expr}{ifs:List Expr}{pos:Pos}{un:TU}{tc:TT}{te:TE}{acc:Addr}{Q:VK}{R:Result->Shared->Prop}{E:Value->Shared->Prop}(hc:X.calm=true)(hok:Bx own X.N scope X.env.scope=true)(hg:∀C s H fp pins,PGo (cxC X own scope C s H fp pins) target own.length un)(ht:∀C s H fp pins,PTs (cxC X own scope C s H fp pins) ifs tc)(he:∀C s H fp pins,PE (cxC X own scope C s H fp pins) elt te)(I:Inv X pins U H s)(T:Turn X.prog X.w X.K target J fp it tn)(st:tn 0 s.heap)(f2:∀b∈fp,Ge X pins H b)(W:Nat->Nat->List V->Hp->Prop)(w0:∃m,W 0 m [] H)(turn:∀i m ys H,W i m ys H->H acc=some (.lst ys) /\
   ((J.stop i H/\Q (.ref acc) H)\/(J.go i H/\∀x H',J.yld i H x H'->∃vs,un x H' vs/\tc (vs.map some++U) H' fun b H3 =>
    if b=true then te (vs.map some++U) H3 fun v H4=>H4 acc=some (.lst ys)/\ys.length<sizeLine/\∃m',m'<m/\W (i+1) m' (ys++[v]) (upd H4 acc (.lst (ys++[v])))
    else ∃m',m'<m/\W (i+1) m' ys H3)))(fin:∀s' σ' H',Inv (cxC X own scope s.heap.objs.size s H fp pins) [] σ' H' s'->Q (.ref acc) H'->R (.ok .next) s'):
  wpAny (model X.prog X.w) X.A (newFunctionEnv scope X.env.globals (clo X.env.cells scope.names []) [] X.env.qual none .none (some X.env)) (fun cenv s₄ =>
   cenv.locals=s.heap.objs.size/\codeAny (model X.prog X.w) X.A (.compStart (.ListComp elt [⟨target,iter,ifs,0⟩] scope pos) 0 (.ref it) (.ref acc) { cenv with scope:=relabel scope X.env }) R s₄) E s:=by
 have hcell:∀x∈scope.names,x.2≠.cell:=fun x hx z=>by
  simp only[Bx,Bool.and_eq_true,List.all_eq_true] at hok;have:=(hok.1.1.2 x hx).1.1;rw[z] at this;simp at this
 have hkind:scope.kind=.function:=by
  simp only[Bx,Bool.and_eq_true] at hok;simpa using hok.1.2
 refine wpAny_newFunctionEnv hcell (fun x hx=>by simp at hx) (fun h1 hns hsb=>⟨rfl,?_⟩) hkind;have hk:∀b o,s.heap.get? b=some o->h1.get? b=some o:=fun b o e=>(hsb.2 b (Nat.ne_of_lt (Heap.lt_size e))).trans (Heap.get?_push_of_some _ e);have I0:Inv (cxC X own scope s.heap.objs.size s H fp pins) [] (List.replicate own.length none++U) H { s with heap:=h1,toks:=s.toks+([]:List (Str×Value)).length }:=
  Ph hok I f2 (fun b hb=>let⟨o,e,_⟩:=T.obj _ _ st b hb; ⟨o,e⟩) (by simpa using hns) hk
 exact RT (iter:=iter) (pos:=pos) hc (hg _ _ _ _ _) (ht _ _ _ _ _) (he _ _ _ _ _) I T st f2 W w0 turn fin hk I0
end
section
variable{X:Cx}
theorem Bx.names{own N:List Str}{scope sco:Scope}(hok:Bx own N scope sco=true):∀x∈scope.names,x.2=.local->scope.names.lookup x.1=some .local:=fun x hx hl=>by
 simp only[Bx,Bool.and_eq_true,List.all_eq_true] at hok;have:=(hok.1.1.2 x hx).2;rw[hl] at this;simpa using this
theorem Bx.kind{own N:List Str}{scope sco:Scope}(hok:Bx own N scope sco=true):scope.kind=.function:=by
 simp only[Bx,Bool.and_eq_true] at hok;simpa using hok.1.2
theorem US{own:List Str}{scope:Scope}{target iter elt:Expr}{ifs:List Expr}{pos:Pos}{wi:TI}{un:TU}{tc:TT}{te:TE}(hc:X.calm=true)(hok:Bx own X.N scope X.env.scope=true)(hi:PI X target iter wi)(hg:∀C s H fp pins,PGo (cxC X own scope C s H fp pins) target own.length un)(ht:∀C s H fp pins,PTs (cxC X own scope C s H fp pins) ifs tc)(he:∀C s H fp pins,PE (cxC X own scope C s H fp pins) elt te)(hs:∀x,foldedSetIterable iter X.env x=pure x:=by intro _; rfl):PE X (.ListComp elt [⟨target,iter,ifs,0⟩] scope pos) (tLc wi un tc te):=by
 intro pins s U H Q I h;rw[eval_ListComp];refine wpAny_comprehension_free (use:=none) rfl hs (La (Bx.free hok I)) (Bx.kind hok) (Bx.names hok) ?_;refine thn (hi pins s U H _ I h) fun v s1 h1=>thn h1 fun itv s2 h2=>?_;obtain⟨it,fp,tn,J,H2,e,I2,T,st2,f2,q⟩:=h2;subst e;obtain⟨W,w0,turn⟩:=q s2.heap.objs.size I2.fresh;refine wpAny_newObj_type (hd:=by size_fits) ?_;have I3:Inv X pins U (upd H2 s2.heap.objs.size (.lst [])) { s2 with heap:=s2.heap.push { cls:=.type "list",data:=.seq ([]:List Value).toArray } }:=I2.lnew (its:=[]) (t':=s2.toks) .nil (Nat.zero_le _);have st3:tn 0 (s2.heap.push { cls:=.type "list",data:=.seq ([]:List Value).toArray }):=T.keep _ _ _ st2 fun b _ o e=>Heap.get?_push_of_some _ e;have f3:∀b∈fp,Ge X pins (upd H2 s2.heap.objs.size (.lst [])) b:=fun b hb=>by
  obtain⟨o,e,_⟩:=T.obj _ _ st2 b hb;exact⟨by rw[AL (Nat.ne_of_lt (Heap.lt_size e))]; exact(f2 b hb).1,(f2 b hb).2⟩
 refine thn (GQ (iter:=iter) (pos:=pos) (R:=compPost (model X.prog X.w) X.A X.xe none (EP X pins U Q) (.ref s2.heap.objs.size) (s2.heap.push { cls:=.type "list",data:=.seq ([]:List Value).toArray }).objs.size) hc hok hg ht he I3 T st3 f3 W w0 turn fun s' σ' H' J' q'=>?_) fun cenv s4 ⟨el,h4⟩=>?_
 .obtain⟨m,hn,_⟩:=J'.loc
  exact⟨m,hn,fun h' hs'=>⟨.ref s2.heap.objs.size,H',E4 I3 f3 J' hs',rfl,q'⟩⟩
 .have el':cenv.locals=(s2.heap.push { cls:=.type "list",data:=.seq ([]:List Value).toArray }).objs.size:=el
  rw[<- el'] at h4;exact h4
end
section
variable{X:Cx}
theorem M0{i:Nat}{y:Str}{py spos:Pos}{own:List Str}{scope:Scope}{target iter elt:Expr}{ifs:List Expr}{pos:Pos}{wi:TI}{un:TU}{tc:TT}{te:TE}(nd:X.N.Nodup)(hiN:X.N[i]? = some y)(hy:X.env.scope.names.lookup y=some .local)(hc:X.calm=true)(hok:Bx own X.N scope X.env.scope=true)(hi:PI X target iter wi)(hg:∀C s H fp pins,PGo (cxC X own scope C s H fp pins) target own.length un)(ht:∀C s H fp pins,PTs (cxC X own scope C s H fp pins) ifs tc)(he:∀C s H fp pins,PE (cxC X own scope C s H fp pins) elt te)(hs:∀x,foldedSetIterable iter X.env x=pure x:=by intro _; rfl)(hsw:swapsWith (.ListComp elt [⟨target,iter,ifs,0⟩] scope pos) (some (.Name y py)) spos.line X.env=pure true:=by rfl):
  PS X (.Assign [.Name y py] (.ListComp elt [⟨target,iter,ifs,0⟩] scope pos) spos) (Oa (tLc wi un tc te) (HA i)):=by
 intro pins s U H D I h;rw[exec_Assign_Name_used _ _ _ _ hsw];refine wpAny_bind (wpAny_standAt (wpAny_bind ?_));show wpAny _ X.A (do let _ <- comprehension (.ListComp elt [⟨target,iter,ifs,0⟩] scope pos) scope X.env _ (newList []) false (eval iter X.env) (some (assign (.Name y py) X.env))) _ _ s;refine wpAny_bind (wpAny_mono (wpAny_comprehension_free (use:=some (assign (.Name y py) X.env)) (Q:=fun _ s'=>SP X pins D .next s') rfl hs (La (Bx.free hok I)) (Bx.kind hok) (Bx.names hok) ?_) (fun _ s' hq=>wpAny_pure (wpAny_pure hq)) fun _ _ e=>e);refine thn (hi pins s U H _ I h) fun v s1 h1=>thn h1 fun itv s2 h2=>?_;obtain⟨it,fp,tn,J,H2,e,I2,T,st2,f2,q⟩:=h2;subst e;obtain⟨W,w0,turn⟩:=q s2.heap.objs.size I2.fresh;refine wpAny_newObj_type (hd:=by size_fits) ?_;have I3:Inv X pins U (upd H2 s2.heap.objs.size (.lst [])) { s2 with heap:=s2.heap.push { cls:=.type "list",data:=.seq ([]:List Value).toArray } }:=I2.lnew (its:=[]) (t':=s2.toks) .nil (Nat.zero_le _);have st3:tn 0 (s2.heap.push { cls:=.type "list",data:=.seq ([]:List Value).toArray }):=T.keep _ _ _ st2 fun b _ o e=>Heap.get?_push_of_some _ e;have f3:∀b∈fp,Ge X pins (upd H2 s2.heap.objs.size (.lst [])) b:=fun b hb=>by
  obtain⟨o,e,_⟩:=T.obj _ _ st2 b hb;exact⟨by rw[AL (Nat.ne_of_lt (Heap.lt_size e))]; exact(f2 b hb).1,(f2 b hb).2⟩
 generalize hS:({ s2 with heap:=s2.heap.push { cls:=.type "list",data:=.seq ([]:List Value).toArray } }:Shared)=s3 at I3 st3;have st3':tn 0 s3.heap:=by rw[<- hS]; exact st3
 refine thn (GQ (iter:=iter) (pos:=pos) (acc:=s2.heap.objs.size) (Q:=fun x H1=>HA i x U H1 D.nx) (R:=compPost (model X.prog X.w) X.A X.xe (some (assign (.Name y py) X.env)) (fun _ s'=>SP X pins D .next s') (.ref s2.heap.objs.size) s3.heap.objs.size) hc hok hg ht he I3 T st3' f3 W w0 turn fun s' σ' H' J' q'=>?_) fun cenv s4 ⟨el,h4⟩=>?_
 .have I4:Inv X pins U H' s':=E4 I3 f3 J' (h':=s'.heap) (.refl ..)
  obtain⟨m,⟨oC,es,ep,hoC,hdC,hrC⟩,_⟩:=J'.loc;have hCL:s3.heap.objs.size≠X.env.locals:=Nat.ne_of_gt I3.lt;have hfs:s3.heap.objs.size∉X.fs:=I3.nofs (Nat.le_refl _);have hCc:∀x c,X.env.cells.lookup x=some c->c≠s3.heap.objs.size:=fun x c e=>by
   obtain⟨v,z⟩:=I3.cell x c e;exact Nat.ne_of_lt z.lt
  have hCp:∀p∈X.pn++pins,p.1≠s3.heap.objs.size:=fun p hp=>Nat.ne_of_lt (Heap.lt_size (I3.pin p hp).1);have I5:Inv X (pins++[(s3.heap.objs.size,oC)]) U H' s':=I4.pins_of fun p hp=>(List.mem_append.mp hp).elim (fun z=>I4.pin p (List.mem_append_right _ z)) fun z=>by
   have z':p=(s3.heap.objs.size,oC):=by simpa using z
   subst z';exact⟨hoC,J'.free,hCL,hfs,fun v=>by rw[hdC]; intro z; cases z⟩
  show wpAny _ X.A (assign (.Name y py) X.env (.ref s2.heap.objs.size)) _ _ s';refine wpAny_assign_Name (FD I5 nd hiN (.inl hy) (v:=.ref s2.heap.objs.size) rfl (fun s6 I6=>?_) (.inr hy));have hp:=I6.pin (s3.heap.objs.size,oC) (List.mem_append_right _ (List.mem_append_right _ (by simp)));refine⟨m,⟨oC,es,ep,hp.1,hdC,hrC⟩,fun h' hs'=>?_⟩;exact⟨_,H',I6.unpinned.turned (h':=h') (t':=s6.toks) (it:=s3.heap.objs.size) (fun b o hb e=>(hs'.2 b hb).trans e) hp.2.1 hCL (.inr I3.sz) hCc hCp,q'⟩
 .rw[<- el] at h4
  exact h4
end
noncomputable def Its(x:Str):It:=⟨fun i _=>i<x.cps.size,fun i H v H'=>H'=H/\∃c,x.cps[i]? = some c/\v=.str ⟨#[c]⟩,fun i _=>x.cps.size<=i⟩
theorem Heap.IsStrIter.at'{h h':Heap}{a ty x t i}(y:h.IsStrIter a ty x t i)(e:∀o,h.get? a=some o->h'.get? a=some o):h'.IsStrIter a ty x t i:=let⟨o,ho,r⟩:=y; ⟨o,e _ ho,r⟩
theorem Sb{P:Program}{w:World}{K:Frag}{tg:Expr}(it:Addr)(x:Str)(t:Tok)(ty:String)(hty:ty = "str_ascii_iterator" \/ ty = "str_iterator"):Turn P w K tg (Its x) [it] it (fun i h=>h.IsStrIter it ty x t i) where
 mem:=by simp
 obj:=fun i h st b hb=>by
  have e:b=it:=by simpa using hb
  subst e;obtain⟨o,e,c,d⟩:=st;exact⟨o,e,fun v z=>by rw[d] at z; cases z⟩
 keep:=fun i h h' st k=>Heap.IsStrIter.at' st fun o e=>k it (by simp) o e
 item:=by
  intro X hP hw hK hc i pins s U H E I hf st hg;subst hP hw hK;have hg':i<x.cps.size:=hg;have hx:x.cps[i]? = some x.cps[i]:=by simp[hg']
  obtain⟨f0,f1,f2,f3,f4,f5⟩:=hf it (by simp);have fin:∀h',h'.IsStrIter it ty x t (i+1)->Heap.SameBut it s.heap h'->∃u,some (Value.str ⟨#[x.cps[i]]⟩ s.toks)=some u /\
    wpAny (model X.prog X.w) X.A (letOwnedTupleGo tg (.ref it) u) (fun _ s2=>∃y H',Inv X pins U H' s2/\RelV y u/\(Its x).yld i H y H'/\s2.heap.IsStrIter it ty x t (i+1)/\∀b∈[it],H' b=none) E { s with heap:=h',toks:=s.toks+1 }:=fun h' st' sb=>by
   have I1:Inv X pins U H { s with heap:=h',toks:=s.toks+1 }:=I.turned (fun b o hb e=>(sb.2 b hb).trans e) f0 f1 f3 f4 f5;obtain⟨o,e,c,d⟩:=id st';exact⟨_,rfl,Ow (s:={ s with heap:=h',toks:=s.toks+1 }) e c d (by rcases hty with rfl|rfl<;>decide) ⟨.str ⟨#[x.cps[i]]⟩,H,I1,⟨_,rfl⟩,⟨rfl,_,hx,rfl⟩,st',fun b hb=>(hf b hb).1⟩⟩
  rcases hty with rfl|rfl
  .exact wpAny_pyNext_ascii_item st hx fin
  .exact wpAny_pyNext_wide_item st hx fin
 done:=by
  intro X hP hw hK hc i pins s U H E I hf st hg;subst hP hw hK;have hg':x.cps.size<=i:=hg;have hx:x.cps[i]? = none:=by simp[hg']
  obtain⟨f0,f1,f2,f3,f4,f5⟩:=hf it (by simp);rcases hty with rfl|rfl
  .exact wpAny_pyNext_ascii_end (I.ok.hd hc) st hx fun h' eb=>⟨rfl,I.turned (t':=s.toks) (fun b o hb e=>eb b o hb e) f0 f1 f3 f4 f5⟩
  .exact wpAny_pyNext_wide_end (I.ok.hd hc) st hx fun h' eb=>⟨rfl,I.turned (t':=s.toks) (fun b o hb e=>eb b o hb e) f0 f1 f3 f4 f5⟩
 self:=fun _ _ _ _ _ st h=>by
  rcases hty with rfl|rfl
  .exact wpAny_pyIter_striter_ascii st h
  .exact wpAny_pyIter_striter_wide st h
section
variable{X:Cx}{tg:Expr}
noncomputable def XT(tl:TE):TI:=fun U H R=>tl U H fun x H1=>∃z,x=.str z/\R (Its z) H1
theorem Wy{l:Expr}{tl:TE}(hl:PE X l tl):PI X tg l (XT tl):=by
 intro pins s U H R I h;refine thn (hl pins s U H _ I h) fun v s1 yy=>?_;obtain⟨x,H1,I1,r1,q1⟩:=yy;obtain⟨z,e,q⟩:=q1;subst e;obtain⟨t,rfl⟩:=r1;have fin:∀ty:String,(ty = "str_ascii_iterator" \/ ty = "str_iterator")->PIE X pins U tg R (.ref s1.heap.objs.size) { s1 with heap:=s1.heap.push { cls:=.type ty,data:=.fields #[.str z t,.int 0 0] } }:=fun ty hty=>by
  have I2:Inv X pins U H1 { s1 with heap:=s1.heap.push { cls:=.type ty,data:=.fields #[.str z t,.int 0 0] } }:=I1.kept (t':=s1.toks) fun b o e=>Heap.get?_push_of_some _ e;refine⟨_,[s1.heap.objs.size],_,Its z,H1,rfl,I2,Sb _ z t ty hty,⟨_,Heap.get?_push_size _ rfl,rfl,rfl⟩,fun b hb=>?_,q⟩;have e:b=s1.heap.objs.size:=by simpa using hb
  subst e;exact I1.fpOk (Nat.le_refl _) (I1.hok.fresh (Nat.le_refl _))
 by_cases ha:z.cps.all (· < 128)=true
 .exact wpAny_pyIter_ascii ha (fin _ (.inl rfl))
 .exact wpAny_pyIter_wide (by simpa using ha) (fin _ (.inr rfl))
end
section
variable{X:Cx}
noncomputable def Ed(bs:List Bool):List V:=bs.map V.bl
theorem CS(hc:X.calm=true):Cv X (.builtin "all") (fun xs H Q=>∃p bs,xs=[.ref p]/\SqL X.K H p (Ed bs)/\Q (.bl (bs.all id)) H):=by
 intro pins s U H xs us Q I r h;obtain⟨p,bs,rfl,hq,q⟩:=h;obtain⟨u,rfl,ru⟩:=r.one;cases ru;obtain⟨its,rv,pl,hz⟩:=I.list hq;have hl:=rv.length;refine call_all_walk (wpAny_pyIter_list pl.isList ?_);have hne:p≠s.heap.objs.size:=fun z=>by
  obtain⟨o,e,_⟩:=pl.isList;exact absurd (Heap.lt_size e) (by rw[z]; exact Nat.lt_irrefl _)
 have hlen:its.toArray.size=bs.length:=by rw[List.size_toArray,<- hl]; simp[Ed]
 refine⟨_,_,_,_,_,_,fun i=>(bs[i]?).getD true,rfl,Walks.list (by show X.A.handled=none; exact I.ok.hd hc) s.heap.objs.size p hne its.toArray,⟨⟨_,Heap.get?_push_size _ rfl,rfl,rfl⟩,?_⟩,?_,?_⟩
 .obtain⟨o,e,r⟩:=pl.isList
  exact⟨o,Heap.get?_push_of_some _ e,r⟩
 .intro i v s' Q' E' hv hq'
  have hi:i<its.length:=by
   by_cases hi:i<its.length
   .exact hi
   .have:its.toArray[i]? = none:=by simp; lia
    rw[this] at hv; cases hv
  have hb:i<bs.length:=by simp[Ed] at hl; lia
  obtain⟨u,hu,ru⟩:=rv.get (i:=i) (x:=.bl bs[i]) (by simp[Ed,hb]);have e:v=.bool bs[i]:=by
   have:its.toArray[i]? = some u:=by simpa using hu
   rw[this] at hv;cases hv;exact ru
  subst e;dsimp only at hq';rw[show(bs[i]?).getD true=bs[i] by simp[hb]] at hq';exact wpAny_truthy_bool hq'
 .intro h' tk hk
  have I1:Inv X pins U H { s with heap:=h',toks:=tk }:=I.kept fun b o e=>hk b o (fun z=>by
   have z':b=s.heap.objs.size:=by simpa using z
   exact absurd (Heap.lt_size e) (by rw[z']; exact Nat.lt_irrefl _)) (Heap.get?_push_of_some _ e)
  refine⟨.bl _,H,I1,rfl,?_⟩;have e:(List.range its.toArray.size).all (fun i=>(bs[i]?).getD true)=bs.all id:=by
   rw[hlen,Bool.eq_iff_iff];simp only[List.all_eq_true,List.mem_range,id_eq];constructor
   .intro h b hb
    obtain⟨i,hi,rfl⟩:=List.mem_iff_getElem.mp hb;have:=h i hi;simpa[hi] using this
   .intro h i hi
    simpa[hi] using h bs[i] (List.getElem_mem hi)
  rw[e];exact q
theorem Qn(hc:X.calm=true):Cv X (.builtin "any") (fun xs H Q=>∃p bs,xs=[.ref p]/\SqL X.K H p (Ed bs)/\Q (.bl (bs.any id)) H):=by
 intro pins s U H xs us Q I r h;obtain⟨p,bs,rfl,hq,q⟩:=h;obtain⟨u,rfl,ru⟩:=r.one;cases ru;obtain⟨its,rv,pl,hz⟩:=I.list hq;have hl:=rv.length;refine call_any_walk (wpAny_pyIter_list pl.isList ?_);have hne:p≠s.heap.objs.size:=fun z=>by
  obtain⟨o,e,_⟩:=pl.isList;exact absurd (Heap.lt_size e) (by rw[z]; exact Nat.lt_irrefl _)
 have hlen:its.toArray.size=bs.length:=by rw[List.size_toArray,<- hl]; simp[Ed]
 refine⟨_,_,_,_,_,_,fun i=>(bs[i]?).getD false,rfl,Walks.list (by show X.A.handled=none; exact I.ok.hd hc) s.heap.objs.size p hne its.toArray,⟨⟨_,Heap.get?_push_size _ rfl,rfl,rfl⟩,?_⟩,?_,?_⟩
 .obtain⟨o,e,r⟩:=pl.isList
  exact⟨o,Heap.get?_push_of_some _ e,r⟩
 .intro i v s' Q' E' hv hq'
  have hi:i<its.length:=by
   by_cases hi:i<its.length
   .exact hi
   .have:its.toArray[i]? = none:=by simp; lia
    rw[this] at hv; cases hv
  have hb:i<bs.length:=by simp[Ed] at hl; lia
  obtain⟨u,hu,ru⟩:=rv.get (i:=i) (x:=.bl bs[i]) (by simp[Ed,hb]);have e:v=.bool bs[i]:=by
   have:its.toArray[i]? = some u:=by simpa using hu
   rw[this] at hv;cases hv;exact ru
  subst e;dsimp only at hq';rw[show(bs[i]?).getD false=bs[i] by simp[hb]] at hq';exact wpAny_truthy_bool hq'
 .intro h' tk hk
  have I1:Inv X pins U H { s with heap:=h',toks:=tk }:=I.kept fun b o e=>hk b o (fun z=>by
   have z':b=s.heap.objs.size:=by simpa using z
   exact absurd (Heap.lt_size e) (by rw[z']; exact Nat.lt_irrefl _)) (Heap.get?_push_of_some _ e)
  refine⟨.bl _,H,I1,rfl,?_⟩;have e:(List.range its.toArray.size).any (fun i=>(bs[i]?).getD false)=bs.any id:=by
   rw[hlen,Bool.eq_iff_iff];simp only[List.any_eq_true,List.mem_range,id_eq];constructor
   .rintro ⟨i,hi,h⟩
    exact⟨bs[i],List.getElem_mem hi,by simpa[hi] using h⟩
   .rintro ⟨b,hb,h⟩
    obtain⟨i,hi,rfl⟩:=List.mem_iff_getElem.mp hb;exact⟨i,hi,by simpa[hi] using h⟩
  rw[e];exact q
end
section
variable{X:Cx}{e:Expr}{te:TE}{p q pos:Pos}{x:Str}{T:String}
noncomputable def Nc(H:Hp):V->Option String
 | .non=>some "NoneType"
 | .bl _=>some "bool"
 | .int _=>some "int"
 | .str _=>some "str"
 | .ref a=>match H a with
  | some (.lst _)=>some "list"
  | some (.tup _)=>some "tuple"
  | _=>none
 | _=>none
theorem Us{K:Frag}{H:Hp}{v:V}{t:String}(h:Nc H v=some t):TyOf K H v (.type t):=by
 cases v with
 | non=>cases h; exact .non
 | bl b=>cases h; exact .bl b
 | int i=>cases h; exact .int i
 | str z=>cases h; exact .str z
 | ref a =>
  unfold Nc at h;dsimp only at h;split at h
  .rename_i e; cases h; exact .lst e
  .rename_i e; cases h; exact .tup e
  .cases h
 | _=>cases h
end
inductive RepA (N:Addr->Prop) (H:Hp):V->D->Prop where
 | non:RepA N H .non .non
 | bl (b:Bool):RepA N H (.bl b) (.bl b)
 | int (i:Int):RepA N H (.int i) (.int i)
 | str (x:Str) (hx:x.length<=sizeLine):RepA N H (.str x) (.str x)
 | lst {a:Addr} {vs:List V} {ds:List D} (h:H a=some (.lst vs)) (hz:vs.length<=sizeLine) (hn:¬N a) (hl:vs.length=ds.length) (hr:∀(i:Nat) v d,vs[i]? = some v->ds[i]? = some d->RepA N H v d):RepA N H (.ref a) (.lst ds)
 | tup {a:Addr} {vs:List V} {ds:List D} (h:H a=some (.tup vs)) (hz:vs.length<=sizeLine) (hl:vs.length=ds.length) (hr:∀(i:Nat) v d,vs[i]? = some v->ds[i]? = some d->RepA N H v d):RepA N H (.ref a) (.tup ds)
noncomputable abbrev Rep:=RepA fun _=>False
noncomputable def XB(N:Addr->Prop)(H H':Hp):Prop:=∀b o,¬N b->H b=some o->H' b=some o
theorem RepA.same{N:Addr->Prop}{H H':Hp}(k:XB N H H')(t:∀b xs,H b=some (.tup xs)->H' b=some (.tup xs)){v:V}{d:D}(r:RepA N H v d):RepA N H' v d:=by
 induction r with
 | non=>exact .non
 | bl b=>exact .bl b
 | int i=>exact .int i
 | str x hx=>exact .str x hx
 | lst h hz hn hl _ ih=>exact .lst (k _ _ hn h) hz hn hl fun i v d e1 e2=>ih i v d e1 e2
 | tup h hz hl _ ih=>exact .tup (t _ _ h) hz hl fun i v d e1 e2=>ih i v d e1 e2
theorem RepA.grow{N:Addr->Prop}{H H':Hp}(k:Gf H H'){v:V}{d:D}(r:RepA N H v d):RepA N H' v d:=r.same (fun b o _ e=>k b o e) fun b xs e=>k b _ e
theorem RepA.weak{N N':Addr->Prop}{H:Hp}(hn:∀a,N' a->N a){v:V}{d:D}(r:RepA N H v d):RepA N' H v d:=by
 induction r with
 | non=>exact .non
 | bl b=>exact .bl b
 | int i=>exact .int i
 | str x hx=>exact .str x hx
 | lst h hz n hl _ ih=>exact .lst h hz (fun z=>n (hn _ z)) hl ih
 | tup h hz hl _ ih=>exact .tup h hz hl ih
theorem RepA.rep{N:Addr->Prop}{H:Hp}{v:V}{d:D}(r:RepA N H v d):Rep H v d:=r.weak fun _ z=>z.elim
theorem RepA.inj{N N':Addr->Prop}{H:Hp}{v:V}{d e:D}(r:RepA N H v d)(q:RepA N' H v e):d=e:=by
 induction r generalizing e with
 | non=>cases q; rfl
 | bl b=>cases q; rfl
 | int i=>cases q; rfl
 | str x=>cases q; rfl
 | lst h hz hn hl hr ih =>
  cases q with
  | lst h' hz' hn' hl' hr' =>
   rw[h] at h'; cases h';congr 1;refine List.ext_getElem? fun i=>?_;rename_i vs ds es;by_cases hi:i<vs.length
   .have e1:ds[i]? = some ds[i]:=by simp[<- hl,hi]
    have e2:es[i]? = some es[i]:=by simp[<- hl',hi]
    rw[e1,e2,ih i vs[i] ds[i] (by simp[hi]) e1 (hr' i vs[i] es[i] (by simp[hi]) e2)]
   .rw[List.getElem?_eq_none (by omega),List.getElem?_eq_none (by omega)]
  | tup h'=>rw[h] at h'; cases h'
 | tup h hz hl hr ih =>
  cases q with
  | tup h' hz' hl' hr' =>
   rw[h] at h'; cases h';congr 1;refine List.ext_getElem? fun i=>?_;rename_i vs ds es;by_cases hi:i<vs.length
   .have e1:ds[i]? = some ds[i]:=by simp[<- hl,hi]
    have e2:es[i]? = some es[i]:=by simp[<- hl',hi]
    rw[e1,e2,ih i vs[i] ds[i] (by simp[hi]) e1 (hr' i vs[i] es[i] (by simp[hi]) e2)]
   .rw[List.getElem?_eq_none (by omega),List.getElem?_eq_none (by omega)]
  | lst h'=>rw[h] at h'; cases h'
structure Def (P:Program) (w:World) (K:Frag) (mg:Str->Option Value) (base:Heap) (CX:CXT) (k:Nat) (x:Str) (ps:List Str) (sp:Sp):Prop where
 ex:∃(f:Addr) (fd:FuncData),mg x=some (.ref f)/\PySem.W.keepIn K (.ref f)=true/\Binds K fd ps []/\FnOk P w K mg base CX k f fd ps sp
section
variable{X:Cx}
theorem Wg{CX:CXT}{k j:Nat}{x:Str}{ps:List Str}{sp:Sp}{E:XK}{p pos:Pos}{e:Expr}{es:List Expr}{t:TA}(D:Def X.prog X.w X.K X.mg X.base CX k x ps sp)(hr:Room j X.A)(hkj:k<=j)(hx:Passes CX X E)(ha:PA X (e::es) t)(hg:Gl X x:=by rfl)(hdb:(x==("__debug__" : Str))=false:=by decide +kernel)(he:starEach (e::es) X.env=(false,eval e X.env)::starEach es X.env:=by rfl)(hpl:(backTo pos (starEach es X.env)).any (·.1)=false:=by rfl):PE X (.Call (.Name x p) (e::es) [] pos) (R0 sp [] E t):=by
 obtain⟨f,fd,a,b,c,d⟩:=D.ex;exact Tj d (hr.mono hkj) hg a b c .nil hx ha hdb he hpl
end
noncomputable def isI(t T:String):Bool:=t==T || (t == "bool" && T == "int")
theorem Pr{K:Frag}{t T:String}(ht:t∈["NoneType","bool","int","str","list","tuple"])(hT:T∈["int","bool","tuple","list","str"]):PySem.W.kitOne K (.type t) (.type T)=some (isI t T):=by
 simp only[List.mem_cons,List.not_mem_nil,or_false] at ht hT;rcases ht with rfl|rfl|rfl|rfl|rfl|rfl<;>rcases hT with rfl|rfl|rfl|rfl|rfl <;>
  kernel_rfl
theorem Sf{H:Hp}{v:V}{t:String}(h:Nc H v=some t):t∈["NoneType","bool","int","str","list","tuple"]:=by
 cases v with
 | non=>cases h; simp
 | bl b=>cases h; simp
 | int i=>cases h; simp
 | str z=>cases h; simp
 | ref a =>
  unfold Nc at h;dsimp only at h;split at h
  .cases h; simp
  .cases h; simp
  .cases h
 | _=>cases h
section
variable{X:Cx}
theorem Qo:Cv X (.builtin "isinstance") (fun xs H Q=>∃x t T,xs=[x,.ty T]/\Nc H x=some t/\T∈["int","bool","tuple","list","str"]/\Q (.bl (isI t T)) H):=by
 intro pins s U H xs us Q I r h;obtain⟨x,t,T,rfl,ht,hT,q⟩:=h;obtain⟨u,v,rfl,ru,rv⟩:=r.two;cases rv;exact Pl I ru (Us ht) (Pr (Sf ht) hT) fun tk=>⟨.bl _,H,I.tok tk,rfl,q⟩
end
noncomputable def GW:D->String
 | .non => "NoneType"
 | .bl _ => "bool"
 | .int _ => "int"
 | .str _ => "str"
 | .lst _ => "list"
 | .tup _ => "tuple"
theorem RepA.typ{N:Addr->Prop}{H:Hp}{v:V}{d:D}(r:RepA N H v d):Nc H v=some (GW d):=by
 cases r with
 | non=>rfl
 | bl b=>rfl
 | int i=>rfl
 | str x=>rfl
 | lst h=>simp only[Nc,h,GW]
 | tup h=>simp only[Nc,h,GW]
mutual
noncomputable def eqD:D->D->Bool
 | .non,.non=>true
 | .bl a,.bl b=>a==b
 | .bl a,.int b=>(if a then 1 else 0)==b
 | .int a,.bl b=>a==(if b then 1 else 0)
 | .int a,.int b=>a==b
 | .str a,.str b=>a==b
 | .lst xs,.lst ys=>EU xs ys
 | .tup xs,.tup ys=>EU xs ys
 | _,_=>false
noncomputable def EU:List D->List D->Bool
 | [],[]=>true
 | x::xs,y::ys=>eqD x y&&EU xs ys
 | _,_=>false
end
theorem IC(x y:List D):eqD (.lst x) (.lst y)=EU x y:=rfl
theorem Hy(x y:List D):eqD (.tup x) (.tup y)=EU x y:=rfl
theorem IB(x y:Int):eqD (.int x) (.int y)=(x==y):=rfl
theorem Je(x y:Str):eqD (.str x) (.str y)=(x==y):=rfl
theorem KG(x y:Bool):eqD (.bl x) (.bl y)=(x==y):=rfl
theorem Nx(x y:D)(xs ys:List D):EU (x::xs) (y::ys)=(eqD x y&&EU xs ys):=rfl
theorem DD:∀{xs ys:List D},EU xs ys=true->xs.length=ys.length
 | [],[],_=>rfl
 | [],_::_,h=>nomatch h
 | _::_,[],h=>nomatch h
 | x::xs,y::ys,h=>by
  rw[Nx,Bool.and_eq_true] at h;simp[DD h.2]
theorem DC:∀{xs ys:List D},xs.length=ys.length->EU xs ys=(List.range xs.length).all fun i=>eqD (xs.getD i .non) (ys.getD i .non)
 | [],[],_=>rfl
 | x::xs,y::ys,h=>by
  have ih:=DC (xs:=xs) (ys:=ys) (by simpa using h);rw[Nx,ih,List.length_cons,List.range_succ_eq_map,List.all_cons,List.all_map];rfl
mutual
theorem BC:∀d,eqD d d=true
 | .non=>rfl
 | .bl a=>by rw[KG]; exact beq_self_eq_true a
 | .int a=>by rw[IB]; exact beq_self_eq_true a
 | .str a=>by rw[Je]; exact beq_self_eq_true a
 | .lst xs=>Ie xs
 | .tup xs=>Ie xs
theorem Ie:∀ds,EU ds ds=true
 | []=>rfl
 | d::ds=>by rw[Nx,BC d,Ie ds]; rfl
end
section
variable{P:Program}{w:World}{H:Hp}{s:Shared}{N N':Addr->Prop}
theorem A1(hok:HOk P w H s.heap){a:Addr}{vs:List V}(h:H a=some (.lst vs)):∃its:List Value,Vals vs its/\s.heap.IsList a its.toArray:=by
 obtain⟨z,its,n,r,e⟩:=hok a _ h;exact⟨its,r,_,e,rfl,_,rfl⟩
theorem Be(hok:HOk P w H s.heap){a:Addr}{vs:List V}(h:H a=some (.tup vs)):∃its:List Value,Vals vs its/\s.heap.IsTuple a its.toArray:=by
 obtain⟨z,its,r,p⟩:=hok a _ h;exact⟨its,r,p⟩
theorem Fx{A:Around}{vs vs':List V}{its its':List Value}{ds es:List D}(r:Vals vs its)(r':Vals vs' its')(hl:vs.length=ds.length)(hl':vs'.length=es.length)(f:∀(i:Nat) v d v' e u u',vs[i]? = some v->ds[i]? = some d->vs'[i]? = some v'->es[i]? = some e->RelV v u->RelV v' u'->SeqAt.EqAt A s u u' (eqD d e)):
  ∀j (h1:j<its.toArray.size) (h2:j<its'.toArray.size),SeqAt.EqAt A s its.toArray[j] its'.toArray[j] (eqD (ds.getD j .non) (es.getD j .non)):=fun j h1 h2=>by
 have e1:=r.length;have e2:=r'.length;have h1':j<its.length:=by simpa using h1
 have h2':j<its'.length:=by simpa using h2
 have b1:j<vs.length:=by lia
 have b2:j<vs'.length:=by lia
 have b3:j<ds.length:=by lia
 have b4:j<es.length:=by lia
 obtain⟨u,hu,ru⟩:=r.get (i:=j) (x:=vs[j]) (by simp);obtain⟨u',hu',ru'⟩:=r'.get (i:=j) (x:=vs'[j]) (by simp);have q:=f j _ (ds[j]) _ (es[j]) u u' (by simp) (by simp) (by simp) (by simp) ru ru';have g1:its.toArray[j]=u:=by
  have:its[j]? = some (its[j]):=by simp[h1']
  rw[this] at hu;simpa using hu
 have g2:its'.toArray[j]=u':=by
  have:its'[j]? = some (its'[j]):=by simp[h2']
  rw[this] at hu';simpa using hu'
 rw[g1,g2];have g3:ds.getD j .non=ds[j]:=by simp[List.getD,b3]
 have g4:es.getD j .non=es[j]:=by simp[List.getD,b4]
 rw[g3,g4];exact q
theorem lt0{a n c:Nat}(h:a+n<c):a<c:=by lia
theorem lt1{a n c:Nat}(h:a+(n+1)<c):a+1+n<c:=by lia
theorem Ic(hok:HOk P w H s.heap){x:V}{d:D}(r:RepA N H x d):∀{A:Around} {n:Nat} {y:V} {e:D} {v u:Value},RepA N' H y e->RelV x v->RelV y u->Sh n d->A.units+n<cLine->SeqAt.EqAt A s v u (eqD d e):=by
 induction r with
 | non =>
  intro A n y e v u q rx ry _ hu;cases rx;cases q with
  | non=>cases ry; exact SeqAt.EqAt.same _
  | bl b=>cases ry; exact SeqAt.EqAt.none_bool b
  | int b=>obtain⟨t,rfl⟩:=ry; exact SeqAt.EqAt.none_int b t
  | str b=>obtain⟨t,rfl⟩:=ry; exact SeqAt.EqAt.none_str b t
  | lst h=>cases ry; obtain⟨its,_,hl⟩:=A1 hok h; exact SeqAt.EqAt.none_list hl (lt0 hu)
  | tup h=>cases ry; obtain⟨its,_,hl⟩:=Be hok h; exact SeqAt.EqAt.none_tuple hl (lt0 hu)
 | bl a =>
  intro A n y e v u q rx ry _ hu;cases rx;cases q with
  | non=>cases ry; exact SeqAt.EqAt.bool_none a
  | bl b=>cases ry; exact SeqAt.EqAt.bool_bool a b
  | int b=>obtain⟨t,rfl⟩:=ry; exact SeqAt.EqAt.bool_int a b t
  | str b=>obtain⟨t,rfl⟩:=ry; exact SeqAt.EqAt.bool_str a b t
  | lst h=>cases ry; obtain⟨its,_,hl⟩:=A1 hok h; exact SeqAt.EqAt.bool_list a hl (lt0 hu)
  | tup h=>cases ry; obtain⟨its,_,hl⟩:=Be hok h; exact SeqAt.EqAt.bool_tuple a hl (lt0 hu)
 | int a =>
  intro A n y e v u q rx ry _ hu;obtain⟨t',rfl⟩:=rx;cases q with
  | non=>cases ry; exact SeqAt.EqAt.int_none a t'
  | bl b=>cases ry; exact SeqAt.EqAt.int_bool a t' b
  | int b=>obtain⟨t,rfl⟩:=ry; exact SeqAt.EqAt.int_int a t' b t
  | str b=>obtain⟨t,rfl⟩:=ry; exact SeqAt.EqAt.int_str a t' b t
  | lst h=>cases ry; obtain⟨its,_,hl⟩:=A1 hok h; exact SeqAt.EqAt.int_list a t' hl (lt0 hu)
  | tup h=>cases ry; obtain⟨its,_,hl⟩:=Be hok h; exact SeqAt.EqAt.int_tuple a t' hl (lt0 hu)
 | str a =>
  intro A n y e v u q rx ry _ hu;obtain⟨t',rfl⟩:=rx;cases q with
  | non=>cases ry; exact SeqAt.EqAt.str_none a t'
  | bl b=>cases ry; exact SeqAt.EqAt.str_bool a t' b
  | int b=>obtain⟨t,rfl⟩:=ry; exact SeqAt.EqAt.str_int a t' b t
  | str b=>obtain⟨t,rfl⟩:=ry; exact SeqAt.EqAt.str_str a t' b t
  | lst h=>cases ry; obtain⟨its,_,hl⟩:=A1 hok h; exact SeqAt.EqAt.str_list a t' hl (lt0 hu)
  | tup h=>cases ry; obtain⟨its,_,hl⟩:=Be hok h; exact SeqAt.EqAt.str_tuple a t' hl (lt0 hu)
 | @lst a vs ds h hz hn hl hr ih =>
  intro A n y e v u q rx ry hs hu;cases rx;obtain⟨its,rv,hil⟩:=A1 hok h;cases hs with
  | @lst n _ hs =>
   cases q with
   | non=>cases ry; exact SeqAt.EqAt.list_none hil (lt0 hu)
   | bl b=>cases ry; exact SeqAt.EqAt.list_bool b hil (lt0 hu)
   | int b=>obtain⟨t,rfl⟩:=ry; exact SeqAt.EqAt.list_int b t hil (lt0 hu)
   | str b=>obtain⟨t,rfl⟩:=ry; exact SeqAt.EqAt.list_str b t hil (lt0 hu)
   | @lst a' vs' es h' hz' hn' hl' hr' =>
    cases ry;by_cases hab:a=a'
    .subst hab
     have e:=(RepA.lst h hz hn hl hr).inj (RepA.lst h' hz' hn' hl' hr');cases e;rw[BC];exact SeqAt.EqAt.same _
    .obtain⟨its',rv',hil'⟩:=A1 hok h'
     have l1:=rv.length;have l2:=rv'.length;refine SeqAt.EqAt.of_refs hab ?_;rw[IC];by_cases hlen:ds.length=es.length
     .rw[DC hlen,show ds.length=its.toArray.size by simp; lia]
      refine SeqAt.RcAt.lists hil hil' (by simp; lia) (lt0 hu) (Fx rv rv' hl hl' fun i v d v' e u u' e1 e2 e3 e4 ru ru'=>?_);exact ih i v d e1 e2 (hr' i v' e e3 e4) ru ru' (hs d (List.mem_of_getElem? e2)) (lt1 hu)
     .have:EU ds es=false:=by
       cases q:EU ds es with
       | false=>rfl
       | true=>exact absurd (DD q) hlen
      rw[this];exact SeqAt.RcAt.lists_lengths hil hil' (by simp; lia) (lt0 hu)
   | tup h' =>
    cases ry;obtain⟨its',_,hl'⟩:=Be hok h';exact SeqAt.EqAt.list_tuple hil hl' (lt0 hu)
 | @tup a vs ds h hz hl hr ih =>
  intro A n y e v u q rx ry hs hu;cases rx;obtain⟨its,rv,hil⟩:=Be hok h;cases hs with
  | @tup n _ hs =>
   cases q with
   | non=>cases ry; exact SeqAt.EqAt.tuple_none hil (lt0 hu)
   | bl b=>cases ry; exact SeqAt.EqAt.tuple_bool b hil (lt0 hu)
   | int b=>obtain⟨t,rfl⟩:=ry; exact SeqAt.EqAt.tuple_int b t hil (lt0 hu)
   | str b=>obtain⟨t,rfl⟩:=ry; exact SeqAt.EqAt.tuple_str b t hil (lt0 hu)
   | @tup a' vs' es h' hz' hl' hr' =>
    cases ry;by_cases hab:a=a'
    .subst hab
     have e:=(RepA.tup (N:=N) h hz hl hr).inj (RepA.tup h' hz' hl' hr');cases e;rw[BC];exact SeqAt.EqAt.same _
    .obtain⟨its',rv',hil'⟩:=Be hok h'
     have l1:=rv.length;have l2:=rv'.length;refine SeqAt.EqAt.of_refs hab ?_;have q:=SeqAt.RcAt.tuples (A:=A) hil hil' (lt0 hu) (Fx rv rv' hl hl' fun i v d v' e u u' e1 e2 e3 e4 ru ru'=>ih i v d e1 e2 (hr' i v' e e3 e4) ru ru' (hs d (List.mem_of_getElem? e2)) (lt1 hu));rw[Hy];by_cases hlen:ds.length=es.length
     .have e1:(its.toArray.size==its'.toArray.size)=true:=by simp; lia
      have e2:min its.toArray.size its'.toArray.size=ds.length:=by simp; lia
      rw[e1,e2,Bool.and_true,<- DC hlen] at q;exact q
     .have e1:(its.toArray.size==its'.toArray.size)=false:=by simp; lia
      have e3:EU ds es=false:=by
       cases q:EU ds es with
       | false=>rfl
       | true=>exact absurd (DD q) hlen
      rw[e1,Bool.and_false] at q;rw[e3];exact q
   | lst h' =>
    cases ry;obtain⟨its',_,hl'⟩:=A1 hok h';exact SeqAt.EqAt.tuple_list hil hl' (lt0 hu)
theorem WM(hok:HOk P w H s.heap){A:Around}{n:Nat}{x y:V}{d e:D}{v u:Value}(r:RepA N H x d)(q:RepA N' H y e)(rx:RelV x v)(ry:RelV y u)(hs:Sh n d)(hu:A.units+n<cLine):SeqAt.RcAt A s v u (eqD d e):=by
 cases r with
 | non =>
  cases rx;cases q with
  | non=>cases ry; exact SeqAt.RcAt.none_none
  | bl b=>cases ry; exact SeqAt.RcAt.none_bool b
  | int b=>obtain⟨t,rfl⟩:=ry; exact SeqAt.RcAt.none_int b t
  | str b=>obtain⟨t,rfl⟩:=ry; exact SeqAt.RcAt.none_str b t
  | lst h=>cases ry; obtain⟨its,_,hl⟩:=A1 hok h; exact SeqAt.RcAt.none_list hl (lt0 hu)
  | tup h=>cases ry; obtain⟨its,_,hl⟩:=Be hok h; exact SeqAt.RcAt.none_tuple hl (lt0 hu)
 | bl a =>
  cases rx;cases q with
  | non=>cases ry; exact SeqAt.RcAt.bool_none a
  | bl b=>cases ry; exact SeqAt.RcAt.bool_bool a b
  | int b=>obtain⟨t,rfl⟩:=ry; exact SeqAt.RcAt.bool_int a b t
  | str b=>obtain⟨t,rfl⟩:=ry; exact SeqAt.RcAt.bool_str a b t
  | lst h=>cases ry; obtain⟨its,_,hl⟩:=A1 hok h; exact SeqAt.RcAt.bool_list a hl (lt0 hu)
  | tup h=>cases ry; obtain⟨its,_,hl⟩:=Be hok h; exact SeqAt.RcAt.bool_tuple a hl (lt0 hu)
 | int a =>
  obtain⟨t',rfl⟩:=rx;cases q with
  | non=>cases ry; exact SeqAt.RcAt.int_none a t'
  | bl b=>cases ry; exact SeqAt.RcAt.int_bool a t' b
  | int b=>obtain⟨t,rfl⟩:=ry; exact SeqAt.RcAt.int_int a t' b t
  | str b=>obtain⟨t,rfl⟩:=ry; exact SeqAt.RcAt.int_str a t' b t
  | lst h=>cases ry; obtain⟨its,_,hl⟩:=A1 hok h; exact SeqAt.RcAt.int_list a t' hl (lt0 hu)
  | tup h=>cases ry; obtain⟨its,_,hl⟩:=Be hok h; exact SeqAt.RcAt.int_tuple a t' hl (lt0 hu)
 | str a =>
  obtain⟨t',rfl⟩:=rx;cases q with
  | non=>cases ry; exact SeqAt.RcAt.str_none a t'
  | bl b=>cases ry; exact SeqAt.RcAt.str_bool a t' b
  | int b=>obtain⟨t,rfl⟩:=ry; exact SeqAt.RcAt.str_int a t' b t
  | str b=>obtain⟨t,rfl⟩:=ry; exact SeqAt.RcAt.str_str a t' b t
  | lst h=>cases ry; obtain⟨its,_,hl⟩:=A1 hok h; exact SeqAt.RcAt.str_list a t' hl (lt0 hu)
  | tup h=>cases ry; obtain⟨its,_,hl⟩:=Be hok h; exact SeqAt.RcAt.str_tuple a t' hl (lt0 hu)
 | @lst a vs ds h hz hn hl hr =>
  cases rx;obtain⟨its,rv,hil⟩:=A1 hok h;cases hs with
  | @lst n _ hs =>
   cases q with
   | non=>cases ry; exact SeqAt.RcAt.list_none hil (lt0 hu)
   | bl b=>cases ry; exact SeqAt.RcAt.list_bool b hil (lt0 hu)
   | int b=>obtain⟨t,rfl⟩:=ry; exact SeqAt.RcAt.list_int b t hil (lt0 hu)
   | str b=>obtain⟨t,rfl⟩:=ry; exact SeqAt.RcAt.list_str b t hil (lt0 hu)
   | @lst a' vs' es h' hz' hn' hl' hr' =>
    cases ry;obtain⟨its',rv',hil'⟩:=A1 hok h';have l1:=rv.length;have l2:=rv'.length;rw[IC];by_cases hlen:ds.length=es.length
    .rw[DC hlen,show ds.length=its.toArray.size by simp; lia]
     refine SeqAt.RcAt.lists hil hil' (by simp; lia) (lt0 hu) (Fx rv rv' hl hl' fun i v d v' e u u' e1 e2 e3 e4 ru ru'=>?_);exact Ic hok (hr i v d e1 e2) (hr' i v' e e3 e4) ru ru' (hs d (List.mem_of_getElem? e2)) (lt1 hu)
    .have:EU ds es=false:=by
      cases q:EU ds es with
      | false=>rfl
      | true=>exact absurd (DD q) hlen
     rw[this];exact SeqAt.RcAt.lists_lengths hil hil' (by simp; lia) (lt0 hu)
   | tup h' =>
    cases ry;obtain⟨its',_,hl'⟩:=Be hok h';exact SeqAt.RcAt.list_tuple hil hl' (lt0 hu)
 | @tup a vs ds h hz hl hr =>
  cases rx;obtain⟨its,rv,hil⟩:=Be hok h;cases hs with
  | @tup n _ hs =>
   cases q with
   | non=>cases ry; exact SeqAt.RcAt.tuple_none hil (lt0 hu)
   | bl b=>cases ry; exact SeqAt.RcAt.tuple_bool b hil (lt0 hu)
   | int b=>obtain⟨t,rfl⟩:=ry; exact SeqAt.RcAt.tuple_int b t hil (lt0 hu)
   | str b=>obtain⟨t,rfl⟩:=ry; exact SeqAt.RcAt.tuple_str b t hil (lt0 hu)
   | @tup a' vs' es h' hz' hl' hr' =>
    cases ry;obtain⟨its',rv',hil'⟩:=Be hok h';have l1:=rv.length;have l2:=rv'.length;have q:=SeqAt.RcAt.tuples (A:=A) hil hil' (lt0 hu) (Fx rv rv' hl hl' fun i v d v' e u u' e1 e2 e3 e4 ru ru'=>Ic hok (hr i v d e1 e2) (hr' i v' e e3 e4) ru ru' (hs d (List.mem_of_getElem? e2)) (lt1 hu))
    rw[Hy];by_cases hlen:ds.length=es.length
    .have e1:(its.toArray.size==its'.toArray.size)=true:=by simp; lia
     have e2:min its.toArray.size its'.toArray.size=ds.length:=by simp; lia
     rw[e1,e2,Bool.and_true,<- DC hlen] at q;exact q
    .have e1:(its.toArray.size==its'.toArray.size)=false:=by simp; lia
     have e3:EU ds es=false:=by
      cases q:EU ds es with
      | false=>rfl
      | true=>exact absurd (DD q) hlen
     rw[e1,Bool.and_false] at q;rw[e3];exact q
   | lst h' =>
    cases ry;obtain⟨its',_,hl'⟩:=A1 hok h';exact SeqAt.RcAt.tuple_list hil hl' (lt0 hu)
end
section
variable{X:Cx}{k:Nat}
theorem BK(hr:Room k X.A):OpR X (compareOp .Eq) (fun x y H Q=>∃d e,Rep H x d/\Rep H y e/\Sh 16 d/\Q (.bl (eqD d e)) H):=by
 intro pins s U H x y v u Q I rx ry h;obtain⟨d,e,r1,r2,hs,q⟩:=h;exact EqBoolInt.of_rc (WM I.hok r1 r2 rx ry hs (by have:=hr.units; lia)) ⟨.bl _,H,I,rfl,q⟩
end
section
variable{P:Program}{w:World}{K:Frag}{mg:Str->Option Value}{base:Heap}{N:List Str}{qual:Str}{scope:Scope}{f:Addr}{cd:Value}{A:Around}{outer:List Env}{s:Shared}{H:Hp}{E E':XK}
end
section
variable{P:Program}{w:World}{K:Frag}{mg:Str->Option Value}{base:Heap}{N:List Str}{qual:Str}{scope:Scope}{f:Addr}{cd:Value}{A:Around}{outer:List Env}{s:Shared}{H:Hp}{E:XK}
end
structure Blt (mg:Str->Option Value) (K:Frag):Prop where
 isinstance:mg "isinstance" = none
 len:mg "len" = none
 all:mg "all" = none
 any:mg "any" = none
 range:mg "range" = none
 list:mg "list" = none
 int:mg "int" = none
 bool:mg "bool" = none
 tuple:mg "tuple" = none
 str:mg "str" = none
 abs:mg "abs" = none
 max:mg "max" = none
 min:mg "min" = none
 dict:mg "dict" = none
section
variable{X:Cx}{x:Str}{p pos:Pos}{e:Expr}{es:List Expr}{t:TA}{id T:String}{r:List V->Hp->VK->Prop}
theorem PK(hc:Cv X (.builtin id) r)(hm:X.mg x=none)(hv:bootBuiltins x=some (.builtin id))(hn:x ≠ "__name__")(hdb:(x==("__debug__" : Str))=false)(hg:Gl X x)(he:starEach (e::es) X.env=(false,eval e X.env)::starEach es X.env)(hpl:(backTo pos (starEach es X.env)).any (·.1)=false)(ha:PA X (e::es) t):PE X (.Call (.Name x p) (e::es) [] pos) (tCB r t):=MX hc hg hm hv ha hn hdb he hpl
theorem PL(hc:Cv X (.type T) r)(hm:X.mg x=none)(hv:bootBuiltins x=some (.type T))(hn:x ≠ "__name__")(hdb:(x==("__debug__" : Str))=false)(hg:Gl X x)(he:starEach (e::es) X.env=(false,eval e X.env)::starEach es X.env)(hpl:(backTo pos (starEach es X.env)).any (·.1)=false)(ha:PA X (e::es) t):PE X (.Call (.Name x p) (e::es) [] pos) (tCB r t):=PM hc hg hm hv ha hn hdb he hpl
theorem TB{t:TE}(he:∀whole,isTrue e X.env whole=(do let v <- whole; standAt e.pos; holding [v] (truthy v)))(h:PE X e t):PT X e (tB t):=WH h he
end
section
variable{X:Cx}{p pos:Pos}{e:Expr}{es:List Expr}{t:TA}
noncomputable def isInt:D->Bool
 | .int _=>true
 | .bl _=>true
 | .non | .str _ | .lst _ | .tup _=>false
noncomputable def isBool:D->Bool
 | .bl _=>true
 | .non | .int _ | .str _ | .lst _ | .tup _=>false
noncomputable def IE:D->Bool
 | .lst _=>true
 | .non | .bl _ | .int _ | .str _ | .tup _=>false
noncomputable def isTup:D->Bool
 | .tup _=>true
 | .non | .bl _ | .int _ | .str _ | .lst _=>false
noncomputable def isStr:D->Bool
 | .str _=>true
 | .non | .bl _ | .int _ | .lst _ | .tup _=>false
noncomputable def rIs(T:String)(f:D->Bool):List V->Hp->VK->Prop:=fun xs H Q=>∃x d,xs=[x,.ty T]/\Rep H x d/\Q (.bl (f d)) H
theorem SE{T:String}{f:D->Bool}(hf:∀d,isI (GW d) T=f d)(hT:T∈["int","bool","tuple","list","str"]):Cv X (.builtin "isinstance") (rIs T f):=by
 intro pins s U H xs us Q I r h;obtain⟨x,d,rfl,rp,q⟩:=h;exact Qo pins s U H _ us Q I r ⟨x,GW d,T,rfl,rp.typ,hT,by rw[hf]; exact q⟩
theorem SU:∀d,isI (GW d) "int" = isInt d:=fun d=>by cases d<;>(simp only[GW,isInt]; decide +kernel)
theorem QO:∀d,isI (GW d) "bool" = isBool d:=fun d=>by cases d<;>(simp only[GW,isBool]; decide +kernel)
theorem QP:∀d,isI (GW d) "list" = IE d:=fun d=>by cases d<;>(simp only[GW,IE]; decide +kernel)
theorem Pk:∀d,isI (GW d) "tuple" = isTup d:=fun d=>by cases d<;>(simp only[GW,isTup]; decide +kernel)
theorem SW:∀d,isI (GW d) "str" = isStr d:=fun d=>by cases d<;>(simp only[GW,isStr]; decide +kernel)
theorem JJ{a:Expr}{ta:TE}{q:Pos}{x:Str}{T:String}{f:D->Bool}(hf:∀d,isI (GW d) T=f d)(hT:T∈["int","bool","tuple","list","str"])(hn:PE X (.Name x q) (tC (.ty T)))(hg:Gl X "isinstance"){K:Frag}(B:Blt X.mg K)(he:starEach [a,.Name x q] X.env=[(false,eval a X.env),(false,eval (.Name x q) X.env)])(he2:starEach [.Name x q] X.env=[(false,eval (.Name x q) X.env)])(ha:PE X a ta):
  PE X (.Call (.Name "isinstance" p) [a,.Name x q] [] pos) (tCB (rIs T f) (Cs ta (Cs (tC (.ty T)) Hl))):=
 MX (SE hf hT) hg B.isinstance PyProof.Rows.Boot.«isinstance» (D6 ha (D6 hn GF he2) (he.trans (by rw[he2]))) dK dK (he.trans (by rw[he2])) (by rw[he2]; rfl)
theorem Wj{a:Expr}{ta:TE}{q:Pos}(hg:Gl X "isinstance")(hg2:Gl X "int"){K:Frag}(B:Blt X.mg K)(he:starEach [a,.Name "int" q] X.env=[(false,eval a X.env),(false,eval (.Name "int" q) X.env)])(he2:starEach [.Name "int" q] X.env=[(false,eval (.Name "int" q) X.env)])(ha:PE X a ta):
  PE X (.Call (.Name "isinstance" p) [a,.Name "int" q] [] pos) (tCB (rIs "int" isInt) (Cs ta (Cs (tC (.ty "int")) Hl))):=JJ SU (by decide) (HP hg2 B.int PyProof.Rows.Boot.«int» rfl dK dK) hg B he he2 ha
theorem Wi{a:Expr}{ta:TE}{q:Pos}(hg:Gl X "isinstance")(hg2:Gl X "bool"){K:Frag}(B:Blt X.mg K)(he:starEach [a,.Name "bool" q] X.env=[(false,eval a X.env),(false,eval (.Name "bool" q) X.env)])(he2:starEach [.Name "bool" q] X.env=[(false,eval (.Name "bool" q) X.env)])(ha:PE X a ta):
  PE X (.Call (.Name "isinstance" p) [a,.Name "bool" q] [] pos) (tCB (rIs "bool" isBool) (Cs ta (Cs (tC (.ty "bool")) Hl))):=JJ QO (by decide) (HP hg2 B.bool PyProof.Rows.Boot.«bool» rfl dK dK) hg B he he2 ha
theorem Wk{a:Expr}{ta:TE}{q:Pos}(hg:Gl X "isinstance")(hg2:Gl X "list"){K:Frag}(B:Blt X.mg K)(he:starEach [a,.Name "list" q] X.env=[(false,eval a X.env),(false,eval (.Name "list" q) X.env)])(he2:starEach [.Name "list" q] X.env=[(false,eval (.Name "list" q) X.env)])(ha:PE X a ta):
  PE X (.Call (.Name "isinstance" p) [a,.Name "list" q] [] pos) (tCB (rIs "list" IE) (Cs ta (Cs (tC (.ty "list")) Hl))):=JJ QP (by decide) (HP hg2 B.list PyProof.Rows.Boot.«list» rfl dK dK) hg B he he2 ha
theorem Wl{a:Expr}{ta:TE}{q:Pos}(hg:Gl X "isinstance")(hg2:Gl X "tuple"){K:Frag}(B:Blt X.mg K)(he:starEach [a,.Name "tuple" q] X.env=[(false,eval a X.env),(false,eval (.Name "tuple" q) X.env)])(he2:starEach [.Name "tuple" q] X.env=[(false,eval (.Name "tuple" q) X.env)])(ha:PE X a ta):
  PE X (.Call (.Name "isinstance" p) [a,.Name "tuple" q] [] pos) (tCB (rIs "tuple" isTup) (Cs ta (Cs (tC (.ty "tuple")) Hl))):=JJ Pk (by decide) (HP hg2 B.tuple PyProof.Rows.Boot.«tuple» rfl dK dK) hg B he he2 ha
theorem Wm{a:Expr}{ta:TE}{q:Pos}(hg:Gl X "isinstance")(hg2:Gl X "str"){K:Frag}(B:Blt X.mg K)(he:starEach [a,.Name "str" q] X.env=[(false,eval a X.env),(false,eval (.Name "str" q) X.env)])(he2:starEach [.Name "str" q] X.env=[(false,eval (.Name "str" q) X.env)])(ha:PE X a ta):
  PE X (.Call (.Name "isinstance" p) [a,.Name "str" q] [] pos) (tCB (rIs "str" isStr) (Cs ta (Cs (tC (.ty "str")) Hl))):=JJ SW (by decide) (HP hg2 B.str PyProof.Rows.Boot.«str» rfl dK dK) hg B he he2 ha
noncomputable def YR(K:Frag):List V->Hp->VK->Prop:=fun xs H Q=>∃p bs,xs=[.ref p]/\SqL K H p (Ed bs)/\Q (.bl (bs.all id)) H
noncomputable def YS(K:Frag):List V->Hp->VK->Prop:=fun xs H Q=>∃p bs,xs=[.ref p]/\SqL K H p (Ed bs)/\Q (.bl (bs.any id)) H
noncomputable def Yd(K:Frag):List V->Hp->VK->Prop:=fun xs H Q=>(∃p ys,xs=[.ref p]/\(SqL K H p ys\/SqT K H p ys)/\Q (.int ys.length) H)\/∃z,xs=[.str z]/\z.length<=sizeLine/\Q (.int z.length) H
end
section
variable{X:Cx}{a b c e:Expr}{ta tb tc:TE}{p pos:Pos}{es:List Expr}{t:TA}{x:Str}
theorem PH:OpR X (compareOp .LtE) (fun x y H Q=>∃i j,x=.str i/\y=.str j/\Q (.bl (!decide (j.cps.toList<i.cps.toList))) H):=by
 intro pins s U H x y v u Q I rx ry h;obtain⟨i,j,rfl,rfl,q⟩:=h;obtain⟨t,rfl⟩:=rx;obtain⟨t',rfl⟩:=ry;exact PySem.P.le_str (Le I q rfl)
noncomputable def YT:R2:=fun x y H Q=>∃d e,Rep H x d/\Rep H y e/\Sh 16 d/\Q (.bl (eqD d e)) H
noncomputable def UW:R2:=fun x y H Q=>(∃i j,x=.int i/\y=.int j/\Q (.bl (decide (i<j))) H)\/∃i j,x=.str i/\y=.str j/\Q (.bl (decide (i.cps.toList<j.cps.toList))) H
noncomputable def UU:R2:=fun x y H Q=>(∃i j,x=.int i/\y=.int j/\Q (.bl (decide (i<=j))) H)\/∃i j,x=.str i/\y=.str j/\Q (.bl (!decide (j.cps.toList<i.cps.toList))) H
theorem HN:OpR X (compareOp .Lt) UW:=X1.or PJ
theorem F0:OpR X (compareOp .LtE) UU:=X0.or PH
noncomputable def PEc(X:Cx)(own:List Str)(scope:Scope)(e:Expr)(t:TE):Prop:=∀C s H fp pins,PE (cxC X own scope C s H fp pins) e t
noncomputable def PTc(X:Cx)(own:List Str)(scope:Scope)(ifs:List Expr)(t:TT):Prop:=∀C s H fp pins,PTs (cxC X own scope C s H fp pins) ifs t
structure Names (N:List Str):Prop where
 nd:N.Nodup
theorem Wo{scope:Scope}{iter elt:Expr}{ifs:List Expr}{px:Pos}{wi:TI}{tt:TT}{te:TE}(hok:Bx [x] X.N scope X.env.scope=true)(hc:X.calm=true){NN:List Str}(hn:Names NN)(hX:X.N=NN)(hx:scope.names.lookup x=some .local)(hs:∀z,foldedSetIterable iter X.env z=pure z)(hi:PI X (.Name x px) iter wi)(ht:PTc X [x] scope ifs tt)(he:PEc X [x] scope elt te):
  PE X (.ListComp elt [⟨.Name x px,iter,ifs,0⟩] scope pos) (tLc wi Si tt te):=by
 have hnx:∀y∈X.N,x≠y:=fun y hy z=>by
  simp only[Bx,Bool.and_eq_true,List.all_eq_true] at hok;have:=hok.2 x (by simp);rw[z] at this;simp[hy] at this
 exact US hc hok hi (fun C s H fp pins=>HQ rfl (List.nodup_cons.mpr ⟨fun z=>hnx x z rfl,by rw[hX]; exact hn.nd⟩) (lookup_relabel_local hx)) ht he hs
structure GInt (mg:Str->Option Value) (x:Str) (n:Int):Prop where
 at_:∃t,mg x=some (.int n t)
theorem Tp{mg:Str->Option Value}{n:Int}(G:GInt mg x n)(hm:X.mg=mg)(hg:Gl X x)(hd:(x==("__debug__" : Str))=false):PE X (.Name x pos) (tC (.int n)):=by
 subst hm;obtain⟨t,e⟩:=G.at_;exact Tq hg e ⟨t,rfl⟩ hd
end
section
variable{P:Program}{w:World}{K:Frag}{mg:Str->Option Value}{base:Heap}
end
noncomputable def glue(ys:List Str):Str:=⟨(ys.map fun y=>y.cps.toList).flatten.toArray⟩
theorem NA(ys:List Str):∀acc:Array Nat,List.foldl (fun(acc:Array Nat) (p:Str)=>acc++(("" : Str)).cps++p.cps) acc ys=acc++((ys.map fun y=>y.cps.toList).flatten.toArray):=by
 induction ys with
 | nil=>intro acc; simp
 | cons y ys ih =>
  intro acc;rw[List.foldl_cons,ih];have e:(("" : Str)).cps = #[]:=by decide +kernel
  rw[e];apply Array.ext';simp
theorem NG(ys:List Str):Txt.join ("" : Str) ys=glue ys:=by
 cases ys with
 | nil=>decide +kernel
 | cons y ys =>
  have e:Txt.join ("" : Str) (y::ys)=⟨List.foldl (fun(acc:Array Nat) (p:Str)=>acc++(("" : Str)).cps++p.cps) y.cps ys⟩:=rfl;rw[e,NA];unfold glue;congr 1;apply Array.ext';simp
section
variable{X:Cx}{a e:Expr}{ta te:TE}{apos cpos:Pos}
theorem JX:∀{ys:List Str} {us:List Value},Vals (ys.map V.str) us->StrsAre us ys
 | [],_,.nil=>.nil
 | _::_,_,.cons ⟨t,e⟩ r=>by subst e; exact .cons _ _ (JX r)
noncomputable def rJoin(K:Frag):V->List V->Hp->VK->Prop:=fun x xs H Q=>∃sep p ys,x=.str sep/\xs=[.ref p]/\SqL K H p (ys.map V.str)/\(ys.map (·.length)).sum+ys.length*sep.length<=16777216/\Q (.str (Txt.join sep ys)) H
theorem S6:MtR X "str.join" (rJoin X.K):=by
 intro pins s U H x xs v us Q I rx rv h;obtain⟨sep,p,ys,rfl,rfl,hq,hz,q⟩:=h;obtain⟨t,rfl⟩:=rx;obtain⟨u,rfl,ru⟩:=rv.one;cases ru;obtain⟨its,r,pl,_⟩:=I.list hq;exact join_list pl.isList (by simpa using JX r) hz fun t' k=>⟨.str _,H,I.tok k,⟨_,rfl⟩,q⟩
noncomputable def NZ:V->List V->Hp->VK->Prop:=fun x xs H Q=>∃z y,x=.str z/\xs=[.str y]/\0<=Txt.find z y/\Q (.int (Txt.find z y)) H
theorem Rb(hc:X.calm=true):MtR X "str.index" NZ:=by
 intro pins s U H x xs v us Q I rx rv h;obtain⟨z,y,rfl,rfl,h0,q⟩:=h;obtain⟨t,rfl⟩:=rx;obtain⟨u,rfl,ru⟩:=rv.one;obtain⟨t',rfl⟩:=ru;exact index_or (I.ok.hd hc) (fun e=>absurd h0 (by lia)) fun _ _=>⟨.int _,H,I.tok _,⟨_,rfl⟩,q⟩
theorem Tr{K:Frag}(hK:X.K=K)(B:Blt X.mg K)(hbase:attributeBase a "join" X.env (eval a X.env)=eval a X.env)(hline:(apos.endLine==cpos.line)=true)(hs:starEach [e] X.env=[(false,eval e X.env)])(ha:PE X a ta)(he:PE X e te):
  PE X (.Call (.Attribute a "join" apos) [e] [] cpos) (tBM K "str" (rJoin K) ta (Cs te Hl)):=by
 subst hK;exact Rw F.plainAttrs_str F.slot_str_join F.type_str_join S6 ha (D6 he GF hs) hbase (by rw[hs]; rfl) hline hs rfl
theorem RA{K:Frag}(hK:X.K=K)(B:Blt X.mg K)(hc:X.calm=true)(hbase:attributeBase a "index" X.env (eval a X.env)=eval a X.env)(hline:(apos.endLine==cpos.line)=true)(hs:starEach [e] X.env=[(false,eval e X.env)])(ha:PE X a ta)(he:PE X e te):
  PE X (.Call (.Attribute a "index" apos) [e] [] cpos) (tBM K "str" NZ ta (Cs te Hl)):=by
 subst hK;exact Rw F.plainAttrs_str F.slot_str_index F.type_str_index (Rb hc) ha (D6 he GF hs) hbase (by rw[hs]; rfl) hline hs rfl
end
theorem Qy{x:Str}{c i:Nat}(hi:x.cps.toList[i]? = some c)(hf:∀k,k<i->x.cps.toList[k]? ≠ some c):Txt.find x ⟨#[c]⟩=(i:Int):=by
 rcases find_whole x ⟨#[c]⟩ with ⟨_,h⟩|⟨j,e,hj,hl⟩
 .exact absurd ((StrLaws.subAt_one x c i).mpr hi) (h i)
 .have ej:=(StrLaws.subAt_one x c j).mp hj
  have:j=i:=by
   rcases Nat.lt_trichotomy i j with h|h|h
   .exact absurd ((StrLaws.subAt_one x c i).mpr hi) (hl i h)
   .exact h.symm
   .exact absurd ej (hf j h)
  rw[e,this]
section
variable{X:Cx}{p pos:Pos}{e:Expr}{es:List Expr}{t:TA}
end
end L2
end
section
namespace J
open PySem L2
inductive A where
 | fz (d:D)|lst (as:List A)|tup (as:List A)|scr (ns:List Int)|dic (kvs:List (Key×D))|dct (kvs:List (D×D))|opq (a:Addr) (o:Obj)
inductive Own where
 | own|lent|ro
 deriving DecidableEq
noncomputable abbrev Slot:=Option (Own×A)
noncomputable abbrev Ro:=List Slot
inductive R where
 | val (a:A)|ref (i:Nat)
mutual
noncomputable def er:A->Option D
 | .fz d=>some d
 | .lst as=>(ers as).map D.lst
 | .tup as=>(ers as).map D.tup
 | .scr _=>none
 | .dic _=>none
 | .dct _=>none
 | .opq _ _=>none
noncomputable def ers:List A->Option (List D)
 | []=>some []
 | a::as=>(er a).bind fun d=>(ers as).map (d :: ·)
end
noncomputable def fzs:List A->Option (List D)
 | []=>some []
 | .fz d::as=>(fzs as).map (d :: ·)
 | _::_=>none
noncomputable def peek(Z:Ro):R->Option A
 | .val a=>some a
 | .ref i=>match Z[i]? with
  | some (some (_,a))=>some a
  | _=>none
noncomputable def peeks(Z:Ro):List R->Option (List A)
 | []=>some []
 | r::rs=>(peek Z r).bind fun a=>(peeks Z rs).map (a :: ·)
noncomputable def share(Z:Ro):R->Option (D×Ro)
 | .val a=>(er a).map (·,Z)
 | .ref i=>match Z[i]? with
  | some (some (.own,a))=>(er a).map fun d=>(d,Z.set i (some (.own,.fz d)))
  | _=>none
noncomputable def move(Z:Ro):R->Option (A×Ro)
 | .val a=>some (a,Z)
 | .ref i=>match Z[i]? with
  | some (some (.own,a))=>some (a,Z.set i none)
  | _=>none
noncomputable abbrev ME:=Ro->Option (R×Ro)
noncomputable abbrev MT:=Ro->Option (Bool×Ro)
noncomputable abbrev MA:=Ro->Option (List R×Ro)
noncomputable def Aa(i:Nat):ME:=fun Z=>match Z[i]? with
 | some (some (_,.fz d))=>some (.val (.fz d),Z)
 | some (some _)=>some (.ref i,Z)
 | _=>none
noncomputable def Ag(d:D):ME:=fun Z=>some (.val (.fz d),Z)
noncomputable def Ai:MA:=fun Z=>some ([],Z)
noncomputable def Ac(m:ME)(ms:MA):MA:=fun Z=>(m Z).bind fun p=>(ms p.2).map fun q=>(p.1::q.1,q.2)
noncomputable def opM(f:List A->Option A)(m:MA):ME:=fun Z=>(m Z).bind fun p=>(peeks p.2 p.1).bind fun as=>(f as).map fun a=>(.val a,p.2)
noncomputable def EY:A->Option Bool
 | .fz (.bl b)=>some b
 | .fz .non | .fz (.int _) | .fz (.str _) | .fz (.lst _) | .fz (.tup _) | .lst _ | .tup _ | .scr _ | .dic _ | .dct _ | .opq _ _=>none
noncomputable def AF(m:ME):MT:=fun Z=>(m Z).bind fun p=>(peek p.2 p.1).bind fun a=>(EY a).map (·,p.2)
noncomputable def andM(a b:ME):ME:=fun Z=>(AF a Z).bind fun p=>if p.1 then b p.2 else some (.val (.fz (.bl false)),p.2)
noncomputable def orM(a b:ME):ME:=fun Z=>(AF a Z).bind fun p=>if p.1 then some (.val (.fz (.bl true)),p.2) else b p.2
noncomputable def notM(a:ME):ME:=fun Z=>(AF a Z).map fun p=>(.val (.fz (.bl (!p.1))),p.2)
noncomputable def IG(a b:MT):MT:=fun Z=>(a Z).bind fun p=>if p.1 then b p.2 else some (false,p.2)
noncomputable def orT(a b:MT):MT:=fun Z=>(a Z).bind fun p=>if p.1 then some (true,p.2) else b p.2
noncomputable def Ds(a:MT):MT:=fun Z=>(a Z).map fun p=>(!p.1,p.2)
noncomputable def Kb(c:MT)(a b:ME):ME:=fun Z=>(c Z).bind fun p=>if p.1 then a p.2 else b p.2
noncomputable def J7(f g:List A->Option A)(a b c:ME):ME:=fun Z=>(a Z).bind fun p=>(b p.2).bind fun q=>(peeks q.2 [p.1,q.1]).bind fun as=>(f as).bind fun z=>(EY z).bind fun k =>
 if k then (c q.2).bind fun r=>(peeks r.2 [q.1,r.1]).bind fun bs=>(g bs).map fun z=>(.val z,r.2) else some (.val (.fz (.bl false)),q.2)
noncomputable def AK(m:ME):ME:=fun Z=>(m Z).bind fun p=>(share p.2 p.1).map fun q=>(.val (.fz q.1),q.2)
noncomputable def vals:List R->Option (List A)
 | []=>some []
 | .val a::rs=>(vals rs).map (a :: ·)
 | .ref _::_=>none
noncomputable abbrev LIM:Nat:=sizeLine
noncomputable def mkT(as:List A):A:=match fzs as with
 | some ds=>.fz (.tup ds)
 | none=>.tup as
noncomputable def lstM(m:MA):ME:=fun Z=>(m Z).bind fun p=>(vals p.1).bind fun as=>if as.length<=LIM then some (.val (.lst as),p.2) else none
noncomputable abbrev Fn:=List (Own×A)->Option (A×List A)
noncomputable def Hq(Z:Ro):R->Option (Own×A)
 | .val a=>some (.own,a)
 | .ref i=>match Z[i]? with
  | some (some (.ro,a))=>some (.ro,a)
  | some (some (_,a))=>some (.lent,a)
  | _=>none
noncomputable def DK(Z:Ro):List R->Option (List (Own×A))
 | []=>some []
 | r::rs=>(Hq Z r).bind fun a=>(DK Z rs).map (a :: ·)
noncomputable def P5(Z:Ro)(i:Nat)(a:A):Ro:=match Z[i]? with
 | some (some (st,_))=>Z.set i (some (st,a))
 | _=>Z
noncomputable def back:List R->List A->Ro->Ro
 | .ref i::rs,a::as,Z=>back rs as (P5 Z i a)
 | .val _::rs,_::as,Z=>back rs as Z
 | [],_,Z=>Z
 | .ref _::_,[],Z=>Z
 | .val _::_,[],Z=>Z
noncomputable def refs:List R->List Nat
 | []=>[]
 | .ref i::rs=>i::refs rs
 | .val _::rs=>refs rs
noncomputable def Am(Φ:Fn)(m:MA):ME:=fun Z=>(m Z).bind fun p=>(DK p.2 p.1).bind fun args=>if (refs p.1).Nodup then (Φ args).map fun q=>(.val q.1,back p.1 q.2 p.2) else none
noncomputable def Hi(z:Str):List D:=z.cps.toList.map fun c=>.str ⟨#[c]⟩
noncomputable def AW:A->Option (List D)
 | .fz (.lst ds)=>some ds
 | .fz (.tup ds)=>some ds
 | .lst as=>fzs as
 | .scr ns=>some (ns.map D.int)
 | .fz .non | .fz (.bl _) | .fz (.int _) | .fz (.str _) | .tup _ | .dic _ | .dct _ | .opq _ _=>none
noncomputable abbrev MI:=Ro->Option (List D×Option Nat×Ro)
noncomputable def nameOf:R->Option Nat
 | .val _=>none
 | .ref i=>some i
noncomputable def Bi(m:ME):MI:=fun Z=>(m Z).bind fun p=>(peek p.2 p.1).bind fun a=>(AW a).map fun ds=>(ds,nameOf p.1,p.2)
noncomputable def N9(m:ME):MI:=fun Z=>(m Z).bind fun p=>match p.1 with
 | .val (.fz (.str z))=>if z.length<=LIM then some (Hi z,none,p.2) else none
 | _=>none
noncomputable def Di(lo:Int)(n:Nat):List D:=(List.range n).map fun(k:Nat)=>D.int (lo+(k:Int))
noncomputable def A9(m:ME):MI:=fun Z=>(m Z).bind fun p=>match p.1 with
 | .val (.fz (.int j))=>if -(2 ^ 62)<=j/\j<2 ^ 62 then some (Di 0 j.toNat,none,p.2) else none
 | _=>none
noncomputable def lock(Z:Ro):Option Nat->Ro
 | none=>Z
 | some i=>match Z[i]? with
  | some (some (_,a))=>Z.set i (some (.ro,a))
  | _=>Z
noncomputable def unlock(old Z:Ro):Option Nat->Ro
 | none=>Z
 | some i=>match old[i]? with
  | some s=>Z.set i s
  | none=>Z
noncomputable def LI(n:Nat)(d:D):Option (List D):=match n with
 | 0=>some [d]
 | n=>match d with
  | .tup ds=>if ds.length=n then some ds else none
  | _=>none
noncomputable def own(d:D):Slot:=some (.own,.fz d)
noncomputable def Ee(pat:Nat)(c:MT)(e:ME):List D->Ro->Option (List D×Ro)
 | [],Z=>some ([],Z)
 | d::ds,Z=>(LI pat d).bind fun bs=>(c (bs.map own++Z)).bind fun p =>
  if p.1 then (e p.2).bind fun q=>(share q.2 q.1).bind fun s=>(Ee pat c e ds (s.2.drop bs.length)).map fun t=>(s.1::t.1,t.2)
  else Ee pat c e ds (p.2.drop bs.length)
noncomputable def BA:MT:=fun Z=>some (true,Z)
noncomputable def AG(it:MI)(pat:Nat)(c:MT)(e:ME):ME:=fun Z=>(it Z).bind fun p=>if p.1.length<=LIM then (Ee pat c e p.1 (lock p.2.2 p.2.1)).map fun q=>(.val (.lst (q.1.map A.fz)),unlock p.2.2 q.2 p.2.1) else none
inductive Fl where
 | next (Z:Ro)|brk (Z:Ro)|cnt (Z:Ro)|ret (a:A) (Z:Ro)
noncomputable abbrev MS:=Ro->Option Fl
noncomputable def free(Z:Ro)(i:Nat):Bool:=match Z[i]? with
 | some none=>true
 | some (some (.own,_))=>true
 | _=>false
noncomputable def keep(Z:Ro):R->Option (A×Ro)
 | .val a=>some (a,Z)
 | r=>(share Z r).map fun q=>(.fz q.1,q.2)
noncomputable def AS:MS:=fun Z=>some (.next Z)
noncomputable def Hj:MS:=fun _=>none
noncomputable def Ao(a b:MS):MS:=fun Z=>(a Z).bind fun f=>match f with
 | .next Z1=>b Z1
 | f=>some f
noncomputable def AH(i:Nat)(m:ME):MS:=fun Z=>(m Z).bind fun p=>(keep p.2 p.1).bind fun q=>if free q.2 i then some (.next (q.2.set i (some (.own,q.1)))) else none
noncomputable def F3:A->Option (List A)
 | .tup as=>some as
 | .fz (.tup ds)=>some (ds.map A.fz)
 | .fz .non | .fz (.bl _) | .fz (.int _) | .fz (.str _) | .fz (.lst _) | .lst _ | .scr _ | .dic _ | .dct _ | .opq _ _=>none
noncomputable def B7:List Nat->List A->Ro->Option Ro
 | [],[],Z=>some Z
 | i::is,a::as,Z=>if free Z i then B7 is as (Z.set i (some (.own,a))) else none
 | [],_::_,_=>none
 | _::_,[],_=>none
noncomputable def Nf(is:List Nat)(m:ME):MS:=fun Z=>(m Z).bind fun p=>(keep p.2 p.1).bind fun q=>(F3 q.1).bind fun as=>(B7 is as q.2).map .next
noncomputable def J9(m:ME):MS:=fun Z=>(m Z).map fun p=>.next p.2
noncomputable def retS(m:ME):MS:=fun Z=>(m Z).bind fun p=>(move p.2 p.1).map fun q=>.ret q.1 q.2
noncomputable def ifS(c:MT)(a b:MS):MS:=fun Z=>(c Z).bind fun p=>if p.1 then a p.2 else b p.2
noncomputable def Gi(is:List Nat)(one:Bool)(d:D)(Z:Ro):Option Ro:=match one,is with
 | true,[i]=>if free Z i then some (Z.set i (own d)) else none
 | false,is=>(match d with
  | .tup ds=>B7 is (ds.map A.fz) Z
  | _=>none)
 | _,_=>none
noncomputable def forL(is:List Nat)(one:Bool)(b:MS):List D->Ro->Option Fl
 | [],Z=>some (.next Z)
 | d::ds,Z=>(Gi is one d Z).bind fun Z1=>(b Z1).bind fun f=>match f with
  | .next Z2=>forL is one b ds Z2
  | .cnt Z2=>forL is one b ds Z2
  | .brk Z2=>some (.next Z2)
  | f=>some f
noncomputable def IZ(old:Ro)(n:Option Nat):Fl->Fl
 | .next Z=>.next (unlock old Z n)
 | .brk Z=>.brk (unlock old Z n)
 | .cnt Z=>.cnt (unlock old Z n)
 | .ret a Z=>.ret a (unlock old Z n)
noncomputable def Bw(is:List Nat)(one:Bool)(it:MI)(b:MS):MS:=fun Z=>(it Z).bind fun p=>(forL is one b p.1 (lock p.2.2 p.2.1)).map (IZ p.2.2 p.2.1)
noncomputable def DX(c:MT)(b:MS):Nat->Ro->Option Fl
 | 0,_=>none
 | n+1,Z=>(c Z).bind fun p=>if p.1 then (b p.2).bind fun f=>match f with
   | .next Z2=>DX c b n Z2
   | .cnt Z2=>DX c b n Z2
   | .brk Z2=>some (.next Z2)
   | f=>some f
  else some (.next p.2)
noncomputable def J5(w:Nat)(c:MT)(b:MS):MS:=DX c b w
noncomputable def Lf(i:Nat):MS:=fun Z=>(share Z (.ref i)).map fun q=>.next q.2
noncomputable def He:Slot->A
 | some (_,a)=>a
 | none=>.fz .non
noncomputable def fnM(np nn:Nat)(b:MS):Fn:=fun args=>if args.length=np then (b (args.map some++List.replicate (nn-np) none)).bind fun f=>match f with
  | .next Z=>some (.fz .non,(Z.take np).map He)
  | .ret a Z=>some (a,(Z.take np).map He)
  | _=>none
 else none
noncomputable def imm:HO->Bool
 | .tup _=>true
 | .frz _ _=>true
 | _=>false
noncomputable def Kept(L:Addr->Prop)(H H':Hp):Prop:=∀b o,H b=some o->(¬L b\/imm o=true)->H' b=some o
theorem Kept.refl{L:Addr->Prop}{H:Hp}:Kept L H H:=fun _ _ h _=>h
theorem Kept.trans{L L':Addr->Prop}{H H1 H2:Hp}(x:Kept L H H1)(y:Kept L' H1 H2)(h:∀p,L' p->L p\/H p=none):Kept L H H2:=fun b o e c =>
 y b o (x b o e c) (c.imp (fun n z=>(h b z).elim n fun q=>by rw[e] at q; cases q) id)
theorem Kept.mono{L L':Addr->Prop}{H H':Hp}(x:Kept L H H')(h:∀p,L p->L' p):Kept L' H H':=fun b o e c=>x b o e (c.imp (fun n z=>n (h b z)) id)
theorem Gf.kept{L:Addr->Prop}{H H':Hp}(s:Gf H H'):Kept L H H':=fun b o e _=>s b o e
noncomputable def XD(K:Frag)(H:Hp)(a:Addr)(xs:List V):Prop:=∀H',(∀o u,H a=some (.frz o u)->H' a=some (.frz o u))->SqL K H' a xs
mutual
noncomputable def Au(K:Frag)(N:Addr->Prop)(H:Hp)(v:V):A->List Addr->Prop
 | .fz d,L=>L=[]/\RepA N H v d
 | .lst as,L=>∃a vs L',v=.ref a/\L=a::L'/\H a=some (.lst vs)/\vs.length<=sizeLine/\Ap K N H vs as L'
 | .tup as,L=>∃a vs,v=.ref a/\H a=some (.tup vs)/\vs.length<=sizeLine/\Ap K N H vs as L
 | .scr ns,L=>∃a,v=.ref a/\L=[]/\XD K H a (ns.map V.int)/\ns.length<=sizeLine
 | .dic kvs,L=>∃a us,v=.ref a/\L=[a]/\H a=some (.dK us)/\us.length<=sizeLine/\Paired (fun(u:Key×V) (k:Key×D)=>u.1=k.1/\RepA N H u.2 k.2) us kvs
 | .dct kvs,L=>∃a us,v=.ref a/\L=[a]/\H a=some (.dT us)/\us.length<=sizeLine/\Paired (fun(u:D×V) (k:D×D)=>u.1=k.1/\RepA N H u.2 k.2) us kvs
 | .opq a o,L=>v=.ref a/\L=[]/\∃u,H a=some (.frz o u)
noncomputable def Ap(K:Frag)(N:Addr->Prop)(H:Hp):List V->List A->List Addr->Prop
 | [],[],L=>L=[]
 | v::vs,a::as,L=>∃L1 L2,L=L1++L2/\Au K N H v a L1/\Ap K N H vs as L2
 | [],_::_,_=>False
 | _::_,[],_=>False
end
theorem _root_.L2.RepA.tr{N N' M:Addr->Prop}{H H':Hp}(hM:∀p,M p->N p)(k:Kept M H H')(hN:∀p,N' p->N p\/H p=none){v:V}{d:D}(r:RepA N H v d):RepA N' H' v d:=by
 induction r with
 | non=>exact .non
 | bl b=>exact .bl b
 | int i=>exact .int i
 | str x hx=>exact .str x hx
 | lst h hz hn hl _ ih =>
  refine .lst (k _ _ h (.inl fun z=>hn (hM _ z))) hz (fun z=>?_) hl ih;rcases hN _ z with q|q
  .exact hn q
  .rw[h] at q; cases q
 | tup h hz hl _ ih=>exact .tup (k _ _ h (.inr rfl)) hz hl ih
theorem Paired.mapQ{α β:Type}{F G:α -> β -> Prop}:∀{l₁:List α} {l₂:List β},Paired F l₁ l₂ -> (∀a b,F a b->G a b)->Paired G l₁ l₂
 | _,_,.nil,_=>.nil
 | _,_,.cons r t,f=>.cons (f _ _ r) (Paired.mapQ t f)
section
variable{K:Frag}{N N' M:Addr->Prop}{H H':Hp}
mutual
theorem Au.tr(hM:∀p,M p->N p)(k:Kept M H H')(hN:∀p,N' p->N p\/H p=none):∀{a:A} {v:V} {L:List Addr},(∀p∈L,¬M p)->Au K N H v a L->Au K N' H' v a L
 | .fz d,v,L,hL,r=>by
  simp only[Au] at r |-;exact⟨r.1,r.2.tr hM k hN⟩
 | .lst as,v,L,hL,r=>by
  simp only[Au] at r |-;obtain⟨a,vs,L',rfl,rfl,h,hz,hs⟩:=r;exact⟨a,vs,L',rfl,rfl,k _ _ h (.inl (hL a (by simp))),hz,Ap.tr hM k hN (fun p hp=>hL p (by simp[hp])) hs⟩
 | .tup as,v,L,hL,r=>by
  simp only[Au] at r |-;obtain⟨a,vs,rfl,h,hz,hs⟩:=r;exact⟨a,vs,rfl,k _ _ h (.inr rfl),hz,Ap.tr hM k hN hL hs⟩
 | .scr ns,v,L,hL,r=>by
  simp only[Au] at r |-;obtain⟨a,rfl,rfl,h,hz⟩:=r;exact⟨a,rfl,rfl,fun H2 q=>h H2 fun o u e=>q o u (k _ _ e (.inr rfl)),hz⟩
 | .dic kvs,v,L,hL,r=>by
  simp only[Au] at r |-;obtain⟨a,us,rfl,rfl,h,hz,hs⟩:=r;exact⟨a,us,rfl,rfl,k _ _ h (.inl (hL a (by simp))),hz,Paired.mapQ hs fun _ _ q=>⟨q.1,q.2.tr hM k hN⟩⟩
 | .dct kvs,v,L,hL,r=>by
  simp only[Au] at r |-;obtain⟨a,us,rfl,rfl,h,hz,hs⟩:=r;exact⟨a,us,rfl,rfl,k _ _ h (.inl (hL a (by simp))),hz,Paired.mapQ hs fun _ _ q=>⟨q.1,q.2.tr hM k hN⟩⟩
 | .opq a o,v,L,hL,r=>by
  simp only[Au] at r |-;obtain⟨rfl,rfl,u,h⟩:=r;exact⟨rfl,rfl,u,k _ _ h (.inr rfl)⟩
theorem Ap.tr(hM:∀p,M p->N p)(k:Kept M H H')(hN:∀p,N' p->N p\/H p=none):∀{as:List A} {vs:List V} {L:List Addr},(∀p∈L,¬M p)->Ap K N H vs as L->Ap K N' H' vs as L
 | [],vs,L,hL,r=>by
  cases vs<;>simp only[Ap] at r |-;exact r
 | a::as,vs,L,hL,r=>by
  cases vs with
  | nil=>simp only[Ap] at r
  | cons v vs =>
   simp only[Ap] at r |-;obtain⟨L1,L2,rfl,h1,h2⟩:=r;exact⟨L1,L2,rfl,Au.tr hM k hN (fun p hp=>hL p (by simp[hp])) h1,Ap.tr hM k hN (fun p hp=>hL p (by simp[hp])) h2⟩
end
end
noncomputable def ad(O:Addr->Prop)(L:List Addr):Addr->Prop:=fun p=>O p\/p∈L
noncomputable def NN(fp:Nat->List Addr)(O:Addr->Prop):Addr->Prop:=fun p=>(∃i,p∈fp i)\/O p
noncomputable def Fp(fp:Nat->List Addr):Addr->Prop:=fun p=>∃i,p∈fp i
structure Rel (K:Frag) (Z:Ro) (U:St) (H:Hp) (O:Addr->Prop) (fp:Nat->List Addr):Prop where
 len : Z.length=U.length
 slot:∀i st a,Z[i]? = some (some (st,a))->∃v,U[i]? = some (some v)/\Au K (NN fp O) H v a (fp i)
 out:∀i,(∀st a,Z[i]? ≠ some (some (st,a)))->fp i=[]
 nd:∀i,(fp i).Nodup
 inj:∀i j p,p∈fp i->p∈fp j->i=j
 off:∀i p,p∈fp i->¬O p
 al:∀p,NN fp O p->H p≠none
noncomputable def Nh(Z Z':Ro)(U σ':St):Prop:=∀(j:Nat) st a,Z[j]? = some (some (st,a))->st≠.own->∃a',Z'[j]? = some (some (st,a'))/\σ'[j]? = U[j]?/\(st=.ro->a'=a)
theorem Nh.refl{Z:Ro}{U:St}:Nh Z Z U U:=fun _ _ a h _=>⟨a,h,rfl,fun _=>rfl⟩
theorem Nh.trans{Z Z1 Z2:Ro}{U σ1 σ2:St}(x:Nh Z Z1 U σ1)(y:Nh Z1 Z2 σ1 σ2):Nh Z Z2 U σ2:=fun j st a h n=>by
 obtain⟨a1,h1,e1,f1⟩:=x j st a h n;obtain⟨a2,h2,e2,f2⟩:=y j st a1 h1 n;exact⟨a2,h2,e2.trans e1,fun z=>(f2 z).trans (f1 z)⟩
noncomputable def RR(K:Frag)(N:Addr->Prop)(H:Hp)(U:St)(v:V):R->List Addr->Prop
 | .val a,L=>Au K N H v a L
 | .ref i,L=>L=[]/\U[i]? = some (some v)
noncomputable def RRs(K:Frag)(N:Addr->Prop)(H:Hp)(U:St):List V->List R->List Addr->Prop
 | [],[],L=>L=[]
 | v::vs,r::rs,L=>∃L1 L2,L=L1++L2/\RR K N H U v r L1/\RRs K N H U vs rs L2
 | [],_::_,_=>False
 | _::_,[],_=>False
structure Post (K:Frag) (O:Addr->Prop) (fp:Nat->List Addr) (H:Hp) (Z Z':Ro) (U σ':St) (L:List Addr) (fp':Nat->List Addr) (H':Hp):Prop where
 rel:Rel K Z' σ' H' (ad O L) fp'
 nd:L.Nodup
 lo:∀p∈L,¬O p
 new:∀p,(p∈L\/Fp fp' p)->Fp fp p\/H p=none
 kept:Kept (Fp fp) H H'
 ln : σ'.length=U.length
 stab:Nh Z Z' U σ'
noncomputable def Kw(K:Frag)(O:Addr->Prop)(fp:Nat->List Addr)(H:Hp)(Z Z':Ro)(U:St)(r:R)(v:V)(H':Hp):Prop:=
 ∃L fp',Post K O fp H Z Z' U U L fp' H'/\RR K (NN fp' (ad O L)) H' U v r L
noncomputable def XA(K:Frag)(O:Addr->Prop)(fp:Nat->List Addr)(H:Hp)(Z Z':Ro)(U:St)(rs:List R)(vs:List V)(H':Hp):Prop:=
 ∃L fp',Post K O fp H Z Z' U U L fp' H'/\RRs K (NN fp' (ad O L)) H' U vs rs L
noncomputable def tE(K:Frag)(m:ME):TE:=fun U H Q=>∃Z O fp,Rel K Z U H O fp/\∃r Z',m Z=some (r,Z')/\∀v H',Kw K O fp H Z Z' U r v H'->Q v H'
noncomputable def tT(K:Frag)(m:MT):TT:=fun U H Q=>∃Z O fp,Rel K Z U H O fp/\∃b Z',m Z=some (b,Z')/\∀fp' H',Post K O fp H Z Z' U U [] fp' H'->Q b H'
noncomputable def tA(K:Frag)(m:MA):TA:=fun U H Q=>∃Z O fp,Rel K Z U H O fp/\∃rs Z',m Z=some (rs,Z')/\∀vs H',XA K O fp H Z Z' U rs vs H'->Q vs H'
section
variable{K:Frag}{Z Z' Z1 Z2:Ro}{U σ' σ1 σ2:St}{H H' H1 H2:Hp}{O O':Addr->Prop}{fp fp' fp1 fp2:Nat->List Addr}{L L1 L2:List Addr}
theorem Jb{p:Addr}:ad O [] p↔O p:=by simp[ad]
theorem FN{p:Addr}:ad (ad O L1) L2 p↔ad O (L1++L2) p:=by simp[ad,or_assoc]
theorem Rel.congr(r:Rel K Z U H O fp)(h:∀p,O p↔O' p):Rel K Z U H O' fp:=by
 have e:O=O':=funext fun p=>propext (h p);exact e ▸ r
theorem Rel.weak(r:Rel K Z U H O fp)(h:∀p,O' p->O p):Rel K Z U H O' fp where
 len:=r.len
 slot:=fun i st a e=>by
  obtain⟨v,e1,q⟩:=r.slot i st a e;exact⟨v,e1,q.tr (M:=fun _=>False) (fun _ z=>z.elim) .refl (fun p z=>.inl (z.imp id (h p))) fun _ _ z=>z⟩
 out:=r.out
 nd:=r.nd
 inj:=r.inj
 off:=fun i p hp z=>r.off i p hp (h p z)
 al:=fun p z=>r.al p (z.imp id (h p))
theorem Rel.grow(r:Rel K Z U H O fp)(s:Gf H H')(hO:∀p,O' p->O p\/H p=none)(al:∀p,O' p->H' p≠none):Rel K Z U H' O' fp where
 len:=r.len
 slot:=fun i st a e=>by
  obtain⟨v,e1,q⟩:=r.slot i st a e;refine⟨v,e1,q.tr (M:=fun _=>False) (fun _ z=>z.elim) (fun b o e _=>s b o e) (fun p z=>?_) fun _ _ z=>z⟩;rcases z with z|z
  .exact .inl (.inl z)
  .exact(hO p z).imp .inr id
 out:=r.out
 nd:=r.nd
 inj:=r.inj
 off:=fun i p hp z=>by
  rcases hO p z with q|q
  .exact r.off i p hp q
  .exact r.al p (.inl ⟨i,hp⟩) q
 al:=fun p z=>by
  rcases z with z|z
  .cases q:H p with
   | none=>exact absurd q (r.al p (.inl z))
   | some o=>rw[s p o q]; simp
  .exact al p z
theorem Rel.post(r:Rel K Z U H O fp):Post K O fp H Z Z U U [] fp H:=
 ⟨r.congr fun p=>Jb.symm,List.nodup_nil,fun _ h=>by simp at h,fun p h=>by rcases h with h|h; simp at h; exact .inl h,.refl,rfl,.refl⟩
theorem Post.then(x:Post K O fp H Z Z1 U σ1 L1 fp1 H1)(y:Post K (ad O L1) fp1 H1 Z1 Z2 σ1 σ2 L2 fp2 H2):Post K O fp H Z Z2 U σ2 (L1++L2) fp2 H2 where
 rel:=y.rel.congr fun p=>FN
 nd:=List.nodup_append.mpr ⟨x.nd,y.nd,fun a ha b hb e=>by subst e; exact y.lo a hb (.inr ha)⟩
 lo:=fun p hp z=>by
  rcases List.mem_append.mp hp with q|q
  .exact x.lo p q z
  .exact y.lo p q (.inl z)
 new:=fun p hp=>by
  have key:Fp fp1 p\/H1 p=none->Fp fp p\/H p=none:=fun q=>by
   rcases q with q|q
   .exact x.new p (.inr q)
   .cases e:H p with
    | none=>exact .inr rfl
    | some o =>
     by_cases hf:Fp fp p
     .exact .inl hf
     .rw[x.kept p o e (.inl hf)] at q; cases q
  rcases hp with q|q
  .rcases List.mem_append.mp q with q|q
   .exact x.new p (.inl q)
   .exact key (y.new p (.inl q))
  .exact key (y.new p (.inr q))
 kept:=x.kept.trans y.kept fun p z=>x.new p (.inr z)
 ln:=y.ln.trans x.ln
 stab:=x.stab.trans y.stab
theorem Post.drop(x:Post K O fp H Z Z1 U σ1 (L1++L2) fp1 H1):Post K O fp H Z Z1 U σ1 L2 fp1 H1 where
 rel:=x.rel.weak fun p z=>z.imp id fun q=>List.mem_append_right _ q
 nd:=(List.nodup_append.mp x.nd).2.1
 lo:=fun p hp=>x.lo p (List.mem_append_right _ hp)
 new:=fun p hp=>x.new p (hp.imp (List.mem_append_right _) id)
 kept:=x.kept
 ln:=x.ln
 stab:=x.stab
theorem Post.drop0(x:Post K O fp H Z Z1 U σ1 L1 fp1 H1):Post K O fp H Z Z1 U σ1 [] fp1 H1:=Post.drop (L1:=L1) (L2:=[]) (by rw[List.append_nil]; exact x)
theorem Post.rr{v:V}{r:R}(y:Post K (ad O L1) fp1 H1 Z1 Z2 U U L2 fp2 H2)(hr:Rel K Z1 U H1 (ad O L1) fp1)(h:RR K (NN fp1 (ad O L1)) H1 U v r L)(hL:∀p∈L,p∈L1):RR K (NN fp2 (ad O (L1++L2))) H2 U v r L:=by
 cases r with
 | ref i=>exact h
 | val a =>
  refine Au.tr (M:=Fp fp1) (fun p z=>.inl z) y.kept (fun p z=>?_) (fun p hp z=>?_) h
  .rcases z with z|z
   .exact(y.new p (.inr z)).imp (fun q=>.inl q) id
   .rcases z with z|z
    .exact .inl (.inr (.inl z))
    .rcases List.mem_append.mp z with z|z
     .exact .inl (.inr (.inr z))
     .exact(y.new p (.inl z)).imp (fun q=>.inl q) id
  .obtain⟨i,hi⟩:=z
   exact hr.off i p hi (.inr (hL p hp))
theorem tE.mono{m:ME}{Q Q':VK}(h:tE K m U H Q)(q:∀v H',Q v H'->Q' v H'):tE K m U H Q':=by
 obtain⟨Z,O,fp,r,x,Z',e,k⟩:=h;exact⟨Z,O,fp,r,x,Z',e,fun v H' z=>q v H' (k v H' z)⟩
theorem Hk{Q:List V->Hp->Prop}(h:tA K Ai U H Q):Hl U H Q:=by
 obtain⟨Z,O,fp,r,x,Z',e,k⟩:=h;cases e;exact k [] H ⟨[],fp,r.post,rfl⟩
theorem D8{m:ME}{ms:MA}{Q:List V->Hp->Prop}(h:tA K (Ac m ms) U H Q):Cs (tE K m) (tA K ms) U H Q:=by
 obtain⟨Z,O,fp,r,x,Z',e,k⟩:=h;simp only[Ac,bind_eq_some_iff,map_eq_some_iff] at e;obtain⟨⟨r1,Z1⟩,e1,⟨rs,Z2⟩,e2,e3⟩:=e;cases e3;refine⟨Z,O,fp,r,r1,Z1,e1,fun v H1 yy=>?_⟩;obtain⟨L1,fp1,p1,q1⟩:=yy;refine⟨Z1,ad O L1,fp1,p1.rel,rs,_,e2,fun vs H2 yy=>?_⟩;obtain⟨L2,fp2,p2,q2⟩:=yy;refine k (v::vs) H2 ⟨L1++L2,fp2,p1.then p2,L1,L2,rfl,p2.rr p1.rel q1 fun _ z=>z,?_⟩;have e:ad (ad O L1) L2=ad O (L1++L2):=funext fun p=>propext FN;rw[<- e];exact q2
end
section
variable{K:Frag}{N N' M:Addr->Prop}{H H':Hp}
mutual
theorem Au.al:∀{a:A} {v:V} {L:List Addr},Au K N H v a L->∀p∈L,H p≠none
 | .fz d,v,L,r,p,hp=>by
  simp only[Au] at r;rw[r.1] at hp; simp at hp
 | .lst as,v,L,r,p,hp=>by
  simp only[Au] at r;obtain⟨a,vs,L',rfl,rfl,h,hz,hs⟩:=r;rcases List.mem_cons.mp hp with rfl|hp
  .rw[h]; simp
  .exact Ap.al hs p hp
 | .tup as,v,L,r,p,hp=>by
  simp only[Au] at r;obtain⟨a,vs,rfl,h,hz,hs⟩:=r;exact Ap.al hs p hp
 | .scr ns,v,L,r,p,hp=>by
  simp only[Au] at r;obtain⟨a,rfl,rfl,h,hz⟩:=r;simp at hp
 | .dic kvs,v,L,r,p,hp=>by
  simp only[Au] at r;obtain⟨a,us,rfl,rfl,h,hz,hs⟩:=r;have:p=a:=by simpa using hp
  subst this; rw[h]; simp
 | .dct kvs,v,L,r,p,hp=>by
  simp only[Au] at r;obtain⟨a,us,rfl,rfl,h,hz,hs⟩:=r;have:p=a:=by simpa using hp
  subst this; rw[h]; simp
 | .opq a o,v,L,r,p,hp=>by
  simp only[Au] at r;obtain⟨rfl,rfl,_⟩:=r;simp at hp
theorem Ap.al:∀{as:List A} {vs:List V} {L:List Addr},Ap K N H vs as L->∀p∈L,H p≠none
 | [],vs,L,r,p,hp=>by
  cases vs<;>simp only[Ap] at r;rw[r] at hp; simp at hp
 | a::as,vs,L,r,p,hp=>by
  cases vs with
  | nil=>simp only[Ap] at r
  | cons v vs =>
   simp only[Ap] at r;obtain⟨L1,L2,rfl,h1,h2⟩:=r;rcases List.mem_append.mp hp with hp|hp
   .exact Au.al h1 p hp
   .exact Ap.al h2 p hp
end
theorem Ap.len:∀{as:List A} {vs:List V} {L:List Addr},Ap K N H vs as L->vs.length=as.length:=by
 intro _l;induction _l with
 | nil =>
  intro _m;cases _m with
  | nil =>
   intro _ _;exact rfl
  | cons _ _ =>
   intro _ r;simp only[Ap] at r
 | cons a as ih =>
  intro _m;cases _m with
  | nil =>
   intro _ r;simp only[Ap] at r
  | cons v vs =>
   intro L r;simp only[Ap] at r;obtain⟨L1,L2,rfl,h1,h2⟩:=r;simp[ih h2]
noncomputable def Aw(N:Addr->Prop)(H:Hp):List V->List D->Prop
 | [],[]=>True
 | v::vs,d::ds=>RepA N H v d/\Aw N H vs ds
 | _,_=>False
theorem Aw.len:∀{vs:List V} {ds:List D},Aw N H vs ds->vs.length=ds.length:=by
 intro _l;induction _l with
 | nil =>
  intro _m;cases _m with
  | nil =>
   intro _;exact rfl
  | cons _ _ =>
   intro r;simp only[Aw] at r
 | cons v vs ih =>
  intro _m;cases _m with
  | nil =>
   intro r;simp only[Aw] at r
  | cons d ds =>
   intro r;simp[ih r.2]
theorem Aw.get:∀{vs:List V} {ds:List D},Aw N H vs ds->∀(i:Nat) v d,vs[i]? = some v->ds[i]? = some d->RepA N H v d
 | [],[],_,i,v,d,h,_=>by simp at h
 | [],_::_,r,_,_,_,_,_=>by simp only[Aw] at r
 | _::_,[],r,_,_,_,_,_=>by simp only[Aw] at r
 | x::vs,y::ds,r,0,v,d,h1,h2=>by simp at h1 h2; subst h1; subst h2; exact r.1
 | x::vs,y::ds,r,i+1,v,d,h1,h2=>Aw.get r.2 i v d (by simpa using h1) (by simpa using h2)
theorem Aw.mk:∀{vs:List V} {ds:List D},vs.length=ds.length->(∀(i:Nat) v d,vs[i]? = some v->ds[i]? = some d->RepA N H v d)->Aw N H vs ds:=by
 intro _l;induction _l with
 | nil =>
  intro _m;cases _m with
  | nil =>
   intro _ _;exact trivial
  | cons _ _ =>
   intro hl _;simp at hl
 | cons v vs ih =>
  intro _m;cases _m with
  | nil =>
   intro hl _;simp at hl
  | cons d ds =>
   intro hl h;exact⟨h 0 v d rfl rfl,ih (by simpa using hl) fun i v d e1 e2=>h (i+1) v d (by simpa using e1) (by simpa using e2)⟩
theorem TK{a:Addr}{vs:List V}{ds:List D}(h:H a=some (.lst vs))(hz:vs.length<=sizeLine)(hn:¬N a)(r:Aw N H vs ds):RepA N H (.ref a) (.lst ds):=.lst h hz hn r.len r.get
theorem N0{a:Addr}{vs:List V}{ds:List D}(h:H a=some (.tup vs))(hz:vs.length<=sizeLine)(r:Aw N H vs ds):RepA N H (.ref a) (.tup ds):=.tup h hz r.len r.get
theorem Aw.tr(hM:∀p,M p->N p)(k:Kept M H H')(hN:∀p,N' p->N p\/H p=none):∀{vs:List V} {ds:List D},Aw N H vs ds->Aw N' H' vs ds
 | [],[],_=>trivial
 | [],_::_,r=>by simp only[Aw] at r
 | _::_,[],r=>by simp only[Aw] at r
 | v::vs,d::ds,r=>⟨r.1.tr hM k hN,Aw.tr hM k hN r.2⟩
theorem ET(h:∀p,N' p->N p){v:V}{d:D}(r:RepA N H v d):RepA N' H v d:=r.tr (M:=fun _=>False) (fun _ z=>z.elim) .refl fun p z=>.inl (h p z)
theorem LZ(h:∀p,N' p->N p){vs:List V}{ds:List D}(r:Aw N H vs ds):Aw N' H vs ds:=r.tr (M:=fun _=>False) (fun _ z=>z.elim) .refl fun p z=>.inl (h p z)
theorem DJ(h:∀p,N' p->N p){v:V}{a:A}{L:List Addr}(r:Au K N H v a L):Au K N' H v a L:=r.tr (M:=fun _=>False) (fun _ z=>z.elim) .refl (fun p z=>.inl (h p z)) fun _ _ z=>z
theorem Xw(h:∀p,N' p->N p){vs:List V}{as:List A}{L:List Addr}(r:Ap K N H vs as L):Ap K N' H vs as L:=r.tr (M:=fun _=>False) (fun _ z=>z.elim) .refl (fun p z=>.inl (h p z)) fun _ _ z=>z
mutual
theorem Au.er:∀{a:A} {v:V} {L:List Addr} {d:D},Au K N H v a L->J.er a=some d->RepA (fun p=>N p/\p∉L) H v d
 | .fz d,v,L,d',r,e=>by
  simp only[Au] at r;simp only[J.er,Option.some.injEq] at e;subst e;exact ET (fun p z=>z.1) r.2
 | .lst as,v,L,d',r,e=>by
  simp only[Au] at r;simp only[J.er,map_eq_some_iff] at e;obtain⟨a,vs,L',rfl,rfl,h,hz,hs⟩:=r;obtain⟨ds,e,rfl⟩:=e;exact TK h hz (fun z=>z.2 (by simp)) (LZ (fun p z=>⟨z.1,fun q=>z.2 (by simp[q])⟩) (Ap.er hs e))
 | .tup as,v,L,d',r,e=>by
  simp only[Au] at r;simp only[J.er,map_eq_some_iff] at e;obtain⟨a,vs,rfl,h,hz,hs⟩:=r;obtain⟨ds,e,rfl⟩:=e;exact N0 h hz (Ap.er hs e)
 | .scr ns,v,L,d',r,e=>by simp[J.er] at e
 | .dic kvs,v,L,d',r,e=>by simp[J.er] at e
 | .dct kvs,v,L,d',r,e=>by simp[J.er] at e
 | .opq _ _,v,L,d',r,e=>by simp[J.er] at e
theorem Ap.er:∀{as:List A} {vs:List V} {L:List Addr} {ds:List D},Ap K N H vs as L->J.ers as=some ds->Aw (fun p=>N p/\p∉L) H vs ds
 | [],vs,L,ds,r,e=>by
  cases vs<;>simp only[Ap] at r;simp only[J.ers,Option.some.injEq] at e;subst e
  trivial
 | a::as,vs,L,ds,r,e=>by
  cases vs with
  | nil=>simp only[Ap] at r
  | cons v vs =>
   simp only[Ap] at r;simp only[J.ers,bind_eq_some_iff,map_eq_some_iff] at e;obtain⟨L1,L2,rfl,h1,h2⟩:=r;obtain⟨d,e1,ds',e2,rfl⟩:=e;exact⟨ET (fun p z=>⟨z.1,fun q=>z.2 (by simp[q])⟩) (Au.er h1 e1),LZ (fun p z=>⟨z.1,fun q=>z.2 (by simp[q])⟩) (Ap.er h2 e2)⟩
end
theorem Ap.fzs:∀{as:List A} {vs:List V} {L:List Addr} {ds:List D},Ap K N H vs as L->J.fzs as=some ds->L=[]/\Aw N H vs ds
 | [],vs,L,ds,r,e=>by
  cases vs<;>simp only[Ap] at r;simp only[J.fzs,Option.some.injEq] at e;subst e;exact⟨r,trivial⟩
 | a::as,vs,L,ds,r,e=>by
  cases vs with
  | nil=>simp only[Ap] at r
  | cons v vs =>
   simp only[Ap] at r;obtain⟨L1,L2,rfl,h1,h2⟩:=r;cases a with
   | fz d =>
    simp only[J.fzs,map_eq_some_iff] at e;obtain⟨ds',e,rfl⟩:=e;simp only[Au] at h1;obtain⟨e1,q⟩:=Ap.fzs h2 e;exact⟨by rw[h1.1,e1]; rfl,h1.2,q⟩
   | _=>simp[J.fzs] at e
theorem EF{v:V}{d:D}(r:RepA N H v d):Au K N H v (.fz d) []:=by rw[Au]; exact⟨rfl,r⟩
theorem Ap.of:∀{vs:List V} {ds:List D},Aw N H vs ds->Ap K N H vs (ds.map A.fz) []:=by
 intro _l;induction _l with
 | nil =>
  intro _m;cases _m with
  | nil =>
   intro _;simp[Ap]
  | cons _ _ =>
   intro r;simp only[Aw] at r
 | cons v vs ih =>
  intro _m;cases _m with
  | nil =>
   intro r;simp only[Aw] at r
  | cons d ds =>
   intro r;simp only[List.map_cons,Ap];exact⟨[],[],rfl,EF r.1,ih r.2⟩
end
section
variable{K:Frag}{Z Z' Z1 Z2:Ro}{U σ' σ1 σ2:St}{H H' H1 H2:Hp}{O O':Addr->Prop}{fp fp' fp1 fp2:Nat->List Addr}{L L1 L2:List Addr}
noncomputable def pt(fp:Nat->List Addr)(i:Nat)(L:List Addr):Nat->List Addr:=fun j=>if j=i then L else fp j
theorem E9{i:Nat}:pt fp i L i=L:=by simp[pt]
theorem GG{i j:Nat}(h:j≠i):pt fp i L j=fp j:=by simp[pt,h]
theorem Bc{i j:Nat}{p:Addr}(h:p∈pt fp i L j):(j=i/\p∈L)\/(j≠i/\p∈fp j):=by
 by_cases e:j=i
 .subst e; rw[E9] at h; exact .inl ⟨rfl,h⟩
 .rw[GG e] at h; exact .inr ⟨e,h⟩
theorem Rel.set(r:Rel K Z U H O fp){i:Nat}{s:Slot}{o:Option V}(hi:i<Z.length)(hO:∀p,O' p->NN fp O p)(hL:∀p∈L,NN fp O p)(nd:L.Nodup)(hd:∀p∈L,∀j,j≠i->p∉fp j)(ho:∀p∈L,¬O' p)(hoo:∀j p,j≠i->p∈fp j->¬O' p)(hs:∀st a,s=some (st,a)->∃v,o=some v/\Au K (NN (pt fp i L) O') H v a L)(hn:s=none->L=[]):Rel K (Z.set i s) (U.set i o) H O' (pt fp i L) where
 len:=by simp[r.len]
 slot:=fun j st a e=>by
  by_cases hj:j=i
  .subst hj
   rw[List.getElem?_set_self hi] at e;obtain⟨v,e1,q⟩:=hs st a (Option.some.inj e);refine⟨v,?_,by rw[E9]; exact q⟩;rw[List.getElem?_set_self (by rw[<- r.len]; exact hi),e1]
  .rw[List.getElem?_set_ne (Ne.symm hj)] at e
   obtain⟨v,e1,q⟩:=r.slot j st a e;refine⟨v,by rw[List.getElem?_set_ne (Ne.symm hj)]; exact e1,?_⟩;rw[GG hj];refine DJ (fun p z=>?_) q;rcases z with ⟨k,z⟩|z
   .rcases Bc z with ⟨_,z⟩|⟨_,z⟩
    .exact hL p z
    .exact .inl ⟨k,z⟩
   .exact hO p z
 out:=fun j h=>by
  by_cases hj:j=i
  .subst hj
   rw[E9];cases s with
   | none=>exact hn rfl
   | some x=>exact absurd (List.getElem?_set_self hi) (h x.1 x.2)
  .rw[GG hj]
   exact r.out j fun st a e=>h st a (by rw[List.getElem?_set_ne (Ne.symm hj)]; exact e)
 nd:=fun j=>by
  by_cases hj:j=i
  .subst hj; rw[E9]; exact nd
  .rw[GG hj]; exact r.nd j
 inj:=fun j k p h1 h2=>by
  rcases Bc h1 with ⟨e1,z1⟩|⟨e1,z1⟩
  .rcases Bc h2 with ⟨e2,z2⟩|⟨e2,z2⟩
   .rw[e1,e2]
   .exact absurd z2 (hd p z1 k e2)
  .rcases Bc h2 with ⟨e2,z2⟩|⟨e2,z2⟩
   .exact absurd z1 (hd p z2 j e1)
   .exact r.inj j k p z1 z2
 off:=fun j p h z=>by
  rcases Bc h with ⟨e1,z1⟩|⟨e1,z1⟩
  .exact ho p z1 z
  .exact hoo j p e1 z1 z
 al:=fun p z=>by
  rcases z with ⟨j,z⟩|z
  .rcases Bc z with ⟨_,z⟩|⟨_,z⟩
   .exact r.al p (hL p z)
   .exact r.al p (.inl ⟨j,z⟩)
  .exact r.al p (hO p z)
theorem JU{i:Nat}{v:V}(h : U[i]? = some (some v)): U.set i (some v)=U:=by
 apply List.ext_getElem?;intro j;by_cases e:j=i
 .subst e
  have:=(List.getElem?_eq_some_iff.mp h).1;rw[List.getElem?_set_self this,h]
 .rw[List.getElem?_set_ne (Ne.symm e)]
theorem As{α:Type}{l:List α}{i:Nat}{x:α}(h:l[i]? = some x):i<l.length:=(List.getElem?_eq_some_iff.mp h).1
theorem Hb{p:Addr}:NN fp (ad O []) p↔NN fp O p:=by simp[NN,ad]
theorem Dt{v:V}{r:R}{d:D}(x:Post K O fp H Z Z1 U U L fp1 H1)(q:RR K (NN fp1 (ad O L)) H1 U v r L)(e:share Z1 r=some (d,Z2)):
  ∃fp2,Post K O fp H Z Z2 U U [] fp2 H1/\RepA (NN fp2 (ad O [])) H1 v d:=by
 cases r with
 | val a =>
  simp only[share,map_eq_some_iff] at e;obtain⟨d',e,e'⟩:=e;cases e';refine⟨fp1,x.drop0,ET (fun p z=>?_) (Au.er q e)⟩;have z':=Hb.mp z;refine⟨z'.imp id .inl,fun hp=>?_⟩;rcases z' with ⟨i,z⟩|z
  .exact x.rel.off i p z (.inr hp)
  .exact x.lo p hp z
 | ref i =>
  obtain⟨rfl,hv⟩:=q;simp only[share] at e;split at e
  .rename_i a ha
   simp only[map_eq_some_iff] at e;obtain⟨d',e,e'⟩:=e;cases e';obtain⟨v',hv',q⟩:=x.rel.slot i _ _ ha;rw[hv] at hv'; cases hv';have q2:RepA (NN (pt fp1 i []) (ad O [])) H1 v d:=ET (fun p z=>by
    rcases z with ⟨j,z⟩|z
    .rcases Bc z with ⟨_,z⟩|⟨hj,z⟩
     .simp at z
     .exact⟨.inl ⟨j,z⟩,fun hp=>hj (x.rel.inj j i p z hp)⟩
    .exact⟨.inr z,fun hp=>x.rel.off i p hp z⟩) (Au.er q e)
   have R:=x.rel.set (i:=i) (s:=some (.own,.fz d)) (o:=some v) (L:=[]) (O':=ad O []) (As ha) (fun p z=>.inr z) (fun p hp=>by simp at hp) List.nodup_nil (fun p hp=>by simp at hp) (fun p hp=>by simp at hp)
    (fun j p _ h=>x.rel.off j p h) (fun st a e=>by cases e; exact⟨v,rfl,EF q2⟩) (fun e=>by cases e)
   rw[JU hv] at R;refine⟨pt fp1 i [],⟨R,List.nodup_nil,fun p hp=>by simp at hp,fun p hp=>?_,x.kept,rfl,fun j st a' h n=>?_⟩,q2⟩
   .rcases hp with hp|⟨j,hp⟩
    .simp at hp
    .rcases Bc hp with ⟨_,z⟩|⟨_,z⟩
     .simp at z
     .exact x.new p (.inr ⟨j,z⟩)
   .obtain⟨a2,h2,_,f2⟩:=x.stab j st a' h n
    refine⟨a2,?_,rfl,f2⟩;rw[List.getElem?_set_ne]
    .exact h2
    .rintro rfl
     rw[ha] at h2; cases h2; exact n rfl
  .cases e
theorem Pw{v:V}{r:R}{a:A}(x:Post K O fp H Z Z1 U U L fp1 H1)(q:RR K (NN fp1 (ad O L)) H1 U v r L)(e:move Z1 r=some (a,Z2)):
  ∃L2 fp2,Post K O fp H Z Z2 U U L2 fp2 H1/\Au K (NN fp2 (ad O L2)) H1 v a L2:=by
 cases r with
 | val a =>
  simp only[move,Option.some.injEq] at e;cases e;exact⟨L,fp1,x,q⟩
 | ref i =>
  obtain⟨rfl,hv⟩:=q;simp only[move] at e;split at e
  .rename_i a' ha
   cases e;obtain⟨v',hv',q⟩:=x.rel.slot i _ _ ha;rw[hv] at hv'; cases hv';have nn:∀p,NN (pt fp1 i []) (ad O (fp1 i)) p->NN fp1 (ad O []) p:=fun p z=>by
    rcases z with ⟨j,z⟩|z|z
    .rcases Bc z with ⟨_,z⟩|⟨_,z⟩
     .simp at z
     .exact .inl ⟨j,z⟩
    .exact .inr (.inl z)
    .exact .inl ⟨i,z⟩
   have R:=x.rel.set (i:=i) (s:=none) (o:=some v) (L:=[]) (O':=ad O (fp1 i)) (As ha) (fun p z=>nn p (.inr z)) (fun p hp=>by simp at hp) List.nodup_nil (fun p hp=>by simp at hp) (fun p hp=>by simp at hp)
    (fun j p hj h z=>by
     rcases z with z|z
     .exact x.rel.off j p h (.inl z)
     .exact hj (x.rel.inj j i p h z)) (fun st a e=>by cases e) (fun _=>rfl)
   rw[JU hv] at R;refine⟨fp1 i,pt fp1 i [],⟨R,x.rel.nd i,fun p hp z=>x.rel.off i p hp (.inl z),fun p hp=>?_,x.kept,rfl,fun j st a' h n=>?_⟩,DJ nn q⟩
   .rcases hp with hp|⟨j,hp⟩
    .exact x.new p (.inr ⟨i,hp⟩)
    .rcases Bc hp with ⟨_,z⟩|⟨_,z⟩
     .simp at z
     .exact x.new p (.inr ⟨j,z⟩)
   .obtain⟨a2,h2,_,f2⟩:=x.stab j st a' h n
    refine⟨a2,?_,rfl,f2⟩;rw[List.getElem?_set_ne]
    .exact h2
    .rintro rfl
     rw[ha] at h2; cases h2; exact n rfl
  .cases e
end
section
variable{K:Frag}{Z Z' Z1 Z2:Ro}{U σ' σ1 σ2:St}{H H' H1 H2:Hp}{O O' N:Addr->Prop}{fp fp' fp1 fp2:Nat->List Addr}{L L1 L2:List Addr}
theorem N1{v:V}{d:D}(r:RepA N H v d):RR K N H U v (.val (.fz d)) []:=EF (K:=K) r
noncomputable def L0(K:Frag)(N:Addr->Prop)(H:Hp)(a:A)(v:V)(H':Hp):Prop:=Gf H H'/\∃L,Au K (fun p=>N p\/p∈L) H' v a L/\L.Nodup/\∀p∈L,H p=none
noncomputable abbrev K5(K:Frag)(N:Addr->Prop)(H:Hp):List V->List A->Prop
 | [],[]=>True
 | v::vs,a::as=>(∃L,Au K N H v a L)/\K5 K N H vs as
 | _,_=>False
noncomputable def OpN(K:Frag)(f:List A->Option A)(r:List V->Hp->VK->Prop):Prop:=
 ∀N H xs as b Q,K5 K N H xs as->f as=some b->(∀v H',L0 K N H b v H'->Q v H')->r xs H Q
theorem Rel.peek{r:R}{v:V}{a:A}(x:Rel K Z U H O fp)(q:RR K (NN fp O) H U v r L)(e:peek Z r=some a):∃L,Au K (NN fp O) H v a L:=by
 cases r with
 | val b =>
  simp only[J.peek,Option.some.injEq] at e;subst e;exact⟨L,q⟩
 | ref i =>
  simp only[J.peek] at e;split at e
  .rename_i st b hb
   cases e;obtain⟨v',h1,h2⟩:=x.slot i _ _ hb;rw[q.2] at h1; cases h1;exact⟨_,h2⟩
  .cases e
theorem Rel.peeks(x:Rel K Z U H O fp):∀{rs:List R} {vs:List V} {as:List A} {L:List Addr},RRs K (NN fp O) H U vs rs L->J.peeks Z rs=some as->K5 K (NN fp O) H vs as
 | [],[],as,L,_,e=>by
  simp only[J.peeks,Option.some.injEq] at e;subst e
  trivial
 | [],_::_,_,_,q,_=>by simp only[RRs] at q
 | _::_,[],_,_,q,_=>by simp only[RRs] at q
 | r::rs,v::vs,as,L,q,e=>by
  simp only[J.peeks,bind_eq_some_iff,map_eq_some_iff] at e;obtain⟨a,e1,as',e2,rfl⟩:=e;simp only[RRs] at q;obtain⟨L1,L2,rfl,q1,q2⟩:=q;exact⟨x.peek q1 e1,x.peeks q2 e2⟩
theorem Post.out{a:A}{v:V}(x:Post K O fp H Z Z1 U U L fp1 H1)(o:L0 K (NN fp1 (ad O L)) H1 a v H2):Kw K O fp H Z Z1 U (.val a) v H2:=by
 obtain⟨s,L',r,nd,nw⟩:=o;have al:=r.al;have alO:∀p,NN fp1 (ad O L) p->H1 p≠none:=x.rel.al;refine⟨L',fp1,⟨x.rel.grow s (fun p z=>z.imp .inl (nw p)) fun p z=>?_,nd,fun p hp z=>alO p (.inr (.inl z)) (nw p hp),fun p hp=>?_,x.kept.trans (Gf.kept (L:=fun _=>False) s) fun _ z=>z.elim,x.ln,x.stab⟩,?_⟩
 .rcases z with z|z
  .intro q
   have:=alO p (.inr (.inl z));cases e:H1 p with
   | none=>exact this e
   | some o=>rw[s p o e] at q; cases q
  .exact al p z
 .rcases hp with hp|hp
  .have e1:=nw p hp
   cases e:H p with
   | none=>exact .inr rfl
   | some o =>
    by_cases hf:Fp fp p
    .exact .inl hf
    .rw[x.kept p o e (.inl hf)] at e1; cases e1
  .exact x.new p (.inr hp)
 .refine DJ (fun p z=>?_) r
  rcases z with z|z|z
  .exact .inl (.inl z)
  .exact .inl (.inr (.inl z))
  .exact .inr z
theorem K2{f:List A->Option A}{r:List V->Hp->VK->Prop}{m:MA}{Q:VK}(ok:OpN K f r)(h:tE K (opM f m) U H Q):tA K m U H fun vs H1=>r vs H1 Q:=by
 obtain⟨Z,O,fp,rl,x,Z',e,k⟩:=h;simp only[opM,bind_eq_some_iff,map_eq_some_iff] at e;obtain⟨⟨rs,Z1⟩,e1,as,e2,b,e3,e4⟩:=e;cases e4;refine⟨Z,O,fp,rl,rs,_,e1,fun vs H1 yy=>?_⟩;obtain⟨L,fp1,p,q⟩:=yy;exact ok _ H1 vs as b Q (p.rel.peeks q e2) e3 fun v H' o=>k v H' (p.out o)
theorem R5{i:Nat}{Q:VK}(h:tE K (Aa i) U H Q):P7 i U H Q:=by
 obtain⟨Z,O,fp,rl,x,Z',e,k⟩:=h;simp only[Aa] at e;split at e
 .rename_i st d hd
  cases e;obtain⟨v,h1,h2⟩:=rl.slot i _ _ hd;refine⟨v,h1,k v H ⟨[],fp,rl.post,?_⟩⟩;rw[Au] at h2;exact N1 (ET (fun p z=>Hb.mp z) h2.2)
 .rename_i y hn hy
  cases e;obtain⟨st,a⟩:=y;obtain⟨v,h1,h2⟩:=rl.slot i _ _ hy;exact⟨v,h1,k v H ⟨[],fp,rl.post,rfl,h1⟩⟩
 .cases e
theorem J0{d:D}{v:V}{Q:VK}(hv:∀N H,RepA N H v d)(h:tE K (Ag d) U H Q):tC v U H Q:=by
 obtain⟨Z,O,fp,rl,x,Z',e,k⟩:=h;cases e;exact k v H ⟨[],fp,rl.post,N1 (hv _ _)⟩
theorem R3{m:ME}{Q:VK}(h:tE K (AK m) U H Q):tE K m U H Q:=by
 obtain⟨Z,O,fp,rl,x,Z',e,k⟩:=h;simp only[AK,bind_eq_some_iff,map_eq_some_iff] at e;obtain⟨⟨r,Z1⟩,e1,⟨d,Z2⟩,e2,e3⟩:=e;cases e3;refine⟨Z,O,fp,rl,r,Z1,e1,fun v H1 yy=>?_⟩;obtain⟨L,fp1,p,q⟩:=yy;obtain⟨fp2,p2,q2⟩:=Dt p q e2;exact k v H1 ⟨[],fp2,p2,N1 q2⟩
theorem RL{v:V}{a:A}{b:Bool}(h:Au K N H v a L)(e:EY a=some b):v=.bl b:=by
 cases a with
 | fz d =>
  cases d with
  | bl c =>
   simp only[EY,Option.some.injEq] at e;subst e;rw[Au] at h;obtain⟨_,h⟩:=h;cases h;rfl
  | _=>simp[EY] at e
 | _=>simp[EY] at e
theorem J3{m:ME}{Q:Bool->Hp->Prop}(h:tT K (AF m) U H Q):tE K m U H fun x H1=>∃c,x=.bl c/\Q c H1:=by
 obtain⟨Z,O,fp,rl,x,Z',e,k⟩:=h;simp only[AF,bind_eq_some_iff,map_eq_some_iff] at e;obtain⟨⟨r,Z1⟩,e1,a,e2,b,e3,e4⟩:=e;cases e4;refine⟨Z,O,fp,rl,r,_,e1,fun v H1 yy=>?_⟩;obtain⟨L,fp1,p,q⟩:=yy;obtain⟨L',q'⟩:=p.rel.peek q e2;exact⟨_,RL q' e3,k fp1 H1 p.drop0⟩
theorem Post.next{σ2:St}(x:Post K O fp H Z Z1 U σ1 [] fp1 H1)(y:Post K O fp1 H1 Z1 Z2 σ1 σ2 L2 fp2 H2):Post K O fp H Z Z2 U σ2 L2 fp2 H2:=by
 have e:ad O []=O:=funext fun p=>propext Jb;exact Post.then (L1:=[]) x (by rw[e]; exact y)
theorem Post.rel0(x:Post K O fp H Z Z1 U σ1 [] fp1 H1):Rel K Z1 σ1 H1 O fp1:=x.rel.congr fun p=>Jb
theorem Kw.pre{r:R}{v:V}(x:Post K O fp H Z Z1 U U [] fp1 H1)(y:Kw K O fp1 H1 Z1 Z2 U r v H2):Kw K O fp H Z Z2 U r v H2:=by
 obtain⟨L,fp2,p,q⟩:=y;exact⟨L,fp2,x.next p,q⟩
theorem Xm{a b:MT}{Q:Bool->Hp->Prop}(h:tT K (IG a b) U H Q):tT K a U H fun c H1=>if c=true then tT K b U H1 Q else Q false H1:=by
 obtain⟨Z,O,fp,rl,x,Z',e,k⟩:=h;simp only[IG,bind_eq_some_iff] at e;obtain⟨⟨c,Z1⟩,e1,e2⟩:=e;refine⟨Z,O,fp,rl,c,Z1,e1,fun fp1 H1 p=>?_⟩;cases c with
 | true =>
  rw[if_pos rfl] at e2 |-;exact⟨Z1,O,fp1,p.rel0,x,Z',e2,fun fp2 H2 p2=>k fp2 H2 (p.next p2)⟩
 | false =>
  simp at e2;obtain⟨rfl,rfl⟩:=e2;rw[if_neg Bool.false_ne_true];exact k fp1 H1 p
theorem Yz{a b:MT}{Q:Bool->Hp->Prop}(h:tT K (orT a b) U H Q):tT K a U H fun c H1=>if c=true then Q true H1 else tT K b U H1 Q:=by
 obtain⟨Z,O,fp,rl,x,Z',e,k⟩:=h;simp only[orT,bind_eq_some_iff] at e;obtain⟨⟨c,Z1⟩,e1,e2⟩:=e;refine⟨Z,O,fp,rl,c,Z1,e1,fun fp1 H1 p=>?_⟩;cases c with
 | false =>
  simp at e2;rw[if_neg Bool.false_ne_true];exact⟨Z1,O,fp1,p.rel0,x,Z',e2,fun fp2 H2 p2=>k fp2 H2 (p.next p2)⟩
 | true =>
  simp at e2;obtain⟨rfl,rfl⟩:=e2;rw[if_pos rfl];exact k fp1 H1 p
theorem Xn{a:MT}{Q:Bool->Hp->Prop}(h:tT K (Ds a) U H Q):tT K a U H fun c H1=>Q (!c) H1:=by
 obtain⟨Z,O,fp,rl,x,Z',e,k⟩:=h;simp only[Ds,map_eq_some_iff] at e;obtain⟨⟨c,Z1⟩,e1,e2⟩:=e;cases e2;exact⟨Z,O,fp,rl,c,_,e1,k⟩
theorem O0{m:ME}{Q:Bool->Hp->Prop}{Z Z':Ro}{b:Bool}{O:Addr->Prop}{fp:Nat->List Addr}(rl:Rel K Z U H O fp)(e:AF m Z=some (b,Z'))(k:∀fp' H',Post K O fp H Z Z' U U [] fp' H'->Q b H'):tE K m U H fun x H1=>∃c,x=.bl c/\Q c H1:=
 J3 ⟨Z,O,fp,rl,b,Z',e,k⟩
theorem W7{a b:ME}{Q:VK}(h:tE K (andM a b) U H Q):tE K a U H fun x H1=>∃c,x=.bl c/\if c=true then tE K b U H1 Q else Q (.bl false) H1:=by
 obtain⟨Z,O,fp,rl,x,Z',e,k⟩:=h;simp only[andM,bind_eq_some_iff] at e;obtain⟨⟨c,Z1⟩,e1,e2⟩:=e;refine O0 (Q:=fun c H1=>if c=true then tE K b U H1 Q else Q (.bl false) H1) rl e1 fun fp1 H1 p=>?_;cases c with
 | true =>
  rw[if_pos rfl] at e2 |-;exact⟨Z1,O,fp1,p.rel0,x,Z',e2,fun v H2 p2=>k v H2 (p2.pre p)⟩
 | false =>
  simp at e2;obtain⟨rfl,rfl⟩:=e2;rw[if_neg Bool.false_ne_true];exact k _ H1 ⟨[],fp1,p,N1 (.bl _)⟩
theorem Xa{a:ME}{Q:VK}(h:tE K (notM a) U H Q):tE K a U H fun x H1=>∃c,x=.bl c/\Q (.bl (!c)) H1:=by
 obtain⟨Z,O,fp,rl,x,Z',e,k⟩:=h;simp only[notM,map_eq_some_iff] at e;obtain⟨⟨c,Z1⟩,e1,e2⟩:=e;cases e2;exact O0 (Q:=fun c H1=>Q (.bl (!c)) H1) rl e1 fun fp1 H1 p=>k _ H1 ⟨[],fp1,p,N1 (.bl _)⟩
theorem W8{c:MT}{a b:ME}{Q:VK}(h:tE K (Kb c a b) U H Q):tT K c U H fun c H1=>if c=true then tE K a U H1 Q else tE K b U H1 Q:=by
 obtain⟨Z,O,fp,rl,x,Z',e,k⟩:=h;simp only[Kb,bind_eq_some_iff] at e;obtain⟨⟨c,Z1⟩,e1,e2⟩:=e;refine⟨Z,O,fp,rl,c,Z1,e1,fun fp1 H1 p=>?_⟩;cases c with
 | true =>
  rw[if_pos rfl] at e2 |-;exact⟨Z1,O,fp1,p.rel0,x,Z',e2,fun v H2 p2=>k v H2 (p2.pre p)⟩
 | false =>
  simp at e2;rw[if_neg Bool.false_ne_true];exact⟨Z1,O,fp1,p.rel0,x,Z',e2,fun v H2 p2=>k v H2 (p2.pre p)⟩
theorem RRs.vals:∀{rs:List R} {vs:List V} {as:List A} {L:List Addr},RRs K N H U vs rs L->J.vals rs=some as->Ap K N H vs as L:=by
 intro _l;induction _l with
 | nil =>
  intro _m;cases _m with
  | nil =>
   intro as L q e;simp only[J.vals,Option.some.injEq] at e;subst e;simp only[RRs] at q;simp only[Ap];exact q
  | cons _ _ =>
   intro _ _ q _;simp only[RRs] at q
 | cons r rs ih =>
  intro _m;cases _m with
  | nil =>
   intro _ _ q _;simp only[RRs] at q
  | cons v vs =>
   intro as L q e;cases r with
   | ref i=>simp[J.vals] at e
   | val a =>
    simp only[J.vals,map_eq_some_iff] at e;obtain⟨as',e2,rfl⟩:=e;simp only[RRs] at q;obtain⟨L1,L2,rfl,q1,q2⟩:=q;simp only[Ap];exact⟨L1,L2,rfl,q1,ih q2 e2⟩
theorem BV{p:Addr}{o:HO}(h:H p=none):Gf H (upd H p o):=fun b o' e=>by
 rw[AL (Dr e h)]; exact e
theorem Post.more{L':List Addr}(x:Post K O fp H Z Z1 U σ1 L fp1 H1)(s:Gf H1 H2)(nd:L'.Nodup)(h:∀p∈L',p∈L\/(H1 p=none/\H2 p≠none)):Post K O fp H Z Z1 U σ1 L' fp1 H2 where
 rel:=x.rel.grow s (fun p z=>by
   rcases z with z|z
   .exact .inl (.inl z)
   .rcases h p z with q|q
    .exact .inl (.inr q)
    .exact .inr q.1) fun p z=>by
   have key:H1 p≠none->H2 p≠none:=fun n q=>by
    cases e:H1 p with
    | none=>exact n e
    | some o=>rw[s p o e] at q; cases q
   rcases z with z|z
   .exact key (x.rel.al p (.inr (.inl z)))
   .rcases h p z with q|q
    .exact key (x.rel.al p (.inr (.inr q)))
    .exact q.2
 nd:=nd
 lo:=fun p hp z=>by
  rcases h p hp with q|q
  .exact x.lo p q z
  .exact x.rel.al p (.inr (.inl z)) q.1
 new:=fun p hp=>by
  rcases hp with hp|hp
  .rcases h p hp with q|q
   .exact x.new p (.inl q)
   .cases e:H p with
    | none=>exact .inr rfl
    | some o =>
     by_cases hf:Fp fp p
     .exact .inl hf
     .have:=x.kept p o e (.inl hf)
      rw[q.1] at this; cases this
  .exact x.new p (.inr hp)
 kept:=x.kept.trans (Gf.kept (L:=fun _=>False) s) fun _ z=>z.elim
 ln:=x.ln
 stab:=x.stab
theorem W9{m:MA}{Q:VK}(h:tE K (lstM m) U H Q):Yu (tA K m) U H Q:=by
 obtain⟨Z,O,fp,rl,x,Z',e,k⟩:=h;simp only[lstM,bind_eq_some_iff] at e;obtain⟨⟨rs,Z1⟩,e1,as,e2,e3⟩:=e;split at e3
 .rename_i hz
  cases e3;refine⟨Z,O,fp,rl,rs,_,e1,fun vs H1 yy=>?_⟩
  obtain⟨L,fp1,p,q⟩:=yy;have q':=q.vals e2;have hl:=q'.len;refine⟨by rw[hl]; exact hz,fun a ha=>k _ _ ?_⟩;have s:=BV (o:=.lst vs) ha;have nL:a∉L:=fun z=>p.rel.al a (.inr (.inr z)) ha;refine⟨a::L,fp1,p.more s (List.nodup_cons.mpr ⟨nL,p.nd⟩) (fun b hb=>?_),?_⟩
  .rcases List.mem_cons.mp hb with rfl|hb
   .exact .inr ⟨ha,by rw[AQ]; simp⟩
   .exact .inl hb
  .show Au _ _ _ _ _ _
   rw[Au];refine⟨a,vs,L,rfl,rfl,AQ,by rw[hl]; exact hz,q'.tr (M:=fun _=>False) (fun _ z=>z.elim) (Gf.kept s) (fun b z=>?_) fun _ _ z=>z⟩;rcases z with z|z|z
   .exact .inl (.inl z)
   .exact .inl (.inr (.inl z))
   .rcases List.mem_cons.mp z with rfl|z
    .exact .inr ha
    .exact .inl (.inr (.inr z))
 .cases e3
end
noncomputable def Qi(K:Frag)(O:Addr->Prop)(fp:Nat->List Addr)(H:Hp)(Z:Ro)(U:St)(D:Ends):Fl->Prop
 | .next Z'=>∀σ' fp' H',Post K O fp H Z Z' U σ' [] fp' H'->D.nx σ' H'
 | .brk Z'=>∀σ' fp' H',Post K O fp H Z Z' U σ' [] fp' H'->D.bk σ' H'
 | .cnt Z'=>∀σ' fp' H',Post K O fp H Z Z' U σ' [] fp' H'->D.ct σ' H'
 | .ret a Z'=>∀σ' v L fp' H',Post K O fp H Z Z' U σ' L fp' H'->Au K (NN fp' (ad O L)) H' v a L->D.rt v H'
noncomputable def tS(K:Frag)(m:MS):TS:=fun D U H=>∃Z O fp,Rel K Z U H O fp/\∃fl,m Z=some fl/\Qi K O fp H Z U D fl
section
variable{K:Frag}{Z Z' Z1 Z2:Ro}{U σ' σ1 σ2:St}{H H' H1 H2:Hp}{O O' N:Addr->Prop}{fp fp' fp1 fp2:Nat->List Addr}{L L1 L2:List Addr}{D:Ends}
theorem Qi.pre{fl:Fl}(x:Post K O fp H Z Z1 U σ1 [] fp1 H1)(w:Qi K O fp H Z U D fl):Qi K O fp1 H1 Z1 σ1 D fl:=by
 cases fl with
 | next Z'=>exact fun σ' fp' H' p=>w σ' fp' H' (x.next p)
 | brk Z'=>exact fun σ' fp' H' p=>w σ' fp' H' (x.next p)
 | cnt Z'=>exact fun σ' fp' H' p=>w σ' fp' H' (x.next p)
 | ret a Z'=>exact fun σ' v L fp' H' p q=>w σ' v L fp' H' (x.next p) q
theorem Uo(h:tS K AS D U H):U2 D U H:=by
 obtain⟨Z,O,fp,rl,fl,e,w⟩:=h;cases e;exact w U fp H rl.post
theorem Xk{a b:MS}(h:tS K (Ao a b) D U H):Yy (tS K a) (tS K b) D U H:=by
 obtain⟨Z,O,fp,rl,fl,e,w⟩:=h;simp only[Ao,bind_eq_some_iff] at e;obtain⟨f1,e1,e2⟩:=e;refine⟨Z,O,fp,rl,f1,e1,?_⟩;cases f1 with
 | next Z1=>exact fun σ1 fp1 H1 p=>⟨Z1,O,fp1,p.rel0,fl,e2,w.pre p⟩
 | brk Z1=>cases e2; exact w
 | cnt Z1=>cases e2; exact w
 | ret a Z1=>cases e2; exact w
theorem Yx{c:MT}{a b:MS}(h:tS K (ifS c a b) D U H):Yt (tT K c) (tS K a) (tS K b) D U H:=by
 obtain⟨Z,O,fp,rl,fl,e,w⟩:=h;simp only[ifS,bind_eq_some_iff] at e;obtain⟨⟨c,Z1⟩,e1,e2⟩:=e;refine⟨Z,O,fp,rl,c,Z1,e1,fun fp1 H1 p=>?_⟩;cases c with
 | true =>
  simp at e2;rw[if_pos rfl];exact⟨Z1,O,fp1,p.rel0,fl,e2,w.pre p⟩
 | false =>
  simp at e2;rw[if_neg Bool.false_ne_true];exact⟨Z1,O,fp1,p.rel0,fl,e2,w.pre p⟩
theorem Xf{m:ME}(h:tS K (J9 m) D U H):OZ (tE K m) D U H:=by
 obtain⟨Z,O,fp,rl,fl,e,w⟩:=h;simp only[J9,map_eq_some_iff] at e;obtain⟨⟨r,Z1⟩,e1,e2⟩:=e;cases e2;exact⟨Z,O,fp,rl,r,Z1,e1,fun v H1 ⟨L,fp1,p,q⟩=>w U fp1 H1 p.drop0⟩
theorem Xj{m:ME}(h:tS K (retS m) D U H):Yw (tE K m) D U H:=by
 obtain⟨Z,O,fp,rl,fl,e,w⟩:=h;simp only[retS,bind_eq_some_iff,map_eq_some_iff] at e;obtain⟨⟨r,Z1⟩,e1,⟨a,Z2⟩,e2,e3⟩:=e;cases e3;refine⟨Z,O,fp,rl,r,Z1,e1,fun v H1 yy=>?_⟩;obtain⟨L,fp1,p,q⟩:=yy;obtain⟨L2,fp2,p2,q2⟩:=Pw p q e2;exact w U v L2 fp2 H1 p2 q2
theorem QB{i:Nat}(h:free Z i=true):i<Z.length/\∀st a,Z[i]? = some (some (st,a))->st=.own:=by
 unfold free at h;split at h
 .rename_i e
  exact⟨As e,fun st a e'=>by rw[e] at e'; cases e'⟩
 .rename_i a e
  exact⟨As e,fun st a e'=>by rw[e] at e'; cases e'; rfl⟩
 .cases h
theorem Post.store{i:Nat}{v:V}{a:A}{σ1:St}(x:Post K O fp H Z Z1 U σ1 (L1++L2) fp1 H1)(hf:free Z1 i=true)(q:Au K (NN fp1 (ad O (L1++L2))) H1 v a L1):
  Post K O fp H Z (Z1.set i (some (.own,a))) U (σ1.set i (some v)) L2 (pt fp1 i L1) H1:=by
 obtain⟨hi,ho⟩:=QB hf;have nd:=List.nodup_append.mp x.nd;have nn:∀p,NN (pt fp1 i L1) (ad O L2) p->NN fp1 (ad O (L1++L2)) p:=fun p z=>by
  rcases z with ⟨j,z⟩|z|z
  .rcases Bc z with ⟨_,z⟩|⟨_,z⟩
   .exact .inr (.inr (List.mem_append_left _ z))
   .exact .inl ⟨j,z⟩
  .exact .inr (.inl z)
  .exact .inr (.inr (List.mem_append_right _ z))
 refine⟨x.rel.set (O':=ad O L2) hi (fun p z=>nn p (.inr z)) (fun p hp=>.inr (.inr (List.mem_append_left _ hp))) nd.1 (fun p hp j _ z=>x.rel.off j p z (.inr (List.mem_append_left _ hp))) (fun p hp z=>?_)
  (fun j p _ h z=>x.rel.off j p h (z.imp id (List.mem_append_right _))) (fun st a' e=>by cases e; exact⟨v,rfl,DJ nn q⟩) (fun e=>by cases e),nd.2.1,fun p hp=>x.lo p (List.mem_append_right _ hp),fun p hp=>?_,x.kept,by rw[List.length_set]; exact x.ln,fun j st a' h n=>?_⟩
 .rcases z with z|z
  .exact x.lo p (List.mem_append_left _ hp) z
  .exact nd.2.2 p hp p z rfl
 .rcases hp with hp|⟨j,hp⟩
  .exact x.new p (.inl (List.mem_append_right _ hp))
  .rcases Bc hp with ⟨_,z⟩|⟨_,z⟩
   .exact x.new p (.inl (List.mem_append_left _ z))
   .exact x.new p (.inr ⟨j,z⟩)
 .obtain⟨a2,h2,e2,f2⟩:=x.stab j st a' h n
  have hj:j≠i:=by
   rintro rfl;exact n (ho st a2 h2)
  exact⟨a2,by rw[List.getElem?_set_ne (Ne.symm hj)]; exact h2,by rw[List.getElem?_set_ne (Ne.symm hj)]; exact e2,f2⟩
theorem Ik{v:V}{r:R}{a:A}(x:Post K O fp H Z Z1 U U L fp1 H1)(q:RR K (NN fp1 (ad O L)) H1 U v r L)(e:keep Z1 r=some (a,Z2)):
  ∃L2 fp2,Post K O fp H Z Z2 U U L2 fp2 H1/\Au K (NN fp2 (ad O L2)) H1 v a L2:=by
 cases r with
 | val b =>
  simp only[keep,Option.some.injEq] at e;cases e;exact⟨L,fp1,x,q⟩
 | ref i =>
  simp only[keep,map_eq_some_iff] at e;obtain⟨⟨d,Z3⟩,e,e'⟩:=e;cases e';obtain⟨fp2,p,q2⟩:=Dt x q e;exact⟨[],fp2,p,EF q2⟩
theorem J1{i:Nat}{m:ME}(h:tS K (AH i m) D U H):Oa (tE K m) (HA i) D U H:=by
 obtain⟨Z,O,fp,rl,fl,e,w⟩:=h;simp only[AH,bind_eq_some_iff] at e;obtain⟨⟨r,Z1⟩,e1,⟨a,Z2⟩,e2,e3⟩:=e;split at e3
 .rename_i hf
  cases e3;refine⟨Z,O,fp,rl,r,Z1,e1,fun v H1 yy=>?_⟩
  obtain⟨L,fp1,p,q⟩:=yy;obtain⟨L2,fp2,p2,q2⟩:=Ik p q e2;exact w _ _ H1 (Post.store (L1:=L2) (L2:=[]) (by rw[List.append_nil]; exact p2) hf (by rw[List.append_nil]; exact q2))
 .cases e3
noncomputable def Gs:List Nat->TGs
 | []=>XO
 | i::is=>UD (HA i) (Gs is)
theorem K0{Q:St->Hp->Prop}:∀{is:List Nat} {as:List A} {vs:List V} {Z1 Z2:Ro} {σ1:St} {fp1:Nat->List Addr} {L:List Addr},Post K O fp H Z Z1 U σ1 L fp1 H1->Ap K (NN fp1 (ad O L)) H1 vs as L->B7 is as Z1=some Z2 ->
  (∀σ' fp',Post K O fp H Z Z2 U σ' [] fp' H1->Q σ' H1)->Gs is vs σ1 H1 Q:=by
 intro _l;induction _l with
 | nil =>
  intro _m;cases _m with
  | nil =>
   intro vs Z1 Z2 σ1 fp1 L x q e k;cases vs with
   | cons v vs=>simp only[Ap] at q
   | nil =>
    simp only[B7,Option.some.injEq] at e;subst e;exact⟨rfl,k σ1 fp1 x.drop0⟩
  | cons _ _ =>
   intro _ _ _ _ _ _ _ _ e _;simp[B7] at e
 | cons i is ih =>
  intro _m;cases _m with
  | nil =>
   intro _ _ _ _ _ _ _ _ e _;simp[B7] at e
  | cons a as =>
   intro vs Z1 Z2 σ1 fp1 L x q e k;cases vs with
   | nil=>simp only[Ap] at q
   | cons v vs =>
    simp only[Ap] at q;obtain⟨L1,L2,rfl,q1,q2⟩:=q;simp only[B7] at e;split at e
    .rename_i hf
     refine⟨v,vs,rfl,?_⟩;have p:=x.store hf q1;refine ih p (Xw (fun p z=>?_) q2) e k;rcases z with ⟨j,z⟩|z|z
     .rcases Bc z with ⟨_,z⟩|⟨_,z⟩
      .exact .inr (.inr (List.mem_append_left _ z))
      .exact .inl ⟨j,z⟩
     .exact .inr (.inl z)
     .exact .inr (.inr (List.mem_append_right _ z))
    .cases e
theorem Au.parts{v:V}{a:A}{as:List A}(q:Au K N H v a L)(e:F3 a=some as):∃p vs,v=.ref p/\SqT K H p vs/\Ap K N H vs as L:=by
 cases a with
 | tup bs =>
  simp only[F3,Option.some.injEq] at e;subst e;rw[Au] at q;obtain⟨p,vs,rfl,h,hz,hs⟩:=q;exact⟨p,vs,rfl,.inl (.inl h),hs⟩
 | fz d =>
  cases d with
  | tup ds =>
   simp only[F3,Option.some.injEq] at e;subst e;rw[Au] at q;obtain⟨rfl,q⟩:=q;cases q with
   | tup h hz hl hr=>exact⟨_,_,rfl,.inl (.inl h),Ap.of (Aw.mk hl hr)⟩
  | _=>simp[F3] at e
 | _=>simp[F3] at e
theorem JR:∀{is:List Nat} {as:List A} {Z1 Z2:Ro},B7 is as Z1=some Z2->is.length=as.length:=by
 intro _l;induction _l with
 | nil =>
  intro _m;cases _m with
  | nil =>
   intro _ _ _;exact rfl
  | cons _ _ =>
   intro _ _ e;simp[B7] at e
 | cons i is ih =>
  intro _m;cases _m with
  | nil =>
   intro _ _ e;simp[B7] at e
  | cons a as =>
   intro _ _ e;simp only[B7] at e;split at e
   .simp[ih e]
   .cases e
theorem Xl{is:List Nat}{m:ME}(h:tS K (Nf is m) D U H):Oa (tE K m) (Vo K is.length (Gs is)) D U H:=by
 obtain⟨Z,O,fp,rl,fl,e,w⟩:=h;simp only[Nf,bind_eq_some_iff,map_eq_some_iff] at e;obtain⟨⟨r,Z1⟩,e1,⟨a,Z2⟩,e2,as,e3,Z3,e4,e5⟩:=e;cases e5;refine⟨Z,O,fp,rl,r,Z1,e1,fun v H1 yy=>?_⟩;obtain⟨L,fp1,p,q⟩:=yy;obtain⟨L2,fp2,p2,q2⟩:=Ik p q e2;obtain⟨pa,vs,rfl,hS,hs⟩:=q2.parts e3;exact⟨pa,vs,rfl,hS,by rw[hs.len,JR e4],K0 p2 hs e4 fun σ' fp' p'=>w σ' fp' H1 p'⟩
theorem R7{n:Nat}{c:MT}{b:MS}(h:tS K (J5 n c b) D U H):R8 (tT K c) (tS K b) D U H:=by
 obtain⟨Z,O,fp,rl,fl,e,w⟩:=h;refine⟨fun n σ' H'=>∃Z' fp',Post K O fp H Z Z' U σ' [] fp' H'/\DX c b n Z'=some fl,⟨n,Z,fp,rl.post,e⟩,?_⟩;rintro n σ1 H1 ⟨Z1,fp1,p1,e1⟩;cases n with
 | zero=>simp[DX] at e1
 | succ n =>
  simp only[DX,bind_eq_some_iff] at e1;obtain⟨⟨c,Z2⟩,e2,e3⟩:=e1;refine⟨Z1,O,fp1,p1.rel0,c,Z2,e2,fun fp2 H2 p2=>?_⟩;have p12:=p1.next p2;cases c with
  | false =>
   simp at e3;subst e3;dsimp only;rw[if_neg Bool.false_ne_true];exact w _ _ _ p12
  | true =>
   simp only[if_true,bind_eq_some_iff] at e3;obtain⟨f,e4,e5⟩:=e3;dsimp only;rw[if_pos rfl];refine⟨_,fun σ' H' z=>⟨n,Nat.lt_succ_self n,z⟩,Z2,O,fp2,p12.rel0,f,e4,?_⟩;cases f with
   | next Z3=>exact fun σ' fp' H' p=>⟨Z3,fp',p12.next p,e5⟩
   | cnt Z3=>exact fun σ' fp' H' p=>⟨Z3,fp',p12.next p,e5⟩
   | brk Z3 =>
    cases e5;exact fun σ' fp' H' p=>w σ' fp' H' (p12.next p)
   | ret a Z3 =>
    cases e5;exact fun σ' v L fp' H' p q=>w σ' v L fp' H' (p12.next p) q
end
noncomputable def ItR(J:It)(C:(Addr->Prop)->Hp->Prop)(ds:List D):Prop:=∀N H,C N H->(∀i,i<ds.length->J.go i H)/\(∀i,ds.length<=i->J.stop i H)/\∀i x H' d,J.yld i H x H'->ds[i]? = some d->Gf H H'/\RepA N H' x d
noncomputable def YC(H H':Hp):Prop:=∀p xs,H p=some (.tup xs)->H' p=some (.tup xs)
noncomputable def ItP(K:Frag)(O:Addr->Prop)(fp:Nat->List Addr)(H:Hp)(Z Z':Ro)(U:St)(ds:List D)(n:Option Nat)(J:It)(H':Hp):Prop:=
 ∃r v a L fp',Post K O fp H Z Z' U U L fp' H'/\RR K (NN fp' (ad O L)) H' U v r L/\n=nameOf r/\peek Z' r=some a/\ItR J (fun N H=>(∃L,Au K N H v a L)/\YC H' H/\∀z dz,RepA (NN fp' (ad O L)) H' z dz->RepA N H z dz) ds
noncomputable def tI(K:Frag)(m:MI):TI:=fun U H R=>∃Z O fp,Rel K Z U H O fp/\∃ds n Z',m Z=some (ds,n,Z')/\∀J H',ItP K O fp H Z Z' U ds n J H'->R J H'
section
variable{K:Frag}{Z Z' Z1 Z2:Ro}{U σ' σ1 σ2:St}{H H' H1 H2:Hp}{O O' N:Addr->Prop}{fp fp' fp1 fp2:Nat->List Addr}{L L1 L2:List Addr}
theorem Fy{n:Option Nat}{j:Nat}:(lock Z n)[j]? = match Z[j]? with
  | some (some (st,a))=>some (some (if n=some j then .ro else st,a))
  | x=>x:=by
 cases n with
 | none =>
  simp only[lock];split<;>simp_all
 | some i =>
  simp only[lock];split
  .rename_i st a e
   by_cases h:j=i
   .subst h
    rw[List.getElem?_set_self (As e),e];simp
   .rw[List.getElem?_set_ne (Ne.symm h)]
    split
    .have:¬(some i=some j):=fun z=>h (Option.some.inj z).symm
     simp[this, *]
    .rfl
  .rename_i hn
   by_cases h:j=i
   .subst h
    split
    .rename_i st a e
     exact absurd e (hn st a)
    .rfl
   .split
    .have:¬(some i=some j):=fun z=>h (Option.some.inj z).symm
     simp[this, *]
    .rfl
theorem Rel.lock{n:Option Nat}(r:Rel K Z U H O fp):Rel K (J.lock Z n) U H O fp where
 len:=by
  rw[<- r.len];cases n with
  | none=>rfl
  | some i=>simp only[J.lock]; split<;>simp
 slot:=fun i st a e=>by
  rw[Fy] at e;split at e
  .rename_i st' a' e'
   simp only[Option.some.injEq,Prod.mk.injEq] at e;obtain⟨_,rfl⟩:=e;exact r.slot i _ _ e'
  .exact r.slot i _ _ e
 out:=fun i h=>r.out i fun st a e=>h (if n=some i then .ro else st) a (by rw[Fy,e])
 nd:=r.nd
 inj:=r.inj
 off:=r.off
 al:=r.al
theorem Post.unlock{n:Option Nat}{a:A}(hn:∀i,n=some i->∃st,Z1[i]? = some (some (st,a)))(x:Post K O fp1 H1 (J.lock Z1 n) Z2 σ1 σ2 L fp2 H2):Post K O fp1 H1 Z1 (J.unlock Z1 Z2 n) σ1 σ2 L fp2 H2:=by
 cases n with
 | none=>exact x
 | some i =>
  obtain⟨st,e⟩:=hn i rfl;obtain⟨a',e2,es,ea⟩:=x.stab i .ro a (by rw[Fy,e]; simp) (by decide);cases ea rfl;have eu:J.unlock Z1 Z2 (some i)=Z2.set i (some (st,a)):=by simp only[J.unlock,e]
  rw[eu];have get:∀j st' b,(Z2.set i (some (st,a)))[j]? = some (some (st',b))->∃st'',Z2[j]? = some (some (st'',b)):=fun j st' b q=>by
   by_cases h:j=i
   .subst h
    rw[List.getElem?_set_self (As e2)] at q;cases q;exact⟨_,e2⟩
   .rw[List.getElem?_set_ne (Ne.symm h)] at q
    exact⟨_,q⟩
  refine⟨⟨by rw[List.length_set]; exact x.rel.len,fun j st' b q=>?_,fun j h=>?_,x.rel.nd,x.rel.inj,x.rel.off,x.rel.al⟩,x.nd,x.lo,x.new,x.kept,x.ln,fun j st' b q hs=>?_⟩
  .obtain⟨st'',q⟩:=get j st' b q
   exact x.rel.slot j _ _ q
  .refine x.rel.out j fun st' b q=>?_
   by_cases hj:j=i
   .subst hj
    exact h st a (List.getElem?_set_self (As e2))
   .exact h st' b (by rw[List.getElem?_set_ne (Ne.symm hj)]; exact q)
  .by_cases hj:j=i
   .subst hj
    rw[e] at q;cases q;exact⟨a,List.getElem?_set_self (As e2),es,fun _=>rfl⟩
   .have q':(J.lock Z1 (some i))[j]? = some (some (st',b)):=by
     rw[Fy,q];have:¬(some i=some j):=fun z=>hj (Option.some.inj z).symm;simp[this]
    obtain⟨b',q2,s2,f2⟩:=x.stab j st' b q' hs;exact⟨b',by rw[List.getElem?_set_ne (Ne.symm hj)]; exact q2,s2,f2⟩
noncomputable def Pf(K:Frag)(is:List Nat):Bool->TG
 | true=>HA (is.headD 0)
 | false=>Vo K is.length (Gs is)
theorem Sy{is:List Nat}{one:Bool}{d:D}{x:V}{Q:St->Hp->Prop}(p:Post K O fp H Z Z1 U σ1 [] fp1 H1)(q:RepA (NN fp1 O) H1 x d)(e:Gi is one d Z1=some Z2)(k:∀σ' fp',Post K O fp H Z Z2 U σ' [] fp' H1->Q σ' H1):
  Pf K is one x σ1 H1 Q:=by
 have q0:RepA (NN fp1 (ad O [])) H1 x d:=ET (fun p z=>Hb.mp z) q;cases one with
 | true =>
  unfold Gi at e
  match is,e with
  | [i],e =>
   dsimp only at e;split at e
   .rename_i hf
    cases e;exact k _ _ (Post.store (L1:=[]) (L2:=[]) p hf (EF (K:=K) q0))
   .cases e
  | [],e=>simp at e
  | _::_::_,e=>simp at e
 | false =>
  unfold Gi at e;dsimp only at e;cases d with
  | tup ds =>
   dsimp only at e;cases q0 with
   | tup h hz hl hr =>
    refine⟨_,_,rfl,.inl (.inl h),?_,K0 p (Ap.of (Aw.mk hl hr)) e k⟩;have:=JR e;rw[List.length_map] at this;rw[hl,this]
  | _=>simp at e
theorem W4{r:R}{v:V}{a:A}{n:Option Nat}(hn:n=nameOf r)(hr:Rel K Z1 U H1 (ad O L) fp1)(q:RR K (NN fp1 (ad O L)) H1 U v r L)(e:peek Z1 r=some a)(p:Post K (ad O L) fp1 H1 (J.lock Z1 n) Z2 U σ2 [] fp2 H2):
  ∃L',Au K (NN fp2 (ad O L)) H2 v a L':=by
 cases r with
 | val b =>
  simp only[peek,Option.some.injEq] at e;subst e;refine⟨L,Au.tr (M:=Fp fp1) (fun p z=>.inl z) p.kept (fun x z=>?_) (fun x hx z=>?_) q⟩
  .rcases z with z|z
   .exact(p.new x (.inr z)).imp (fun y=>.inl y) id
   .exact .inl (.inr z)
  .obtain⟨i,hi⟩:=z
   exact hr.off i x hi (.inr hx)
 | ref i =>
  subst hn;simp only[peek] at e;split at e
  .rename_i st b hb
   cases e;obtain⟨a',e2,es,ea⟩:=p.stab i .ro a (by rw[Fy,hb]; simp[nameOf]) (by decide);cases ea rfl;obtain⟨v',h1,h2⟩:=p.rel0.slot i _ _ e2;rw[es,q.2] at h1;cases h1;exact⟨_,h2⟩
  .cases e
theorem Post.stay{dz:D}{z:V}(p:Post K O fp1 H1 Z1 Z2 U σ2 [] fp2 H2)(q:RepA (NN fp1 O) H1 z dz):RepA (NN fp2 O) H2 z dz:=
 q.tr (M:=Fp fp1) (fun p z=>.inl z) p.kept fun x z=>by
  rcases z with z|z
  .exact(p.new x (.inr z)).imp (fun y=>.inl y) id
  .exact .inl (.inr z)
theorem Post.stayT{dz:D}{z:V}(p:Post K O fp1 H1 Z1 Z2 U σ2 L fp2 H2)(q:RepA (NN fp1 O) H1 z dz):RepA (NN fp2 (ad O L)) H2 z dz:=
 q.tr (M:=Fp fp1) (fun p z=>.inl z) p.kept fun x z=>by
  rcases z with z|z|z
  .exact(p.new x (.inr z)).imp (fun y=>.inl y) id
  .exact .inl (.inr z)
  .exact(p.new x (.inl z)).imp (fun y=>.inl y) id
theorem Xg{is:List Nat}{one:Bool}{it:MI}{b:MS}{D:Ends}(h:tS K (Bw is one it b) D U H):Ys (tI K it) (Pf K is one) (tS K b) D U H:=by
 obtain⟨Z,O,fp,rl,fl,e,w⟩:=h;simp only[Bw,bind_eq_some_iff,map_eq_some_iff] at e;obtain⟨⟨ds,n,Z1⟩,e1,f,e2,e3⟩:=e;subst e3;refine⟨Z,O,fp,rl,ds,n,Z1,e1,fun J H1 yy=>?_⟩;obtain⟨r,v,a,L,fp1,p1,q1,hn,ha,hJ⟩:=yy;have hlk:∀i,n=some i->∃st,Z1[i]? = some (some (st,a)):=fun i hi=>by
  rw[hn] at hi;cases r with
  | val b=>simp[nameOf] at hi
  | ref j =>
   simp only[nameOf,Option.some.injEq] at hi;subst hi;simp only[peek] at ha;split at ha
   .rename_i st b hb
    cases ha;exact⟨st,hb⟩
   .cases ha
 have rl1:Rel K (lock Z1 n) U H1 (ad O L) fp1:=p1.rel.lock
 -- what is wanted of the loop's end
 have w1:Qi K (ad O L) fp1 H1 (lock Z1 n) U D f:=by
  have un:∀{Z2:Ro} {σ2:St} {L2:List Addr} {fp2:Nat->List Addr} {H2:Hp},Post K (ad O L) fp1 H1 (lock Z1 n) Z2 U σ2 L2 fp2 H2->Post K O fp H Z (unlock Z1 Z2 n) U σ2 L2 fp2 H2:=fun y=>(p1.then (y.unlock hlk)).drop;cases f with
  | next Z2=>exact fun σ' fp' H' p=>w σ' fp' H' (un p)
  | brk Z2=>exact fun σ' fp' H' p=>w σ' fp' H' (un p)
  | cnt Z2=>exact fun σ' fp' H' p=>w σ' fp' H' (un p)
  | ret b Z2=>exact fun σ' v L2 fp' H' p q=>w σ' v L2 fp' H' (un p) (DJ (fun x z=>by
    rcases z with z|z|z
    .exact .inl z
    .exact .inr (.inl (.inl z))
    .exact .inr (.inr z)) q)
 refine⟨fun i m σ' H'=>m=ds.length-i/\i<=ds.length/\∃Z' fp',Post K (ad O L) fp1 H1 (lock Z1 n) Z' U σ' [] fp' H'/\forL is one b (ds.drop i) Z'=some f,⟨ds.length,by simp,Nat.zero_le _,lock Z1 n,fp1,rl1.post,by simpa using e2⟩,?_⟩;rintro i m σ2 H2 ⟨rfl,hi,Z2,fp2,p2,e2⟩;obtain⟨L',src⟩:=W4 hn p1.rel q1 ha p2;obtain⟨go,stop,yld⟩:=hJ _ _ ⟨⟨L',src⟩,fun _ _ h=>p2.kept _ _ h (.inr rfl),fun _ _ q=>p2.stay q⟩;by_cases hlt:i<ds.length
 .refine .inr ⟨go i hlt,_,fun σ' H' z=>⟨ds.length-(i+1),by omega,rfl,hlt,z⟩,fun x H3 y=>?_⟩
  have hd:ds[i]? = some ds[i]:=by simp[hlt]
  obtain⟨sm,qx⟩:=yld i x H3 _ y hd;rw[List.drop_eq_getElem_cons hlt] at e2;simp only[forL,bind_eq_some_iff] at e2;obtain⟨Z3,e3,g,e4,e5⟩:=e2;have p3:Post K (ad O L) fp1 H1 (lock Z1 n) Z2 U σ2 [] fp2 H3:=p2.more sm List.nodup_nil (fun p hp=>by simp at hp);refine Sy p3 qx e3 fun σ4 fp4 p4=>?_;refine⟨Z3,ad O L,fp4,p4.rel0,g,e4,?_⟩;cases g with
  | next Z5=>exact fun σ' fp' H' p=>⟨Z5,fp',p4.next p,e5⟩
  | cnt Z5=>exact fun σ' fp' H' p=>⟨Z5,fp',p4.next p,e5⟩
  | brk Z5 =>
   cases e5;exact fun σ' fp' H' p=>w1 σ' fp' H' (p4.next p)
  | ret c Z5 =>
   cases e5;exact fun σ' v L fp' H' p q=>w1 σ' v L fp' H' (p4.next p) q
 .have:i=ds.length:=by omega
  subst this;simp only[List.drop_length,forL,Option.some.injEq] at e2;subst e2;exact .inl ⟨stop _ (Nat.le_refl _),w1 _ _ _ p2⟩
theorem HD{v:V}{a:A}{ds:List D}(q:Au K N H v a L)(e:AW a=some ds):∃p vs,v=.ref p/\(SqL K H p vs\/SqT K H p vs)/\Aw N H vs ds:=by
 cases a with
 | fz d =>
  rw[Au] at q;obtain⟨rfl,q⟩:=q;cases d with
  | lst es =>
   simp only[AW,Option.some.injEq] at e;subst e;cases q with
   | lst h hz hn hl hr=>exact⟨_,_,rfl,.inl (.inl (.inl h)),Aw.mk hl hr⟩
  | tup es =>
   simp only[AW,Option.some.injEq] at e;subst e;cases q with
   | tup h hz hl hr=>exact⟨_,_,rfl,.inr (.inl (.inl h)),Aw.mk hl hr⟩
  | _=>simp[AW] at e
 | lst as =>
  simp only[AW] at e;rw[Au] at q;obtain⟨p,vs,L',rfl,rfl,h,hz,hs⟩:=q;exact⟨p,vs,rfl,.inl (.inl (.inl h)),(hs.fzs e).2⟩
 | scr ns =>
  simp only[AW,Option.some.injEq] at e;subst e;rw[Au] at q;obtain⟨p,rfl,rfl,h,hz⟩:=q;refine⟨p,_,rfl,.inl (h H fun _ _ z=>z),Aw.mk (by simp) fun i v d e1 e2=>?_⟩;rw[List.getElem?_map] at e1 e2;cases q:ns[i]? with
  | none=>rw[q] at e1; cases e1
  | some k =>
   rw[q] at e1 e2;cases e1; cases e2;exact .int k
 | _=>simp[AW] at e
noncomputable def ND:A->Bool
 | .fz (.tup _)=>true
 | _=>false
theorem Ez{v:V}{a:A}{ds:List D}(q:Au K N H v a L)(e:AW a=some ds):∃p vs,v=.ref p/\(if ND a then SqT K H p vs else SqL K H p vs)/\Aw N H vs ds:=by
 cases a with
 | fz d =>
  rw[Au] at q;obtain⟨rfl,q⟩:=q;cases d with
  | lst es =>
   simp only[AW,Option.some.injEq] at e;subst e;cases q with
   | lst h hz hn hl hr=>exact⟨_,_,rfl,.inl (.inl h),Aw.mk hl hr⟩
  | tup es =>
   simp only[AW,Option.some.injEq] at e;subst e;cases q with
   | tup h hz hl hr=>exact⟨_,_,rfl,.inl (.inl h),Aw.mk hl hr⟩
  | _=>simp[AW] at e
 | lst as =>
  simp only[AW] at e;rw[Au] at q;obtain⟨p,vs,L',rfl,rfl,h,hz,hs⟩:=q;exact⟨p,vs,rfl,.inl (.inl h),(hs.fzs e).2⟩
 | scr ns =>
  obtain⟨p,vs,e1,e2,e3⟩:=HD q e;rw[Au] at q;obtain⟨p',rfl,rfl,h,hz⟩:=q;cases e1;refine⟨p,_,rfl,h H fun _ _ z=>z,?_⟩;simp only[AW,Option.some.injEq] at e;subst e;refine Aw.mk (by simp) fun i v d e1 e2=>?_;rw[List.getElem?_map] at e1 e2;cases q:ns[i]? with
  | none=>rw[q] at e1; cases e1
  | some k =>
   rw[q] at e1 e2;cases e1; cases e2;exact .int k
 | _=>simp[AW] at e
noncomputable def XS(K:Frag)(tl:TE):TI:=fun U H R=>tl U H fun x H1=>∃a,x=.ref a/\(((∃xs,SqL K H1 a xs)/\R (Itl K a) H1)\/((∃xs,SqT K H1 a xs)/\R (Itt K a) H1))
theorem SJ{vs:List V}{ds:List D}(q:Aw N H vs ds){i:Nat}(h:i<ds.length):∃x,vs[i]? = some x:=⟨vs[i]'(by rw[q.len]; exact h),by simp⟩
theorem Xb{m:ME}{R:It->Hp->Prop}(h:tI K (Bi m) U H R):XS K (tE K m) U H R:=by
 obtain⟨Z,O,fp,rl,ds,n,Z',e,k⟩:=h;simp only[Bi,bind_eq_some_iff,map_eq_some_iff] at e;obtain⟨⟨r,Z1⟩,e1,a,e2,ds',e3,e4⟩:=e;cases e4;refine⟨Z,O,fp,rl,r,Z1,e1,fun v H1 yy=>?_⟩;obtain⟨L,fp1,p,q⟩:=yy;obtain⟨L',q'⟩:=p.rel.peek q e2;obtain⟨pa,vs,rfl,hk,_⟩:=Ez q' e3;refine⟨pa,rfl,?_⟩;cases hT:ND a with
 | false =>
  rw[hT] at hk;refine .inl ⟨⟨vs,hk⟩,k _ _ ⟨r,.ref pa,a,L,fp1,p,q,rfl,e2,fun N H2 yy=>?_⟩⟩;obtain⟨⟨L2,q2⟩,_⟩:=yy;obtain⟨pb,ws,e5,hk2,hd⟩:=Ez q2 e3;cases e5;rw[hT] at hk2;have hk2:SqL K H2 pa ws:=hk2;refine⟨fun i hi=>?_,fun i hi=>⟨ws,hk2,by rw[hd.len]; exact hi⟩,fun i x H' d y e=>?_⟩
  .obtain⟨x,hx⟩:=SJ hd hi
   exact⟨ws,x,hk2,hx⟩
  .obtain⟨rfl,y⟩:=y
   exact⟨fun _ _ z=>z,hd.get i x d (y ws hk2) e⟩
 | true =>
  rw[hT] at hk;refine .inr ⟨⟨vs,hk⟩,k _ _ ⟨r,.ref pa,a,L,fp1,p,q,rfl,e2,fun N H2 yy=>?_⟩⟩;obtain⟨⟨L2,q2⟩,_⟩:=yy;obtain⟨pb,ws,e5,hk2,hd⟩:=Ez q2 e3;cases e5;rw[hT] at hk2;have hk2:SqT K H2 pa ws:=hk2;refine⟨fun i hi=>?_,fun i hi=>⟨ws,hk2,by rw[hd.len]; exact hi⟩,fun i x H' d y e=>?_⟩
  .obtain⟨x,hx⟩:=SJ hd hi
   exact⟨ws,x,hk2,hx⟩
  .obtain⟨rfl,y⟩:=y
   exact⟨fun _ _ z=>z,hd.get i x d (y ws hk2) e⟩
end
noncomputable def Ut(K:Frag):Nat->TU
 | 0=>Si
 | n+1=>fun v H vs=>∃a,v=.ref a/\SqT K H a vs/\vs.length=n+1
noncomputable def sh(n:Nat)(fp:Nat->List Addr):Nat->List Addr:=fun j=>if j<n then [] else fp (j-n)
section
variable{K:Frag}{Z Z' Z1 Z2:Ro}{U σ' σ1 σ2:St}{H H' H1 H2:Hp}{O O' N:Addr->Prop}{fp fp' fp1 fp2:Nat->List Addr}{L L1:List Addr}
theorem Ov{n:Nat}{p:Addr}:Fp (sh n fp) p↔Fp fp p:=by
 constructor
 .rintro ⟨j,h⟩
  unfold sh at h;split at h
  .simp at h
  .exact⟨_,h⟩
 .rintro ⟨j,h⟩
  refine⟨j+n,?_⟩;unfold sh;rw[if_neg (by lia),Nat.add_sub_cancel];exact h
theorem Rn{n:Nat}{p:Addr}:NN (sh n fp) O p↔NN fp O p:=or_congr Ov Iff.rfl
theorem Rel.block{vs:List V}{bs:List D}(r:Rel K Z U H O fp)(q:Aw (NN fp O) H vs bs):Rel K (bs.map own++Z) (vs.map some++U) H O (sh bs.length fp) where
 len:=by simp[r.len,q.len]
 slot:=fun i st a e=>by
  by_cases hi:i<bs.length
  .rw[List.getElem?_append_left (by simpa using hi),List.getElem?_map] at e
   have hb:bs[i]? = some bs[i]:=by simp[hi]
   rw[hb] at e;simp only[Option.map_some,own,Option.some.injEq,Prod.mk.injEq] at e;obtain⟨rfl,rfl⟩:=e;have hv:vs[i]? = some (vs[i]'(by rw[q.len]; exact hi)):=by simp
   refine⟨_,by rw[List.getElem?_append_left (by simpa[q.len] using hi),List.getElem?_map,hv]; rfl,?_⟩;simp only[sh,hi,if_true];exact EF (ET (fun p z=>Rn.mp z) (q.get i _ _ hv hb))
  .rw[List.getElem?_append_right (by simpa using hi),List.length_map] at e
   obtain⟨v,e1,q1⟩:=r.slot _ _ _ e;refine⟨v,by rw[List.getElem?_append_right (by simpa[q.len] using hi),List.length_map,q.len]; exact e1,?_⟩;simp only[sh,hi,if_false];exact DJ (fun p z=>Rn.mp z) q1
 out:=fun i h=>by
  unfold sh;split
  .rfl
  .rename_i hi
   exact r.out _ fun st a e=>h st a (by rw[List.getElem?_append_right (by simpa using hi),List.length_map]; exact e)
 nd:=fun i=>by
  unfold sh;split
  .exact List.nodup_nil
  .exact r.nd _
 inj:=fun i j p h1 h2=>by
  unfold sh at h1 h2;split at h1
  .simp at h1
  .split at h2
   .simp at h2
   .have:=r.inj _ _ p h1 h2
    lia
 off:=fun i p h=>by
  unfold sh at h;split at h
  .simp at h
  .exact r.off _ p h
 al:=fun p z=>r.al p (Rn.mp z)
theorem Post.unblock{vs:List V}{bs:List D}(hl:vs.length=bs.length)(x:Post K O (sh bs.length fp) H (bs.map own++Z) Z2 (vs.map some++U) (vs.map some++U) L fp2 H2):Post K O fp H Z (Z2.drop bs.length) U U L (fun j=>fp2 (j+bs.length)) H2 where
 rel:=by
  have nn:∀p,NN (fun j=>fp2 (j+bs.length)) (ad O L) p->NN fp2 (ad O L) p:=fun p z=>z.imp (fun⟨j,h⟩=>⟨_,h⟩) id;have hlen:=x.rel.len;rw[List.length_append,List.length_map,hl] at hlen;refine⟨by rw[List.length_drop,hlen]; lia,fun i st a e=>?_,fun i h=>?_,fun i=>x.rel.nd _,fun i j p h1 h2=>?_,fun i p h=>x.rel.off _ p h,fun p z=>x.rel.al p (nn p z)⟩
  .rw[List.getElem?_drop] at e
   obtain⟨v,e1,q⟩:=x.rel.slot _ _ _ e;refine⟨v,?_,DJ nn (by rw[Nat.add_comm]; exact q)⟩;rw[List.getElem?_append_right (by rw[List.length_map]; lia),List.length_map] at e1;rw[<- e1];congr 1;lia
  .exact x.rel.out _ fun st a e=>h st a (by rw[List.getElem?_drop,Nat.add_comm]; exact e)
  .have:=x.rel.inj _ _ p h1 h2
   lia
 nd:=x.nd
 lo:=x.lo
 new:=fun p hp=>(x.new p (hp.imp id fun⟨j,h⟩=>⟨_,h⟩)).imp Ov.mp id
 kept:=x.kept.mono fun p z=>Ov.mp z
 ln:=rfl
 stab:=fun j st a h n=>by
  have e:(bs.map own++Z)[j+bs.length]? = some (some (st,a)):=by rw[List.getElem?_append_right (by simp),List.length_map,Nat.add_sub_cancel]; exact h
  obtain⟨a',e1,_,f⟩:=x.stab _ _ _ e n;exact⟨a',by rw[List.getElem?_drop,Nat.add_comm]; exact e1,rfl,f⟩
theorem Post.updT{p:Addr}{o:HO}{ys:List V}(x:Post K O fp H Z Z1 U σ1 L fp1 H1)(hp:p∈L)(hn:H p=none)(hy:H1 p=some (.lst ys)):Post K O fp H Z Z1 U σ1 L fp1 (upd H1 p o):=by
 have off:∀i,p∉fp1 i:=fun i z=>x.rel.off i p z (.inr hp);have alp:∀q,H1 q≠none->upd H1 p o q≠none:=fun q z=>by
  by_cases e:q=p
  .subst e; rw[AQ]; simp
  .rw[AL e]; exact z
 have k:Kept (fun q=>q=p) H1 (upd H1 p o):=fun b u e c=>by
  by_cases hb:b=p
  .subst hb
   rcases c with c|c
   .exact absurd rfl c
   .rw[hy] at e; cases e; cases c
  .rw[AL hb]; exact e
 refine⟨⟨x.rel.len,fun i st a e=>?_,x.rel.out,x.rel.nd,x.rel.inj,x.rel.off,fun q z=>alp q (x.rel.al q z)⟩,x.nd,x.lo,x.new,fun b u e c=>?_,x.ln,x.stab⟩
 .obtain⟨v,e1,q⟩:=x.rel.slot i st a e
  exact⟨v,e1,q.tr (M:=fun q=>q=p) (fun b z=>by rw[z]; exact .inr (.inr hp)) k (fun b z=>.inl z) fun b hb z=>off i (z ▸ hb)⟩
 .have hb:b≠p:=fun z=>by rw[z,hn] at e; cases e
  rw[AL hb];exact x.kept b u e c
theorem GV{p:Addr}{o:HO}{ys:List V}(hy:H p=some (.lst ys)):Kept (fun q=>q=p) H (upd H p o):=fun b u e c=>by
 by_cases hb:b=p
 .subst hb
  rcases c with c|c
  .exact absurd rfl c
  .rw[hy] at e; cases e; cases c
 .rw[AL hb]; exact e
theorem Post.ds{vs:List V}{ds:List D}(x:Post K O fp H Z Z1 U σ1 L fp1 H1)(q:Aw (NN fp O) H vs ds):Aw (NN fp1 (ad O L)) H1 vs ds:=
 q.tr (M:=Fp fp) (fun p z=>.inl z) x.kept fun p z=>by
  rcases z with z|z|z
  .exact(x.new p (.inr z)).imp (fun y=>.inl y) id
  .exact .inl (.inr z)
  .exact(x.new p (.inl z)).imp (fun y=>.inl y) id
theorem GP:∀{vs ws:List V} {ds es:List D},Aw N H vs ds->Aw N H ws es->Aw N H (vs++ws) (ds++es)
 | [],_,[],_,_,q=>q
 | [],_,_::_,_,r,_=>by simp only[Aw] at r
 | _::_,_,[],_,r,_=>by simp only[Aw] at r
 | v::vs,ws,d::ds,es,r,q=>⟨r.1,GP r.2 q⟩
theorem Ti{n:Nat}{d:D}{bs:List D}{x:V}(q:RepA N H x d)(e:LI n d=some bs):∃vs,Ut K n x H vs/\Aw N H vs bs:=by
 cases n with
 | zero =>
  simp only[LI,Option.some.injEq] at e;subst e;exact⟨[x],rfl,q,trivial⟩
 | succ n =>
  simp only[LI] at e;cases d with
  | tup ds =>
   dsimp only at e;split at e
   .rename_i hl
    cases e;cases q with
    | tup h hz hl' hr=>exact⟨_,⟨_,rfl,.inl (.inl h),by rw[hl']; exact hl⟩,Aw.mk hl' hr⟩
   .cases e
  | _=>simp at e
theorem T9{r:R}{v:V}{a:A}{n:Option Nat}{Lt:List Addr}(hn:n=nameOf r)(hr:Rel K Z1 U H1 (ad O L) fp1)(q:RR K (NN fp1 (ad O L)) H1 U v r L)(e:peek Z1 r=some a)(p:Post K (ad O L) fp1 H1 (J.lock Z1 n) Z2 U σ2 Lt fp2 H2):
  ∃L',Au K (NN fp2 (ad (ad O L) Lt)) H2 v a L':=by
 cases r with
 | val b =>
  simp only[peek,Option.some.injEq] at e;subst e;refine⟨L,Au.tr (M:=Fp fp1) (fun p z=>.inl z) p.kept (fun x z=>?_) (fun x hx z=>?_) q⟩
  .rcases z with z|z|z
   .exact(p.new x (.inr z)).imp (fun y=>.inl y) id
   .exact .inl (.inr z)
   .exact(p.new x (.inl z)).imp (fun y=>.inl y) id
  .obtain⟨i,hi⟩:=z
   exact hr.off i x hi (.inr hx)
 | ref i =>
  subst hn;simp only[peek] at e;split at e
  .rename_i st b hb
   cases e;obtain⟨a',e2,es,ea⟩:=p.stab i .ro a (by rw[Fy,hb]; simp[nameOf]) (by decide);cases ea rfl;obtain⟨v',h1,h2⟩:=p.rel.slot i _ _ e2;rw[es,q.2] at h1;cases h1;exact⟨_,h2⟩
  .cases e
theorem GU{it:MI}{pat:Nat}{c:MT}{e:ME}{Q:VK}(h:tE K (AG it pat c e) U H Q):tLc (tI K it) (Ut K pat) (tT K c) (tE K e) U H Q:=by
 obtain⟨Z,O,fp,rl,x,Z',h0,k⟩:=h;simp only[AG,bind_eq_some_iff] at h0;obtain⟨⟨ds,n,Z1⟩,e1,h0⟩:=h0;split at h0
 case isFalse=>cases h0
 rename_i hz;simp only[map_eq_some_iff] at h0;obtain⟨⟨es,Zf⟩,e2,e3⟩:=h0;cases e3;refine⟨Z,O,fp,rl,ds,n,Z1,e1,fun J H1 yy acc hacc=>?_⟩;obtain⟨r,v,a,L,fp1,p1,q1,hn,ha,hJ⟩:=yy;have hlk:∀i,n=some i->∃st,Z1[i]? = some (some (st,a)):=fun i hi=>by
  rw[hn] at hi;cases r with
  | val b=>simp[nameOf] at hi
  | ref j =>
   simp only[nameOf,Option.some.injEq] at hi;subst hi;simp only[peek] at ha;split at ha
   .rename_i st b hb
    cases ha;exact⟨st,hb⟩
   .cases ha
 have rl1:Rel K (lock Z1 n) U H1 (ad O L) fp1:=p1.rel.lock;have st0:Post K (ad O L) fp1 H1 (lock Z1 n) (lock Z1 n) U U [acc] fp1 (upd H1 acc (.lst [])):=rl1.post.more (BV hacc) (by simp) fun p hp=>by
  have:p=acc:=by simpa using hp
  subst this;exact .inr ⟨hacc,by rw[AQ]; simp⟩
 refine⟨fun i m ys H'=>m=ds.length-i/\i<=ds.length/\H' acc=some (.lst ys)/\ys.length<=i/\∃Z' fp' done rest,Post K (ad O L) fp1 H1 (lock Z1 n) Z' U U [acc] fp' H'/\Aw (NN fp' (ad (ad O L) [acc])) H' ys done/\Ee pat c e (ds.drop i) Z'=some (rest,Zf)/\es=done++rest,
  ⟨ds.length,by simp,Nat.zero_le _,AQ,by simp,lock Z1 n,fp1,[],es,st0,trivial,by simpa using e2,rfl⟩,?_⟩
 rintro i m ys H2 ⟨rfl,hi,hy,hyl,Z2,fp2,done,rest,p2,qd,e2,ees⟩;refine⟨hy,?_⟩;obtain⟨L',src⟩:=T9 hn p1.rel q1 ha p2;have offacc:∀j,acc∉fp2 j:=fun j z=>p2.rel.off j acc z (.inr (by simp));by_cases hlt:i<ds.length
 .obtain⟨go,stop,yld⟩:=hJ _ _ ⟨⟨L',src⟩,fun _ _ h=>p2.kept _ _ h (.inr rfl),fun _ _ q=>p2.stayT q⟩
  refine .inr ⟨go i hlt,fun x H3 y=>?_⟩;have hd:ds[i]? = some ds[i]:=by simp[hlt]
  obtain⟨sm,qx0⟩:=yld i x H3 _ y hd;have qx:RepA (NN fp2 (ad (ad O L) [acc])) H3 x ds[i]:=qx0;have p3:Post K (ad O L) fp1 H1 (lock Z1 n) Z2 U U [acc] fp2 H3:=p2.more sm p2.nd fun p hp=>.inl hp;have hy3:H3 acc=some (.lst ys):=sm _ _ hy;have qd3:Aw (NN fp2 (ad (ad O L) [acc])) H3 ys done:=qd.tr (M:=fun _=>False) (fun _ z=>z.elim) (Gf.kept sm) fun p z=>.inl z;rw[List.drop_eq_getElem_cons hlt] at e2;simp only[Ee,bind_eq_some_iff] at e2;obtain⟨bs,eb,⟨b,Z3⟩,ec,e4⟩:=e2;obtain⟨vs,hu,hvs⟩:=Ti (K:=K) qx eb;have rb:=p3.rel.block hvs;refine⟨vs,hu,_,_,_,rb,b,Z3,ec,fun fp4 H4 p4=>?_⟩;have keep:∀{Z5:Ro} {fp5:Nat->List Addr} {H5:Hp},Post K (ad (ad O L) [acc]) (sh bs.length fp2) H3 (bs.map own++Z2) Z5 (vs.map some++U) (vs.map some++U) [] fp5 H5 ->
    H5 acc=some (.lst ys)/\Post K (ad O L) fp1 H1 (lock Z1 n) (Z5.drop bs.length) U U [acc] (fun j=>fp5 (j+bs.length)) H5/\Aw (NN (fun j=>fp5 (j+bs.length)) (ad (ad O L) [acc])) H5 ys done:=fun {Z5 fp5 H5} p5=>by
   have u:=p5.unblock hvs.len;refine⟨p5.kept _ _ hy3 (.inl fun z=>?_),p3.then u,LZ (fun p z=>Hb.mpr z) (u.ds qd3)⟩;obtain⟨j,z⟩:=Ov.mp z;exact offacc j z
  cases b with
  | false =>
   simp only[Bool.false_eq_true,if_false] at e4;dsimp only;rw[if_neg Bool.false_ne_true];obtain⟨h1,h2,h3⟩:=keep p4;exact⟨ds.length-(i+1),by lia,rfl,hlt,h1,by lia,_,_,done,rest,h2,h3,e4,ees⟩
  | true =>
   simp only[if_true,bind_eq_some_iff,map_eq_some_iff] at e4;obtain⟨⟨r5,Z5⟩,e5,⟨d6,Z6⟩,e6,⟨rest',Z7⟩,e7,e8⟩:=e4;cases e8;dsimp only;rw[if_pos rfl];refine⟨Z3,_,fp4,p4.rel0,r5,Z5,e5,fun y H5 yy=>?_⟩;obtain⟨L5,fp5,p5,q5⟩:=yy;obtain⟨fp6,p6,q6⟩:=Dt p5 q5 e6;obtain⟨h1,h2,h3⟩:=keep (p4.next p6);have hacc1:H1 acc=none:=hacc;refine⟨h1,Nat.lt_of_lt_of_le (Nat.lt_of_le_of_lt hyl hlt) hz,ds.length-(i+1),by lia,rfl,hlt,AQ,by simp; lia,_,_,done++[d6],rest',h2.updT (by simp) hacc1 h1,?_,e7,by rw[ees]; simp⟩;have tr:∀{ws:List V} {fs:List D},Aw (NN (fun j=>fp6 (j+bs.length)) (ad (ad O L) [acc])) H5 ws fs->Aw (NN (fun j=>fp6 (j+bs.length)) (ad (ad O L) [acc])) (upd H5 acc (.lst (ys++[y]))) ws fs:=fun q =>
    q.tr (M:=fun q=>q=acc) (fun b z=>by rw[z]; exact .inr (.inr (by simp))) (GV h1) fun p z=>.inl z
   refine tr (GP h3 ⟨ET (fun p z=>?_) q6,trivial⟩);exact Hb.mpr (z.imp (fun⟨j,q⟩=>⟨_,q⟩) id)
 .have:i=ds.length:=by lia
  subst this;obtain⟨go,stop,yld⟩:=hJ _ _ ⟨⟨L',src⟩,fun _ _ h=>p2.kept _ _ h (.inr rfl),fun _ _ q=>p2.stayT q⟩;simp only[List.drop_length,Ee,Option.some.injEq,Prod.mk.injEq] at e2;obtain⟨rfl,rfl⟩:=e2;refine .inl ⟨stop _ (Nat.le_refl _),k _ _ ?_⟩;have p3:=(p1.then (p2.unlock hlk)).drop;refine⟨[acc],fp2,p3,?_⟩;show Au _ _ _ _ _ _;rw[Au];rw[List.append_nil] at ees;subst ees;refine⟨acc,ys,[],rfl,rfl,hy,Nat.le_trans hyl hz,Ap.of (LZ (fun p z=>?_) qd)⟩;rcases z with z|z|z
  .exact .inl z
  .exact .inr (.inl (.inl z))
  .exact .inr (.inr z)
end
noncomputable def GD:List (Own×A)->List A->Ro
 | (st,_)::args,a::as=>(if st=.own then none else some (st,a))::GD args as
 | [],_=>[]
 | _::_,[]=>[]
noncomputable def Xx(K:Frag)(O:Addr->Prop)(fp:Nat->List Addr)(H:Hp)(args:List (Own×A))(as':List A)(vs:List V)(a:A)(v:V)(H':Hp):Prop:=
 ∃L fp',Post K O fp H (args.map some) (GD args as') (vs.map some) (vs.map some) L fp' H'/\Au K (NN fp' (ad O L)) H' v a L
noncomputable def spJ(K:Frag)(Φ:Fn)(np:Nat):Sp:=fun vs H Q _=>∃args O fp,vs.length=np/\Rel K (args.map some) (vs.map some) H O fp/\∃a as',Φ args=some (a,as')/\∀v H',Xx K O fp H args as' vs a v H'->Q v H'
theorem JF:∀{args:List (Own×A)} {as:List A} {j:Nat} {st:Own} {a:A},(GD args as)[j]? = some (some (st,a))->∃a0,args[j]? = some (st,a0)/\st≠.own/\as[j]? = some a
 | [],_,j,st,a,h=>by simp[GD] at h
 | _::_,[],j,st,a,h=>by simp[GD] at h
 | (st0,a0)::args,b::as,0,st,a,h=>by
  simp only[GD,List.getElem?_cons_zero,Option.some.injEq] at h;split at h
  .cases h
  .rename_i hs
   cases h;exact⟨a0,rfl,hs,rfl⟩
 | (st0,a0)::args,b::as,j+1,st,a,h=>by
  simp only[GD,List.getElem?_cons_succ] at h;obtain⟨a1,h1,h2,h3⟩:=JF h;exact⟨a1,by simpa using h1,h2,by simpa using h3⟩
theorem Jj:∀{args:List (Own×A)} {as:List A} {j:Nat} {st:Own} {a0 a:A},args[j]? = some (st,a0)->st≠.own->as[j]? = some a->(GD args as)[j]? = some (some (st,a))
 | [],_,j,st,a0,a,h,_,_=>by simp at h
 | _::_,[],j,st,a0,a,_,_,h=>by simp at h
 | (st0,b0)::args,b::as,0,st,a0,a,h,hs,h2=>by
  simp at h h2;obtain⟨rfl,rfl⟩:=h;subst h2;simp[GD,hs]
 | (st0,b0)::args,b::as,j+1,st,a0,a,h,hs,h2=>by
  simp only[GD,List.getElem?_cons_succ];exact Jj (by simpa using h) hs (by simpa using h2)
theorem JG:∀{args:List (Own×A)} {as:List A},(GD args as).length=min args.length as.length
 | [],_=>by simp[GD]
 | _::_,[]=>by simp[GD]
 | (st,_)::args,a::as=>by simp[GD,JG]
section
variable{K:Frag}{Z Z' Z1 Z2:Ro}{U σ' σ1 σ2:St}{H H' H1 H2:Hp}{O O' N:Addr->Prop}{fp fp' fp1 fp2:Nat->List Addr}{L L1:List Addr}
theorem M4{args:List (Own×A)}{vs:List V}{n:Nat}(hl:vs.length=args.length)(x:Post K O fp H (args.map some++List.replicate n none) Z' (vs.map some++List.replicate n none) σ' L fp' H'):
  ∃fp2,Post K O fp H (args.map some) (GD args ((Z'.take args.length).map He)) (vs.map some) (vs.map some) L fp2 H'/\∀p,NN fp2 (ad O L) p->NN fp' (ad O L) p:=by
 have hlen:args.length <= Z'.length:=by
  have:=x.rel.len;have:=x.ln;simp at this;lia
 have a0:∀{j:Nat} {st:Own} {a:A},args[j]? = some (st,a)->(args.map some++List.replicate n (none:Slot))[j]? = some (some (st,a)):=fun {j st a} e=>by
  rw[List.getElem?_append_left (by simpa using As e),List.getElem?_map,e]; rfl
 have v0:∀{j:Nat},j<args.length->(vs.map some++List.replicate n (none:Option V))[j]? = (vs.map some)[j]?:=fun {j} h=>by
  rw[List.getElem?_append_left (by rw[List.length_map,hl]; exact h)]
 -- where a lent name stands
 have key:∀{j:Nat} {st:Own} {a:A},args[j]? = some (st,a)->st≠.own->∃a',Z'[j]? = some (some (st,a'))/\σ'[j]? = (vs.map some)[j]?/\(st=.ro->a'=a)/\((Z'.take args.length).map He)[j]? = some a':=fun {j st a} e h=>by
  obtain⟨a',e1,e2,e3⟩:=x.stab j st a (a0 e) h;refine⟨a',e1,by rw[e2,v0 (As e)],e3,?_⟩;rw[List.getElem?_map,List.getElem?_take_of_lt (As e),e1];rfl
 let fp2:Nat->List Addr:=fun j=>match (GD args ((Z'.take args.length).map He))[j]? with
  | some (some _)=>fp' j
  | _=>[]
 have sub:∀j p,p∈fp2 j->p∈fp' j/\∃st a,(GD args ((Z'.take args.length).map He))[j]? = some (some (st,a)):=fun j p h=>by
  simp only[fp2] at h;split at h
  .rename_i y e
   exact⟨h,y.1,y.2,e⟩
  .simp at h
 have nn:∀p,NN fp2 (ad O L) p->NN fp' (ad O L) p:=fun p z=>z.imp (fun⟨j,q⟩=>⟨j,(sub j p q).1⟩) id;refine⟨fp2,⟨⟨?_,fun j st a e=>?_,fun j h=>?_,fun j=>?_,fun i j p h1 h2=>x.rel.inj i j p (sub i p h1).1 (sub j p h2).1,fun j p h=>x.rel.off j p (sub j p h).1,fun p z=>x.rel.al p (nn p z)⟩,x.nd,x.lo,fun p hp=>x.new p (hp.imp id fun⟨j,q⟩=>⟨j,(sub j p q).1⟩),x.kept,rfl,fun j st a e h=>?_⟩,nn⟩
 .rw[JG]; simp[hl]; lia
 .obtain⟨a0,e1,e2,e3⟩:=JF e
  obtain⟨a',e4,e5,_,e6⟩:=key e1 e2;rw[e3] at e6; cases e6;obtain⟨v,e7,q⟩:=x.rel.slot j st a e4;refine⟨v,by rw[<- e5]; exact e7,?_⟩;have:fp2 j=fp' j:=by simp only[fp2,e]
  rw[this];exact DJ nn q
 .simp only[fp2]
  split
  .rename_i y e
   exact absurd e (h y.1 y.2)
  .rfl
 .simp only[fp2]
  split
  .exact x.rel.nd j
  .exact List.nodup_nil
 .rw[List.getElem?_map] at e
  cases q:args[j]? with
  | none=>rw[q] at e; cases e
  | some y =>
   rw[q] at e;cases e;obtain⟨a',e4,e5,e6,e7⟩:=key q h;exact⟨a',Jj q h e7,rfl,e6⟩
theorem Rel.start{args:List (Own×A)}{vs:List V}(r:Rel K (args.map some) (vs.map some) H O fp)(n:Nat):Rel K (args.map some++List.replicate n none) (vs.map some++List.replicate n none) H O fp where
 len:=by have:=r.len; simp at this |-; exact this
 slot:=fun i st a e=>by
  by_cases hi:i<args.length
  .rw[List.getElem?_append_left (by simpa using hi)] at e
   obtain⟨v,e1,q⟩:=r.slot i st a e;exact⟨v,by rw[List.getElem?_append_left (by simpa using As e1)]; exact e1,q⟩
  .rw[List.getElem?_append_right (by simpa using hi),List.getElem?_replicate] at e
   split at e<;>cases e
 out:=fun i h=>r.out i fun st a e=>h st a (by rw[List.getElem?_append_left (by simpa using As e)]; exact e)
 nd:=r.nd
 inj:=r.inj
 off:=r.off
 al:=r.al
theorem Om{np nn:Nat}{b:MS}{vs:List V}{Q:VK}{E:XK}(h:spJ K (fnM np nn b) np vs H Q E):tS K b { nx:=fun _ H'=>Q .non H',rt:=Q } (vs.map some++List.replicate (nn-np) none) H:=by
 obtain⟨args,O,fp,hl,rl,a,as',e,k⟩:=h;have hl2:vs.length=args.length:=by have:=rl.len; simp at this; exact this.symm
 simp only[fnM] at e;split at e
 .rename_i ha
  simp only[bind_eq_some_iff] at e;obtain⟨f,e1,e2⟩:=e;refine⟨_,O,fp,rl.start (nn-np),f,e1,?_⟩;cases f with
  | next Z' =>
   cases e2;intro σ' fp' H' p;obtain⟨fp2,p2,_⟩:=M4 hl2 p;rw[ha] at p2;exact k _ _ ⟨[],fp2,p2,EF .non⟩
  | ret b Z' =>
   cases e2;intro σ' v L fp' H' p q;obtain⟨fp2,p2,n2⟩:=M4 hl2 p;rw[ha] at p2;exact k _ _ ⟨L,fp2,p2,DJ n2 q⟩
  | brk Z'=>cases e2
  | cnt Z'=>cases e2
 .cases e
theorem RRs.split:∀{rs:List R} {vs:List V} {L:List Addr},RRs K N H U vs rs L->L.Nodup->∃Ls:Nat->List Addr,(∀j v r,vs[j]? = some v->rs[j]? = some r->RR K N H U v r (Ls j))/\(∀j p,p∈Ls j->p∈L)/\(∀j,(Ls j).Nodup) /\
  (∀i j p,p∈Ls i->p∈Ls j->i=j)/\vs.length=rs.length/\∀j,rs.length<=j->Ls j=[]:=by
 intro _l;induction _l with
 | nil =>
  intro _m;cases _m with
  | nil =>
   intro L q nd;exact⟨fun _=>[],fun j v r h=>by simp at h,fun j p h=>by simp at h,fun _=>List.nodup_nil,fun i j p h=>by simp at h,rfl,fun _ _=>rfl⟩
  | cons _ _ =>
   intro _ q _;simp only[RRs] at q
 | cons r rs ih =>
  intro _m;cases _m with
  | nil =>
   intro _ q _;simp only[RRs] at q
  | cons v vs =>
   intro L q nd;simp only[RRs] at q;obtain⟨L1,L2,rfl,q1,q2⟩:=q;obtain⟨n1,n2,n3⟩:=List.nodup_append.mp nd;obtain⟨Ls,h1,h2,h3,h4,h5,h6⟩:=ih q2 n2;refine⟨fun j=>match j with|0=>L1|j+1=>Ls j,fun j w s e1 e2=>?_,fun j p h=>?_,fun j=>?_,fun i j p e1 e2=>?_,by simp[h5],fun j hj=>?_⟩
   .cases j with
    | zero=>simp at e1 e2; subst e1; subst e2; exact q1
    | succ j=>exact h1 j w s (by simpa using e1) (by simpa using e2)
   .cases j with
    | zero=>exact List.mem_append_left _ h
    | succ j=>exact List.mem_append_right _ (h2 j p h)
   .cases j with
    | zero=>exact n1
    | succ j=>exact h3 j
   .cases i with
    | zero =>
     cases j with
     | zero=>rfl
     | succ j=>exact absurd rfl (n3 p e1 p (h2 j p e2))
    | succ i =>
     cases j with
     | zero=>exact absurd rfl (n3 p e2 p (h2 i p e1))
     | succ j=>rw[h4 i j p e1 e2]
   .cases j with
    | zero=>simp at hj
    | succ j=>exact h6 j (by simpa using hj)
theorem Fz:∀{rs:List R} {j i:Nat},rs[j]? = some (.ref i)->i∈refs rs
 | [],j,i,h=>by simp at h
 | .ref k::rs,0,i,h=>by simp at h; subst h; simp[refs]
 | .val a::rs,0,i,h=>by simp at h
 | .ref k::rs,j+1,i,h=>by simp only[refs]; exact List.mem_cons_of_mem _ (Fz (by simpa using h))
 | .val a::rs,j+1,i,h=>by simp only[refs]; exact Fz (by simpa using h)
theorem JN:∀{rs:List R},(refs rs).Nodup->∀{i j k:Nat},rs[i]? = some (.ref k)->rs[j]? = some (.ref k)->i=j
 | [],_,i,j,k,h,_=>by simp at h
 | .val a::rs,nd,0,_,_,h,_=>by simp at h
 | .val a::rs,nd,_+1,0,_,_,h=>by simp at h
 | .val a::rs,nd,i+1,j+1,k,h1,h2=>by
  have e:=JN (rs:=rs) nd (i:=i) (j:=j) (k:=k) (by simpa using h1) (by simpa using h2);rw[e]
 | .ref a::rs,nd,0,0,_,_,_=>rfl
 | .ref a::rs,nd,0,j+1,k,h1,h2=>by
  simp at h1; subst h1;simp only[refs,List.nodup_cons] at nd;exact absurd (Fz (by simpa using h2)) nd.1
 | .ref a::rs,nd,i+1,0,k,h1,h2=>by
  simp at h2; subst h2;simp only[refs,List.nodup_cons] at nd;exact absurd (Fz (by simpa using h1)) nd.1
 | .ref a::rs,nd,i+1,j+1,k,h1,h2=>by
  simp only[refs,List.nodup_cons] at nd;have e:=JN (rs:=rs) nd.2 (i:=i) (j:=j) (k:=k) (by simpa using h1) (by simpa using h2);rw[e]
theorem JQ{i k:Nat}{a:A}:(P5 Z k a)[i]? = if i=k then (match Z[i]? with|some (some (st,_))=>some (some (st,a))|x=>x) else Z[i]?:=by
 unfold P5;split
 .rename_i st b e
  by_cases h:i=k
  .subst h
   rw[List.getElem?_set_self (As e),if_pos rfl,e]
  .rw[List.getElem?_set_ne (Ne.symm h),if_neg h]
 .rename_i hn
  by_cases h:i=k
  .subst h
   rw[if_pos rfl];split
   .rename_i st b e
    exact absurd e (hn st b)
   .rfl
  .rw[if_neg h]
theorem Fv:∀{rs:List R} {as:List A} {Z:Ro} {i:Nat},i∉refs rs->(back rs as Z)[i]? = Z[i]?
 | [],as,Z,i,_=>by cases as<;>rfl
 | .ref k::rs,[],Z,i,_=>rfl
 | .val k::rs,[],Z,i,_=>rfl
 | .ref k::rs,a::as,Z,i,h=>by
  simp only[refs,List.mem_cons,not_or] at h;simp only[back];rw[Fv h.2,JQ,if_neg h.1]
 | .val k::rs,a::as,Z,i,h=>by
  simp only[refs] at h;simp only[back];exact Fv h
theorem Hr:∀{rs:List R} {as:List A} {Z:Ro} {i j:Nat} {st:Own} {b a:A},(refs rs).Nodup->rs[j]? = some (.ref i)->as[j]? = some a -> Z[i]? = some (some (st,b))->(back rs as Z)[i]? = some (some (st,a))
 | [],as,Z,i,j,st,b,a,_,h,_,_=>by simp at h
 | _::_,[],Z,i,j,st,b,a,_,_,h,_=>by simp at h
 | .ref k::rs,c::as,Z,i,0,st,b,a,nd,h1,h2,h3=>by
  simp at h1 h2;subst h1; subst h2;simp only[refs,List.nodup_cons] at nd;simp only[back];rw[Fv nd.1,JQ,if_pos rfl,h3]
 | .val k::rs,c::as,Z,i,0,st,b,a,nd,h1,h2,h3=>by simp at h1
 | .ref k::rs,c::as,Z,i,j+1,st,b,a,nd,h1,h2,h3=>by
  simp only[refs,List.nodup_cons] at nd;simp only[back];have hk:i≠k:=by
   rintro rfl;exact nd.1 (Fz (by simpa using h1))
  exact Hr nd.2 (by simpa using h1) (by simpa using h2) (by rw[JQ,if_neg hk]; exact h3)
 | .val k::rs,c::as,Z,i,j+1,st,b,a,nd,h1,h2,h3=>by
  simp only[refs] at nd;simp only[back];exact Hr nd (by simpa using h1) (by simpa using h2) h3
theorem Jd:∀{rs:List R} {as:List A} {Z:Ro},(back rs as Z).length=Z.length
 | [],as,Z=>by cases as<;>rfl
 | .ref k::rs,[],Z=>rfl
 | .val k::rs,[],Z=>rfl
 | .ref k::rs,a::as,Z=>by
  simp only[back];rw[Jd];unfold P5;split<;>simp
 | .val k::rs,a::as,Z=>by simp only[back]; exact Jd
theorem args_get:∀{rs:List R} {args:List (Own×A)},DK Z rs=some args->args.length=rs.length/\∀(j:Nat) (r:R),rs[j]? = some r->∃y,args[j]? = some y/\Hq Z r=some y:=by
 intro _l;induction _l with
 | nil =>
  intro args h;simp only[DK,Option.some.injEq] at h;subst h;exact⟨rfl,fun j r h=>by simp at h⟩
 | cons r rs ih =>
  intro args h;simp only[DK,bind_eq_some_iff,map_eq_some_iff] at h;obtain⟨y,h1,ys,h2,rfl⟩:=h;obtain⟨e1,e2⟩:=ih h2;refine⟨by simp[e1],fun j s hj=>?_⟩;cases j with
  | zero=>simp at hj; subst hj; exact⟨y,rfl,h1⟩
  | succ j=>exact e2 j s (by simpa using hj)
theorem Fu{i:Nat}{y:Own×A}(h:Hq Z (.ref i)=some y):∃st,Z[i]? = some (some (st,y.2))/\y.1≠.own/\(st=.ro->y.1=.ro):=by
 simp only[Hq] at h;split at h
 .rename_i a e
  cases h;exact⟨_,e,fun z=>(by cases z),fun _=>rfl⟩
 .rename_i st a hn e
  cases h;refine⟨_,e,fun z=>(by cases z),fun z=>?_⟩
  exact(hn z).elim
 .cases h
end
section
variable{K:Frag}{Z Z' Z1 Z2:Ro}{U σ' σ1 σ2:St}{H H' H1 H2:Hp}{O O' N:Addr->Prop}{fp fp' fp1 fp2:Nat->List Addr}{L L1:List Addr}
noncomputable def fpC(rs:List R)(Ls fp1:Nat->List Addr):Nat->List Addr:=fun j=>match rs[j]? with
 | some (.val _)=>Ls j
 | some (.ref i)=>fp1 i
 | none=>[]
noncomputable def ixR(rs:List R)(i:Nat):Option Nat:=rs.findIdx? fun r=>match r with
 | .ref k=>k==i
 | .val _=>false
theorem HF{rs:List R}{i j:Nat}(h:ixR rs i=some j):rs[j]? = some (.ref i):=by
 unfold ixR at h;obtain⟨hj,h1,_⟩:=List.findIdx?_eq_some_iff_getElem.mp h;cases e:rs[j] with
 | val a=>rw[e] at h1; simp at h1
 | ref k =>
  rw[e] at h1;have:k=i:=by simpa using h1
  subst this;rw[List.getElem?_eq_getElem hj,e]
theorem HE{rs:List R}{i:Nat}(h:ixR rs i=none):i∉refs rs:=by
 unfold ixR at h;rw[List.findIdx?_eq_none_iff] at h;intro hm;have:∀{rs:List R},i∈refs rs->R.ref i∈rs:=by
  intro rs;induction rs with
  | nil=>intro h; simp[refs] at h
  | cons r rs ih =>
   intro h;cases r with
   | val a=>simp only[refs] at h; exact List.mem_cons_of_mem _ (ih h)
   | ref k =>
    simp only[refs,List.mem_cons] at h;rcases h with rfl|h
    .exact List.mem_cons_self
    .exact List.mem_cons_of_mem _ (ih h)
 have:=h _ (this hm);simp at this
theorem Ue{Φ:Fn}{np:Nat}{m:MA}{Q:VK}{E:XK}(hnp:∀args y,Φ args=some y->args.length=np)(h:tE K (Am Φ m) U H Q):R0 (spJ K Φ np) [] E (tA K m) U H Q:=by
 obtain⟨Z,O,fp,rl,x,Z',e,k⟩:=h;simp only[Am,bind_eq_some_iff] at e;obtain⟨⟨rs,Z1⟩,e1,args,e2,e3⟩:=e;split at e3
 case isFalse=>cases e3
 rename_i hnd;simp only[map_eq_some_iff] at e3;obtain⟨⟨a,as'⟩,e3,e4⟩:=e3;cases e4;refine⟨Z,O,fp,rl,rs,Z1,e1,fun vs H1 yy=>?_⟩;obtain⟨L,fp1,p,q⟩:=yy;obtain⟨Ls,s1,s2,s3,s4,s5,s6⟩:=q.split p.nd;obtain⟨g1,g2⟩:=args_get e2;rw[List.append_nil];have rs_of:∀{j:Nat} {y:Own×A},args[j]? = some y->∃r v,rs[j]? = some r/\vs[j]? = some v/\Hq Z1 r=some y:=fun {j y} hy=>by
  have hj:j<rs.length:=by rw[<- g1]; exact As hy
  obtain⟨y',h1,h2⟩:=g2 j rs[j] (by simp[hj]);rw[hy] at h1; cases h1;exact⟨rs[j],vs[j]'(by rw[s5]; exact hj),by simp[hj],by simp,h2⟩
 -- what goes with the call
 have fpc:∀j pp,pp∈fpC rs Ls fp1 j->(∃a,rs[j]? = some (.val a)/\pp∈Ls j)\/(∃i,rs[j]? = some (.ref i)/\pp∈fp1 i):=fun j pp hp=>by
  unfold fpC at hp;split at hp
  .rename_i a e; exact .inl ⟨a,e,hp⟩
  .rename_i i e; exact .inr ⟨i,e,hp⟩
  .simp at hp
 have cN:∀pp,Fp (fpC rs Ls fp1) pp->NN fp1 (ad O L) pp:=fun pp ⟨j,hp⟩=>by
  rcases fpc j pp hp with ⟨_,_,hp⟩|⟨i,_,hp⟩
  .exact .inr (.inr (s2 j pp hp))
  .exact .inl ⟨i,hp⟩
 have oN:∀pp,O pp->¬Fp (fpC rs Ls fp1) pp:=fun pp ho ⟨j,hp⟩=>by
  rcases fpc j pp hp with ⟨_,_,hp⟩|⟨i,_,hp⟩
  .exact p.lo pp (s2 j pp hp) ho
  .exact p.rel.off i pp hp (.inl ho)
 have kN:∀i pp,pp∈fp1 i->i∉refs rs->¬Fp (fpC rs Ls fp1) pp:=fun i pp hp hi ⟨j,hq⟩=>by
  rcases fpc j pp hq with ⟨_,_,hq⟩|⟨i',hr,hq⟩
  .exact p.rel.off i pp hp (.inr (s2 j pp hq))
  .have:=p.rel.inj i i' pp hp hq
   subst this;exact hi (Fz hr)
 let OC:Addr->Prop:=fun pp=>NN fp1 (ad O L) pp/\¬Fp (fpC rs Ls fp1) pp
 have cNN:∀pp,NN (fpC rs Ls fp1) OC pp->NN fp1 (ad O L) pp:=fun pp z=>z.elim (cN pp) fun z=>z.1;have relC:Rel K (args.map some) (vs.map some) H1 OC (fpC rs Ls fp1):=by
  refine⟨by simp[g1,s5],fun j st b hb=>?_,fun j h=>?_,fun j=>?_,fun i j pp h1 h2=>?_,fun j pp hp z=>z.2 ⟨j,hp⟩,fun pp z=>p.rel.al pp (cNN pp z)⟩
  .rw[List.getElem?_map] at hb
   cases hy:args[j]? with
   | none=>rw[hy] at hb; cases hb
   | some y =>
    rw[hy] at hb;cases hb;obtain⟨r,v,hr,hv,ha⟩:=rs_of hy;refine⟨v,by rw[List.getElem?_map,hv]; rfl,DJ cNN ?_⟩;have q1:=s1 j v r hv hr;cases r with
    | val c =>
     simp only[Hq,Option.some.injEq] at ha;cases ha;have:fpC rs Ls fp1 j=Ls j:=by simp[fpC,hr]
     rw[this];exact q1
    | ref i =>
     obtain⟨st',h1,h2,_⟩:=Fu ha;obtain⟨v',h3,h4⟩:=p.rel.slot i _ _ h1;rw[q1.2] at h3; cases h3;have:fpC rs Ls fp1 j=fp1 i:=by simp[fpC,hr]
     rw[this];exact h4
  .unfold fpC
   split
   .rename_i c e
    obtain⟨y,hy,_⟩:=g2 j _ e;exact absurd (by rw[List.getElem?_map,hy]; rfl) (h y.1 y.2)
   .rename_i c e
    obtain⟨y,hy,_⟩:=g2 j _ e;exact absurd (by rw[List.getElem?_map,hy]; rfl) (h y.1 y.2)
   .rfl
  .unfold fpC
   split
   .exact s3 j
   .exact p.rel.nd _
   .exact List.nodup_nil
  .rcases fpc i pp h1 with ⟨c1,r1,z1⟩|⟨i1,r1,z1⟩
   .rcases fpc j pp h2 with ⟨c2,r2,z2⟩|⟨i2,r2,z2⟩
    .exact s4 i j pp z1 z2
    .exact absurd (.inr (s2 i pp z1)) (p.rel.off i2 pp z2)
   .rcases fpc j pp h2 with ⟨c2,r2,z2⟩|⟨i2,r2,z2⟩
    .exact absurd (.inr (s2 j pp z2)) (p.rel.off i1 pp z1)
    .have:=p.rel.inj i1 i2 pp z1 z2
     subst this;exact JN hnd r1 r2
 refine⟨args,OC,fpC rs Ls fp1,by rw[s5,<- g1]; exact hnp _ _ e3,relC,a,as',e3,fun v H2 ⟨L',fpD,pc,qc⟩=>k v H2 ?_⟩
 -- behind the call
 have hlen:rs.length<=as'.length:=by
  have:=pc.rel.len;rw[JG] at this;simp at this;lia
 let fp2:Nat->List Addr:=fun i=>match ixR rs i with
  | some j=>fpD j
  | none=>fp1 i
 have fp2c:∀i pp,pp∈fp2 i->(∃j,rs[j]? = some (.ref i)/\pp∈fpD j)\/(i∉refs rs/\pp∈fp1 i):=fun i pp hp=>by
  simp only[fp2] at hp;split at hp
  .rename_i j e; exact .inl ⟨j,HF e,hp⟩
  .rename_i e; exact .inr ⟨HE e,hp⟩
 have oOC:∀pp,O pp->OC pp:=fun pp z=>⟨.inr (.inl z),oN pp z⟩;have fOC:∀i pp,pp∈fp1 i->i∉refs rs->OC pp:=fun i pp hp hi=>⟨.inl ⟨i,hp⟩,kN i pp hp hi⟩;have nD:∀pp,NN fp2 (ad O L') pp->NN fpD (ad OC L') pp:=fun pp z=>by
  rcases z with ⟨i,z⟩|z|z
  .rcases fp2c i pp z with ⟨j,_,z⟩|⟨hi,z⟩
   .exact .inl ⟨j,z⟩
   .exact .inr (.inl (fOC i pp z hi))
  .exact .inr (.inl (oOC pp z))
  .exact .inr (.inr z)
 have hnew:∀pp,(pp∈L'\/Fp fpD pp)->NN fp1 (ad O L) pp\/H1 pp=none:=fun pp z=>(pc.new pp z).imp (cN pp) id;have back1:∀pp,(Fp (fpC rs Ls fp1) pp\/H1 pp=none)->Fp fp pp\/H pp=none:=fun pp z=>by
  rcases z with ⟨j,z⟩|z
  .rcases fpc j pp z with ⟨_,_,z⟩|⟨i,_,z⟩
   .exact p.new pp (.inl (s2 j pp z))
   .exact p.new pp (.inr ⟨i,z⟩)
  .cases e:H pp with
   | none=>exact .inr rfl
   | some o =>
    by_cases hf:Fp fp pp
    .exact .inl hf
    .rw[p.kept pp o e (.inl hf)] at z; cases z
 have slot2:∀i st b,(back rs as' Z1)[i]? = some (some (st,b))->(∃j,ixR rs i=some j/\rs[j]? = some (.ref i)/\as'[j]? = some b/\∃c,Z1[i]? = some (some (st,c)))\/(ixR rs i=none/\i∉refs rs/\Z1[i]? = some (some (st,b))):=fun i st b hb=>by
  cases e:ixR rs i with
  | some j =>
   have hr:=HF e;have hj:j<rs.length:=As hr;obtain⟨y,hy,ha⟩:=g2 j _ hr;obtain⟨st',h1,_,_⟩:=Fu ha;have hb':=Hr (as:=as') (a:=as'[j]'(by lia)) hnd hr (by simp) h1;rw[hb] at hb';cases hb';exact .inl ⟨j,rfl,hr,by simp,_,h1⟩
  | none =>
   have hi:=HE e;rw[Fv hi] at hb;exact .inr ⟨rfl,hi,hb⟩
 have rel2:Rel K (back rs as' Z1) U H2 (ad O L') fp2:=by
  refine⟨by rw[Jd]; exact p.rel.len,fun i st b hb=>?_,fun i h=>?_,fun i=>?_,fun i1 i2 pp h1 h2=>?_,fun i pp h z=>?_,fun pp z=>pc.rel.al pp (nD pp z)⟩
  .rcases slot2 i st b hb with ⟨j,ej,hr,hb2,c,hc⟩|⟨ej,hi,hb2⟩
   .obtain⟨y,hy,ha⟩:=g2 j _ hr
    obtain⟨st',h1,h2,_⟩:=Fu ha;obtain⟨v',h3,h4⟩:=pc.rel.slot j _ _ (Jj (st:=y.1) (a0:=y.2) hy h2 hb2);have hv:vs[j]? = some v':=by
     rw[List.getElem?_map] at h3;cases e:vs[j]? with
     | none=>rw[e] at h3; cases h3
     | some w=>rw[e] at h3; cases h3; rfl
    have q1:=s1 j v' _ hv hr;have:fp2 i=fpD j:=by simp only[fp2,ej]
    exact⟨v',q1.2,by rw[this]; exact DJ nD h4⟩
   .obtain⟨v',h3,h4⟩:=p.rel.slot i _ _ hb2
    have:fp2 i=fp1 i:=by simp only[fp2,ej]
    refine⟨v',h3,?_⟩;rw[this];refine h4.tr (M:=Fp (fpC rs Ls fp1)) cN pc.kept (fun pp z=>?_) fun pp hp=>kN i pp hp hi;rcases z with ⟨i',z⟩|z|z
    .rcases fp2c i' pp z with ⟨j,_,z⟩|⟨_,z⟩
     .exact hnew pp (.inr ⟨j,z⟩)
     .exact .inl (.inl ⟨i',z⟩)
    .exact .inl (.inr (.inl z))
    .exact hnew pp (.inl z)
  .simp only[fp2]
   split
   .rename_i j ej
    have hr:=HF ej;have hj:j<rs.length:=As hr;obtain⟨y,hy,ha⟩:=g2 j _ hr;obtain⟨st',h1,_,_⟩:=Fu ha;exact absurd (Hr (as:=as') (a:=as'[j]'(by lia)) hnd hr (by simp) h1) (h _ _)
   .rename_i ej
    exact p.rel.out i fun st b hb=>h st b (by rw[Fv (HE ej)]; exact hb)
  .simp only[fp2]
   split
   .exact pc.rel.nd _
   .exact p.rel.nd _
  .rcases fp2c i1 pp h1 with ⟨j1,r1,z1⟩|⟨r1,z1⟩
   .rcases fp2c i2 pp h2 with ⟨j2,r2,z2⟩|⟨r2,z2⟩
    .have:=pc.rel.inj j1 j2 pp z1 z2
     subst this;rw[r1] at r2; cases r2; rfl
    .exact absurd (.inl (fOC i2 pp z2 r2)) (pc.rel.off j1 pp z1)
   .rcases fp2c i2 pp h2 with ⟨j2,r2,z2⟩|⟨r2,z2⟩
    .exact absurd (.inl (fOC i1 pp z1 r1)) (pc.rel.off j2 pp z2)
    .exact p.rel.inj i1 i2 pp z1 z2
  .rcases fp2c i pp h with ⟨j,r1,z1⟩|⟨r1,z1⟩
   .exact pc.rel.off j pp z1 (z.imp (oOC pp) id)
   .rcases z with z|z
    .exact p.rel.off i pp z1 (.inl z)
    .exact pc.lo pp z (fOC i pp z1 r1)
 refine⟨L',fp2,⟨rel2,pc.nd,fun pp hp z=>pc.lo pp hp (oOC pp z),fun pp hp=>?_,p.kept.trans pc.kept fun pp z=>back1 pp (.inl z),rfl,p.stab.trans fun i st b hb hs=>?_⟩,DJ nD qc⟩
 .rcases hp with hp|⟨i,hp⟩
  .exact back1 pp (pc.new pp (.inl hp))
  .rcases fp2c i pp hp with ⟨j,_,z⟩|⟨_,z⟩
   .exact back1 pp (pc.new pp (.inr ⟨j,z⟩))
   .exact p.new pp (.inr ⟨i,z⟩)
 .cases e:ixR rs i with
  | none=>exact⟨b,by rw[Fv (HE e)]; exact hb,rfl,fun _=>rfl⟩
  | some j =>
   have hr:=HF e;have hj:j<rs.length:=As hr;obtain⟨y,hy,ha⟩:=g2 j _ hr;obtain⟨st',h1,h2,h3⟩:=Fu ha;rw[hb] at h1; cases h1;refine⟨_,Hr (as:=as') (a:=as'[j]'(by lia)) hnd hr (by simp) hb,rfl,fun z=>?_⟩;obtain⟨a',h4,_,h5⟩:=pc.stab j y.1 y.2 (by rw[List.getElem?_map,hy]; rfl) h2;obtain⟨_,_,_,h6⟩:=JF h4;have:as'[j]? = some (as'[j]'(by lia)):=by simp
   rw[this] at h6;have e5:=h5 (h3 z);have e6:as'[j]'(by lia)=a':=Option.some.inj h6;rw[e6,e5]
end
end J
end
section
namespace J
open PySem PySem.Spec PyProof.Rows L2
noncomputable def JE(X:Cx)(e:Expr)(m:ME):Prop:=PE X e (tE X.K m)
noncomputable def JT(X:Cx)(e:Expr)(m:MT):Prop:=PT X e (tT X.K m)
noncomputable def JW(X:Cx)(e:Expr)(m:MT):Prop:=PW X e (tT X.K m)
noncomputable def JA(X:Cx)(es:List Expr)(m:MA):Prop:=PA X es (tA X.K m)
noncomputable def JI(X:Cx)(tg e:Expr)(m:MI):Prop:=PI X tg e (tI X.K m)
noncomputable def JS(X:Cx)(s:Stmt)(m:MS):Prop:=PS X s (tS X.K m)
noncomputable def JSs(X:Cx)(s:List Stmt)(m:MS):Prop:=PSs X s (tS X.K m)
section
variable{X:Cx}{a b c e:Expr}{es:List Expr}{m m1 m2 m3:ME}{ms:MA}{mt mt2:MT}{mi:MI}{p pos pos':Pos}{x:Str}{s:Stmt}{ss:List Stmt}{w1 w2:MS}
theorem AJ{t t':TE}(h:PE X e t)(w:∀U H Q,t' U H Q->t U H Q):PE X e t':=fun pins s U H Q I q=>h pins s U H Q I (w U H Q q)
theorem HS{t t':TT}(h:PT X e t)(w:∀U H Q,t' U H Q->t U H Q):PT X e t':=fun pins s U H Q I q=>h pins s U H Q I (w U H Q q)
theorem OR{t t':TT}(h:PW X e t)(w:∀U H Q,t' U H Q->t U H Q):PW X e t':=fun wh pins s U H Q I q=>h wh pins s U H Q I (w U H Q q)
theorem OO{t t':TA}(h:PA X es t)(w:∀U H Q,t' U H Q->t U H Q):PA X es t':=fun pp pins s U H Q I q=>h pp pins s U H Q I (w U H Q q)
theorem BM{t t':TS}(h:PS X s t)(w:∀D U H,t' D U H->t D U H):PS X s t':=fun pins s U H D I q=>h pins s U H D I (w D U H q)
theorem M3{t t':TS}(h:PSs X ss t)(w:∀D U H,t' D U H->t D U H):PSs X ss t':=fun pins s U H D I q=>h pins s U H D I (w D U H q)
theorem F4{tg:Expr}{t t':TI}(h:PI X tg e t)(w:∀U H R,t' U H R->t U H R):PI X tg e t':=fun pins s U H R I q=>h pins s U H R I (w U H R q)
theorem VB(i:Nat)(hN:X.N[i]? = some x)(hv:Vis X.env.scope x)(hd:(x==("__debug__" : Str))=false)(hcd:(x==("__classdict__" : Str))=false):JE X (.Name x pos) (Aa i):=AJ (JK hN hv hd hcd) fun _ _ _ h=>R5 h
theorem Aj{i:Int}{j:Nat}:JE X (.Constant (.int i) j pos) (Ag (.int i)):=AJ Wh fun _ _ _ h=>J0 (fun _ _=>.int i) h
theorem E6{b:Bool}{j:Nat}:JE X (.Constant (.bool b) j pos) (Ag (.bl b)):=AJ X3 fun _ _ _ h=>J0 (fun _ _=>.bl b) h
theorem Dc{j:Nat}:JE X (.Constant .none j pos) (Ag .non):=AJ Wr fun _ _ _ h=>J0 (fun _ _=>.non) h
theorem Jm{z:Str}{j:Nat}(hz:z.length<=sizeLine):JE X (.Constant (.str z) j pos) (Ag (.str z)):=AJ Wu fun _ _ _ h=>J0 (fun _ _=>.str z hz) h
theorem Lk{n:Int}(G:GInt X.mg x n)(hg:Gl X x)(hd:(x==("__debug__" : Str))=false):JE X (.Name x pos) (Ag (.int n)):=AJ (Tp G rfl hg hd) fun _ _ _ h=>J0 (fun _ _=>.int n) h
theorem AO(h:JE X e m):JE X e (AK m):=AJ h fun _ _ _ h=>R3 h
theorem Ae:JA X [] Ai:=OO GF fun _ _ _ h=>Hk h
theorem Ab(hs:starEach (e::es) X.env=(false,eval e X.env)::starEach es X.env)(h:JE X e m)(t:JA X es ms):JA X (e::es) (Ac m ms):=OO (D6 h t hs) fun _ _ _ h=>D8 h
noncomputable def r1L(r:V->Hp->VK->Prop):List V->Hp->VK->Prop:=fun xs H Q=>∃x,xs=[x]/\r x H Q
noncomputable def r2L(r:R2):List V->Hp->VK->Prop:=fun xs H Q=>∃x y,xs=[x,y]/\r x y H Q
noncomputable def m1L(m:ME):MA:=Ac m Ai
noncomputable def m2L(m m':ME):MA:=Ac m (Ac m' Ai)
theorem two{K:Frag}{f:List A->Option A}{r:R2}(ok:OpN K f (r2L r)){U:L2.St}{H:Hp}{Q:VK}(h:tE K (opM f (m2L m1 m2)) U H Q):tOp r (tE K m1) (tE K m2) U H Q:=by
 have h1:=D8 (K2 ok h);refine tE.mono h1 fun v H1 h2=>tE.mono (D8 h2) fun u H2 h3=>?_;obtain⟨x,y,e,q⟩:=Hk h3;cases e;exact q
theorem one{K:Frag}{f:List A->Option A}{r:V->Hp->VK->Prop}(ok:OpN K f (r1L r)){U:L2.St}{H:Hp}{Q:VK}(h:tE K (opM f (m1L m)) U H Q):tUn r (tE K m) U H Q:=by
 refine tE.mono (D8 (K2 ok h)) fun v H1 h2=>?_;obtain⟨x,e,q⟩:=Hk h2;cases e;exact q
theorem AI{op:Operator}{f:List A->Option A}{r:R2}(ok:OpN X.K f (r2L r))(ho:OpR X (binaryOp op) r)(ha:JE X a m1)(hb:JE X b m2):JE X (.BinOp a op b pos) (opM f (m2L m1 m2)):=AJ (X5 ho ha hb) fun _ _ _ h=>two ok h
theorem KI{op:UnaryOp}{f:List A->Option A}{r:V->Hp->VK->Prop}(ok:OpN X.K f (r1L r))(ho:UnR X (unaryOp op) r)(ha:JE X a m):JE X (.UnaryOp op a pos) (opM f (m1L m)):=AJ (X6 ho ha) fun _ _ _ h=>one ok h
theorem Bl{op:CmpOp}{f:List A->Option A}{r:R2}(ok:OpN X.K f (r2L r))(ho:OpR X (compareOp op) r)(hm:behindInMarks op b=false)(ha:JE X a m1)(hb:JE X b m2):JE X (.Compare a [op] [b] pos) (opM f (m2L m1 m2)):=AJ (Tn ho ha hb hm) fun _ _ _ h=>two ok h
theorem A7{op:CmpOp}{f:List A->Option A}{r:R2}(ok:OpN X.K f (r2L r))(ho:OpR X (compareOp op) r)(hm:behindInMarks op b=false)(ha:JE X a m1)(hb:JE X b m2):JT X (.Compare a [op] [b] pos) (AF (opM f (m2L m1 m2))):=
 HS (Tz ho ha hb hm) fun _ _ _ h=>two ok (J3 h)
theorem AB{f:List A->Option A}{r:R2}(ok:OpN X.K f (r2L r))(ho:IxR X r)(hs:Oi b)(ha:JE X a m1)(hb:JE X b m2):JE X (.Subscript a b pos) (opM f (m2L m1 m2)):=AJ (X4 ho ha hb hs) fun _ _ _ h=>two ok h
theorem Ax{id:String}{f:List A->Option A}{r:List V->Hp->VK->Prop}(ok:OpN X.K f r)(hc:Cv X (.builtin id) r)(hm:X.mg x=none)(hv:bootBuiltins x=some (.builtin id))(hn:x ≠ "__name__")(hdb:(x==("__debug__" : Str))=false)(hg:Gl X x)(he:starEach (e::es) X.env=(false,eval e X.env)::starEach es X.env)(hpl:(backTo pos (starEach es X.env)).any (·.1)=false)(ha:JA X (e::es) ms):JE X (.Call (.Name x p) (e::es) [] pos) (opM f ms):=
 AJ (PK hc hm hv hn hdb hg he hpl ha) fun _ _ _ h=>K2 ok h
theorem BQ{T:String}{f:List A->Option A}{r:List V->Hp->VK->Prop}(ok:OpN X.K f r)(hc:Cv X (.type T) r)(hm:X.mg x=none)(hv:bootBuiltins x=some (.type T))(hn:x ≠ "__name__")(hdb:(x==("__debug__" : Str))=false)(hg:Gl X x)(he:starEach (e::es) X.env=(false,eval e X.env)::starEach es X.env)(hpl:(backTo pos (starEach es X.env)).any (·.1)=false)(ha:JA X (e::es) ms):JE X (.Call (.Name x p) (e::es) [] pos) (opM f ms):=
 AJ (PL hc hm hv hn hdb hg he hpl ha) fun _ _ _ h=>K2 ok h
theorem BJ{op:BoolOp}(h:JE X a m):JE X (.BoolOp op [a] pos) m:=Wt h
theorem Bs(ha:JE X a m1)(hb:JE X (.BoolOp .And (b::es) pos) m2):JE X (.BoolOp .And (a::b::es) pos) (andM m1 m2):=AJ (We ha hb) fun _ _ _ h=>W7 h
theorem QZ(ha:JE X a m1):JE X (.UnaryOp .Not a pos) (notM m1):=AJ (Ws ha) fun _ _ _ h=>Xa h
theorem Ll(hc:JT X c mt)(ha:JE X a m1)(hb:JE X b m2):JE X (.IfExp c a b pos) (Kb mt m1 m2):=AJ (Rz hc ha hb) fun _ _ _ h=>W8 h
theorem Bb(he:∀whole,isTrue e X.env whole=(do let v <- whole; standAt e.pos; holding [v] (truthy v)))(h:JE X e m):JT X e (AF m):=HS (TB he h) fun _ _ _ h=>J3 h
theorem S3(ha:JT X a mt):JW X (.BoolOp .And [a] pos) mt:=TJ ha
theorem FW(ha:JT X a mt):JW X (.BoolOp .Or [a] pos) mt:=WK ha
theorem VI(ha:JT X a mt)(hb:JW X (.BoolOp .And (b::es) pos) mt2):JW X (.BoolOp .And (a::b::es) pos) (IG mt mt2):=OR (WJ ha hb) fun _ _ _ h=>Xm h
theorem HJ(ha:JT X a mt)(hb:JW X (.BoolOp .Or (b::es) pos) mt2):JW X (.BoolOp .Or (a::b::es) pos) (orT mt mt2):=OR (X8 ha hb) fun _ _ _ h=>Yz h
theorem Dx(h:JW X e mt):JT X e mt:=h.pt
theorem Cm(ha:JT X a mt):JT X (.UnaryOp .Not a pos) (Ds mt):=HS (WG ha) fun _ _ _ h=>Xn h
theorem R1{K:Frag}{f g:List A->Option A}{r r':R2}(ok:OpN K f (r2L r))(ok':OpN K g (r2L r')){U:L2.St}{H:Hp}{Q:VK}(h:tE K (J7 f g m1 m2 m3) U H Q):Ob r r' (tE K m1) (tE K m2) (tE K m3) U H Q:=by
 obtain⟨Z,O,fp,rl,y,Z',h0,k⟩:=h;simp only[J7,bind_eq_some_iff] at h0;obtain⟨⟨r1,Z1⟩,e1,⟨r2,Z2⟩,e2,as,e3,z,e4,kb,e5,e6⟩:=h0;refine⟨Z,O,fp,rl,r1,Z1,e1,fun v1 H1 yy=>?_⟩;obtain⟨L1,fp1,p1,q1⟩:=yy;refine⟨Z1,ad O L1,fp1,p1.rel,r2,Z2,e2,fun v2 H2 yy=>?_⟩;obtain⟨L2,fp2,p2,q2⟩:=yy;have p12:=p1.then p2;have q1':=p2.rr p1.rel q1 fun _ z=>z;have q2':RR K (NN fp2 (ad O (L1++L2))) H2 U v2 r2 L2:=by
  have e:ad (ad O L1) L2=ad O (L1++L2):=funext fun p=>propext FN;rw[<- e];exact q2
 have hs:K5 K (NN fp2 (ad O (L1++L2))) H2 [v1,v2] as:=p12.rel.peeks (rs:=[r1,r2]) (L:=L1++L2) ⟨L1,L2,rfl,q1',L2,[],by simp,q2',rfl⟩ e3;have key:=ok _ H2 [v1,v2] as z (fun u H3=>∃kk,u=.bl kk/\if kk=true then tE K m3 U H3 fun w H4=>r' v2 w H4 Q else Q (.bl false) H3) hs e4 ?_
 .obtain⟨x',y',e,q⟩:=key
  cases e;exact q
 intro u H3 o;obtain⟨sm,L3,q3,nd3,nw3⟩:=o;have hb:=RL q3 e5;refine⟨kb,hb,?_⟩;have p3:Post K O fp H Z Z2 U U (L1++L2) fp2 H3:=p12.more sm p12.nd fun p hp=>.inl hp;cases kb with
 | false =>
  rw[if_neg Bool.false_ne_true];simp at e6;obtain⟨rfl,rfl⟩:=e6;exact k _ H3 ⟨[],fp2,p3.drop0,N1 (.bl _)⟩
 | true =>
  rw[if_pos rfl];simp only[if_true,bind_eq_some_iff,map_eq_some_iff] at e6;obtain⟨⟨r3,Z3⟩,e7,bs,e8,z2,e9,e10⟩:=e6;cases e10;refine⟨Z2,ad O (L1++L2),fp2,p3.rel,r3,Z3,e7,fun v3 H4 yy=>?_⟩;obtain⟨L4,fp4,p4,q4⟩:=yy;have p34:=p3.then p4;have q2'':RR K (NN fp2 (ad O (L1++L2))) H3 U v2 r2 L2:=by
   cases r2 with
   | ref i=>exact q2'
   | val a=>exact Au.tr (M:=fun _=>False) (fun _ z=>z.elim) (Gf.kept sm) (fun p z=>.inl z) (fun _ _ z=>z) q2'
  have q2f:=p4.rr p3.rel q2'' fun p z=>List.mem_append_right _ z;have q4':RR K (NN fp4 (ad O ((L1++L2)++L4))) H4 U v3 r3 L4:=by
   have e:ad (ad O (L1++L2)) L4=ad O ((L1++L2)++L4):=funext fun p=>propext FN;rw[<- e];exact q4
  have hs2:K5 K (NN fp4 (ad O ((L1++L2)++L4))) H4 [v2,v3] bs:=p34.rel.peeks (rs:=[r2,r3]) (L:=L2++L4) ⟨L2,L4,rfl,q2f,L4,[],by simp,q4',rfl⟩ e8;obtain⟨x',y',e,q⟩:=ok' _ H4 [v2,v3] bs z2 Q hs2 e9 fun u H5 o=>k u H5 (p34.out o);cases e;exact q
theorem NF{op op':CmpOp}{f g:List A->Option A}{r r':R2}(ok:OpN X.K f (r2L r))(ok':OpN X.K g (r2L r'))(ho:OpR X (compareOp op) r)(ho':OpR X (compareOp op') r')(hm:lastMarks [op,op'] [b,c]=false)(ha:JE X a m1)(hb:JE X b m2)(hc:JE X c m3):
  JE X (.Compare a [op,op'] [b,c] pos) (J7 f g m1 m2 m3):=AJ (Rx ho ho' ha hb hc hm) fun _ _ _ h=>R1 ok ok' h
theorem VG{op op':CmpOp}{f g:List A->Option A}{r r':R2}(ok:OpN X.K f (r2L r))(ok':OpN X.K g (r2L r'))(ho:OpR X (compareOp op) r)(ho':OpR X (compareOp op') r')(hm:lastMarks [op,op'] [b,c]=false)(ha:JE X a m1)(hb:JE X b m2)(hc:JE X c m3):
  JT X (.Compare a [op,op'] [b,c] pos) (AF (J7 f g m1 m2 m3)):=HS (RG ho ho' ha hb hc hm) fun _ _ _ h=>R1 ok ok' (J3 h)
theorem C9(h:JA X es ms):JE X (.List es pos) (lstM ms):=AJ (Wq h) fun _ _ _ h=>W9 h
theorem Al{P:Program}{w:World}{K:Frag}{mg:Str->Option Value}{base:Heap}{CX:CXT}{k j:Nat}{ps:List Str}{Φ:Fn}{np:Nat}{E:XK}(D:Def P w K mg base CX k x ps (spJ K Φ np))(hnp:∀args y,Φ args=some y->args.length=np)(hP:X.prog=P)(hw:X.w=w)(hK:X.K=K)(hm:X.mg=mg)(hb:X.base=base)(hr:Room j X.A)(hkj:k<=j)(hx:Passes CX X E)(hdb:(x==("__debug__" : Str))=false)(hg:Gl X x)(he:starEach (e::es) X.env=(false,eval e X.env)::starEach es X.env)(hpl:(backTo pos (starEach es X.env)).any (·.1)=false)(ha:JA X (e::es) ms):JE X (.Call (.Name x p) (e::es) [] pos) (Am Φ ms):=by
 subst hP hw hK hm hb;exact AJ (Wg D hr hkj hx ha hg hdb he hpl) fun _ _ _ h=>Ue hnp h
noncomputable def JEc(X:Cx)(own:List Str)(scope:Scope)(e:Expr)(m:ME):Prop:=∀C s H fp pins,JE (cxC X own scope C s H fp pins) e m
noncomputable def JTc(X:Cx)(own:List Str)(scope:Scope)(ifs:List Expr)(m:MT):Prop:=∀C s H fp pins,PTs (cxC X own scope C s H fp pins) ifs (tT X.K m)
theorem AR{own:List Str}{scope:Scope}:JTc X own scope [] BA:=fun C s H fp pins=>fun _ _ _ H _ I h=>by
 obtain⟨Z,O,fp,r,x,Z',e,k⟩:=h;cases e;exact TC _ _ _ H _ I (k fp H r.post)
theorem OD{own:List Str}{scope:Scope}(h:∀C s H fp pins,JT (cxC X own scope C s H fp pins) c mt):JTc X own scope [c] mt:=fun C s H fp pins=>TF (h C s H fp pins)
theorem LG{own N:List Str}{sc sco:Scope}(hok:Bx own N sc sco=true):∀y∈own,y∉N:=fun y hy=>by
 simp only[Bx,Bool.and_eq_true,List.all_eq_true] at hok;have:=hok.2 y hy;simpa using this
theorem CL{scope:Scope}{iter elt:Expr}{ifs:List Expr}{px:Pos}(hok:Bx [x] X.N scope X.env.scope=true)(hc:X.calm=true)(hn:X.N.Nodup)(hx:scope.names.lookup x=some .local)(hs:∀z,foldedSetIterable iter X.env z=pure z)(hi:JI X (.Name x px) iter mi)(ht:JTc X [x] scope ifs mt)(he:JEc X [x] scope elt m):
  JE X (.ListComp elt [⟨.Name x px,iter,ifs,0⟩] scope pos) (AG mi 0 mt m):=
 AJ (Wo (te:=tE X.K m) hok hc ⟨hn⟩ rfl hx hs hi ht (fun C s H fp pins=>he C s H fp pins)) fun _ _ _ h=>GU h
theorem Gw{scope:Scope}{iter elt:Expr}{ifs:List Expr}{px py pt':Pos}{y:Str}{k:Nat}(hok:Bx [x,y] X.N scope X.env.scope=true)(hc:X.calm=true)(hn:X.N.Nodup)(hxy:x≠y)(hx:scope.names.lookup x=some .local)(hy:scope.names.lookup y=some .local)(hs:∀z,foldedSetIterable iter X.env z=pure z)(hi:JI X (.Tuple [.Name x px,.Name y py] k pt') iter mi)(ht:JTc X [x,y] scope ifs mt)(he:JEc X [x,y] scope elt m):
  JE X (.ListComp elt [⟨.Tuple [.Name x px,.Name y py] k pt',iter,ifs,0⟩] scope pos) (AG mi 2 mt m):=by
 have nw:=LG hok;refine AJ (US (un:=Ut X.K 2) hc hok hi (te:=tE X.K m) (fun C s H fp pins=>?_) ht (fun C s H fp pins=>he C s H fp pins) hs) fun _ _ _ h=>GU h;have P:=MY (X:=cxC X [x,y] scope C s H fp pins) (px:=px) (py:=py) (pos:=pt') (k:=k) hc rfl rfl (List.nodup_cons.mpr ⟨by
  intro z;rcases List.mem_cons.mp z with z|z
  .exact hxy z
  .exact nw x (by simp) z,List.nodup_cons.mpr ⟨nw y (by simp),hn⟩⟩) (lookup_relabel_local hx) (lookup_relabel_local hy)
 intro pins' s' σ0 U H' v u vs h0 I r hu;obtain⟨a,rfl,hq,hl⟩:=hu;obtain⟨v1,v2,rfl⟩:=Q5 hl;exact P pins' s' σ0 U H' _ u _ h0 I r ⟨a,v1,v2,rfl,hq,rfl⟩
theorem Wx{tg l:Expr}{tl:TE}(hl:PE X l tl):PI X tg l (XS X.K tl):=by
 intro pins s U H R I h;refine thn (hl pins s U H _ I h) fun v s1 yy=>?_;obtain⟨y,H1,I1,r1,q1⟩:=yy;obtain⟨a,e,q1⟩:=q1;subst e;cases r1;rcases q1 with ⟨⟨xs,hq⟩,q⟩|⟨⟨xs,hq⟩,q⟩
 .obtain⟨its,rv,p,hz⟩:=I1.list hq
  refine wpAny_pyIter_list p.isList ?_;refine⟨s1.heap.objs.size,[s1.heap.objs.size],_,_,H1,rfl,I1.kept (t':=s1.toks) fun b o e=>Heap.get?_push_of_some _ e,Qa a _,⟨_,Heap.get?_push_size _ rfl,rfl,rfl⟩,fun b hb=>?_,q⟩;have e:b=s1.heap.objs.size:=by simpa using hb
  subst e;exact I1.fpOk (Nat.le_refl _) (I1.hok.fresh (Nat.le_refl _))
 .obtain⟨its,rv,p,hz⟩:=I1.tuple hq
  refine wpAny_pyIter_tuple (show s1.heap.IsTuple a its.toArray from p) ?_;refine⟨s1.heap.objs.size,[s1.heap.objs.size],_,_,H1,rfl,I1.kept (t':=s1.toks) fun b o e=>Heap.get?_push_of_some _ e,Of a _,⟨_,Heap.get?_push_size _ rfl,rfl,rfl⟩,fun b hb=>?_,q⟩;have e:b=s1.heap.objs.size:=by simpa using hb
  subst e;exact I1.fpOk (Nat.le_refl _) (I1.hok.fresh (Nat.le_refl _))
theorem Bt{tg:Expr}(h:JE X e m):JI X tg e (Bi m):=F4 (Wx h) fun _ _ _ h=>Xb h
theorem Xc{K:Frag}{U:L2.St}{H:Hp}{R:It->Hp->Prop}(h:tI K (N9 m) U H R):XT (tE K m) U H R:=by
 obtain⟨Z,O,fp,rl,ds,n,Z',e,k⟩:=h;simp only[N9,bind_eq_some_iff] at e;obtain⟨⟨r,Z1⟩,e1,e2⟩:=e;dsimp only at e2;split at e2
 .rename_i z
  split at e2
  .rename_i hz
   cases e2;refine⟨Z,O,fp,rl,_,_,e1,fun v H1 yy=>?_⟩
   obtain⟨L,fp1,p,q⟩:=yy;have q':Au K (NN fp1 (ad O L)) H1 v (.fz (.str z)) L:=q;rw[Au] at q';obtain⟨rfl,q'⟩:=q';cases q';refine⟨z,rfl,k _ _ ⟨.val (.fz .non),.non,.fz .non,[],fp1,p,EF (K:=K) .non,rfl,rfl,fun N H2 _=>?_⟩⟩;have hl:(Hi z).length=z.cps.size:=by simp[Hi]
   refine⟨fun i hi=>by show i<z.cps.size; lia,fun i hi=>by show z.cps.size<=i; lia,fun i v H' d y e=>?_⟩;obtain⟨rfl,c,hc,rfl⟩:=y;refine⟨fun _ _ z=>z,?_⟩;have:d=.str ⟨#[c]⟩:=by
    simp only[Hi,List.getElem?_map] at e;have hc':z.cps.toList[i]? = some c:=by simpa using hc
    rw[hc'] at e;cases e;rfl
   subst this;exact .str _ (by show 1<=sizeLine; decide)
  .cases e2
 .cases e2
theorem VC{tg:Expr}(h:JE X e m):JI X tg e (N9 m):=F4 (Wy h) fun _ _ _ h=>Xc h
theorem Uj{K:Frag}{U:L2.St}{H:Hp}{R:It->Hp->Prop}(h:tI K (A9 m) U H R):UJ (Cs (tE K m) Hl) U H R:=by
 obtain⟨Z,O,fp,rl,ds,n,Z',e,k⟩:=h;simp only[A9,bind_eq_some_iff] at e;obtain⟨⟨r,Z1⟩,e1,e2⟩:=e;dsimp only at e2;split at e2
 .rename_i j
  split at e2
  .rename_i hz
   cases e2;refine⟨Z,O,fp,rl,_,_,e1,fun v H1 yy=>?_⟩
   obtain⟨L,fp1,p,q⟩:=yy;have q':Au K (NN fp1 (ad O L)) H1 v (.fz (.int j)) L:=q;rw[Au] at q';obtain⟨rfl,q'⟩:=q';cases q';refine⟨j,rfl,hz.1,hz.2,k _ _ ⟨.val (.fz .non),.non,.fz .non,[],fp1,p,EF (K:=K) .non,rfl,rfl,fun N H2 _=>?_⟩⟩;have hl:(Di 0 j.toNat).length=j.toNat:=by simp[Di]
   refine⟨fun i hi=>by show i<j.toNat; lia,fun i hi=>by show j.toNat<=i; lia,fun i v H' d y e=>?_⟩;obtain⟨rfl,rfl⟩:=y;refine⟨fun _ _ z=>z,?_⟩;have hi:i<j.toNat:=by have:=As e; lia
   simp only[Di,List.getElem?_map,List.getElem?_range hi,Option.map_some,Option.some.injEq] at e;subst e;exact .int _
  .cases e2
 .cases e2
theorem Bo{tg:Expr}(hg:Gl X "range")(hm:X.mg "range" = none)(hs:starEach [a] X.env=[(false,eval a X.env)])(h:JE X a m):JI X tg (.Call (.Name "range" p) [a] [] pos) (A9 m):=F4 (PN hg hm (D6 h GF hs) hs) fun _ _ _ h=>Uj h
theorem AA:JSs X [] AS:=M3 Tw fun _ _ _ h=>Uo h
theorem Af(h:JS X s w1):JSs X [s] w1:=Tx h
theorem Ad(h:JS X s w1)(t:JSs X ss w2):JSs X (s::ss) (Ao w1 w2):=M3 (RF h t) fun _ _ _ h=>Xk h
theorem Mt:JS X s Hj:=fun _ _ _ _ _ _ y=>by
 obtain⟨_,_,_,_,_,h,_⟩:=y;cases h
theorem NH(hs:swapsWith e none pos.line X.env=pure false)(h:JE X e m):JS X (.Expr e pos) (J9 m):=BM (LK h hs) fun _ _ _ h=>Xf h
theorem An(h:JE X e m):JS X (.Return (some e) pos) (retS m):=BM (WC h) fun _ _ _ h=>Xj h
theorem A6{st st':List Stmt}(hc:JT X c mt)(ha:JSs X st w1)(hb:JSs X st' w2):JS X (.If c st st' pos) (ifS mt w1 w2):=BM (X7 hc ha hb) fun _ _ _ h=>Yx h
theorem Ay(i:Nat)(hN:X.N.Nodup)(hi:X.N[i]? = some x)(hx:Loc X.env.scope x)(hf:X.fn x=true)(hs:swapsWith e (some (.Name x pos')) pos.line X.env=pure false)(h:JE X e m):JS X (.Assign [.Name x pos'] e pos) (AH i m):=
 BM (WD hN hi hx h hs (.inl hf)) fun _ _ _ h=>J1 h
theorem Mu{st:List Stmt}(n:Nat)(hp:PassesOwn (model X.prog X.w) X.A X.env X.xe)(hc:JT X c mt)(hb:JSs X st w1):JS X (.While c st [] pos) (J5 n mt w1):=BM (RE hp hc hb) fun _ _ _ h=>R7 h
theorem Bu{tg iter:Expr}{st:List Stmt}{is:List Nat}{one:Bool}(hp:PassesOwn (model X.prog X.w) X.A X.env X.xe)(hc:X.calm=true)(hi:JI X tg iter mi)(hg:PG X tg (Pf X.K is one))(hb:JSs X st w1)(hs:∀y,foldedSetIterable iter X.env y=pure y):JS X (.For tg iter st [] pos) (Bw is one mi w1):=BM (WB hp hc hi hg hb hs) fun _ _ _ h=>Xg h
theorem BS(i:Nat)(hN:X.N.Nodup)(hi:X.N[i]? = some x)(hx:Loc X.env.scope x)(hf:X.fn x=true):PG X (.Name x pos) (Pf X.K [i] true):=IX hN hi hx (.inl hf)
theorem IY:PGs X [] (Gs []):=OP
theorem DI(i:Nat){is:List Nat}(hN:X.N.Nodup)(hi:X.N[i]? = some x)(hx:Loc X.env.scope x)(hf:X.fn x=true)(t:PGs X es (Gs is))(hs:(assignEach (.Name x pos::es) X.env).map (·.2)=assign (.Name x pos) X.env::(assignEach es X.env).map (·.2)):PGs X (.Name x pos::es) (Gs (i::is)):=JL (IX hN hi hx (.inl hf)) t hs
theorem IW{is:List Nat}{k:Nat}(hc:X.calm=true)(h:PGs X es (Gs is))(hn:(assignEach es X.env).length=is.length)(hst:(assignEach es X.env).findIdx? (·.1)=none):PG X (.Tuple es k pos) (Pf X.K is false):=RB hc h hn hst
theorem VF{tg:Expr}{is:List Nat}(hg:PG X tg (Pf X.K is false))(hs:swapsWithSole [tg] e pos.line X.env=pure false)(hw:swappedStores [tg] e X.env=pure none)(h1:(assignEach [tg] X.env).map (·.2)=[assign tg X.env])(h:JE X e m):
  JS X (.Assign [tg] e pos) (Nf is m):=BM (RD h hg hs hw h1) fun _ _ _ h=>Xl h
end
end J
end
section
namespace L2
open PySem PySem.Spec PyProof.Rows
section
variable{P:Program}{w:World}{H:Hp}{s:Shared}{N N':Addr->Prop}
theorem RK(hok:HOk P w H s.heap){A:Around}{n:Nat}{x y:V}{d e:D}{v u:Value}(r:RepA N H x d)(q:RepA N' H y e)(rx:RelV x v)(ry:RelV y u)(hs:Sh n d)(hu:A.units+n<cLine):SeqAt.RcNeAt A s v u (!eqD d e):=by
 cases r with
 | non =>
  cases rx;cases q with
  | non=>cases ry; exact SeqAt.RcNeAt.none_none
  | bl b=>cases ry; exact SeqAt.RcNeAt.none_bool b
  | int b=>obtain⟨t,rfl⟩:=ry; exact SeqAt.RcNeAt.none_int b t
  | str b=>obtain⟨t,rfl⟩:=ry; exact SeqAt.RcNeAt.none_str b t
  | lst h=>cases ry; obtain⟨its,_,hl⟩:=A1 hok h; exact SeqAt.RcNeAt.none_list hl (lt0 hu)
  | tup h=>cases ry; obtain⟨its,_,hl⟩:=Be hok h; exact SeqAt.RcNeAt.none_tuple hl (lt0 hu)
 | bl a =>
  cases rx;cases q with
  | non=>cases ry; exact SeqAt.RcNeAt.bool_none a
  | bl b=>cases ry; exact SeqAt.RcNeAt.bool_bool a b
  | int b=>obtain⟨t,rfl⟩:=ry; exact SeqAt.RcNeAt.bool_int a b t
  | str b=>obtain⟨t,rfl⟩:=ry; exact SeqAt.RcNeAt.bool_str a b t
  | lst h=>cases ry; obtain⟨its,_,hl⟩:=A1 hok h; exact SeqAt.RcNeAt.bool_list a hl (lt0 hu)
  | tup h=>cases ry; obtain⟨its,_,hl⟩:=Be hok h; exact SeqAt.RcNeAt.bool_tuple a hl (lt0 hu)
 | int a =>
  obtain⟨t',rfl⟩:=rx;cases q with
  | non=>cases ry; exact SeqAt.RcNeAt.int_none a t'
  | bl b=>cases ry; exact SeqAt.RcNeAt.int_bool a t' b
  | int b=>obtain⟨t,rfl⟩:=ry; exact SeqAt.RcNeAt.int_int a t' b t
  | str b=>obtain⟨t,rfl⟩:=ry; exact SeqAt.RcNeAt.int_str a t' b t
  | lst h=>cases ry; obtain⟨its,_,hl⟩:=A1 hok h; exact SeqAt.RcNeAt.int_list a t' hl (lt0 hu)
  | tup h=>cases ry; obtain⟨its,_,hl⟩:=Be hok h; exact SeqAt.RcNeAt.int_tuple a t' hl (lt0 hu)
 | str a =>
  obtain⟨t',rfl⟩:=rx;cases q with
  | non=>cases ry; exact SeqAt.RcNeAt.str_none a t'
  | bl b=>cases ry; exact SeqAt.RcNeAt.str_bool a t' b
  | int b=>obtain⟨t,rfl⟩:=ry; exact SeqAt.RcNeAt.str_int a t' b t
  | str b=>obtain⟨t,rfl⟩:=ry; exact SeqAt.RcNeAt.str_str a t' b t
  | lst h=>cases ry; obtain⟨its,_,hl⟩:=A1 hok h; exact SeqAt.RcNeAt.str_list a t' hl (lt0 hu)
  | tup h=>cases ry; obtain⟨its,_,hl⟩:=Be hok h; exact SeqAt.RcNeAt.str_tuple a t' hl (lt0 hu)
 | @lst a vs ds h hz hn hl hr =>
  cases rx;obtain⟨its,rv,hil⟩:=A1 hok h;cases hs with
  | @lst n _ hs =>
   cases q with
   | non=>cases ry; exact SeqAt.RcNeAt.list_none hil (lt0 hu)
   | bl b=>cases ry; exact SeqAt.RcNeAt.list_bool b hil (lt0 hu)
   | int b=>obtain⟨t,rfl⟩:=ry; exact SeqAt.RcNeAt.list_int b t hil (lt0 hu)
   | str b=>obtain⟨t,rfl⟩:=ry; exact SeqAt.RcNeAt.list_str b t hil (lt0 hu)
   | @lst a' vs' es h' hz' hn' hl' hr' =>
    cases ry;obtain⟨its',rv',hil'⟩:=A1 hok h';have l1:=rv.length;have l2:=rv'.length;rw[IC];by_cases hlen:ds.length=es.length
    .rw[DC hlen,show ds.length=its.toArray.size by simp; lia]
     refine SeqAt.RcNeAt.lists hil hil' (by simp; lia) (lt0 hu) (Fx rv rv' hl hl' fun i v d v' e u u' e1 e2 e3 e4 ru ru'=>?_);exact Ic hok (hr i v d e1 e2) (hr' i v' e e3 e4) ru ru' (hs d (List.mem_of_getElem? e2)) (lt1 hu)
    .have:EU ds es=false:=by
      cases q:EU ds es with
      | false=>rfl
      | true=>exact absurd (DD q) hlen
     rw[this];exact SeqAt.RcNeAt.lists_lengths hil hil' (by simp; lia) (lt0 hu)
   | tup h' =>
    cases ry;obtain⟨its',_,hl'⟩:=Be hok h';exact SeqAt.RcNeAt.list_tuple hil hl' (lt0 hu)
 | @tup a vs ds h hz hl hr =>
  cases rx;obtain⟨its,rv,hil⟩:=Be hok h;cases hs with
  | @tup n _ hs =>
   cases q with
   | non=>cases ry; exact SeqAt.RcNeAt.tuple_none hil (lt0 hu)
   | bl b=>cases ry; exact SeqAt.RcNeAt.tuple_bool b hil (lt0 hu)
   | int b=>obtain⟨t,rfl⟩:=ry; exact SeqAt.RcNeAt.tuple_int b t hil (lt0 hu)
   | str b=>obtain⟨t,rfl⟩:=ry; exact SeqAt.RcNeAt.tuple_str b t hil (lt0 hu)
   | @tup a' vs' es h' hz' hl' hr' =>
    cases ry;obtain⟨its',rv',hil'⟩:=Be hok h';have l1:=rv.length;have l2:=rv'.length;have q:=SeqAt.RcNeAt.tuples (A:=A) hil hil' (lt0 hu) (Fx rv rv' hl hl' fun i v d v' e u u' e1 e2 e3 e4 ru ru'=>Ic hok (hr i v d e1 e2) (hr' i v' e e3 e4) ru ru' (hs d (List.mem_of_getElem? e2)) (lt1 hu))
    rw[Hy];by_cases hlen:ds.length=es.length
    .have e1:(its.toArray.size==its'.toArray.size)=true:=by simp; lia
     have e2:min its.toArray.size its'.toArray.size=ds.length:=by simp; lia
     rw[e1,e2,Bool.and_true,<- DC hlen] at q;exact q
    .have e1:(its.toArray.size==its'.toArray.size)=false:=by simp; lia
     have e3:EU ds es=false:=by
      cases q:EU ds es with
      | false=>rfl
      | true=>exact absurd (DD q) hlen
     rw[e1,Bool.and_false] at q;rw[e3];exact q
   | lst h' =>
    cases ry;obtain⟨its',_,hl'⟩:=A1 hok h';exact SeqAt.RcNeAt.tuple_list hil hl' (lt0 hu)
end
section
variable{X:Cx}{k:Nat}
noncomputable def Ye:R2:=fun x y H Q=>∃d e,Rep H x d/\Rep H y e/\Sh 16 d/\Q (.bl (!eqD d e)) H
theorem Iq(hr:Room k X.A):OpR X (compareOp .NotEq) Ye:=by
 intro pins s U H x y v u Q I rx ry h;obtain⟨d,e,r1,r2,hs,q⟩:=h;exact EqBoolInt.of_rcne (RK I.hok r1 r2 rx ry hs (by have:=hr.units; lia)) ⟨.bl _,H,I,rfl,q⟩
end
end L2
namespace J
open PySem PySem.Spec PyProof.Rows L2
section
variable{K:Frag}{N:Addr->Prop}{H H':Hp}{L:List Addr}{v:V}{a:A}
theorem D7{d:D}:Au K N H v (.fz d) L↔L=[]/\RepA N H v d:=by rw[Au]
theorem Bz{i:Int}(h:Au K N H v (.fz (.int i)) L):v=.int i:=by
 obtain⟨_,h⟩:=D7.mp h;cases h; rfl
theorem DW{z:Str}(h:Au K N H v (.fz (.str z)) L):v=.str z/\z.length<=sizeLine:=by
 obtain⟨_,h⟩:=D7.mp h;cases h with
 | str z hz=>exact⟨rfl,hz⟩
theorem F1{d:D}(h:RepA N H v d):L0 K N H (.fz d) v H:=⟨fun _ _ z=>z,[],EF (K:=K) (ET (fun p z=>z.elim id fun q=>by simp at q) h),List.nodup_nil,fun _ h=>by simp at h⟩
theorem Dz{i:Int}:L0 K N H (.fz (.int i)) (.int i) H:=F1 (.int i)
theorem DV{b:Bool}:L0 K N H (.fz (.bl b)) (.bl b) H:=F1 (.bl b)
theorem LF{z:Str}(h:z.length<=sizeLine):L0 K N H (.fz (.str z)) (.str z) H:=F1 (.str z h)
theorem ON{p:Addr}{vs:List V}{ds:List D}(hp:H p=none)(hz:vs.length<=sizeLine)(q:Aw N H vs ds):L0 K N H (.lst (ds.map A.fz)) (.ref p) (upd H p (.lst vs)):=by
 have sm:=BV (o:=.lst vs) hp;refine⟨sm,[p],?_,by simp,fun b hb=>by simp at hb; rw[hb]; exact hp⟩;rw[Au];refine⟨p,vs,[],rfl,rfl,AQ,hz,Ap.of (q.tr (M:=fun _=>False) (fun _ z=>z.elim) (Gf.kept sm) fun b z=>?_)⟩;rcases z with z|z
 .exact .inl z
 .simp at z; subst z; exact .inr hp
theorem Th{p:Addr}{vs:List V}{ds:List D}(hp:H p=none)(hz:vs.length<=sizeLine)(q:Aw N H vs ds):L0 K N H (.fz (.tup ds)) (.ref p) (upd H p (.tup vs)):=by
 have sm:=BV (o:=.tup vs) hp;refine⟨sm,[],EF (K:=K) (N0 AQ hz (q.tr (M:=fun _=>False) (fun _ z=>z.elim) (Gf.kept sm) fun b z=>?_)),List.nodup_nil,fun _ h=>by simp at h⟩;rcases z with z|z
 .exact .inl z
 .simp at z
noncomputable def fzU:A->Option D
 | .fz d=>some d
 | .lst _ | .tup _ | .scr _ | .dic _ | .dct _ | .opq _ _=>none
noncomputable def Gu:D->Option Int
 | .int i=>some i
 | .non | .bl _ | .str _ | .lst _ | .tup _=>none
noncomputable def F8:D->Option Str
 | .str z=>some z
 | .non | .bl _ | .int _ | .lst _ | .tup _=>none
noncomputable def B6(a:A):Option Int:=(fzU a).bind Gu
noncomputable def De(a:A):Option Str:=(fzU a).bind F8
theorem Ji{a:A}{d:D}(h:fzU a=some d):a=.fz d:=by
 cases a with
 | fz d'=>cases h; rfl
 | _=>cases h
theorem Bj{a:A}{i:Int}(h:B6 a=some i):a=.fz (.int i):=by
 obtain⟨d,h1,h2⟩:=bind_eq_some_iff.mp h;cases Ji h1;cases d with
 | int j=>cases h2; rfl
 | _=>cases h2
theorem Df{a:A}{z:Str}(h:De a=some z):a=.fz (.str z):=by
 obtain⟨d,h1,h2⟩:=bind_eq_some_iff.mp h;cases Ji h1;cases d with
 | str j=>cases h2; rfl
 | _=>cases h2
noncomputable def on1(f:A->Option A):List A->Option A
 | []=>none
 | [a]=>f a
 | _::_::_=>none
noncomputable def on2(f:A->A->Option A):List A->Option A
 | []=>none
 | [_]=>none
 | [a,b]=>f a b
 | _::_::_::_=>none
noncomputable def on3(f:A->A->A->Option A):List A->Option A
 | []=>none
 | [_]=>none
 | [_,_]=>none
 | [a,b,c]=>f a b c
 | _::_::_::_::_=>none
theorem Fs{f:A->Option A}{as:List A}{c:A}(h:on1 f as=some c):∃a,as=[a]/\f a=some c:=by
 cases as with
 | nil=>cases h
 | cons a as=>cases as with
  | nil=>exact⟨a,rfl,h⟩
  | cons b as=>cases h
theorem Co{f:A->A->Option A}{as:List A}{c:A}(h:on2 f as=some c):∃a b,as=[a,b]/\f a b=some c:=by
 cases as with
 | nil=>cases h
 | cons a as=>cases as with
  | nil=>cases h
  | cons b as=>cases as with
   | nil=>exact⟨a,b,rfl,h⟩
   | cons b as=>cases h
noncomputable def Hx:A->Option (List (Key×D))
 | .dic kvs=>some kvs
 | .fz _ | .lst _ | .tup _ | .scr _ | .dct _ | .opq _ _=>none
theorem SH{a:A}{kvs:List (Key×D)}(h:Hx a=some kvs):a=.dic kvs:=by
 cases a with
 | dic k=>cases h; rfl
 | _=>cases h
noncomputable def Io:A->Option Unit
 | .fz .non=>some ()
 | .fz (.bl _) | .fz (.int _) | .fz (.str _) | .fz (.lst _) | .fz (.tup _) | .lst _ | .tup _ | .scr _ | .dic _ | .dct _ | .opq _ _=>none
theorem S9{a:A}{u:Unit}(h:Io a=some u):a=.fz .non:=by
 cases a with
 | fz d=>cases d with
  | non=>rfl
  | _=>cases h
 | _=>cases h
noncomputable def G8(C:Int->Int->Bool)(g:Int->Int->Int):List A->Option A:=on2 fun a b=>(B6 a).bind fun i=>(B6 b).bind fun j=>if C i j then some (.fz (.int (g i j))) else none
noncomputable def Mp(g:Int->Int->Bool):List A->Option A:=on2 fun q1 q2=>(B6 q1).bind fun i=>(B6 q2).bind fun j=>some (.fz (.bl (g i j)))
theorem cons_of{xs:List V}{a:A}{as:List A}(h:K5 K N H xs (a::as)):∃x t L1,xs=x::t/\Au K N H x a L1/\K5 K N H t as:=by
 cases xs with
 | nil=>cases h
 | cons x t =>
  obtain⟨⟨L,h⟩,q⟩:=h;exact⟨x,t,L,rfl,h,q⟩
theorem DU{xs:List V}{a:A}(h:K5 K N H xs [a]):∃x L1,xs=[x]/\Au K N H x a L1:=by
 obtain⟨x,t,L1,rfl,h1,q⟩:=cons_of h;cases t with
 | nil=>exact⟨x,L1,rfl,h1⟩
 | cons y t=>cases q
theorem Bm{xs:List V}{a b:A}(h:K5 K N H xs [a,b]):∃x y L1 L2,xs=[x,y]/\Au K N H x a L1/\Au K N H y b L2:=by
 obtain⟨x,t,L1,rfl,h1,q⟩:=cons_of h;obtain⟨y,L2,rfl,h2⟩:=DU q;exact⟨x,y,L1,L2,rfl,h1,h2⟩
theorem HL{C:Int->Int->Bool}{C':Int->Int->Prop}{g:Int->Int->Int}(hC:∀i j,C i j=true->C' i j):OpN K (G8 C g) (r2L (rI C' fun i j=>.int (g i j))):=by
 intro N H xs as b Q hs e k
 replace e:=Co e
 obtain⟨a1,b1,rfl,e⟩:=e;simp only[bind_eq_some_iff] at e;obtain⟨i,ei,j,ej,e⟩:=e;cases Bj ei;cases Bj ej;split at e
 .rename_i hc
  cases e;obtain⟨x,y,L1,L2,rfl,h1,h2⟩:=Bm hs;cases Bz h1;cases Bz h2;exact⟨_,_,rfl,i,j,rfl,rfl,hC i j hc,k _ _ Dz⟩
 .cases e
theorem HM{g:Int->Int->Int}:OpN K (G8 (fun _ _=>true) g) (r2L (rI0 fun i j=>.int (g i j))):=by
 intro N H xs as b Q hs e k
 replace e:=Co e
 obtain⟨a1,b1,rfl,e⟩:=e;simp only[bind_eq_some_iff] at e;obtain⟨i,ei,j,ej,e⟩:=e;cases Bj ei;cases Bj ej;rw[if_pos trivial] at e;cases e;obtain⟨x,y,L1,L2,rfl,h1,h2⟩:=Bm hs;cases Bz h1;cases Bz h2;exact⟨_,_,rfl,i,j,rfl,rfl,k _ _ Dz⟩
theorem MN{g:Int->Int->Bool}:OpN K (Mp g) (r2L (rI0 fun i j=>.bl (g i j))):=by
 intro N H xs as b Q hs e k
 replace e:=Co e
 obtain⟨q1,q2,rfl,e⟩:=e
 replace e:=bind_eq_some_iff.mp e
 obtain⟨i,eq1,e⟩:=e;cases Bj eq1;clear eq1
 replace e:=bind_eq_some_iff.mp e
 obtain⟨j,eq2,e⟩:=e;cases Bj eq2;clear eq2;cases e;obtain⟨x,y,L1,L2,rfl,h1,h2⟩:=Bm hs;cases Bz h1;cases Bz h2;exact⟨_,_,rfl,i,j,rfl,rfl,k _ _ DV⟩
noncomputable def EI:=G8 (fun _ _=>true) fun i j=>i-j
noncomputable def Mj:=G8 (fun _ j=>decide (0<j/\j<1099511627776)) fun i j=>i / j
noncomputable def MC:=G8 (fun _ j=>decide (0<j)) fun i j=>i % j
noncomputable def Tu:=G8 (fun i j=>decide (0<=j/\j<=1000000/\i.natAbs<2 ^ 64)) fun i j=>i ^ j.toNat
noncomputable def FC:=G8 (fun i j=>decide (0<=j/\j<=1000000/\i.natAbs<2 ^ 64)) fun i j=>i*2 ^ j.toNat
noncomputable def IM:=G8 (fun _ j=>decide (0<=j)) fun i j=>i / 2 ^ j.toNat
noncomputable def Ht:=G8 (fun _ _=>true) fun i j=>Builtin.bitAnd i j
noncomputable def Nr:=G8 (fun _ _=>true) fun i j=>Builtin.bitOr i j
noncomputable def gtA:=Mp fun i j=>decide (j<i)
noncomputable def geA:=Mp fun i j=>decide (j<=i)
theorem OJ:OpN K Mj (r2L (rI U5 fun i j=>.int (i / j))):=HL fun i j h=>by simpa[U5] using h
theorem Js:OpN K MC (r2L (rI (fun _ j=>0<j) fun i j=>.int (i % j))):=HL fun i j h=>by simpa using h
theorem V4:OpN K Tu (r2L (rI O3 fun i j=>.int (i ^ j.toNat))):=HL fun i j h=>by simpa[O3] using h
theorem NU:OpN K FC (r2L (rI O3 fun i j=>.int (i*2 ^ j.toNat))):=HL fun i j h=>by simpa[O3] using h
theorem V5:OpN K IM (r2L (rI (fun _ j=>0<=j) fun i j=>.int (i / 2 ^ j.toNat))):=HL fun i j h=>by simpa using h
noncomputable def Dq:A->Option (List D)
 | .fz (.lst ds)=>some ds
 | .lst as=>fzs as
 | .fz .non | .fz (.bl _) | .fz (.int _) | .fz (.str _) | .fz (.tup _) | .tup _ | .scr _ | .dic _ | .dct _ | .opq _ _=>none
theorem Fq{ds:List D}(q:Au K N H v a L)(e:Dq a=some ds):∃p vs,v=.ref p/\H p=some (.lst vs)/\vs.length<=sizeLine/\Aw N H vs ds:=by
 cases a with
 | fz d =>
  obtain⟨_,q⟩:=D7.mp q;cases d with
  | lst es =>
   simp only[Dq,Option.some.injEq] at e;subst e;cases q with
   | lst h hz hn hl hr=>exact⟨_,_,rfl,h,hz,Aw.mk hl hr⟩
  | _=>simp[Dq] at e
 | lst as =>
  simp only[Dq] at e;rw[Au] at q;obtain⟨p,vs,L',rfl,rfl,h,hz,hs⟩:=q;exact⟨p,vs,rfl,h,hz,(hs.fzs e).2⟩
 | _=>simp[Dq] at e
noncomputable def Bv:List A->Option A:=on2 fun a b=>((B6 a).bind fun i=>(B6 b).map fun j=>A.fz (.int (i+j))).or (((De a).bind fun x=>(De b).bind fun y=>if x.length+y.length<=LIM then some (.fz (.str (x++y))) else none).or ((Dq a).bind fun xs=>(Dq b).bind fun ys=>if xs.length+ys.length<=LIM then some (.lst ((xs++ys).map A.fz)) else none))
theorem M9(x y:Str):(x++y).length=x.length+y.length:=strLen_append x y
theorem CN:OpN K Bv (r2L fun x y H Q=>(rI0 (fun i j=>.int (i+j))) x y H Q\/(∃i j,x=.str i/\y=.str j/\i.length+j.length<=sizeLine/\Q (.str (i++j)) H)\/WL x y H Q):=by
 intro N H xs as b Q hs e k
 replace e:=Co e
 obtain⟨a,b,rfl,e⟩:=e;rcases Option.or_eq_some_iff.mp e with e|⟨_,e⟩
 .simp only[bind_eq_some_iff,map_eq_some_iff] at e
  obtain⟨i,ei,j,ej,rfl⟩:=e;cases Bj ei;cases Bj ej;obtain⟨x,y,L1,L2,rfl,h1,h2⟩:=Bm hs;cases Bz h1;cases Bz h2;exact⟨_,_,rfl,.inl ⟨i,j,rfl,rfl,k _ _ Dz⟩⟩
 .rcases Option.or_eq_some_iff.mp e with e|⟨_,e⟩
  .simp only[bind_eq_some_iff] at e
   obtain⟨i,ei,j,ej,e9⟩:=e;cases Df ei;cases Df ej;split at e9
   .rename_i hz
    cases e9;obtain⟨x,y,L1,L2,rfl,h1,h2⟩:=Bm hs;obtain⟨rfl,_⟩:=DW h1;obtain⟨rfl,_⟩:=DW h2;exact⟨_,_,rfl,.inr (.inl ⟨i,j,rfl,rfl,hz,k _ _ (LF (by rw[M9]; exact hz))⟩)⟩
   .cases e9
  .simp only[bind_eq_some_iff] at e
   obtain⟨ds,e1,es,e2,e3⟩:=e;split at e3
   .rename_i hz
    cases e3;obtain⟨x,y,L1,L2,rfl,h1,h2⟩:=Bm hs;obtain⟨p,vs,rfl,hp,z1,q1⟩:=Fq h1 e1;obtain⟨p',vs',rfl,hp',z2,q2⟩:=Fq h2 e2;have hl:(vs++vs').length<=sizeLine:=by rw[List.length_append,q1.len,q2.len]; exact hz
    exact⟨_,_,rfl,.inr (.inr ⟨p,p',vs,vs',rfl,rfl,hp,hp',by rw[List.length_append] at hl; exact hl,fun q hq=>k _ _ (ON hq hl (GP q1 q2))⟩)⟩
   .cases e3
theorem BY{X:Cx}:OpR X (binaryOp .Add) (fun x y H Q=>(rI0 (fun i j=>.int (i+j))) x y H Q\/(∃i j,x=.str i/\y=.str j/\i.length+j.length<=sizeLine/\Q (.str (i++j)) H)\/WL x y H Q):=V6.or (NV.or V8)
noncomputable def Lq:List A->Option A:=on2 fun q1 q2=>(B6 q1).bind fun i=>(B6 q2).bind fun j=>if (-(2 ^ 64)<i/\i<2 ^ 64)\/(-(2 ^ 64)<j/\j<2 ^ 64) then some (.fz (.int (i*j))) else none
theorem LC:OpN K Lq (r2L (rI So fun i j=>.int (i*j))):=by
 intro N H xs as b Q hs e k
 replace e:=Co e
 obtain⟨q1,q2,rfl,e⟩:=e
 replace e:=bind_eq_some_iff.mp e
 obtain⟨i,eq1,e⟩:=e;cases Bj eq1;clear eq1
 replace e:=bind_eq_some_iff.mp e
 obtain⟨j,eq2,e⟩:=e;cases Bj eq2;clear eq2;split at e
 .rename_i hc
  cases e;obtain⟨x,y,L1,L2,rfl,h1,h2⟩:=Bm hs;cases Bz h1;cases Bz h2;exact⟨_,_,rfl,i,j,rfl,rfl,hc,k _ _ Dz⟩
 .cases e
noncomputable def Lr:List A->Option A:=on1 fun q1=>(B6 q1).bind fun i=>some (.fz (.int (-i)))
theorem Ip:OpN K Lr (r1L (rU fun i=>.int (-i))):=by
 intro N H xs as b Q hs e k
 replace e:=Fs e
 obtain⟨q1,rfl,e⟩:=e
 replace e:=bind_eq_some_iff.mp e
 obtain⟨i,eq1,e⟩:=e;cases Bj eq1;clear eq1;cases e;obtain⟨x,L1,rfl,h1⟩:=DU hs;cases Bz h1;exact⟨_,rfl,i,rfl,k _ _ Dz⟩
mutual
noncomputable def shB:Nat->D->Bool
 | _,.non=>true
 | _,.bl _=>true
 | _,.int _=>true
 | _,.str _=>true
 | 0,.lst _=>false
 | 0,.tup _=>false
 | n+1,.lst ds=>Kt n ds
 | n+1,.tup ds=>Kt n ds
noncomputable def Kt:Nat->List D->Bool
 | _,[]=>true
 | n,d::ds=>shB n d&&Kt n ds
end
mutual
theorem JV:∀{n:Nat} {d:D},shB n d=true->Sh n d
 | _,.non,_=>.non
 | _,.bl b,_=>.bl b
 | _,.int i,_=>.int i
 | _,.str x,_=>.str x
 | 0,.lst _,h=>by simp[shB] at h
 | 0,.tup _,h=>by simp[shB] at h
 | n+1,.lst ds,h=>.lst (LQ (by simpa[shB] using h))
 | n+1,.tup ds,h=>.tup (LQ (by simpa[shB] using h))
theorem LQ:∀{n:Nat} {ds:List D},Kt n ds=true->∀d∈ds,Sh n d
 | _,[],_,d,hd=>by simp at hd
 | n,e::ds,h,d,hd=>by
  simp only[Kt,Bool.and_eq_true] at h;rcases List.mem_cons.mp hd with q|hd
  .rw[q]; exact JV h.1
  .exact LQ h.2 d hd
end
noncomputable def eqA:List A->Option A:=on2 fun a b=>(er a).bind fun d=>(er b).bind fun e=>if shB 16 d then some (.fz (.bl (eqD d e))) else none
noncomputable def neA:List A->Option A:=on2 fun a b=>(er a).bind fun d=>(er b).bind fun e=>if shB 16 d then some (.fz (.bl (!eqD d e))) else none
theorem JO{d:D}(q:Au K N H v a L)(e:er a=some d):Rep H v d:=(Au.er q e).rep
theorem CF:OpN K eqA (r2L YT):=by
 intro N H xs as b Q hs e k
 replace e:=Co e
 obtain⟨a,b,rfl,e⟩:=e;simp only[bind_eq_some_iff] at e;obtain⟨d,e1,d',e2,e3⟩:=e;split at e3
 .rename_i hz
  cases e3;obtain⟨x,y,L1,L2,rfl,h1,h2⟩:=Bm hs;exact⟨_,_,rfl,d,d',JO h1 e1,JO h2 e2,JV hz,k _ _ DV⟩
 .cases e3
theorem KQ:OpN K neA (r2L Ye):=by
 intro N H xs as b Q hs e k
 replace e:=Co e
 obtain⟨a,b,rfl,e⟩:=e;simp only[bind_eq_some_iff] at e;obtain⟨d,e1,d',e2,e3⟩:=e;split at e3
 .rename_i hz
  cases e3;obtain⟨x,y,L1,L2,rfl,h1,h2⟩:=Bm hs;exact⟨_,_,rfl,d,d',JO h1 e1,JO h2 e2,JV hz,k _ _ DV⟩
 .cases e3
noncomputable def ltA:List A->Option A:=on2 fun a b=>((B6 a).bind fun i=>(B6 b).map fun j=>A.fz (.bl (decide (i<j)))).or ((De a).bind fun x=>(De b).map fun y=>A.fz (.bl (decide (x.cps.toList<y.cps.toList))))
noncomputable def leA:List A->Option A:=on2 fun a b=>((B6 a).bind fun i=>(B6 b).map fun j=>A.fz (.bl (decide (i<=j)))).or ((De a).bind fun x=>(De b).map fun y=>A.fz (.bl (!decide (y.cps.toList<x.cps.toList))))
theorem MU:OpN K ltA (r2L UW):=by
 intro N H xs as b Q hs e k
 replace e:=Co e
 obtain⟨a,b,rfl,e⟩:=e;rcases Option.or_eq_some_iff.mp e with e|⟨_,e⟩
 .simp only[bind_eq_some_iff,map_eq_some_iff] at e
  obtain⟨i,ei,j,ej,rfl⟩:=e;cases Bj ei;cases Bj ej;obtain⟨x,y,L1,L2,rfl,h1,h2⟩:=Bm hs;cases Bz h1;cases Bz h2;exact⟨_,_,rfl,.inl ⟨i,j,rfl,rfl,k _ _ DV⟩⟩
 .simp only[bind_eq_some_iff,map_eq_some_iff] at e
  obtain⟨i,ei,j,ej,rfl⟩:=e;cases Df ei;cases Df ej;obtain⟨x,y,L1,L2,rfl,h1,h2⟩:=Bm hs;obtain⟨rfl,_⟩:=DW h1;obtain⟨rfl,_⟩:=DW h2;exact⟨_,_,rfl,.inr ⟨i,j,rfl,rfl,k _ _ DV⟩⟩
theorem Jr:OpN K leA (r2L UU):=by
 intro N H xs as b Q hs e k
 replace e:=Co e
 obtain⟨a,b,rfl,e⟩:=e;rcases Option.or_eq_some_iff.mp e with e|⟨_,e⟩
 .simp only[bind_eq_some_iff,map_eq_some_iff] at e
  obtain⟨i,ei,j,ej,rfl⟩:=e;cases Bj ei;cases Bj ej;obtain⟨x,y,L1,L2,rfl,h1,h2⟩:=Bm hs;cases Bz h1;cases Bz h2;exact⟨_,_,rfl,.inl ⟨i,j,rfl,rfl,k _ _ DV⟩⟩
 .simp only[bind_eq_some_iff,map_eq_some_iff] at e
  obtain⟨i,ei,j,ej,rfl⟩:=e;cases Df ei;cases Df ej;obtain⟨x,y,L1,L2,rfl,h1,h2⟩:=Bm hs;obtain⟨rfl,_⟩:=DW h1;obtain⟨rfl,_⟩:=DW h2;exact⟨_,_,rfl,.inr ⟨i,j,rfl,rfl,k _ _ DV⟩⟩
noncomputable def Cg:D->Bool
 | .lst _=>false
 | .tup _=>false
 | .non | .bl _ | .int _ | .str _=>true
theorem Ou{d:D}(r:RepA N H v d)(h:Cg d=true):GZ v=true:=by
 cases r with
 | lst=>simp[Cg] at h
 | tup=>simp[Cg] at h
 | _=>rfl
theorem Vk{x y:V}{d e:D}(r:RepA N H x d)(q:RepA N H y e)(hd:Cg d=true)(he:Cg e=true):eqV x y=eqD d e:=by
 cases r with
 | lst=>simp[Cg] at hd
 | tup=>simp[Cg] at hd
 | _ =>
  cases q with
  | lst=>simp[Cg] at he
  | tup=>simp[Cg] at he
  | _=>rfl
noncomputable def inD(d:D)(ds:List D):Bool:=ds.any fun e=>eqD e d
theorem QJ{x:V}{d:D}(r:RepA N H x d)(hd:Cg d=true):∀{vs:List V} {ds:List D},Aw N H vs ds->ds.all Cg=true->vs.all GZ=true/\inV x vs=inD d ds
 | [],[],_,_=>⟨rfl,rfl⟩
 | [],_::_,q,_=>by simp only[Aw] at q
 | _::_,[],q,_=>by simp only[Aw] at q
 | v::vs,e::ds,q,h=>by
  simp only[List.all_cons,Bool.and_eq_true] at h;obtain⟨h1,h2⟩:=QJ r hd q.2 h.2;refine⟨by simp[Ou q.1 h.1,h1],?_⟩;simp only[inV,inD,List.any_cons] at h2 |-;rw[h2,Vk q.1 r h.1 hd]
noncomputable def inA(neg:Bool):List A->Option A:=on2 fun a b=>((De a).bind fun x=>(De b).map fun y=>A.fz (.bl (if neg then !(!(Builtin.Str.occurrences y x 0 y.length 1).isEmpty) else !(Builtin.Str.occurrences y x 0 y.length 1).isEmpty))).or ((fzU a).bind fun d=>(AW b).bind fun ds=>if Cg d&&ds.all Cg then some (.fz (.bl (if neg then !inD d ds else inD d ds))) else none)
theorem MM(neg:Bool):OpN K (inA neg) (r2L fun x y H Q=>rIn K neg x y H Q\/∃i j,x=.str i/\y=.str j/\Q (.bl (if neg then !(!(Builtin.Str.occurrences j i 0 j.length 1).isEmpty) else !(Builtin.Str.occurrences j i 0 j.length 1).isEmpty)) H):=by
 intro N H xs as b Q hs e k
 replace e:=Co e
 obtain⟨a,b,rfl,e⟩:=e;rcases Option.or_eq_some_iff.mp e with e|⟨_,e⟩
 .simp only[bind_eq_some_iff,map_eq_some_iff] at e
  obtain⟨i,ei,j,ej,rfl⟩:=e;cases Df ei;cases Df ej;obtain⟨x,y,L1,L2,rfl,h1,h2⟩:=Bm hs;obtain⟨rfl,_⟩:=DW h1;obtain⟨rfl,_⟩:=DW h2;exact⟨_,_,rfl,.inr ⟨i,j,rfl,rfl,k _ _ DV⟩⟩
 .simp only[bind_eq_some_iff] at e
  obtain⟨d,ed,ds,e1,e2⟩:=e;cases Ji ed;split at e2
  .rename_i hz
   cases e2;simp only[Bool.and_eq_true] at hz;obtain⟨x,y,L1,L2,rfl,h1,h2⟩:=Bm hs;obtain⟨_,h1⟩:=D7.mp h1;obtain⟨p,vs,rfl,hp,q⟩:=HD h2 e1;obtain⟨f1,f2⟩:=QJ h1 hz.1 q hz.2;refine⟨_,_,rfl,.inl ⟨p,vs,rfl,hp,Ou h1 hz.1,f1,?_⟩⟩;rw[f2];exact k _ _ DV
  .cases e2
theorem Jy{X:Cx}:OpR X (compareOp .In) (fun x y H Q=>rIn X.K false x y H Q\/∃i j,x=.str i/\y=.str j/\Q (.bl (if false=true then !(!(Builtin.Str.occurrences j i 0 j.length 1).isEmpty) else !(Builtin.Str.occurrences j i 0 j.length 1).isEmpty)) H):=PD.or PF
noncomputable def ixA:List A->Option A:=on2 fun a b=>(B6 b).bind fun i=>((De a).bind fun z=>(atI z.cps.toList i).map fun c=>A.fz (.str ⟨#[c]⟩)).or ((AW a).bind fun ds=>(atI ds i).map A.fz)
theorem Vc{vs:List V}{ds:List D}{i:Int}{d:D}(q:Aw N H vs ds)(e:atI ds i=some d):∃v,atI vs i=some v/\RepA N H v d:=by
 unfold atI at e |-;rw[q.len];simp only[bind_eq_some_iff] at e |-;obtain⟨j,e1,e2⟩:=e;obtain⟨v,hv⟩:=SJ q (As e2);exact⟨v,⟨j,e1,hv⟩,q.get j v d hv e2⟩
theorem AD:OpN K ixA (r2L (rIx K)):=by
 intro N H xs as b Q hs e k
 replace e:=Co e
 obtain⟨a,b,rfl,e⟩:=e;obtain⟨i,ei,e8⟩:=bind_eq_some_iff.mp e;cases Bj ei;rcases Option.or_eq_some_iff.mp e8 with e|⟨_,e⟩
 .simp only[bind_eq_some_iff,map_eq_some_iff] at e
  obtain⟨z,ez,c,e1,rfl⟩:=e;cases Df ez;obtain⟨x,y,L1,L2,rfl,h1,h2⟩:=Bm hs;obtain⟨rfl,hz⟩:=DW h1;cases Bz h2;exact⟨_,_,rfl,.inr (.inr ⟨z,i,c,rfl,rfl,hz,e1,k _ _ (LF (by show 1<=sizeLine; decide))⟩)⟩
 .simp only[bind_eq_some_iff,map_eq_some_iff] at e
  obtain⟨ds,e1,d,e2,rfl⟩:=e;obtain⟨x,y,L1,L2,rfl,h1,h2⟩:=Bm hs;cases Bz h2;obtain⟨p,vs,rfl,hp,q⟩:=HD h1 e1;obtain⟨v,hv,q2⟩:=Vc q e2;rcases hp with hp|hp
  .exact⟨_,_,rfl,.inl ⟨p,vs,i,v,rfl,rfl,hp,hv,k _ _ (F1 q2)⟩⟩
  .exact⟨_,_,rfl,.inr (.inl ⟨p,vs,i,v,rfl,rfl,hp,hv,k _ _ (F1 q2)⟩)⟩
noncomputable def CM:List A->Option A:=on1 fun a=>((De a).map fun z=>A.fz (.int z.length)).or ((AW a).map fun ds=>A.fz (.int ds.length))
theorem By:OpN K CM (Yd K):=by
 intro N H xs as b Q hs e k
 replace e:=Fs e
 obtain⟨a,rfl,e⟩:=e;rcases Option.or_eq_some_iff.mp e with e|⟨_,e⟩
 .obtain⟨z,ez,rfl⟩:=map_eq_some_iff.mp e
  cases Df ez;obtain⟨x,L1,rfl,h1⟩:=DU hs;obtain⟨rfl,hz⟩:=DW h1;exact .inr ⟨z,rfl,hz,k _ _ Dz⟩
 .obtain⟨ds,e1,rfl⟩:=map_eq_some_iff.mp e
  obtain⟨x,L1,rfl,h1⟩:=DU hs;obtain⟨p,vs,rfl,hp,q⟩:=HD h1 e1;refine .inl ⟨p,vs,rfl,hp,?_⟩;rw[q.len];exact k _ _ Dz
theorem AM{X:Cx}:Cv X (.builtin "len") (Yd X.K):=K7.or K8
noncomputable def Qj:List A->Option A:=on1 fun q1=>(B6 q1).bind fun i=>some (.fz (.int (if i<0 then -i else i)))
theorem Rt:OpN K Qj (fun xs H Q=>∃i,xs=[.int i]/\Q (.int (if i<0 then -i else i)) H):=by
 intro N H xs as b Q hs e k
 replace e:=Fs e
 obtain⟨q1,rfl,e⟩:=e
 replace e:=bind_eq_some_iff.mp e
 obtain⟨i,eq1,e⟩:=e;cases Bj eq1;clear eq1;cases e;obtain⟨x,L1,rfl,h1⟩:=DU hs;cases Bz h1;exact⟨i,rfl,k _ _ Dz⟩
noncomputable def S5:List A->Option A:=on2 fun q1 q2=>(B6 q1).bind fun i=>(B6 q2).bind fun j=>some (.fz (.int (if j > i then j else i)))
theorem V3:OpN K S5 (fun xs H Q=>∃i j,xs=[.int i,.int j]/\Q (.int (if j > i then j else i)) H):=by
 intro N H xs as b Q hs e k
 replace e:=Co e
 obtain⟨q1,q2,rfl,e⟩:=e
 replace e:=bind_eq_some_iff.mp e
 obtain⟨i,eq1,e⟩:=e;cases Bj eq1;clear eq1
 replace e:=bind_eq_some_iff.mp e
 obtain⟨j,eq2,e⟩:=e;cases Bj eq2;clear eq2;cases e;obtain⟨x,y,L1,L2,rfl,h1,h2⟩:=Bm hs;cases Bz h1;cases Bz h2;exact⟨i,j,rfl,k _ _ Dz⟩
noncomputable def Dl:List D->Option (List Bool)
 | []=>some []
 | .bl b::ds=>(Dl ds).map (b :: ·)
 | _::_=>none
theorem L8:∀{vs:List V} {ds:List D} {bs:List Bool},Aw N H vs ds->Dl ds=some bs->vs=Ed bs:=by
 intro _l;induction _l with
 | nil =>
  intro _m;cases _m with
  | nil =>
   intro bs _ e;simp[Dl] at e; subst e; rfl
  | cons _ _ =>
   intro _ q _;simp only[Aw] at q
 | cons v vs ih =>
  intro _m;cases _m with
  | nil =>
   intro _ q _;simp only[Aw] at q
  | cons d ds =>
   intro bs q e;cases d with
   | bl b =>
    simp only[Dl,map_eq_some_iff] at e;obtain⟨bs',e1,rfl⟩:=e;have:=ih q.2 e1;obtain⟨q1,_⟩:=q;cases q1;subst this;rfl
   | _=>simp[Dl] at e
noncomputable def Gg:List A->Option A:=on1 fun a=>(Dq a).bind fun ds=>(Dl ds).map fun bs=>.fz (.bl (bs.all id))
noncomputable def O5:List A->Option A:=on1 fun a=>(Dq a).bind fun ds=>(Dl ds).map fun bs=>.fz (.bl (bs.any id))
theorem FZ:OpN K Gg (YR K):=by
 intro N H xs as b Q hs e k
 replace e:=Fs e
 obtain⟨a,rfl,e⟩:=e;simp only[bind_eq_some_iff,map_eq_some_iff] at e;obtain⟨ds,e1,bs,e2,rfl⟩:=e;obtain⟨x,L1,rfl,h1⟩:=DU hs;obtain⟨p,vs,rfl,hp,hz,q⟩:=Fq h1 e1;cases L8 q e2;exact⟨p,bs,rfl,.inl (.inl hp),k _ _ DV⟩
theorem VW:OpN K O5 (YS K):=by
 intro N H xs as b Q hs e k
 replace e:=Fs e
 obtain⟨a,rfl,e⟩:=e;simp only[bind_eq_some_iff,map_eq_some_iff] at e;obtain⟨ds,e1,bs,e2,rfl⟩:=e;obtain⟨x,L1,rfl,h1⟩:=DU hs;obtain⟨p,vs,rfl,hp,hz,q⟩:=Fq h1 e1;cases L8 q e2;exact⟨p,bs,rfl,.inl (.inl hp),k _ _ DV⟩
noncomputable def B0(f:D->Bool):List A->Option A:=on1 fun a=>(er a).map fun d=>.fz (.bl (f d))
theorem V0{T:String}{f:D->Bool}:OpN K (B0 f) (r1L fun x H Q=>∃d,Rep H x d/\Q (.bl (f d)) H):=by
 intro N H xs as b Q hs e k
 replace e:=Fs e
 obtain⟨a,rfl,e⟩:=e;simp only[map_eq_some_iff] at e;obtain⟨d,e1,rfl⟩:=e;obtain⟨x,L1,rfl,h1⟩:=DU hs;exact⟨x,rfl,d,JO h1 e1,k _ _ DV⟩
theorem JZ{T:String}{f:D->Bool}{m:ME}{U:L2.St}{Q:VK}(h:tE K (opM (B0 f) (m1L m)) U H Q):tCB (rIs T f) (Cs (tE K m) (Cs (tC (.ty T)) Hl)) U H Q:=by
 have h2:=one (V0 (T:=T)) h;exact tE.mono h2 fun x H1 ⟨d,r,q⟩=>⟨x,d,rfl,r,q⟩
end
end J
end
section
namespace L2
open PySem PySem.Spec PyProof.Rows
section
variable{X:Cx}
end
end L2
namespace J
open PySem PySem.Spec PyProof.Rows L2
section
variable{X:Cx}{a b c e:Expr}{es:List Expr}{m m1 m2 m3:ME}{ms:MA}{p pos pos' p2 apos cpos q:Pos}{x:Str}
variable{K:Frag}{H:Hp}{U:L2.St}
theorem QW(hg:Gl X "isinstance")(hg2:Gl X "int")(B:Blt X.mg X.K)(he:starEach [a,.Name "int" q] X.env=[(false,eval a X.env),(false,eval (.Name "int" q) X.env)])(he2:starEach [.Name "int" q] X.env=[(false,eval (.Name "int" q) X.env)])(ha:JE X a m):
  JE X (.Call (.Name "isinstance" p) [a,.Name "int" q] [] pos) (opM (B0 isInt) (m1L m)):=AJ (Wj hg hg2 B he he2 ha) fun _ _ _ h=>JZ h
theorem QV(hg:Gl X "isinstance")(hg2:Gl X "bool")(B:Blt X.mg X.K)(he:starEach [a,.Name "bool" q] X.env=[(false,eval a X.env),(false,eval (.Name "bool" q) X.env)])(he2:starEach [.Name "bool" q] X.env=[(false,eval (.Name "bool" q) X.env)])(ha:JE X a m):
  JE X (.Call (.Name "isinstance" p) [a,.Name "bool" q] [] pos) (opM (B0 isBool) (m1L m)):=AJ (Wi hg hg2 B he he2 ha) fun _ _ _ h=>JZ h
theorem QX(hg:Gl X "isinstance")(hg2:Gl X "list")(B:Blt X.mg X.K)(he:starEach [a,.Name "list" q] X.env=[(false,eval a X.env),(false,eval (.Name "list" q) X.env)])(he2:starEach [.Name "list" q] X.env=[(false,eval (.Name "list" q) X.env)])(ha:JE X a m):
  JE X (.Call (.Name "isinstance" p) [a,.Name "list" q] [] pos) (opM (B0 IE) (m1L m)):=AJ (Wk hg hg2 B he he2 ha) fun _ _ _ h=>JZ h
theorem EA(hg:Gl X "isinstance")(hg2:Gl X "tuple")(B:Blt X.mg X.K)(he:starEach [a,.Name "tuple" q] X.env=[(false,eval a X.env),(false,eval (.Name "tuple" q) X.env)])(he2:starEach [.Name "tuple" q] X.env=[(false,eval (.Name "tuple" q) X.env)])(ha:JE X a m):
  JE X (.Call (.Name "isinstance" p) [a,.Name "tuple" q] [] pos) (opM (B0 isTup) (m1L m)):=AJ (Wl hg hg2 B he he2 ha) fun _ _ _ h=>JZ h
theorem DT(hg:Gl X "isinstance")(hg2:Gl X "str")(B:Blt X.mg X.K)(he:starEach [a,.Name "str" q] X.env=[(false,eval a X.env),(false,eval (.Name "str" q) X.env)])(he2:starEach [.Name "str" q] X.env=[(false,eval (.Name "str" q) X.env)])(ha:JE X a m):
  JE X (.Call (.Name "isinstance" p) [a,.Name "str" q] [] pos) (opM (B0 isStr) (m1L m)):=AJ (Wm hg hg2 B he he2 ha) fun _ _ _ h=>JZ h
noncomputable def slF(x:A)(lo hi:Option Int):Option A:=match x with
 | .fz (.str z)=>some (.fz (.str (Txt.slice z lo hi)))
 | _=>none
noncomputable def YY:List A->Option A:=on2 fun x q2=>(B6 q2).bind fun j=>slF x none (some j)
noncomputable def YZ:List A->Option A:=on2 fun x q2=>(B6 q2).bind fun i=>slF x (some i) none
noncomputable def IF:List D->Option (List Str)
 | []=>some []
 | .str z::ds=>(IF ds).map (z :: ·)
 | _::_=>none
theorem Ub{N:Addr->Prop}:∀{vs:List V} {ds:List D} {zs:List Str},Aw N H vs ds->IF ds=some zs->vs=zs.map V.str:=by
 intro _l;induction _l with
 | nil =>
  intro _m;cases _m with
  | nil =>
   intro zs _ e;simp[IF] at e; subst e; rfl
  | cons _ _ =>
   intro _ q _;simp only[Aw] at q
 | cons v vs ih =>
  intro _m;cases _m with
  | nil =>
   intro _ q _;simp only[Aw] at q
  | cons d ds =>
   intro zs q e;cases d with
   | str z =>
    simp only[IF,map_eq_some_iff] at e;obtain⟨zs',e1,rfl⟩:=e;have:=ih q.2 e1;obtain⟨q1,_⟩:=q;cases q1;subst this;rfl
   | _=>simp[IF] at e
theorem QC(zs:List Str):(glue zs).length=(zs.map (·.length)).sum:=by
 show(glue zs).cps.size=_;simp[glue,List.length_flatten,Function.comp_def];rfl
theorem TZ{sep:Str}(h:sep.length=0):sep=("" : Str):=by
 cases sep with
 | mk c =>
  have:c = #[]:=Array.eq_empty_of_size_eq_zero h;subst this;decide +kernel
noncomputable def LR(f:Str->List A->Option A)(m:ME)(ms:MA):ME:=fun Z=>(m Z).bind fun p=>match p.1 with
 | .val (.fz (.str z))=>(ms p.2).bind fun q=>(peeks q.2 q.1).bind fun as=>(f z as).map fun a=>(.val a,q.2)
 | _=>none
theorem R4{f:Str->List A->Option A}{r:V->List V->Hp->VK->Prop}{Q:VK}(ok:∀z,z.length<=sizeLine->OpN K (f z) fun xs H Q=>r (.str z) xs H Q)(h:tE K (LR f m ms) U H Q):tBM K "str" r (tE K m) (tA K ms) U H Q:=by
 obtain⟨Z,O,fp,rl,y,Z',h0,k⟩:=h;simp only[LR,bind_eq_some_iff] at h0;obtain⟨⟨r1,Z1⟩,e1,h0⟩:=h0;dsimp only at h0;split at h0
 .rename_i z
  simp only[bind_eq_some_iff,map_eq_some_iff] at h0;obtain⟨⟨rs,Z2⟩,e2,as,e3,c,e4,e5⟩:=h0;cases e5;refine⟨Z,O,fp,rl,_,Z1,e1,fun v H1 yy=>?_⟩;obtain⟨L,fp1,p,q⟩:=yy;obtain⟨rfl,hz⟩:=DW (K:=K) q;have p':=p.drop0;refine⟨rfl,Z1,O,fp1,p'.rel0,rs,Z2,e2,fun vs H2 yy=>?_⟩;obtain⟨L2,fp2,p2,q2⟩:=yy;exact ok z hz _ H2 vs as c Q (p2.rel.peeks q2 e3) e4 fun u H3 o=>k u H3 ((p2.out o).pre p')
 .cases h0
noncomputable def KJ(sep:Str):List A->Option A:=on1 fun b=>if sep.length=0 then (Dq b).bind fun ds=>(IF ds).bind fun zs=>if (zs.map (·.length)).sum<=16777216 then some (.fz (.str (glue zs))) else none else none
theorem Te(sep:Str)(hz:sep.length<=sizeLine):OpN K (KJ sep) fun xs H Q=>rJoin K (.str sep) xs H Q:=by
 intro N H xs as b Q hs e k
 replace e:=Fs e
 obtain⟨b,rfl,e⟩:=e;split at e
 .rename_i h0
  simp only[bind_eq_some_iff] at e;obtain⟨ds,e1,zs,e2,e3⟩:=e;split at e3
  .rename_i hl
   cases e3;obtain⟨x,L1,rfl,h1⟩:=DU hs;obtain⟨p,vs,rfl,hp,hz',q⟩:=Fq h1 e1;cases Ub q e2;cases TZ h0;refine⟨_,p,zs,rfl,rfl,.inl (.inl hp),?_,?_⟩
   .have:("" : Str).length=0:=by decide +kernel
    rw[this,Nat.mul_zero,Nat.add_zero];exact hl
   .rw[NG]
    exact k _ _ (LF (by rw[QC]; exact hl))
  .cases e3
 .cases e
theorem S0(hbase:attributeBase a "join" X.env (eval a X.env)=eval a X.env)(hline:(apos.endLine==cpos.line)=true)(B:Blt X.mg X.K)(hs:starEach [e] X.env=[(false,eval e X.env)])(ha:JE X a m1)(he:JE X e m2):
  JE X (.Call (.Attribute a "join" apos) [e] [] cpos) (LR KJ m1 (m1L m2)):=by
 refine AJ (Tr rfl B hbase hline hs ha he) fun U H Q h=>?_;exact tE.mono (R4 Te h) fun x H1 ⟨ty,q⟩=>⟨ty,D8 q |> fun q=>tE.mono q fun y H2 q=>Hk q⟩
noncomputable def Jk(z:Str):List A->Option A:=on1 fun q1=>(De q1).bind fun y=>if 0<=Txt.find z y then some (.fz (.int (Txt.find z y))) else none
theorem Ru(z:Str)(hz:z.length<=sizeLine):OpN K (Jk z) fun xs H Q=>NZ (.str z) xs H Q:=by
 intro N H xs as b Q hs e k
 replace e:=Fs e
 obtain⟨q1,rfl,e⟩:=e
 replace e:=bind_eq_some_iff.mp e
 obtain⟨y,eq1,e⟩:=e;cases Df eq1;clear eq1;split at e
 .rename_i h0
  cases e;obtain⟨x,L1,rfl,h1⟩:=DU hs;obtain⟨rfl,_⟩:=DW h1;exact⟨z,y,rfl,rfl,h0,k _ _ Dz⟩
 .cases e
theorem QU(hbase:attributeBase a "index" X.env (eval a X.env)=eval a X.env)(hline:(apos.endLine==cpos.line)=true)(B:Blt X.mg X.K)(hc:X.calm=true)(hs:starEach [e] X.env=[(false,eval e X.env)])(ha:JE X a m1)(he:JE X e m2):
  JE X (.Call (.Attribute a "index" apos) [e] [] cpos) (LR Jk m1 (m1L m2)):=by
 refine AJ (RA rfl B hc hbase hline hs ha he) fun U H Q h=>?_;exact tE.mono (R4 Ru h) fun x H1 ⟨ty,q⟩=>⟨ty,D8 q |> fun q=>tE.mono q fun y H2 q=>Hk q⟩
noncomputable def QN:List D->Option (List Int)
 | []=>some []
 | .int z::ds=>(QN ds).map (z :: ·)
 | _::_=>none
end
section
variable{K:Frag}{Z Z' Z1 Z2:Ro}{U σ' σ1 σ2:L2.St}{H H' H1 H2:Hp}{O O' N:Addr->Prop}{fp fp' fp1 fp2:Nat->List Addr}{L L1:List Addr}
theorem Post.mut{i:Nat}{st:Own}{a a':A}{v:V}{p:Addr}{o:HO}{vs:List V}{L':List Addr}(x:Post K O fp H Z Z1 U U L fp1 H1)(hi : Z1[i]? = some (some (st,a)))(hst:st≠.ro)(hv : U[i]? = some (some v))(hp:p∈fp1 i)(hy:H1 p=some (.lst vs))(hL:∀q∈L',q∈fp1 i\/q∈L)(nd:L'.Nodup)(hr:Au K (NN fp1 (ad O L)) (upd H1 p o) v a' L'):Post K O fp H Z (Z1.set i (some (st,a'))) U U [] (pt fp1 i L') (upd H1 p o):=by
 have alp:∀q,H1 q≠none->upd H1 p o q≠none:=fun q z=>by
  by_cases e:q=p
  .subst e; rw[AQ]; simp
  .rw[AL e]; exact z
 have k:=GV (o:=o) hy
 -- first the heap,then the slot
 have nn:∀q,NN (pt fp1 i L') (ad O []) q->NN fp1 (ad O L) q:=fun q z=>by
  rcases z with ⟨j,z⟩|z|z
  .rcases Bc z with ⟨_,z⟩|⟨_,z⟩
   .rcases hL q z with z|z
    .exact .inl ⟨i,z⟩
    .exact .inr (.inr z)
   .exact .inl ⟨j,z⟩
  .exact .inr (.inl z)
  .simp at z
 have dis:∀q∈L',∀j,j≠i->q∉fp1 j:=fun q hq j hj z=>by
  rcases hL q hq with w|w
  .exact hj (x.rel.inj j i q z w)
  .exact x.rel.off j q z (.inr w)
 refine⟨⟨by rw[List.length_set]; exact x.rel.len,fun j st' b e=>?_,fun j h=>?_,fun j=>?_,fun j1 j2 q h1 h2=>?_,fun j q h z=>?_,fun q z=>alp q (x.rel.al q (nn q z))⟩,List.nodup_nil,fun q h=>by simp at h,fun q h=>?_,fun b u e c=>?_,rfl,fun j st' b e h=>?_⟩
 .by_cases hj:j=i
  .subst hj
   rw[List.getElem?_set_self (As hi)] at e;cases e;exact⟨v,hv,by rw[E9]; exact DJ nn hr⟩
  .rw[List.getElem?_set_ne (Ne.symm hj)] at e
   obtain⟨w,e1,q⟩:=x.rel.slot j _ _ e;refine⟨w,e1,?_⟩;rw[GG hj];exact q.tr (M:=fun q=>q=p) (fun b z=>by rw[z]; exact .inl ⟨i,hp⟩) k (fun b z=>.inl (nn b z)) fun b hb z=>hj (x.rel.inj j i p (z ▸ hb) hp)
 .by_cases hj:j=i
  .subst hj
   exact absurd (List.getElem?_set_self (As hi)) (h st a')
  .rw[GG hj]
   exact x.rel.out j fun st' b e=>h st' b (by rw[List.getElem?_set_ne (Ne.symm hj)]; exact e)
 .by_cases hj:j=i
  .subst hj; rw[E9]; exact nd
  .rw[GG hj]; exact x.rel.nd j
 .rcases Bc h1 with ⟨e1,z1⟩|⟨e1,z1⟩
  .rcases Bc h2 with ⟨e2,z2⟩|⟨e2,z2⟩
   .rw[e1,e2]
   .exact absurd z2 (dis q z1 j2 e2)
  .rcases Bc h2 with ⟨e2,z2⟩|⟨e2,z2⟩
   .exact absurd z1 (dis q z2 j1 e1)
   .exact x.rel.inj j1 j2 q z1 z2
 .have z':=Jb.mp z
  rcases Bc h with ⟨_,z1⟩|⟨_,z1⟩
  .rcases hL q z1 with w|w
   .exact x.rel.off i q w (.inl z')
   .exact x.lo q w z'
  .exact x.rel.off j q z1 (.inl z')
 .rcases h with h|⟨j,h⟩
  .simp at h
  .rcases Bc h with ⟨_,z1⟩|⟨_,z1⟩
   .rcases hL q z1 with w|w
    .exact x.new q (.inr ⟨i,w⟩)
    .exact x.new q (.inl w)
   .exact x.new q (.inr ⟨j,z1⟩)
 .have e1:=x.kept b u e c
  by_cases hb:b=p
  .subst hb
   rw[hy] at e1;cases e1;rcases c with c|c
   .rcases x.new b (.inr ⟨i,hp⟩) with z|z
    .exact absurd z c
    .rw[e] at z; cases z
   .cases c
  .rw[AL hb]; exact e1
 .obtain⟨b',e1,_,f⟩:=x.stab j st' b e h
  by_cases hj:j=i
  .subst hj
   rw[hi] at e1;cases e1;exact⟨a',List.getElem?_set_self (As hi),rfl,fun z=>absurd z hst⟩
  .exact⟨b',by rw[List.getElem?_set_ne (Ne.symm hj)]; exact e1,rfl,f⟩
theorem Ap.app:∀{vs ws:List V} {as bs:List A} {L1 L2:List Addr},Ap K N H vs as L1->Ap K N H ws bs L2->Ap K N H (vs++ws) (as++bs) (L1++L2)
 | [],ws,[],bs,L1,L2,r,q=>by
  simp only[Ap] at r;subst r;exact q
 | [],_,_::_,_,_,_,r,_=>by simp only[Ap] at r
 | _::_,_,[],_,_,_,r,_=>by simp only[Ap] at r
 | v::vs,ws,a::as,bs,L1,L2,r,q=>by
  simp only[Ap] at r;obtain⟨M1,M2,rfl,h1,h2⟩:=r;simp only[List.cons_append,Ap];exact⟨M1,M2++L2,by simp,h1,Ap.app h2 q⟩
noncomputable def C7(Z:Ro)(i:Nat):Option (Own×List A):=match Z[i]? with
 | some (some (.ro,_))=>none
 | some (some (st,.lst as))=>some (st,as)
 | _=>none
theorem HC{i:Nat}{st:Own}{as:List A}(h:C7 Z i=some (st,as)): Z[i]? = some (some (st,.lst as))/\st≠.ro:=by
 unfold C7 at h;split at h
 .cases h
 .rename_i st' as' hn e
  cases h;exact⟨e,fun z=>hn z⟩
 .cases h
noncomputable def F6(i:Nat)(m:ME):MS:=fun Z=>(C7 Z i).bind fun _=>(m Z).bind fun p=>(keep p.2 p.1).bind fun q=>(C7 q.2 i).bind fun h=>if h.2.length<LIM then some (.next (q.2.set i (some (h.1,.lst (h.2++[q.1]))))) else none
theorem Xd{i:Nat}{m:ME}{D:Ends}(h:tS K (F6 i m) D U H):OZ (tBM K "list" OS (P7 i) (Cs (tE K m) Hl)) D U H:=by
 obtain⟨Z,O,fp,rl,fl,e,w⟩:=h;simp only[F6,bind_eq_some_iff] at e;obtain⟨⟨st0,as0⟩,e0,⟨r,Z1⟩,e1,⟨a,Z2⟩,e2,⟨st,as⟩,e3,e4⟩:=e;split at e4
 .rename_i hz
  cases e4;obtain⟨g0,_⟩:=HC e0;obtain⟨v,hv,q0⟩:=rl.slot i _ _ g0;rw[Au] at q0;obtain⟨p0,vs0,_,rfl,_,hp0,_,_⟩:=q0;refine⟨_,hv,.inl ⟨rfl,vs0,.inl (.inl hp0)⟩,Z,O,fp,rl,r,Z1,e1,fun y H1 yy=>?_⟩
  obtain⟨L,fp1,p,q⟩:=yy;obtain⟨L2,fp2,p2,q2⟩:=Ik p q e2;obtain⟨g,gst⟩:=HC e3;obtain⟨v',hv',qi⟩:=p2.rel.slot i _ _ g;rw[hv] at hv'; cases hv';rw[Au] at qi;obtain⟨pa,vs,L',e5,e6,hp,hz',hs⟩:=qi;cases e5;have hlen:=hs.len;refine⟨p0,vs,y,rfl,rfl,hp,by rw[hlen]; exact hz,w _ _ _ (p2.mut (a':=.lst (as++[a])) (L':=p0::(L'++L2)) g gst hv (by rw[e6]; simp) hp (fun b hb=>?_) ?_ ?_)⟩
  .rcases List.mem_cons.mp hb with rfl|hb
   .rw[e6]; simp
   .rcases List.mem_append.mp hb with hb|hb
    .rw[e6]; simp[hb]
    .exact .inr hb
  .have n1:=p2.rel.nd i
   rw[e6] at n1;have n2:(p0::L').Nodup:=n1;have:((p0::L')++L2).Nodup:=List.nodup_append.mpr ⟨n2,p2.nd,fun b hb c hc e=>by
    subst e;exact p2.rel.off i b (by rw[e6]; exact hb) (.inr hc)⟩
   simpa using this
  .rw[Au]
   have k:=GV (o:=.lst (vs++[y])) hp;have pn:NN fp2 (ad O L2) p0:=.inl ⟨i,by rw[e6]; simp⟩;have n1:=p2.rel.nd i;rw[e6] at n1;have h1:Ap K (NN fp2 (ad O L2)) (upd H1 p0 (.lst (vs++[y]))) vs as L':=hs.tr (M:=fun b=>b=p0) (fun b z=>z ▸ pn) k (fun b z=>.inl z) fun b hb z=>by
    subst z;exact(List.nodup_cons.mp n1).1 hb
   have h2:Au K (NN fp2 (ad O L2)) (upd H1 p0 (.lst (vs++[y]))) y a L2:=q2.tr (M:=fun b=>b=p0) (fun b z=>z ▸ pn) k (fun b z=>.inl z) fun b hb z=>by
    subst z;exact p2.rel.off i b (by rw[e6]; simp) (.inr hb)
   have h3:Ap K (NN fp2 (ad O L2)) (upd H1 p0 (.lst (vs++[y]))) [y] [a] L2:=by
    simp only[Ap];exact⟨L2,[],by simp,h2,rfl⟩
   refine⟨p0,vs++[y],L'++L2,rfl,rfl,AQ,?_,Ap.app h1 h3⟩;rw[List.length_append,hlen];exact hz
 .cases e4
noncomputable def YG(i:Nat)(m:ME):MS:=fun Z=>(C7 Z i).bind fun _=>(m Z).bind fun p=>(peek p.2 p.1).bind fun b=>(Dq b).bind fun ds=>(C7 p.2 i).bind fun h=>if h.2.length+ds.length<=LIM then some (.next (p.2.set i (some (h.1,.lst (h.2++ds.map A.fz))))) else none
noncomputable def F7(i:Nat)(mk me:ME):MS:=fun Z=>(me Z).bind fun p=>(share p.2 p.1).bind fun s=>(C7 s.2 i).bind fun _=>(mk s.2).bind fun t=>match t.1 with
 | .val (.fz (.int k))=>(C7 t.2 i).bind fun h=>(ixN h.2.length k).map fun j=>.next (t.2.set i (some (h.1,.lst (h.2.set j (.fz s.1)))))
 | _=>none
theorem Ap.setFz:∀{vs:List V} {as:List A} {L:List Addr} {j:Nat} {v:V} {d:D},Ap K N H vs as L->RepA N H v d->∃L',Ap K N H (vs.set j v) (as.set j (.fz d)) L'/\(∀q∈L',q∈L)/\(L.Nodup->L'.Nodup)
 | [],[],L,j,v,d,r,_=>⟨L,by simpa using r,fun _ h=>h,id⟩
 | [],_::_,_,_,_,_,r,_=>by simp only[Ap] at r
 | _::_,[],_,_,_,_,r,_=>by simp only[Ap] at r
 | x::vs,a::as,L,0,v,d,r,q=>by
  simp only[Ap] at r;obtain⟨M1,M2,rfl,h1,h2⟩:=r;refine⟨M2,?_,fun b h=>List.mem_append_right _ h,fun h=>(List.nodup_append.mp h).2.1⟩;simp only[List.set_cons_zero,Ap];exact⟨[],M2,rfl,EF q,h2⟩
 | x::vs,a::as,L,j+1,v,d,r,q=>by
  simp only[Ap] at r;obtain⟨M1,M2,rfl,h1,h2⟩:=r;obtain⟨L',g1,g2,g3⟩:=Ap.setFz (j:=j) h2 q;refine⟨M1++L',?_,fun b h=>?_,fun h=>?_⟩
  .simp only[List.set_cons_succ,Ap]
   exact⟨M1,L',rfl,h1,g1⟩
  .rcases List.mem_append.mp h with h|h
   .exact List.mem_append_left _ h
   .exact List.mem_append_right _ (g2 b h)
  .obtain⟨n1,n2,n3⟩:=List.nodup_append.mp h
   exact List.nodup_append.mpr ⟨n1,g3 n2,fun b hb c hc e=>n3 b hb c (g2 c hc) e⟩
theorem Xi{i:Nat}{mk me:ME}{D:Ends}(h:tS K (F7 i mk me) D U H):Oa (tE K me) (XQ (P7 i) (tE K mk) UX) D U H:=by
 obtain⟨Z,O,fp,rl,fl,e,w⟩:=h;simp only[F7,bind_eq_some_iff] at e;obtain⟨⟨r,Z1⟩,e1,⟨d,Z2⟩,e2,⟨st0,as0⟩,e0,⟨r3,Z3⟩,e3,e4⟩:=e;dsimp only at e4;split at e4
 .rename_i kk
  simp only[bind_eq_some_iff,map_eq_some_iff] at e4;obtain⟨⟨st,as⟩,e5,j,e6,e7⟩:=e4;cases e7;refine⟨Z,O,fp,rl,r,Z1,e1,fun y H1 yy=>?_⟩;obtain⟨L,fp1,p,q⟩:=yy;obtain⟨fp2,p2,q2⟩:=Dt p q e2;obtain⟨g0,_⟩:=HC e0;obtain⟨v,hv,q0⟩:=p2.rel.slot i _ _ g0;rw[Au] at q0;obtain⟨p0,vs0,_,rfl,_,hp0,_,_⟩:=q0;refine⟨_,hv,Z2,O,fp2,p2.rel0,_,Z3,e3,fun y2 H2 yy=>?_⟩;obtain⟨L3,fp3,p3,q3⟩:=yy;cases Bz (K:=K) q3;have p4:=(p2.next p3).drop0;obtain⟨g,gst⟩:=HC e5;obtain⟨v',hv',qi⟩:=p4.rel.slot i _ _ g;rw[hv] at hv'; cases hv';rw[Au] at qi;obtain⟨pa,vs,L',e8,e9,hp,hz',hs⟩:=qi;cases e8;have hlen:=hs.len;have qy:RepA (NN fp3 (ad O [])) H2 y d:=(ET (fun b z=>Hb.mpr z) q2).tr (M:=Fp fp2) (fun b z=>.inl z) p3.kept fun b z=>by
   rcases z with z|z|z
   .exact(p3.new b (.inr z)).imp (fun y=>.inl y) id
   .exact .inl (.inr z)
   .simp at z
  have k:=GV (o:=.lst (vs.set j y)) hp;have pn:NN fp3 (ad O []) p0:=.inl ⟨i,by rw[e9]; simp⟩;have n1:=p4.rel.nd i;rw[e9] at n1;have h1:Ap K (NN fp3 (ad O [])) (upd H2 p0 (.lst (vs.set j y))) vs as L':=hs.tr (M:=fun b=>b=p0) (fun b z=>z ▸ pn) k (fun b z=>.inl z) fun b hb z=>by
   subst z;exact(List.nodup_cons.mp n1).1 hb
  have h2:RepA (NN fp3 (ad O [])) (upd H2 p0 (.lst (vs.set j y))) y d:=qy.tr (M:=fun b=>b=p0) (fun b z=>z ▸ pn) k fun b z=>.inl z;obtain⟨L4,g1,g2,g3⟩:=Ap.setFz (j:=j) h1 h2;refine⟨p0,vs,kk,j,rfl,rfl,hp,by rw[hlen]; exact e6,w _ _ _ (p4.mut (a':=.lst (as.set j (.fz d))) (L':=p0::L4) g gst hv (by rw[e9]; simp) hp (fun b hb=>?_) ?_ ?_)⟩
  .rcases List.mem_cons.mp hb with rfl|hb
   .exact .inl (by rw[e9]; simp)
   .exact .inl (by rw[e9]; simp[g2 b hb])
  .exact List.nodup_cons.mpr ⟨fun z=>(List.nodup_cons.mp n1).1 (g2 _ z),g3 (List.nodup_cons.mp n1).2⟩
  .rw[Au]
   exact⟨p0,vs.set j y,L4,rfl,rfl,AQ,by rw[List.length_set]; exact hz',g1⟩
 .cases e4
end
section
variable{X:Cx}{a b c e:Expr}{es:List Expr}{m m1 m2 m3:ME}{ms:MA}{p pos pos' p2 apos cpos q npos:Pos}{x:Str}
theorem Ha(i:Nat)(hN:X.N[i]? = some x)(hv:Vis X.env.scope x)(hd:(x==("__debug__" : Str))=false)(hcd:(x==("__classdict__" : Str))=false)(hbase:attributeBase (.Name x npos) "append" X.env (eval (.Name x npos) X.env)=eval (.Name x npos) X.env)(hline:(apos.endLine==cpos.line)=true)(hs:starEach [e] X.env=[(false,eval e X.env)])(hw:swapsWith (.Call (.Attribute (.Name x npos) "append" apos) [e] [] cpos) none pos.line X.env=pure false)(he:JE X e m):JS X (.Expr (.Call (.Attribute (.Name x npos) "append" apos) [e] [] cpos) pos) (F6 i m):=
 BM (LK (Rw PySem.F.plainAttrs_list PySem.F.slot_list_append PySem.F.type_list_append KN (JK hN hv hd hcd) (D6 he GF hs) hbase (by rw[hs]; rfl) hline hs rfl) hw) fun _ _ _ h=>Xd h
theorem Gx(i:Nat)(hN:X.N[i]? = some x)(hv:Vis X.env.scope x)(hd:(x==("__debug__" : Str))=false)(hcd:(x==("__classdict__" : Str))=false)(ha:∀v,assign (.Subscript (.Name x npos) b pos') X.env v=(do
   let ov <- holding [v] (eval (.Name x npos) X.env)
   let iv <- holding [v,ov] (eval b X.env)
   standAt pos'
   holding [v,ov,iv] (setItem ov iv v)
   release [v,ov,iv] []))(hs:swapsWithSole [.Subscript (.Name x npos) b pos'] e pos.line X.env=pure false)(hw:swappedStores [.Subscript (.Name x npos) b pos'] e X.env=pure none)(h1:(assignEach [.Subscript (.Name x npos) b pos'] X.env).map (·.2)=[assign (.Subscript (.Name x npos) b pos') X.env])(hk:JE X b m1)(he:JE X e m2):JS X (.Assign [.Subscript (.Name x npos) b pos'] e pos) (F7 i m1 m2):=
 BM (RD he (Ww (JK hN hv hd hcd) hk set_list ha) hs hw h1) fun _ _ _ h=>Xi h
end
end J
end
section
namespace PySem
open Sem (wp)
theorem JD.miss_keys:typeLookup (.type "list") "keys" = pure none:=am_miss_of_fast dK
theorem JD.entry_loop:entryFor table "dict.update.loop" = some Builtin.«dict.update.loop»:=entryFor_of_tree (by kernel_rfl)
theorem JD.plain_loop:plainId "dict.update.loop" = true:=by decide +kernel
theorem JD.getAttrQ_miss{prog:Program}{w:World}{A:Around}{E:Value->Shared->Prop}{s:Shared}{a:Addr}{o:Obj}{xs:Array Value}{k:Nat}{name:Str}{Q:Option Value->Shared->Prop}(hx:s.heap.get? a=some o)(hc:o.cls=.type "list")(hdat:o.data=.seq xs k)(hd:o.dict=none)(hmiss:typeLookup (.type "list") name=pure none)(hname:(["__module__","__name__","__qualname__","__doc__","__annotations__"]:List Str).contains name=false)(hA:A.handled=none)(h:∀h' tk e,Heap.NewExcOf s.heap h' e "AttributeError" -> Q none { s with heap:=h',toks:=tk })(hsz:name.length+100<=sizeLine:=by size_fits):
  wpAny (model prog w) A (getAttr? (.ref a) name) Q E s:=by
 obtain⟨c,dct,dat,sl⟩:=o;simp only at hc hdat hd;subst hc hdat hd;obtain⟨hp,g,d,tk,os⟩:=s;have hT:∀tk',(⟨hp,g,d,tk',os⟩:Shared).TypeIs (.ref a) "list" := fun _=>⟨_,hx,rfl⟩;have f1:=sub_AttributeError;have f3:=F.slot_list_getattribute.lookup;have f4:=F.slot_list_getattribute.bind (.ref a);have f5:=am_list_getattr_none;unfold getAttr? getAttrBy? getAttrBy;repeat (any_goals (first|assumption|exact hT _|((with_reducible show wpAny _ _ (call (Value.builtin "list.__getattribute__") _ _) _ _ _); refine call_meets F.slot_list_getattribute (hT _) am_entry_list_getattribute (F.args_list_getattribute_2 _ _) (meets_getattribute_miss_list a xs k sl name _ hmiss hname hsz) ⟨hx,hA,fun h' tk' e hx'=>?_⟩)|wp_step))
 obtain⟨t',u',he⟩:=hx'.there;show wpAny _ _ (getattributeRaised _ _ _ _ _ _ _) _ _ _;unfold getattributeRaised;repeat (any_goals (first|assumption|wp_step))
 exact h _ _ _ hx'.of
theorem JD.dict_keep{prog:Program}{w:World}{Kk:Type}[DecidableEq Kk]{knd:KeyKind prog w Kk}{h h':Heap}{d:Addr}{kvs:List (Kk×Value)}(hd:h.DictOf knd d kvs)(k:∀o,h.get? d=some o->h'.get? d=some o):h'.DictOf knd d kvs:=by
 obtain⟨o,es,ep,ho,r⟩:=hd;exact⟨o,es,ep,k o ho,r⟩
section
variable{prog:Program}{w:World}{Kk:Type}[DecidableEq Kk]{knd:KeyKind prog w Kk}{A:Around}{E:Value->Shared->Prop}{R:Result->Shared->Prop}
theorem JD.pairItems{s:Shared}{t:Addr}{its:Array Value}{Q:List Value->Shared->Prop}(ht:PyProof.Rows.IsTup s.heap t its)(h:Q its.toList s):wpAny (model prog w) A (Builtin.Dict.pairItems (.ref t)) Q E s:=by
 obtain⟨o,ho,hc,n,hd⟩:=ht;unfold Builtin.Dict.pairItems;refine wpAny_bind (wpAny_typeOf (T := "tuple") ⟨o,ho,hc⟩ ?_);rw[if_pos (by decide)];unfold seqItems?;refine wpAny_bind (wpAny_bind (wpAny_load ho ?_));rw[hd];exact wpAny_pure (wpAny_pure h)
theorem JD.stored_new{kvs:List (Kk×Value)}{i:Nat}(hi:i<kvs.length)(nd:(kvs.map (·.1)).Nodup):stored (kvs.take i) (kvs[i]).1 (kvs[i]).2=kvs.take (i+1):=by
 unfold stored;rw[if_neg]
 .rw[List.take_succ,List.getElem?_eq_getElem hi]
  rfl
 .intro h
  rw[List.any_eq_true] at h;obtain⟨x,hx,he⟩:=h;obtain⟨j,hj,rfl⟩:=List.mem_iff_getElem.mp hx;rw[List.length_take] at hj;have hj':j<i:=by lia
  have e1:(kvs.take i)[j]=kvs[j]:=by simp
  rw[e1] at he;have e2:(kvs[j]).1=(kvs[i]).1:=by simpa using he
  have n:=List.pairwise_iff_getElem.mp nd j i (by simpa using(by lia:j<kvs.length)) (by simpa using hi) hj';simp at n;exact n e2
theorem JD.loop{I l d:Addr}{items:Array Value}{kvs:List (Kk×Value)}(hA:A.handled=none)(hIl:l≠I)(hId:d≠I)(hld:d≠l)(hsz:kvs.length<=sizeLine)(hnd:(kvs.map (·.1)).Nodup)(hlen:items.size=kvs.length)(ts:Nat->Addr)(hit:∀i (h:i<kvs.length),items[i]? = some (.ref (ts i)))(htd:∀i,i<kvs.length->ts i≠d/\ts i≠I):
  ∀(k i:Nat) (s:Shared) (tk:Tok),kvs.length-i=k->i<=kvs.length->s.heap.IsListIter I l i->s.heap.IsList l items->s.heap.DictOf knd d (kvs.take i) ->
   (∀j (h:j<kvs.length),∃key,knd.is (kvs[j]).1 key=true/\PyProof.Rows.IsTup s.heap (ts j) #[key,(kvs[j]).2]) ->
   (∀h' tk',h'.DictOf knd d kvs->(∀b o,b≠I->b≠d->s.heap.get? b=some o->h'.get? b=some o)->R (.ok (.ret .none)) { s with heap:=h',toks:=tk' }) ->
   codeAny (model prog w) A (.builtin "dict.update.loop" ⟨[.ref d,.ref I,.int (i:Int) tk,.none],[]⟩) R s:=by
 intro k;induction k with
 | zero =>
  intro i s tk hk hi hst hl hd ht hR;have hin:i=kvs.length:=by lia
  subst hin;refine codeAny_builtin JD.entry_loop ?_;rw[Around.under_plainId JD.plain_loop _];have W:=Walks.list (prog:=prog) (w:=w) (A:=A.in1) (by exact hA) I l hIl items;show wpAny _ A.in1 (pyNext (.ref I) >>= _) _ _ s;refine wpAny_bind (W.done s _ _ ⟨by rw[hlen]; exact hst,hl⟩ fun h' tk' hk'=>?_);have hd':h'.DictOf knd d kvs:=by
   rw[List.take_length] at hd;exact JD.dict_keep hd fun o e=>hk' d o (by simpa using hId) e
  show wpAny _ _ (Builtin.Dict.addKeywords d [] >>= fun _=>ret Value.none) _ _ _;exact wpAny_bind (wpAny_pure (wpAny_pure (hR h' tk' hd' fun b o hb _ e=>hk' b o (by simpa using hb) e)))
 | succ k ih =>
  intro i s tk hk hi hst hl hd ht hR;have hlt:i<kvs.length:=by lia
  refine codeAny_builtin JD.entry_loop ?_;rw[Around.under_plainId JD.plain_loop _];have W:=Walks.list (prog:=prog) (w:=w) (A:=A.in1) (by exact hA) I l hIl items;show wpAny _ A.in1 (pyNext (.ref I) >>= _) _ _ s;refine wpAny_bind (W.item i s _ _ (by rw[hlen]; exact hlt) ⟨hst,hl⟩ fun v h' tk' hv st' hk'=>?_);rw[hit i hlt] at hv;cases hv;have keepI:∀b o,b≠I->s.heap.get? b=some o->h'.get? b=some o:=fun b o hb e=>hk' b o (by simpa using hb) e;have ht':∀j (h:j<kvs.length),∃key,knd.is (kvs[j]).1 key=true/\PyProof.Rows.IsTup h' (ts j) #[key,(kvs[j]).2]:=fun j h=>by
   obtain⟨key,h1,o,h2,h3⟩:=ht j h;exact⟨key,h1,o,keepI _ o (htd j h).2 h2,h3⟩
  have hd':h'.DictOf knd d (kvs.take i):=JD.dict_keep hd fun o e=>keepI d o hId e;obtain⟨key,hkey,htup⟩:=ht' i hlt;refine wpAny_bind (wpAny_holding ?_);refine wpAny_bind (wpAny_tryCatch (JD.pairItems (s:={ s with heap:=h',toks:=tk' }) htup ?_));show wpAny _ _ (holding [key,(kvs[i]).2] (dictSet d key (kvs[i]).2)) _ _ _;have hl2:(kvs.take i).length<=sizeLine:=by rw[List.length_take]; lia
  refine wpAny_holding (wpAny_dictSet_pairs (s:={ s with heap:=h',toks:=tk' }) (hsz:=hl2) hkey hd' fun h2 hd2 hs2=>?_);rw[JD.stored_new hlt hnd] at hd2;have keep2:∀b o,b≠d->h'.get? b=some o->h2.get? b=some o:=fun b o hb e=>(hs2.2 b hb).trans e;refine wpAny_pure ⟨plainId_quiet JD.plain_loop _,?_⟩;have e1:rawInt ((i:Int)+1)=.int (((i+1:Nat)):Int) 0:=rfl;rw[e1];refine ih (i+1) { s with heap:=h2,toks:=tk'+1 } 0 (by lia) hlt ?_ ?_ hd2 (fun j h=>?_) fun h3 tk3 hd3 hk3=>?_
  .exact st'.1.at fun o e=>keep2 I o (Ne.symm hId) e
  .exact st'.2.at fun o e=>keep2 l o (Ne.symm hld) e
  .obtain⟨key,h1,o,h2',h3'⟩:=ht' j h
   exact⟨key,h1,o,keep2 _ o (htd j h).1 h2',h3'⟩
  .exact hR h3 tk3 hd3 fun b o hb hb2 e=>hk3 b o hb hb2 (keep2 b o hb2 (keepI b o hb e))
theorem JD.call{s:Shared}{l:Addr}{items:Array Value}{kvs:List (Kk×Value)}{Q:Value->Shared->Prop}{ol:Obj}{nl:Nat}(hA:A.handled=none)(hol:s.heap.get? l=some ol)(hcl:ol.cls=.type "list")(hdl:ol.data=.seq items nl)(hdd:ol.dict=none)(hsz:kvs.length<=sizeLine)(hnd:(kvs.map (·.1)).Nodup)(hlen:items.size=kvs.length)(ts:Nat->Addr)(hit:∀i (h:i<kvs.length),items[i]? = some (.ref (ts i)))(ht:∀j (h:j<kvs.length),∃key,knd.is (kvs[j]).1 key=true/\PyProof.Rows.IsTup s.heap (ts j) #[key,(kvs[j]).2])(h:∀h' tk',h'.DictOf knd s.heap.objs.size kvs->(∀b o,s.heap.get? b=some o->h'.get? b=some o)->Q (.ref s.heap.objs.size) { s with heap:=h',toks:=tk' }):
  wpAny (model prog w) A (call (.type "dict") [.ref l]) Q E s:=by
 refine callType_codes (Q₁:=fun obj s₁=>obj=.ref s.heap.objs.size/\s₁={ s with heap:=s.heap.push { cls:=.type "dict",data:=.dict #[] } }) F.kt_called_dict (F.kt_typeCall_dict_1 _) F.entry_dict_init (kt_code_dict_new _ ⟨rfl,rfl⟩) ?_;rintro obj s₁ ⟨rfl,rfl⟩;have hnew:(s.heap.push { cls:=.type "dict",data:=.dict #[] }).DictOf knd s.heap.objs.size []:=Heap.DictOf.new s.heap;have hol':(s.heap.push { cls:=.type "dict",data:=.dict #[] }).get? l=some ol:=Heap.get?_push_of_some _ hol;have hdo:l≠s.heap.objs.size:=fun e=>absurd (Heap.lt_size hol) (by rw[e]; exact Nat.lt_irrefl _);have hts:∀i,i<kvs.length->ts i<s.heap.objs.size:=fun i hi=>by
  obtain⟨_,_,o,ho,_⟩:=ht i hi;exact Heap.lt_size ho
 refine⟨hnew.typeIs,F.args_dict_init_2 _ _,?_⟩;unfold Builtin.«dict.__init__»;refine wpAny_bind ?_;unfold Builtin.Dict.selfAndRest;refine wpAny_bind (wpAny_notOrdered_dict hnew.typeIs ?_);show wpAny _ _ (pure (s.heap.objs.size,[Value.ref l])) _ _ _;refine wpAny_pure ?_;show wpAny _ _ (Builtin.Dict.updateFrom "dict.__init__" s.heap.objs.size (.ref l) [] .none) _ _ _;unfold Builtin.Dict.updateFrom;refine wpAny_bind (wpAny_typeOf (T := "list") ⟨ol,hol',hcl⟩ ?_);rw[if_pos (by decide)];refine wpAny_bind (JD.getAttrQ_miss hol' hcl hdl hdd JD.miss_keys dK (by exact hA) (fun h1 tk1 e x=>?_) dK);simp only[Option.isNone_none,if_true];have keep1:∀b o,s.heap.get? b=some o->h1.get? b=some o:=fun b o e=>x.keeps b o (Heap.get?_push_of_some _ e);have hbig:s.heap.objs.size<h1.objs.size:=by
  obtain⟨o,_,_,ho,_⟩:=hnew;exact Heap.lt_size (x.keeps _ _ ho)
 refine wpAny_bind (wpAny_rule (wpAny_bind (wpAny_pyIter_list (items:=items) ⟨ol,keep1 _ _ hol,hcl,nl,hdl⟩ ?_)));refine wpAny_pure ⟨plainId_quiet JD.plain_loop _,?_⟩;have e1:rawInt 0=.int (((0:Nat)):Int) 0:=rfl;rw[e1];have hIs:∀b,b<h1.objs.size->b≠h1.objs.size:=fun b hb=>Nat.ne_of_lt hb;have hl1:l<h1.objs.size:=Heap.lt_size (keep1 _ _ hol);refine JD.loop (knd:=knd) (I:=h1.objs.size) (l:=l) (d:=s.heap.objs.size) (kvs:=kvs) (items:=items) (by exact hA) (hIs _ hl1) (hIs _ hbig) (Ne.symm hdo) hsz hnd hlen ts hit (fun i hi=>⟨Nat.ne_of_lt (hts i hi),hIs _ (Nat.lt_trans (hts i hi) hbig)⟩) kvs.length 0 _ 0 (by lia) (Nat.zero_le _) ?_ ?_ ?_ ?_ ?_
 .exact⟨_,Heap.get?_push_size _ rfl,rfl,rfl⟩
 .exact⟨ol,Heap.get?_push_of_some _ (keep1 _ _ hol),hcl,nl,hdl⟩
 .rw[List.take_zero]
  exact JD.dict_keep hnew fun o e=>Heap.get?_push_of_some _ (x.keeps _ _ e)
 .intro j hj
  obtain⟨key,h1',o,h2,h3⟩:=ht j hj;exact⟨key,h1',o,Heap.get?_push_of_some _ (keep1 _ _ h2),h3⟩
 .intro h' tk' hd' hk'
  refine⟨rfl,h h' tk' hd' fun b o e=>?_⟩;have lt:=Heap.lt_size e;exact hk' b o (hIs _ (Nat.lt_trans lt hbig)) (Nat.ne_of_lt lt) (Heap.get?_push_of_some _ (keep1 _ _ e))
end
end PySem
end
section
namespace L2
open PySem PySem.Spec PyProof.Rows
theorem KR.rep{N:Addr->Prop}{H:Hp}{v:V}{d:D}(r:KR H v d):RepA N H v d:=by
 induction r with
 | non=>exact .non
 | int i=>exact .int i
 | str x hx=>exact .str x hx
 | tup h hz hl _ ih=>exact .tup h hz hl ih
mutual
noncomputable def Q1:D->Bool
 | .non=>true
 | .int _=>true
 | .str _=>true
 | .tup ds=>OF ds
 | .bl _=>false
 | .lst _=>false
noncomputable def OF:List D->Bool
 | []=>true
 | d::ds=>Q1 d&&OF ds
end
theorem Po{ds:List D}(h:OF ds=true):∀{i:Nat} {d:D},ds[i]? = some d->Q1 d=true:=by
 induction ds with
 | nil=>intro i d e; simp at e
 | cons x xs ih =>
  intro i d e;have h':(Q1 x&&OF xs)=true:=h;rw[Bool.and_eq_true] at h';cases i with
  | zero=>simp at e; subst e; exact h'.1
  | succ i=>exact ih h'.2 (by simpa using e)
theorem KR.of{N:Addr->Prop}{H:Hp}{v:V}{d:D}(r:RepA N H v d):Q1 d=true->KR H v d:=by
 induction r with
 | non=>exact fun _=>.non
 | bl b=>exact fun h=>nomatch h
 | int i=>exact fun _=>.int i
 | str x hx=>exact fun _=>.str x hx
 | lst _ _ _ _ _ _=>exact fun h=>nomatch h
 | tup h hz hl hr ih=>exact fun hk=>.tup h hz hl fun i v d e1 e2=>ih i v d e1 e2 (Po hk e2)
theorem Qs:∀{H:Hp} {v:V} {d:D},KR H v d->∀{v':V} {e:D},KR H v' e->eqD d e=decide (d=e):=by
 intro H v d r;have key:∀{d e:D},eqD d e=true->d=e->eqD d e=decide (d=e):=fun h1 h2=>by rw[h1,decide_eq_true h2]
 have kf:∀{d e:D},eqD d e=false->d≠e->eqD d e=decide (d=e):=fun h1 h2=>by rw[h1,decide_eq_false h2]
 induction r with
 | non=>intro v' e q; cases q<;>first|exact key rfl rfl|exact kf rfl (fun z=>nomatch z)
 | int i =>
  intro v' e q;cases q with
  | int j =>
   rw[IB];by_cases h:i=j
   .subst h; simp
   .rw[decide_eq_false (fun z=>h (by injection z)),beq_eq_false_iff_ne.mpr h]
  | _=>exact kf rfl (fun z=>nomatch z)
 | str x hx =>
  intro v' e q;cases q with
  | str y hy =>
   rw[Je];by_cases h:x=y
   .subst h; simp
   .rw[decide_eq_false (fun z=>h (by injection z)),beq_eq_false_iff_ne.mpr h]
  | _=>exact kf rfl (fun z=>nomatch z)
 | @tup a vs ds h hz hl hr ih =>
  intro v' e q;cases q with
  | @tup a' vs' es h' hz' hl' hr' =>
   rw[Hy];by_cases hlen:ds.length=es.length
   .rw[DC hlen]
    by_cases hde:ds=es
    .subst hde
     rw[decide_eq_true rfl,List.all_eq_true];intro i _;exact BC _
    .rw[decide_eq_false (fun z=>hde (by injection z)),Bool.eq_false_iff]
     intro z;rw[List.all_eq_true] at z;refine hde (List.ext_getElem? fun i=>?_);by_cases hi:i<ds.length
     .have z1:=z i (List.mem_range.mpr hi)
      have g3:ds.getD i .non=ds[i]:=by simp[List.getD,hi]
      have hi':i<es.length:=by lia
      have g4:es.getD i .non=es[i]:=by simp[List.getD,hi']
      rw[g3,g4] at z1;have c:=ih i (vs[i]'(by lia)) ds[i] (by simp) (by simp) (hr' i (vs'[i]'(by lia)) es[i] (by simp) (by simp));rw[c] at z1;rw[List.getElem?_eq_getElem hi,List.getElem?_eq_getElem hi',of_decide_eq_true z1]
     .rw[List.getElem?_eq_none (by lia),List.getElem?_eq_none (by lia)]
   .rw[decide_eq_false (fun z=>hlen (by injection z with z; rw[z])),Bool.eq_false_iff]
    exact fun z=>hlen (DD z)
  | _=>exact kf rfl (fun z=>nomatch z)
section
variable{P:Program}{w:World}{H:Hp}{A:Around}{E:Value->Shared->Prop}
theorem NB:∀{ds:List D} {i:Nat} {d:D},ds[i]? = some d->(Ii w ds)[i]? = some (D0 w d):=by
 intro ds;induction ds with
 | nil=>intro i d e; simp at e
 | cons x xs ih =>
  intro i d e;cases i with
  | zero=>simp at e; subst e; rfl
  | succ i=>exact ih (by simpa using e)
theorem NC:∀{ds:List D},(Ii w ds).length=ds.length:=by
 intro ds;induction ds with
 | nil=>rfl
 | cons x xs ih=>show(Ii w xs).length+1=_; rw[ih]; rfl
theorem KR.hash{x:V}{d:D}(r:KR H x d):∀{A:Around} {n:Nat} {v:Value} {s:Shared} {Q:Int->Shared->Prop},HOk P w H s.heap->RelV x v->Sh n d->A.units+n<cLine->(∀tk,Q (D0 w d) { s with toks:=tk }) ->
  wpAny (model P w) A (pyHash v) Q E s:=by
 induction r with
 | non =>
  intro A n v s Q hok rx hs hu h;cases rx;exact PySem.W.pyHash_slot (T := "NoneType") rfl F.slot_NoneType_hash F.entry_NoneType_hash (F.args_NoneType_hash_1 _) (beq_builtin_none _) (.inr (by lia)) (wpAny_bind (wpAny_pure (wpAny_bind (wpAny_mkInt (wpAny_pure ⟨_,_,rfl,h _⟩)))))
 | int i=>intro A n v s Q hok rx hs hu h; obtain⟨t,rfl⟩:=rx; exact wpAny_pyHash_int (h _)
 | str y hy=>intro A n v s Q hok rx hs hu h; obtain⟨t,rfl⟩:=rx; exact wpAny_pyHash_str (h _)
 | @tup a vs ds hH hz hl hr ih =>
  intro A n v s Q hok rx hs hu h;cases rx;cases hs with
  | @tup n _ hs =>
   obtain⟨_,its,rv,o,ho,hc,k,hd⟩:=(show BB P w H s.heap a (.tup vs) from hok a _ hH);have hlen:=rv.length;refine PySem.W.pyHash_slot (T := "tuple") ⟨_,ho,hc⟩ F.slot_tuple_hash F.entry_tuple_hash (F.args_tuple_hash_1 _) (beq_builtin_none _) (.inr (lt0 hu)) ?_;show wpAny _ _ (Builtin.Tuple.tupleItemsOf (.ref a) >>= _) _ _ s;refine wpAny_bind (wpAny_tupleItemsOf ho hd ?_);refine wpAny_bind ?_;rw[<- Array.forIn_toList];refine wpAny_forIn_list _ (fun rest (b:Array Int) s'=>∃j tk,rest=its.drop j/\b.toList=(Ii w ds).take j/\j<=its.length/\s'={ s with toks:=tk }) _ ?_ ?_ _ _ ⟨0,s.toks,by simp,by simp,Nat.zero_le _,rfl⟩
   .rintro u rest b s' ⟨j,tk,hj,hb,hjl,rfl⟩
    have hlt:j<its.length:=by
     rcases Nat.lt_or_ge j its.length with z|z
     .exact z
     .rw[List.drop_eq_nil_of_le z] at hj; cases hj
    rw[List.drop_eq_getElem_cons hlt] at hj;injection hj with e1 e2
    have d1:ds[j]? = some (ds[j]'(by lia)):=by simp
    have v1:vs[j]? = some (vs[j]'(by lia)):=by simp
    obtain⟨u',hu',ru⟩:=rv.get v1;rw[List.getElem?_eq_getElem hlt,<- e1] at hu';injection hu' with hu';subst hu';refine wpAny_bind (ih j _ _ v1 d1 (A:=A.in1) (n:=n) (s:={ s with toks:=tk }) hok ru (hs _ (List.mem_of_getElem? d1)) (lt1 hu) fun tk'=>?_);refine wpAny_bind (wpAny_pure (wpAny_pure ⟨j+1,tk',e2,?_,hlt,rfl⟩));rw[Array.toList_push,hb,List.take_succ,NB d1];rfl
   .rintro b s' ⟨j,tk,hj,hb,hjl,rfl⟩
    have hjj:j=its.length:=by
     have:=congrArg List.length hj;simp at this;lia
    show wpAny _ _ (retInt (Builtin.Tuple.tupleHashOf b.toList)) _ _ _;rw[hb,hjj,<- hlen,hl,List.take_of_length_le (by rw[NC]; exact Nat.le_refl _)];exact wpAny_bind (wpAny_mkInt (wpAny_pure ⟨_,_,rfl,h _⟩))
theorem KR.quiet{x:V}{d:D}(r:KR H x d):∀{A:Around} {n:Nat} {v:Value} {s:Shared} {Q:Bool->Shared->Prop},HOk P w H s.heap->RelV x v->Sh n d->Q true s->wpAny (model P w) A (eqIsQuiet n v) Q E s:=by
 induction r with
 | non=>intro A n v s Q hok rx hs h; cases rx; rw[eqIsQuiet_byValue _ rfl]; exact wpAny_pure h
 | int i=>intro A n v s Q hok rx hs h; obtain⟨t,rfl⟩:=rx; rw[eqIsQuiet_byValue _ rfl]; exact wpAny_pure h
 | str y hy=>intro A n v s Q hok rx hs h; obtain⟨t,rfl⟩:=rx; rw[eqIsQuiet_byValue _ rfl]; exact wpAny_pure h
 | @tup a vs ds hH hz hl hr ih =>
  intro A n v s Q hok rx hs h;cases rx;cases hs with
  | @tup n _ hs =>
   obtain⟨_,its,rv,o,ho,hc,k,hd⟩:=(show BB P w H s.heap a (.tup vs) from hok a _ hH);have hlen:=rv.length;have hT:s.TypeIs (.ref a) "tuple" := ⟨_,ho,hc⟩;unfold eqIsQuiet;refine wpAny_bind (wpAny_specialOf hT F.slot_tuple_eq.lookup ?_);show wpAny _ _ (isInstance (.ref a) (.type "tuple") >>= _) _ _ s;refine wpAny_bind (wpAny_isInstance hT isSubtype_tuple_tuple ?_);simp only[Bool.not_true,Bool.false_eq_true,if_false];refine wpAny_bind (wpAny_seqItems ho hd ?_);refine wpAny_bind ?_;show wpAny _ _ (forIn its.toArray _ _) _ _ s;rw[<- Array.forIn_toList];refine wpAny_forIn_list _ (fun rest r s'=>r.1=none/\s'=s/\∃j,rest=its.drop j) _ ?_ ?_ _ _ ⟨rfl,rfl,0,by simp⟩
   .rintro u rest r s' ⟨hr',rfl,j,hj⟩
    have hlt:j<its.length:=by
     rcases Nat.lt_or_ge j its.length with z|z
     .exact z
     .rw[List.drop_eq_nil_of_le z] at hj; cases hj
    rw[List.drop_eq_getElem_cons hlt] at hj;injection hj with e1 e2
    have d1:ds[j]? = some (ds[j]'(by lia)):=by simp
    have v1:vs[j]? = some (vs[j]'(by lia)):=by simp
    obtain⟨u',hu',ru⟩:=rv.get v1;rw[List.getElem?_eq_getElem hlt,<- e1] at hu';injection hu' with hu';subst hu';refine wpAny_bind (ih j _ _ v1 d1 (n:=n) hok ru (hs _ (List.mem_of_getElem? d1)) ?_);simp only[Bool.not_true,Bool.false_eq_true,if_false];exact wpAny_pure ⟨rfl,rfl,j+1,e2⟩
   .rintro ⟨r1,r2⟩ s' ⟨hr',rfl,_⟩
    simp only at hr';subst hr';exact wpAny_pure h
end
section
variable{P:Program}{w:World}{A:Around}{E:Value->Shared->Prop}{s:Shared}{R:D->Value->Prop}
structure KeyRel (P:Program) (w:World) (A:Around) (s:Shared) (R:D->Value->Prop):Prop where
 eq:∀{d e:D} {u v:Value},R d u->R e v->SeqAt.EqAt A s u v (decide (d=e))
 quiet:∀{d:D} {u:Value} {E:Value->Shared->Prop} {Q:Bool->Shared->Prop},R d u->Q true s->wpAny (model P w) A (eqIsQuiet 8 u) Q E s
 inj:∀{d e:D} {u:Value},R d u->R e u->d=e
 str:∀{d:D} {x:Str} {t:Tok},R d (.str x t)->d=.str x
 txt:∀{x:Str} {u:Value},R (.str x) u->∃t,u=.str x t
noncomputable def BU(xs:List (D×Value×Value))(k:D):Option Nat:=xs.findIdx? fun x=>decide (x.1=k)
theorem E8{xs:List (D×Value×Value)}{k:D}{j:Nat}{p:Value×Value}(hn:(xs.map (·.1)).Nodup)(hj:xs[j]? = some (k,p)):BU xs k=some j:=by
 unfold BU;rw[List.findIdx?_eq_some_iff_getElem];obtain⟨hlt,he⟩:=List.getElem?_eq_some_iff.mp hj;refine⟨hlt,by rw[he]; simp,fun i hi=>?_⟩;have hne:¬(xs[i]'(by lia)).1=k:=fun e=>by
  have h1:(xs.map (·.1))[i]? = some k:=by rw[List.getElem?_map,List.getElem?_eq_getElem (by lia)]; simp[e]
  have h2:(xs.map (·.1))[j]? = some k:=by rw[List.getElem?_map,hj]; rfl
  have:=(List.getElem?_inj (List.getElem?_eq_some_iff.mp h1).1 hn).mp (h1.trans h2.symm);lia
 simpa using hne
theorem MZ{xs:List (D×Value×Value)}{k:D}(h:∀(j:Nat) p,xs[j]? ≠ some (k,p)):BU xs k=none:=by
 unfold BU;rw[List.findIdx?_eq_none_iff];intro x hx;obtain⟨j,hj⟩:=List.mem_iff_getElem?.mp hx;simp only[decide_eq_false_iff_not];exact fun e=>h j x.2 (by rw[hj,<- e])
theorem Hm(K:KeyRel P w A s R){key:Value}{k:D}{stored:List Value}{Q:Bool->Shared->Prop}(hkey:R k key)(hst:∀v∈stored,∃d,R d v)(h:Q false s):wpAny (model P w) A (tableMayTell key stored) Q E s:=by
 unfold tableMayTell;split
 .exact wpAny_pure h
 .refine wpAny_bind (K.quiet hkey ?_)
  simp only[Bool.not_true,Bool.false_eq_true,if_false];refine wpAny_bind (wpAny_forIn_list _ (fun rest r s'=>s'=s/\r=(none,())/\∀v∈rest,∃d,R d v) _ ?_ ?_ _ _ ⟨rfl,rfl,hst⟩)
  .rintro x rest r s' ⟨rfl,rfl,hr⟩
   obtain⟨d,hb⟩:=hr x List.mem_cons_self;refine wpAny_bind (K.quiet hb ?_);simp only[Bool.not_true,Bool.false_eq_true,if_false];exact wpAny_pure ⟨rfl,rfl,fun v hv=>hr v (List.mem_cons_of_mem _ hv)⟩
  .rintro r s' ⟨rfl,rfl,_⟩
   exact wpAny_pure h
theorem G9{α:Type}{M:Model}{c:Bool}{a b:Sem α}{Q:α -> Shared->Prop}(h1:wpAny M A a Q E s)(h2:wpAny M A b Q E s):wpAny M A (if c=true then a else b) Q E s:=by
 cases c
 .exact h2
 .exact h1
theorem Nz{α:Type}{p q:α -> Bool}{l:List α}(h:∀x∈l,p x=q x):l.findIdx? p=l.findIdx? q:=by
 induction l with
 | nil=>rfl
 | cons x l ih=>rw[List.findIdx?_cons,List.findIdx?_cons,h x List.mem_cons_self,ih fun y hy=>h y (List.mem_cons_of_mem _ hy)]
structure EntG (w:World) (R:D->Value->Prop) (es:Array DictEntry) (xs:List (D×Value×Value)):Prop where
 es:es.toList=xs.map (II w)
 rel:∀x∈xs,R x.1 x.2.1
 nd:(xs.map (·.1)).Nodup
theorem EntG.at{es:Array DictEntry}{xs:List (D×Value×Value)}(h:EntG w R es xs)(j:Nat):es[j]? = (xs[j]?).map (II w):=by
 rw[<- Array.getElem?_toList,h.es,List.getElem?_map]
theorem EntG.size{es:Array DictEntry}{xs:List (D×Value×Value)}(h:EntG w R es xs):es.size=xs.length:=by
 rw[<- Array.length_toList,h.es,List.length_map]
theorem Qx(K:KeyRel P w A s R){d:Addr}{o:Obj}{es ep}{xs:List (D×Value×Value)}{k:D}{key:Value}{Q:Option Nat->Shared->Prop}(hkey:R k key)(ho:s.heap.get? d=some o)(hd:o.data=.dict es ep)(he:EntG w R es xs)(h:Q (BU xs k) s):wpAny (model P w) A (dictFind d key (D0 w k)) Q E s:=by
 have hsz:=he.size;have hpl:∀j,j∈placesWithHash es.size (fun i=>es[i]?.map (·.hash)) (D0 w k)↔j<xs.length/\∃x,xs[j]? = some x/\D0 w x.1=D0 w k:=by
  intro j;unfold placesWithHash;rw[List.mem_filter,List.mem_range,hsz];refine and_congr_right fun hj=>?_;dsimp only;rw[he.at,List.getElem?_eq_getElem hj];simp[II]
 have hmem:∀j x,xs[j]? = some x->es[j]? = some (II w x):=fun j x e=>by rw[he.at,e]; rfl
 have hend:(∀j∈placesWithHash es.size (fun i=>es[i]?.map (·.hash)) (D0 w k),∀p,xs[j]? ≠ some (k,p))->BU xs k=none:=fun z=>MZ fun j p e=>z j ((hpl j).mpr ⟨(List.getElem?_eq_some_iff.mp e).1,_,e,rfl⟩) p e;have hst:∀v∈(placesWithHash es.size (fun i=>es[i]?.map (·.hash)) (D0 w k)).filterMap (fun i=>es[i]?.map (·.key)),∃d',R d' v:=by
  intro v hv;obtain⟨i,hi,e⟩:=List.mem_filterMap.mp hv;obtain⟨_,x,hx,_⟩:=(hpl i).mp hi;rw[hmem i x hx] at e;obtain rfl:x.2.1=v:=by simpa[II] using e
  exact⟨x.1,he.rel x (List.mem_of_getElem? hx)⟩
 generalize hP:placesWithHash es.size (fun i=>es[i]?.map (·.hash)) (D0 w k)=pl at hpl hend hst;have old:wpAny (model P w) A (dictWalkPlain d key (D0 w k) es pl) Q E s:=by
  refine wpAny_bind (wpAny_forIn_list _ (fun rest b s'=>s'=s/\b=(none,())/\(∀j∈rest,j∈pl)/\∀j∈pl,j∈rest\/∀p,xs[j]? ≠ some (k,p)) _ ?_ ?_ _ _ ⟨rfl,rfl,fun _ h=>h,fun _ h=>.inl h⟩)
  .rintro x rest b s' ⟨rfl,rfl,h1,h2⟩
   obtain⟨hlt,y,hy,hh⟩:=(hpl x).mp (h1 x List.mem_cons_self);have hyr:=he.rel y (List.mem_of_getElem? hy);have next:¬y.1=k->((∀j∈rest,j∈pl)/\∀j∈pl,j∈rest\/∀p,xs[j]? ≠ some (k,p)):=fun hne=>⟨fun j hj=>h1 j (List.mem_cons_of_mem _ hj),fun j hj=>by
    rcases h2 j hj with z|z
    .rcases List.mem_cons.mp z with rfl|z
     .exact .inr fun p e=>by rw[hy] at e; injection e with e; exact hne (by rw[e])
     .exact .inl z
    .exact .inr z⟩
   rw[hmem x y hy];dsimp only[II];rw[if_pos (by rw[hh]; exact beq_self_eq_true _)];refine wpAny_bind (wpAny_dictEpoch ho hd (wpAny_bind (K.eq hyr hkey P w E _ (wpAny_bind (wpAny_dictEpoch ho hd ?_)))));show wpAny _ _ (if (ep != ep)=true then _ else _) _ E _;rw[if_neg (by simp)];by_cases hkk:y.1=k
   .rw[decide_eq_true hkk]
    rw[E8 he.nd (show xs[x]? = some (k,y.2) by rw[hy,<- hkk])] at h;exact wpAny_bind (wpAny_rule (wpAny_pure (wpAny_pure h)))
   .rw[decide_eq_false hkk]
    exact wpAny_bind (wpAny_rule (wpAny_pure ⟨rfl,rfl,next hkk⟩))
  .rintro b s' ⟨rfl,rfl,h1,h2⟩
   rw[hend fun j hj=>(h2 j hj).resolve_left (by simp)] at h;exact wpAny_pure h
 have hany:∀a,key=.ref a->¬(es.any fun e=>e.key==Value.ref a&&e.hash != D0 w k)=true:=by
  rintro a rfl;rw[<- Array.any_toList,List.any_eq_true];rintro ⟨e,hin,hc⟩;rw[he.es] at hin;obtain⟨x,hx,rfl⟩:=List.mem_map.mp hin;simp only[II,Bool.and_eq_true,beq_iff_eq,bne_iff_ne,ne_eq] at hc;have:=he.rel x hx;rw[hc.1] at this;exact hc.2 (by rw[K.inj this hkey])
 have body:∀stored:List Value,(∀v∈stored,∃d',R d' v)->∀tells:Bool,tells=false->wpAny (model P w) A (do
   if tells&&stored.length ≥ 2 then unsupported "dict.find:order-among-keys-of-one-hash"
   let mut hit:Option Nat:=none
   for i in pl do
    if let some e:=es[i]? then
     if e.hash==D0 w k then
      let before <- dictEpoch d (keyPart key)
      let same <- eqBool e.key key
      if (<- dictEpoch d (keyPart key)) != before then unsupported "dict.changed-during-lookup"
      if same then
       if hit.isSome then unsupported "dict.find:order-among-keys-of-one-hash"
       rule "dict.find.hit"
       if stored.length<2 then return some i
       hit:=some i
      else
       rule "dict.find.same-hash-other-key"
       if tells&&!(0<=D0 w k&&D0 w k<32) then unsupported "dict.find:asked-again-or-not-hangs-on-the-table"
   return hit) Q E s:=by
  intro stored hs tells ht;subst ht;rw[if_neg (by simp)];refine wpAny_bind ?_;refine wpAny_forIn_list _ (fun rest b s'=>s'=s/\b.1=none/\rest.Nodup/\(∀j∈rest,j∈pl)/\(∀j∈pl,j∈rest\/(∀p,xs[j]? ≠ some (k,p))\/b.2=some j)/\∀j,b.2=some j->j∉rest/\∃p,xs[j]? = some (k,p)) _ ?_ ?_ _ _ ⟨rfl,rfl,by rw[<- hP]; exact List.Pairwise.filter _ List.nodup_range,fun _ h=>h,fun _ h=>.inl h,fun _ h=>nomatch h⟩
  .rintro x rest ⟨b1,hit⟩ s' ⟨rfl,rfl,hnd,h1,h2,h3⟩
   rw[List.nodup_cons] at hnd;obtain⟨hlt,y,hy,hh⟩:=(hpl x).mp (h1 x List.mem_cons_self);have hyr:=he.rel y (List.mem_of_getElem? hy);rw[hmem x y hy];dsimp only[II];rw[if_pos (by rw[hh]; exact beq_self_eq_true _)];refine wpAny_bind (wpAny_dictEpoch ho hd (wpAny_bind (K.eq hyr hkey P w E _ (wpAny_bind (wpAny_dictEpoch ho hd ?_)))));show wpAny _ _ (if (ep != ep)=true then _ else _) _ E _;rw[if_neg (by simp)];by_cases hkk:y.1=k
   .rw[decide_eq_true hkk]
    have hxk:xs[x]? = some (k,y.2):=by rw[hy,<- hkk]
    have hp:=E8 he.nd hxk;have hn:hit=none:=by
     cases hit with
     | none=>rfl
     | some j =>
      obtain⟨q1,p,q2⟩:=h3 j rfl;have:=(E8 he.nd q2).symm.trans hp;injection this with this;subst this;exact absurd List.mem_cons_self q1
    subst hn;rw[if_pos rfl];simp only[Option.isSome_none,Bool.false_eq_true,if_false];refine wpAny_bind (wpAny_rule ?_);split
    .rw[hp] at h
     exact wpAny_pure (wpAny_pure h)
    .refine wpAny_pure ⟨rfl,rfl,hnd.2,fun j hj=>h1 j (List.mem_cons_of_mem _ hj),fun j hj=>?_,fun j hj=>?_⟩
     .rcases h2 j hj with z|z|z
      .rcases List.mem_cons.mp z with rfl|z
       .exact .inr (.inr rfl)
       .exact .inl z
      .exact .inr (.inl z)
      .cases z
     .injection hj with hj
      subst hj;exact⟨hnd.1,_,hxk⟩
   .rw[decide_eq_false hkk]
    simp only[Bool.false_eq_true,if_false];refine wpAny_bind (wpAny_rule ?_);have step:(fun(b:Option (Option Nat)×Option Nat) (s'':Shared)=>s''=s'/\b.1=none/\rest.Nodup/\(∀j∈rest,j∈pl)/\(∀j∈pl,j∈rest\/(∀p,xs[j]? ≠ some (k,p))\/b.2=some j)/\∀j,b.2=some j->j∉rest/\∃p,xs[j]? = some (k,p)) (none,hit) s':=by
     refine⟨rfl,rfl,hnd.2,fun j hj=>h1 j (List.mem_cons_of_mem _ hj),fun j hj=>?_,fun j hj=>?_⟩
     .rcases h2 j hj with z|z
      .rcases List.mem_cons.mp z with rfl|z
       .exact .inr (.inl fun p e=>by rw[hy] at e; injection e with e; exact hkk (by rw[e]))
       .exact .inl z
      .exact .inr z
     .obtain⟨q1,q2⟩:=h3 j hj
      exact⟨fun z=>q1 (List.mem_cons_of_mem _ z),q2⟩
    first
     | exact wpAny_pure step
     | exact wpAny_bind (wpAny_pure (wpAny_pure step))
     | (rw[if_neg (by simp)]; exact wpAny_pure step)
     | (rw[if_neg (by simp)]; exact wpAny_bind (wpAny_pure (wpAny_pure step)))
  .rintro ⟨b1,hit⟩ s' ⟨rfl,rfl,_,h1,h2,h3⟩
   cases hit with
   | none =>
    rw[hend fun j hj=>((h2 j hj).resolve_left (by simp)).resolve_right (fun z=>nomatch z)] at h;exact wpAny_pure h
   | some j =>
    obtain⟨_,p,q2⟩:=h3 j rfl;rw[E8 he.nd q2] at h;exact wpAny_pure h
 unfold dictFind;try with_reducible refine wpAny_holding ?_
 refine wpAny_bind (wpAny_dictEntries ho hd ?_);dsimp only;rw[hP];cases key with
 | str x t =>
  dsimp only;refine G9 ?_ ?_
  .have hkx:=K.str hkey
   subst hkx;have hfi:es.findIdx? (·.key.isStr x)=BU xs (.str x):=by
    have e1:es.findIdx? (·.key.isStr x)=es.toList.findIdx? (·.key.isStr x):=by obtain⟨l⟩:=es; simp
    rw[e1,he.es,List.findIdx?_map];unfold BU;refine Nz fun y hy=>?_;have hyr:=he.rel y hy;show y.2.1.isStr x=decide (y.1=.str x);cases hk:decide (y.1=D.str x) with
    | true =>
     have e:=of_decide_eq_true hk;rw[e] at hyr;obtain⟨t',e'⟩:=K.txt hyr;rw[e'];exact beq_self_eq_true x
    | false =>
     cases hv:y.2.1 with
     | str z t' =>
      rw[hv] at hyr;have:=K.str hyr;rw[this] at hk;have hne:¬z=x:=fun e=>by rw[e] at hk; simp at hk
      exact beq_eq_false_iff_ne.mpr hne
     | _=>rfl
   unfold foundByValue;rw[hfi];cases hpq:BU xs (.str x) with
   | none=>rw[hpq] at h; exact wpAny_pure h
   | some i =>
    rw[hpq] at h;unfold BU at hpq;obtain⟨hlt,hi,_⟩:=List.findIdx?_eq_some_iff_getElem.mp hpq;have hy:xs[i]? = some xs[i]:=List.getElem?_eq_getElem hlt;dsimp only;rw[hmem i _ hy];refine wpAny_bind (wpAny_dictEpoch ho hd (wpAny_bind (K.eq (he.rel _ (List.getElem_mem hlt)) hkey P w E _ (wpAny_bind (wpAny_dictEpoch ho hd ?_)))));show wpAny _ _ (if (ep != ep)=true then _ else _) _ E _;rw[if_neg (by simp),hi];exact wpAny_bind (wpAny_rule (wpAny_pure h))
  .exact G9 old (G9 (wpAny_bind (wpAny_pure (body _ hst false rfl))) (wpAny_bind (Hm K hkey hst (body _ hst false rfl))))
 | ref a =>
  dsimp only;refine G9 old ?_;rw[if_neg (hany a rfl)];exact G9 (wpAny_bind (wpAny_pure (body _ hst false rfl))) (wpAny_bind (Hm K hkey hst (body _ hst false rfl)))
 | _=>exact G9 old (G9 (wpAny_bind (wpAny_pure (body _ hst false rfl))) (wpAny_bind (Hm K hkey hst (body _ hst false rfl))))
end
section
variable{P:Program}{w:World}{H:Hp}{A:Around}{E:Value->Shared->Prop}{s:Shared}{a:Addr}{kvs:List (D×V)}{k:D}{y v:V}{u r:Value}
noncomputable def KU(H:Hp)(d:D)(u:Value):Prop:=Sh 8 d/\∃y,KR H y d/\RelV y u
theorem KU.rel(hok:HOk P w H s.heap)(hu:A.units+8<cLine):KeyRel P w A s (KU H) where
 eq:=fun⟨h1,y1,k1,r1⟩ ⟨_,y2,k2,r2⟩=>by
  rw[<- Qs k1 k2];exact Ic (N:=fun _=>False) (N':=fun _=>False) hok k1.rep k2.rep r1 r2 h1 hu
 quiet:=fun⟨h1,y1,k1,r1⟩ h=>k1.quiet hok r1 h1 h
 inj:=fun⟨_,y1,k1,r1⟩ ⟨_,y2,k2,r2⟩=>by
  cases r1.inj r2;exact(k1.rep (N:=fun _=>False)).inj (k2.rep (N:=fun _=>False))
 str:=fun {d x t} ⟨_,y1,k1,r1⟩=>by
  cases r1.inj (show RelV (.str x) (.str x t) from⟨t,rfl⟩);cases k1;rfl
 txt:=fun⟨_,y1,k1,r1⟩=>by
  cases k1;exact r1
noncomputable def LY(xs:List (D×Value×Value))(k:D):Option Value:=(xs.find? fun x=>decide (x.1=k)).map (·.2.2)
theorem Oh{xs:List (D×Value×Value)}{k:D}:LY xs k=(BU xs k).bind fun i=>(xs[i]?).map (·.2.2):=by
 unfold LY BU;induction xs with
 | nil=>rfl
 | cons x xs ih =>
  rw[List.find?_cons,List.findIdx?_cons];by_cases h:x.1=k
  .simp[h]
  .simp only[decide_eq_false h,Bool.false_eq_true,if_false]
   rw[ih];cases xs.findIdx? fun x=>decide (x.1=k)<;>rfl
structure RawG (w:World) (H:Hp) (h:Heap) (a:Addr) (kvs:List (D×V)) (o:Obj) (es:Array DictEntry) (ep:Nat) (xs:List (D×Value×Value)):Prop where
 sz:kvs.length<=sizeLine
 nm:(a==sysModules)=false
 pr:Paired (fun(p:D×V) (q:D×Value×Value)=>p.1=q.1/\RelV p.2 q.2.2) kvs xs
 ob:h.get? a=some o
 ex:o.ExactDict
 dt:o.data=.dict es ep
 en:EntG w (KU H) es xs
theorem RawG.of(x:BB P w H s.heap a (.dT kvs)):∃o es ep xs,RawG w H s.heap a kvs o es ep xs:=by
 obtain⟨z,y,xs,r,o,es,ep,h1,h2,h3,h4,h5⟩:=x;refine⟨o,es,ep,xs,z,y,Paired.mapP r fun _ _ q=>⟨q.1,q.2.2⟩,h1,h2,h3,h4,?_,h5⟩;clear h4 h5 z;induction r with
 | nil=>intro x hx; exact nomatch hx
 | @cons p q ps qs hq t ih =>
  intro x hx;rcases List.mem_cons.mp hx with e|hx
  .subst e; rw[<- hq.1]; exact hq.2.1
  .exact ih x hx
theorem RawG.back{h':Heap}{kvs:List (D×V)}{o:Obj}{es:Array DictEntry}{ep:Nat}{xs:List (D×Value×Value)}(x:RawG w H h' a kvs o es ep xs):BB P w H h' a (.dT kvs):=by
 refine⟨x.sz,x.nm,xs,?_,o,es,ep,x.ob,x.ex,x.dt,x.en.es,x.en.nd⟩;have h:=x.en.rel;have q:=x.pr;clear x;induction q with
 | nil=>exact .nil
 | @cons p q ps qs hq t ih=>exact .cons ⟨hq.1,by rw[hq.1]; exact h q List.mem_cons_self,hq.2⟩ (ih fun z hz=>h z (List.mem_cons_of_mem _ hz))
theorem OQ{kvs:List (D×V)}{xs:List (D×Value×Value)}(q:Paired (fun(p:D×V) (q:D×Value×Value)=>p.1=q.1/\RelV p.2 q.2.2) kvs xs)(k:D):Ja ((kvs.find? fun kv=>decide (kv.1=k)).map (·.2)) (LY xs k):=by
 unfold LY;induction q with
 | nil=>exact True.intro
 | @cons p q ps qs h t ih =>
  rw[List.find?_cons,List.find?_cons];by_cases e:p.1=k
  .rw[decide_eq_true e,decide_eq_true (h.1.symm.trans e)]; exact h.2
  .rw[decide_eq_false e,decide_eq_false fun z=>e (h.1.trans z)]; exact ih
theorem UE(hok:HOk P w H s.heap)(hu:A.units+8<cLine){o:Obj}{es ep xs}(g:RawG w H s.heap a kvs o es ep xs)(hk:KU H k u){Q:Option Value->Shared->Prop}(h:∀tk,Q (LY xs k) { s with toks:=tk }):
  wpAny (model P w) A (dictGet a u) Q E s:=by
 obtain⟨hs,y,ky,ry⟩:=hk;unfold dictGet;try with_reducible refine wpAny_holding ?_
 refine wpAny_bind (ky.hash hok ry hs hu fun tk=>wpAny_bind (Qx (s:={ s with toks:=tk }) (KU.rel hok hu) ⟨hs,y,ky,ry⟩ g.ob g.dt g.en ?_));have h:=h tk;rw[Oh] at h;cases hp:BU xs k with
 | none=>rw[hp] at h; exact wpAny_pure h
 | some i =>
  rw[hp] at h;refine wpAny_bind (wpAny_dictEntries (s:={ s with toks:=tk }) g.ob g.dt ?_);refine wpAny_pure ?_;rw[g.en.at];have e:Option.map (·.val) (Option.map (II w) xs[i]?)=Option.map (·.2.2) xs[i]?:=by cases xs[i]? <;> rfl
  rw[e];exact h
noncomputable def LL(xs:List (D×Value×Value))(k:D)(u v:Value):List (D×Value×Value):=if (BU xs k).isSome then xs.map fun x=>if x.1=k then (x.1,x.2.1,v) else x else xs++[(k,u,v)]
theorem PO{kvs:List (D×V)}{xs:List (D×Value×Value)}(q:Paired (fun(p:D×V) (q:D×Value×Value)=>p.1=q.1/\RelV p.2 q.2.2) kvs xs):(kvs.any fun kv=>decide (kv.1=k))=(BU xs k).isSome:=by
 unfold BU;induction q with
 | nil=>rfl
 | @cons p q ps qs h t ih =>
  rw[List.any_cons,List.findIdx?_cons,h.1];by_cases e:q.1=k
  .simp[e]
  .rw[decide_eq_false e,Bool.false_or,ih]; simp
theorem NK{xs:List (D×Value×Value)}(hn:(xs.map (·.1)).Nodup){j:Nat}{p:Value×Value}(hj:xs[j]? = some (k,p)):(xs.map (II w)).modify j (fun e=>{ e with val:=r })=(xs.map fun x=>if x.1=k then (x.1,x.2.1,r) else x).map (II w):=by
 induction xs generalizing j with
 | nil=>simp at hj
 | cons x rest ih =>
  rw[List.map_cons,List.nodup_cons] at hn;cases j with
  | zero =>
   simp only[List.getElem?_cons_zero,Option.some.injEq] at hj;subst hj;have e:rest.map (fun x=>if x.1=k then (x.1,x.2.1,r) else x)=rest:=by
    refine(List.map_congr_left (g:=id) fun y hy=>?_).trans (List.map_id _);rw[if_neg fun e=>hn.1 (List.mem_map.mpr ⟨y,hy,e⟩)];rfl
   rw[List.map_cons,List.map_cons,List.map_cons,e,if_pos rfl];rfl
  | succ j =>
   simp only[List.getElem?_cons_succ] at hj;have hne:¬x.1=k:=fun e=>hn.1 (List.mem_map.mpr ⟨(k,p),List.mem_of_getElem? hj,e.symm⟩);rw[List.map_cons,List.map_cons,List.map_cons,if_neg hne,<- ih hn.2 hj];rfl
theorem WI{kvs:List (D×V)}{xs:List (D×Value×Value)}(q:Paired (fun(p:D×V) (q:D×Value×Value)=>p.1=q.1/\RelV p.2 q.2.2) kvs xs)(rv:RelV v r):
  Paired (fun(p:D×V) (q:D×Value×Value)=>p.1=q.1/\RelV p.2 q.2.2) (if (kvs.any fun kv=>decide (kv.1=k))=true then kvs.map (fun kv=>if kv.1=k then (kv.1,v) else kv) else kvs++[(k,v)]) (LL xs k u r):=by
 unfold LL;rw[PO q];cases (BU xs k).isSome with
 | true =>
  rw[if_pos rfl,if_pos rfl];induction q with
  | nil=>exact .nil
  | @cons p q ps qs h t ih =>
   refine .cons ?_ ih;dsimp only;by_cases e:p.1=k
   .rw[if_pos e,if_pos (h.1.symm.trans e)]; exact⟨h.1,rv⟩
   .rw[if_neg e,if_neg fun z=>e (h.1.trans z)]; exact h
 | false =>
  rw[if_neg Bool.false_ne_true,if_neg Bool.false_ne_true];induction q with
  | nil=>exact .cons ⟨rfl,rv⟩ .nil
  | cons h t ih=>exact .cons h ih
theorem KU.up{H':Hp}(ht:∀b xs,H b=some (.tup xs)->H' b=some (.tup xs)){d:D}{u:Value}(h:KU H d u):KU H' d u:=⟨h.1,h.2.imp fun y z=>⟨z.1.mono ht,z.2⟩⟩
theorem Yl(hok:HOk P w H s.heap)(hu:A.units+8<cLine){o:Obj}{es ep xs}(g:RawG w H s.heap a kvs o es ep xs)(hk:KU H k u){Q:Unit->Shared->Prop}(h:∀h' tk o' es' ep',h'.get? a=some o'->o'.ExactDict->o'.data=.dict es' ep'->EntG w (KU H) es' (LL xs k u r)->Heap.SameBut a s.heap h'->Q () { s with heap:=h',toks:=tk }):
  wpAny (model P w) A (dictSet a u r) Q E s:=by
 obtain⟨hs,y,ky,ry⟩:=hk;have hz:es.size<=sizeLine:=by rw[g.en.size,<- Paired.length g.pr]; exact g.sz
 unfold dictSet;try with_reducible refine wpAny_holding ?_
 refine wpAny_bind (ky.hash hok ry hs hu fun tk=>?_);unfold dictSetHashed;try with_reducible refine wpAny_holding ?_
 refine wpAny_bind (Qx (s:={ s with toks:=tk }) (KU.rel hok hu) ⟨hs,y,ky,ry⟩ g.ob g.dt g.en ?_);cases hp:BU xs k with
 | none =>
  have ee:LL xs k u r=xs++[(k,u,r)]:=by unfold LL; rw[hp]; rfl
  have hnot:k∉xs.map (·.1):=fun hm=>by
   unfold BU at hp;rw[List.findIdx?_eq_none_iff] at hp;obtain⟨x,hx,e⟩:=List.mem_map.mp hm;have:=hp x hx;rw[decide_eq_true e] at this;cases this
  refine wpAny_bind (wpAny_rule (wpAny_updateDictKeys (hz:=hz) (s:={ s with toks:=tk }) g.ob g.dt (h _ _ _ _ _ (Heap.get?_update_self _ g.ob (Obj.isFreed_of_dict (Obj.data_mapDictKeys g.dt _))) (g.ex.mapDictKeys _) (Obj.data_mapDictKeys g.dt _) ⟨?_,?_,?_⟩ (Heap.SameBut.update ..))))
  .rw[ee,Array.toList_push,g.en.es,List.map_append]; rfl
  .rw[ee]
   intro x hx;rcases List.mem_append.mp hx with hx|hx
   .exact g.en.rel x hx
   .simp only[List.mem_singleton] at hx
    subst hx;exact⟨hs,y,ky,ry⟩
  .rw[ee,List.map_append,List.nodup_append]
   refine⟨g.en.nd,by simp,fun x hx z hz' e=>?_⟩;simp only[List.map_cons,List.map_nil,List.mem_singleton] at hz';subst hz';exact hnot (e ▸ hx)
 | some j =>
  have ee:LL xs k u r=xs.map fun x=>if x.1=k then (x.1,x.2.1,r) else x:=by unfold LL; rw[hp]; rfl
  have hj:∃p,xs[j]? = some (k,p):=by
   unfold BU at hp;obtain⟨hlt,hi,_⟩:=List.findIdx?_eq_some_iff_getElem.mp hp;exact⟨xs[j].2,by rw[List.getElem?_eq_getElem hlt,<- of_decide_eq_true hi]⟩
  obtain⟨p,hj⟩:=hj;refine wpAny_bind (wpAny_rule (wpAny_bind (wpAny_updateDict (s:={ s with toks:=tk }) g.ob g.dt (wpAny_point (h _ _ _ _ _ (Heap.get?_update_self _ g.ob (Obj.isFreed_of_dict (Obj.data_mapDict g.dt _))) (g.ex.mapDict _) (Obj.data_mapDict g.dt _) ⟨?_,?_,?_⟩ (Heap.SameBut.update ..))))))
  .rw[ee,<- NK g.en.nd hj,<- g.en.es]
   obtain⟨l⟩:=es;simp
  .rw[ee]
   intro x hx;obtain⟨z,hz',rfl⟩:=List.mem_map.mp hx;split
   .exact g.en.rel z hz'
   .exact g.en.rel z hz'
  .rw[ee,List.map_map]
   have e:(fun x:D×Value×Value=>x.1) ∘ (fun x=>if x.1=k then (x.1,x.2.1,r) else x)=fun x=>x.1:=by
    funext x;dsimp only[Function.comp];split<;>rfl
   rw[e];exact g.en.nd
theorem RawG.ty{o:Obj}{es ep xs}(g:RawG w H s.heap a kvs o es ep xs):s.TypeIs (.ref a) "dict" := ⟨o,g.ob,g.ex.1⟩
theorem lt8{n c:Nat}(h:n+10<c):n+1+8<c:=by lia
theorem YI(hok:HOk P w H s.heap)(hu:A.units+10<cLine){o:Obj}{es ep xs}(g:RawG w H s.heap a kvs o es ep xs)(hk:KU H k u){Q:Bool->Shared->Prop}(h:∀tk,Q (LY xs k).isSome { s with toks:=tk }):
  wpAny (model P w) A (contains (.ref a) u) Q E s:=by
 unfold contains;try with_reducible refine wpAny_holding ?_
 refine wpAny_bind (wpAny_specialOf g.ty slot_dict_contains.lookup ?_);show wpAny _ _ (if (some (Value.builtin "dict.__contains__")==some Value.none)=true then _ else _) _ E s;rw[if_neg (by rw[beq_builtin_none]; exact Bool.false_ne_true)];refine wpAny_bind (wpAny_callSpecialUnlessNone?_slot (name:=Str.ofString "__contains__") g.ty slot_dict_contains (wpAny_call_entry slot_dict_contains g.ty entry_dict_contains ?_ (args_dict_contains _ _)));show wpAny _ _ (dictGet a u >>= _) _ _ s;refine wpAny_bind (UE (A:=A.in1) hok (lt8 hu) g hk fun tk=>?_);have h:=h tk;cases hf:LY xs k with
 | some p =>
  rw[hf] at h;show wpAny _ _ (ret (.bool true)) _ _ _;exact wpAny_pure ⟨_,rfl,wpAny_truthy_bool h⟩
 | none =>
  rw[hf] at h;show wpAny _ _ (Builtin.Dict.pendingKey? a u >>= _) _ _ _;exact wpAny_bind (wpAny_pendingKey_other g.nm (wpAny_pure ⟨_,rfl,wpAny_truthy_bool h⟩))
theorem Vv(hok:HOk P w H s.heap)(hu:A.units+10<cLine){o:Obj}{es ep xs}(g:RawG w H s.heap a kvs o es ep xs)(hk:KU H k u)(hv:LY xs k=some r){Q:Value->Shared->Prop}(h:∀tk,Q r { s with toks:=tk }):
  wpAny (model P w) A (getItem (.ref a) u) Q E s:=by
 unfold getItem;try with_reducible refine wpAny_holding ?_
 refine wpAny_bind (wpAny_sequenceKey g.ty (by decide) ?_);refine wpAny_bind (wpAny_callSpecial?_slot (name:=Str.ofString "__getitem__") g.ty slot_dict_getitem (wpAny_call_entry slot_dict_getitem g.ty entry_dict_getitem ?_ (args_dict_getitem _ _)));show wpAny _ _ (dictGet a u >>= _) _ _ s;refine wpAny_bind (UE (A:=A.in1) hok (lt8 hu) g hk fun tk=>?_);rw[hv];exact wpAny_pure ⟨r,rfl,wpAny_pure (h tk)⟩
theorem Ua(hok:HOk P w H s.heap)(hu:A.units+10<cLine){o:Obj}{es ep xs}(g:RawG w H s.heap a kvs o es ep xs)(hk:KU H k u){Q:Unit->Shared->Prop}(h:∀h' tk o' es' ep',h'.get? a=some o'->o'.ExactDict->o'.data=.dict es' ep'->EntG w (KU H) es' (LL xs k u r)->Heap.SameBut a s.heap h'->Q () { s with heap:=h',toks:=tk }):
  wpAny (model P w) A (setItem (.ref a) u r) Q E s:=by
 unfold setItem;try with_reducible refine wpAny_holding ?_
 refine wpAny_bind (wpAny_sequenceKey g.ty (by decide) ?_);refine wpAny_bind (wpAny_callSpecial?_slot (name:=Str.ofString "__setitem__") g.ty slot_dict_setitem (wpAny_call_entry slot_dict_setitem g.ty entry_dict_setitem ?_ (args_dict_setitem _ _ _)));show wpAny _ _ (Builtin.Dict.notOrdered "__setitem__" ⟨[.ref a,u,r],[]⟩ >>= _) _ _ s;refine wpAny_bind (wpAny_notOrdered_dict g.ty ?_);show wpAny _ _ (dictSet a u r >>= _) _ _ s;exact wpAny_bind (Yl (A:=A.in1) hok (lt8 hu) g hk fun h' tk o' es' ep' e1 e2 e3 e4 e5=>wpAny_pure ⟨.none,rfl,wpAny_pure (h h' tk o' es' ep' e1 e2 e3 e4 e5)⟩)
end
section
variable{κ:Type}[DecidableEq κ]
noncomputable def HY(kvs:List (κ×V))(k : κ):Option V:=(kvs.find? fun kv=>decide (kv.1=k)).map (·.2)
noncomputable def putK(kvs:List (κ×V))(k : κ)(v:V):List (κ×V):=
 if (kvs.any fun kv=>decide (kv.1=k))=true then kvs.map (fun kv=>if kv.1=k then (kv.1,v) else kv) else kvs++[(k,v)]
theorem Sm{p : κ×V}{r:List (κ×V)}{k : κ}(e:p.1=k):HY (p::r) k=some p.2:=by simp[HY,List.find?_cons,e]
theorem Sl{p : κ×V}{r:List (κ×V)}{k : κ}(e:¬p.1=k):HY (p::r) k=HY r k:=by simp[HY,List.find?_cons,e]
theorem Gz(kvs:List (κ×V))(k : κ)(v:V):(putK kvs k v).length<=kvs.length+1:=by
 unfold putK;split
 .rw[List.length_map]; lia
 .rw[List.length_append,List.length_cons,List.length_nil]; lia
theorem Ja.isSome_eq{o:Option V}{u:Option Value}(r:Ja o u):o.isSome=u.isSome:=by
 cases o with
 | none=>cases u with
  | none=>rfl
  | some _=>exact(show False from r).elim
 | some _=>cases u with
  | none=>exact(show False from r).elim
  | some _=>rfl
theorem KV.val{kvs:List (κ×V)}{vs:List (κ×Value)}(r:KV kvs vs)(k : κ):Ja (HY kvs k) (valueAt vs k):=by
 unfold KV at r;induction r with
 | nil=>exact True.intro
 | @cons p q ps qs h t ih =>
  obtain⟨h1,h2⟩:=h;by_cases e:p.1=k
  .have e':q.1=k:=h1.symm.trans e
   have b:valueAt (q::qs) k=some q.2:=by simp[valueAt,List.find?_cons,e']
   rw[Sm e,b]; exact h2
  .have e':¬q.1=k:=fun z=>e (h1.trans z)
   have b:valueAt (q::qs) k=valueAt qs k:=by simp[valueAt,List.find?_cons,e']
   rw[Sl e,b]; exact ih
theorem KV.any{kvs:List (κ×V)}{vs:List (κ×Value)}(r:KV kvs vs)(k : κ):(kvs.any fun kv=>decide (kv.1=k))=vs.any fun kv=>decide (kv.1=k):=by
 unfold KV at r;induction r with
 | nil=>rfl
 | cons h t ih=>rw[List.any_cons,List.any_cons,ih,h.1]
theorem KV.repl{kvs:List (κ×V)}{vs:List (κ×Value)}(r:KV kvs vs)(k : κ){y:V}{u:Value}(ry:RelV y u):
  KV (kvs.map fun kv=>if kv.1=k then (kv.1,y) else kv) (vs.map fun kv=>if kv.1=k then (kv.1,u) else kv):=by
 unfold KV at r |-;induction r with
 | nil=>exact .nil
 | @cons p q ps qs h t ih =>
  rw[List.map_cons,List.map_cons];refine .cons ?_ ih;obtain⟨h1,h2⟩:=h;by_cases e:p.1=k
  .rw[if_pos e,if_pos (h1.symm.trans e)]; exact⟨h1,ry⟩
  .rw[if_neg e,if_neg (fun z=>e (h1.trans z))]; exact⟨h1,h2⟩
theorem KV.put{kvs:List (κ×V)}{vs:List (κ×Value)}(r:KV kvs vs)(k : κ){y:V}{u:Value}(ry:RelV y u):KV (putK kvs k y) (stored vs k u):=by
 unfold putK stored;rw[r.any k];by_cases e:(vs.any fun kv=>decide (kv.1=k))=true
 .rw[if_pos e,if_pos e]; exact r.repl k ry
 .rw[if_neg e,if_neg e]; exact Paired.snoc r ⟨rfl,ry⟩
theorem KV.keys{kvs:List (κ×V)}{vs:List (κ×Value)}(r:KV kvs vs):kvs.map (·.1)=vs.map (·.1):=by
 unfold KV at r;induction r with
 | nil=>rfl
 | cons h t ih=>rw[List.map_cons,List.map_cons,ih,h.1]
theorem KV.length{kvs:List (κ×V)}{vs:List (κ×Value)}(r:KV kvs vs):kvs.length=vs.length:=Paired.length r
end
theorem OE{P:Program}{w:World}{k:Key}{u:Value}(r:RelV (kV k) u):(Dy P w).is k u=true:=by
 cases k with
 | inl i=>obtain⟨t,e⟩:=(show ∃t,u=Value.int i t from r); subst e; exact Mz P w i t
 | inr x=>obtain⟨t,e⟩:=(show ∃t,u=Value.str x t from r); subst e; exact MB P w x t
section
variable{P:Program}{w:World}{H:Hp}{h:Heap}{a:Addr}
theorem OT{u:HO}(ok:HOk P w H h)(e:Rd H a u):BB P w H h a u:=e.ok ok
theorem Ot{kvs:List (Key×V)}(ok:HOk P w H h)(e:Rd H a (.dK kvs)):kvs.length<=sizeLine/\(a==sysModules)=false/\∃vs,KV kvs vs/\h.DictOf (Dy P w) a vs:=
 show BB P w H h a (.dK kvs) from OT ok e
theorem XM{kvs:List (Key×V)}(ok:HOk P w H h)(e:H a=some (.dK kvs)):kvs.length<=sizeLine/\(a==sysModules)=false/\∃vs,KV kvs vs/\h.DictOf (Dy P w) a vs:=Ot ok (.inl e)
end
noncomputable def HZ(H:Hp)(a:Addr)(y:V)(r:Option V):Prop:=
 (∃kvs k,Rd H a (.dK kvs)/\y=kV k/\r=HY kvs k)\/∃kvs k,Rd H a (.dT kvs)/\KR H y k/\Sh 8 k/\r=HY kvs k
noncomputable def Xy(H:Hp)(a:Addr)(y v:V)(H':Hp):Prop:=
 (∃kvs k,H a=some (.dK kvs)/\y=kV k/\kvs.length<sizeLine/\H'=upd H a (.dK (putK kvs k v)))\/∃kvs k,H a=some (.dT kvs)/\KR H y k/\Sh 8 k/\kvs.length<sizeLine/\H'=upd H a (.dT (putK kvs k v))
theorem HZ.k{H:Hp}{a:Addr}{kvs:List (Key×V)}{k:Key}(e:H a=some (.dK kvs)):HZ H a (kV k) (HY kvs k):=.inl ⟨kvs,k,.inl e,rfl,rfl⟩
section
variable{X:Cx}{pins:List (Addr×Obj)}{U:St}{H:Hp}{s:Shared}{a:Addr}{y v:V}{u r:Value}{o:Option V}{A:Around}{E:Value->Shared->Prop}
theorem Inv.big(I:Inv X pins U H s):sysModules<s.heap.objs.size:=by
 have h:mainGlobals<s.heap.objs.size:=(I.mod.glob.keeps I.bk).lt;exact Nat.lt_trans (by decide) h
theorem Pa{Q:Value->Shared->Prop}(hu:A.units+10<cLine)(I:Inv X pins U H s)(g:HZ H a y (some v))(ry:RelV y u)(h:∀w' s',Inv X pins U H s'->RelV v w'->Q w' s'):
  wpAny (model X.prog X.w) A (getItem (.ref a) u) Q E s:=by
 rcases g with ⟨kvs,k,e,ey,l⟩|g
 .subst ey
  obtain⟨z,hd,vs,rel,dd⟩:=Ot I.hok e;obtain⟨w',hw,rw'⟩:=Ja.some_of (v:=v) (o:=valueAt vs k) (by rw[l]; exact rel.val k);exact wpAny_getItem_of (OE ry) dd.mapOf hw (h w' _ (I.tok _) rw')
 .obtain⟨kvs,k,e,ky,hs,l⟩:=g
  obtain⟨ob,es,ep,xs,g⟩:=RawG.of (OT I.hok e);obtain⟨w',hw,rw'⟩:=Ja.some_of (v:=v) (o:=LY xs k) (by rw[l]; exact OQ g.pr k);exact Vv I.hok hu g ⟨hs,_,ky,ry⟩ hw fun tk=>h w' _ (I.tok _) rw'
theorem YF{Q:Value->Shared->Prop}(hu:A.units+10<cLine)(I:Inv X pins U H s)(g:HZ H a y o)(ry:RelV y u)(h:∀s',Inv X pins U H s'->Q (.bool o.isSome) s'):
  wpAny (model X.prog X.w) A (compareOp .In u (.ref a)) Q E s:=by
 rcases g with ⟨kvs,k,e,ey,l⟩|g
 .subst ey
  obtain⟨z,hd,vs,rel,dd⟩:=Ot I.hok e;refine wpAny_in_of (OE ry) hd dd.mapOf ?_;rw[<- (rel.val k).isSome_eq,<- l];exact h _ (I.tok _)
 .obtain⟨kvs,k,e,ky,hs,l⟩:=g
  obtain⟨ob,es,ep,xs,g⟩:=RawG.of (OT I.hok e);show wpAny _ _ (do return .bool (<- contains (.ref a) u)) Q E s;refine wpAny_bind (YI I.hok hu g ⟨hs,_,ky,ry⟩ fun tk=>wpAny_pure ?_);rw[<- (OQ g.pr k).isSome_eq];have h:=h { s with toks:=tk } (I.tok _);rw[l] at h;exact h
theorem Oq{h':Heap}{t':Nat}{ob:HO}(I:Inv X pins U H s)(mu:Mut (H a))(hs:Heap.SameBut a s.heap h')(he:∃q,h'.get? a=some q)(new:BB X.prog X.w (upd H a ob) h' a ob):
  Inv X pins U (upd H a ob) { s with heap:=h',toks:=t' }:=
 I.write (x:=a) (e:=a) mu (.inl rfl) (fun b q hb z=>(hs.2 b hb).trans z) he new
theorem Vi{P:Program}{w:World}{H':Hp}{h':Heap}{kvs:List (Key×V)}{vs:List (Key×Value)}(z:kvs.length<=sizeLine)(hd:(a==sysModules)=false)(rel:KV kvs vs)(dd:h'.DictOf (Dy P w) a vs):
  BB P w H' h' a (.dK kvs):=⟨z,hd,vs,rel,dd⟩
theorem Pb{H':Hp}{Q:Unit->Shared->Prop}(hu:A.units+10<cLine)(I:Inv X pins U H s)(g:Xy H a y v H')(ry:RelV y u)(rv:RelV v r)(h:∀s',Inv X pins U H' s'->Q () s'):
  wpAny (model X.prog X.w) A (setItem (.ref a) u r) Q E s:=by
 rcases g with ⟨kvs,k,e,ey,l,eH⟩|g
 .subst ey eH
  obtain⟨z,hd,vs,rel,dd⟩:=XM I.hok e;have hz:vs.length<=sizeLine:=by rw[<- rel.length]; exact z
  have hl:(putK kvs k v).length<=sizeLine:=by have:=Gz kvs k v; lia
  refine wpAny_setItem_pairs (hsz:=hz) (OE ry) dd fun h' dd' hs=>h _ ?_;have he:∃q,h'.get? a=some q:=let⟨q,_,_,hq,_⟩:=dd'; ⟨q,hq⟩;exact Oq I (by rw[e]; exact True.intro) hs he (Vi hl hd (rel.put k rv) dd')
 .obtain⟨kvs,k,e,ky,hs,l,eH⟩:=g
  subst eH;obtain⟨ob,es,ep,xs,g⟩:=RawG.of (show BB X.prog X.w H s.heap a (.dT kvs) from I.hok a _ e);have hl:(putK kvs k v).length<=sizeLine:=by have:=Gz kvs k v; lia
  refine Ua I.hok hu g ⟨hs,_,ky,ry⟩ fun h' tk o' es' ep' e1 e2 e3 e4 e5=>h _ ?_;have ht:∀b xs,H b=some (.tup xs)->upd H a (.dT (putK kvs k v)) b=some (.tup xs):=fun c ys ec=>by
   rw[AL (XW ec e (fun z=>nomatch z))];exact ec
  exact Oq I (by rw[e]; exact True.intro) e5 ⟨_,e1⟩ (RawG.back ⟨hl,g.nm,WI g.pr rv,e1,e2,e3,e4.es,fun x hx=>(e4.rel x hx).up ht,e4.nd⟩)
end
section
variable{X:Cx}{pins:List (Addr×Obj)}{U:St}{H:Hp}{s:Shared}{a:Addr}{kvs:List (Key×V)}{k:Key}{u:Value}{A:Around}{E:Value->Shared->Prop}
end
noncomputable def U7(i:Expr):Prop:=∀ov iv,subscripted i false ov iv=operate [ov,iv] (getItem ov iv)
theorem Uc{prog:Program}{w:World}{A:Around}{E:Value->Shared->Prop}{s:Shared}{env:Env}{value slice:Expr}{pos:Pos}{T id:String}{Q:Value->Shared->Prop}(hl:typeLookup (.type T) "__getitem__" = pure (some (.builtin id)))(hs:U7 slice)(h:wpAny (model prog w) A (eval value env) (fun o s₁=>wpAny (model prog w) A (eval slice env) (fun i s₂=>s₂.TypeIs o T/\wpAny (model prog w) A (getItem o i) Q E s₂) E s₁) E s):
  wpAny (model prog w) A (eval (.Subscript value slice pos) env) Q E s:=by
 refine Subscript_ (wpAny_mono h (fun o s₁ h₁=>wpAny_mono h₁ (fun i s₂ h₂=>?_) fun _ _ x=>x) fun _ _ x=>x);obtain⟨hT,h₂⟩:=h₂;unfold subscriptTail;refine wpAny_bind ?_;rw[getitemInPython_of_ne hT.not_modules];refine wpAny_bind (wpAny_specialOf hT hl ?_);have fin:wpAny (model prog w) A (subscripted slice false o i) (fun r s₃=>wpAny (model prog w) A (letTemporaryGo value o r >>= fun _=>pure r) Q E s₃) E s₂:=by
  rw[hs o i];exact wpAny_operating (wpAny_mono h₂ (fun r s₃ h₃=>wpAny_bind (wpAny_letTemporaryGo (wpAny_pure h₃))) fun _ _ x=>x)
 first
  | exact wpAny_pure (wpAny_bind fin)
  | exact wpAny_bind (wpAny_pure (wpAny_bind fin))
  | exact wpAny_bind fin
theorem Mh{X:Cx}{pins:List (Addr×Obj)}{U:St}{H:Hp}{s:Shared}{a:Addr}{y:V}{o:Option V}(I:Inv X pins U H s)(g:HZ H a y o):s.TypeIs (.ref a) "dict" := by
 rcases g with ⟨kvs,k,e,_,_⟩|g
 .obtain⟨_,_,vs,_,dd⟩:=Ot I.hok e
  exact dd.typeIs
 .obtain⟨kvs,k,e,_⟩:=g
  obtain⟨ob,es,ep,xs,g⟩:=RawG.of (OT I.hok e);exact g.ty
noncomputable def Yr(td ty:TE):TE:=fun U H Q=>td U H fun x H1=>ty U H1 fun y H2=>∃a v,x=.ref a/\HZ H2 a y (some v)/\Q v H2
noncomputable def Y2(ty td:TE):TE:=fun U H Q=>ty U H fun y H1=>td U H1 fun x H2=>∃a o,x=.ref a/\HZ H2 a y o/\Q (.bl o.isSome) H2
noncomputable def UY(td ty tv:TE):TS:=fun D U H=>tv U H fun v H1=>td U H1 fun x H2=>ty U H2 fun y H3=>∃a H4,x=.ref a/\Xy H3 a y v H4/\D.nx U H4
section
variable{X:Cx}{o i e value:Expr}{pos pos' tpos:Pos}{td ty tv:TE}
theorem To(hu:X.A.units+10<cLine)(ho:PE X o td)(hi:PE X i ty)(hs:U7 i):PE X (.Subscript o i pos) (Yr td ty):=by
 intro pins s U H Q I h;refine Uc PySem.F.slot_dict_getitem.lookup hs (thn (ho pins s U H _ I h) fun u s1 ⟨x,H1,I1,rx,q1⟩=>thn (hi pins s1 U H1 _ I1 q1) fun iv s2 yy=>?_);obtain⟨y,H2,I2,ry,a,v,ex,g,q2⟩:=yy;subst ex;obtain rfl:u=Value.ref a:=rx;exact⟨Mh I2 g,Pa hu I2 g ry fun w' s3 I3 rw'=>⟨v,H2,I3,rw',q2⟩⟩
theorem Wd(hu:X.A.units+10<cLine)(hi:PE X i ty)(ho:PE X o td):PC X .In i o (Y2 ty td):=by
 intro pins s U H Q I h;refine thn (hi pins s U H _ I h) fun iv s1 ⟨y,H1,I1,ry,q1⟩=>thn (ho pins s1 U H1 _ I1 q1) fun u s2 yy=>?_;obtain⟨x,H2,I2,rx,a,ov,ex,g,q2⟩:=yy;subst ex;obtain rfl:u=Value.ref a:=rx;exact YF hu I2 g ry fun s3 I3=>⟨.bl ov.isSome,H2,I3,rfl,q2⟩
theorem Tv(hu:X.A.units+10<cLine)(ho:PE X o td)(hi:PE X i ty)(hv:PE X value tv)(hs:swapsWith value (some (.Subscript o i pos')) pos.line X.env=pure false):
  PS X (.Assign [.Subscript o i pos'] value pos) (UY td ty tv):=by
 intro pins s U H D I h;refine wpAny_Assign_Subscript (thn (hv pins s U H _ I h) fun r s1 ⟨v,H1,I1,rv,q1⟩=>thn (ho pins s1 U H1 _ I1 q1) fun u s2 ⟨x,H2,I2,rx,q2⟩=>thn (hi pins s2 U H2 _ I2 q2) fun iv s3 yy=>?_) hs;obtain⟨y,H3,I3,ry,a,H4,ex,g,q3⟩:=yy;subst ex;obtain rfl:u=Value.ref a:=rx;exact Pb hu I3 g ry rv fun s4 I4=>⟨U,H4,I4,q3⟩
end
theorem Qr{P:Program}{w:World}{H:Hp}(h:Heap)(hb:sysModules<h.objs.size):BB P w H (h.push { cls:=.type "dict",data:=.dict #[] }) h.objs.size (.dT []):=
 ⟨Nat.zero_le _,beq_eq_false_iff_ne.mpr (Ne.symm (Nat.ne_of_lt hb)),[],.nil,_,#[],0,Heap.get?_push_size _ rfl,⟨rfl,rfl,rfl⟩,rfl,rfl,List.nodup_nil⟩
noncomputable def W6:TE:=fun _ H Q=>∀p,H p=none->Q (.ref p) (upd H p (.dT []))
section
variable{X:Cx}{pos:Pos}
theorem Ry:PE X (.Dict [] [] pos) W6:=fun pins s U H Q I h =>
 wpAny_Dict_empty ⟨.ref s.heap.objs.size,_,I.laid (a:=s.heap.objs.size) (o:=.dT []) (t':=s.toks) (fun _ _ q=>Heap.get?_push_of_some _ q) (Nat.le_refl _) (Qr s.heap I.big),rfl,h _ (I.hok.fresh (Nat.le_refl _))⟩
end
structure M1 (X:Cx) (o:Expr) (m:Str) (apos:Pos) (e:Expr) (cpos:Pos):Prop where
 base:attributeBase o m X.env (eval o X.env)=eval o X.env
 few:((backTo cpos (starEach [e] X.env)).all (fun x=>!x.1)&&(backToKw cpos (keywordEach [] X.env)).all (fun x=>x.1.isSome)
  && decide (([e]:List Expr).length+([]:List Keyword).length+(if ([]:List Keyword).isEmpty then 0 else 1)<30))=true
 line:(apos.endLine==cpos.line)=true
 trees:backTo cpos (starEach [e] X.env)=[(false,eval e X.env)]
structure M2 (X:Cx) (o:Expr) (m:Str) (apos:Pos) (e f:Expr) (cpos:Pos):Prop where
 base:attributeBase o m X.env (eval o X.env)=eval o X.env
 few:((backTo cpos (starEach [e,f] X.env)).all (fun x=>!x.1)&&(backToKw cpos (keywordEach [] X.env)).all (fun x=>x.1.isSome)
  && decide (([e,f]:List Expr).length+([]:List Keyword).length+(if ([]:List Keyword).isEmpty then 0 else 1)<30))=true
 line:(apos.endLine==cpos.line)=true
 trees:backTo cpos (starEach [e,f] X.env)=[(false,eval e X.env),(false,eval f X.env)]
section
variable{X:Cx}{pins:List (Addr×Obj)}{U:St}{H:Hp}{s:Shared}{a:Addr}{y d:V}{u r:Value}{o:Option V}{A:Around}{E:Value->Shared->Prop}
end
section
variable{X:Cx}{o e f:Expr}{apos cpos:Pos}{td ty tx:TE}
end
section
variable{X:Cx}{pins:List (Addr×Obj)}{U:St}{H:Hp}{s:Shared}{a:Addr}{kvs:List (Key×V)}{A:Around}{E:Value->Shared->Prop}
end
section
variable{X:Cx}{pins:List (Addr×Obj)}{U:St}{H:Hp}{s:Shared}{a:Addr}{y:V}{u:Value}{A:Around}{E:Value->Shared->Prop}
end
section
variable{X:Cx}
end
section
variable{X:Cx}
noncomputable def K4(K:Frag)(H:Hp):List V->List (Key×V)->Prop:=Paired fun v u=>∃t,v=.ref t/\SqT K H t [kV u.1,u.2]
noncomputable def UT(K:Frag):List V->Hp->VK->Prop:=fun xs H Q=>∃(p:Addr) (vs:List V) (us:List (Key×V)),xs=[.ref p]/\SqL K H p vs/\K4 K H vs us/\(us.map (·.1)).Nodup/\∀l,H l=none->Q (.ref l) (upd H l (.dK us))
theorem NY{pins:List (Addr×Obj)}{U:St}{H:Hp}{s:Shared}(I:Inv X pins U H s){vs:List V}{us:List (Key×V)}(hp:K4 X.K H vs us):∃kvs:List (Key×Value),KV us kvs/\∀(i:Nat) v (h:i<kvs.length),vs[i]? = some v->∃t key,v=.ref t/\(Dy X.prog X.w).is (kvs[i]).1 key=true/\IsTup s.heap t #[key,(kvs[i]).2]:=by
 induction hp with
 | nil=>exact⟨[],.nil,fun i v h=>by simp at h⟩
 | @cons v u vs us r t ih =>
  obtain⟨kvs,h1,h2⟩:=ih;obtain⟨tp,rfl,hq⟩:=r;obtain⟨its,rv,ht,_⟩:=I.tuple hq;obtain⟨k',u',rfl,rk,ru⟩:=rv.two;refine⟨(u.1,u')::kvs,.cons ⟨rfl,ru⟩ h1,fun i w h e=>?_⟩;cases i with
  | zero =>
   simp at e;subst e;exact⟨tp,k',rfl,OE rk,ht⟩
  | succ i=>exact h2 i w (by simpa using h) (by simpa using e)
theorem Nt(hc:X.calm=true):Cv X (.type "dict") (UT X.K):=by
 intro pins s U H xs us' Q I r h;obtain⟨p,vs,us,rfl,hq,hp,nd,q⟩:=h;obtain⟨u,rfl,ru⟩:=r.one;cases ru;obtain⟨its,rv,pl,hz⟩:=I.list hq;obtain⟨kvs,hkv,hall⟩:=NY I hp;have l1:vs.length=us.length:=hp.length;have l2:us.length=kvs.length:=hkv.length;have l3:=rv.length;obtain⟨ol,nl,hol,hcl,hdd,hdl⟩:=pl;have keys:kvs.map (·.1)=us.map (·.1):=hkv.keys.symm;have key:∀(i:Nat) (h:i<kvs.length),∃t key,vs[i]? = some (.ref t)/\its.toArray[i]? = some (.ref t)/\(Dy X.prog X.w).is (kvs[i]).1 key=true/\IsTup s.heap t #[key,(kvs[i]).2]:=fun i h=>by
  have hv:vs[i]? = some (vs[i]'(by lia)):=by simp
  obtain⟨t,key,e1,e2,e3⟩:=hall i _ h hv;obtain⟨u,hu,ru⟩:=rv.get hv;rw[e1] at hv ru;cases ru;exact⟨t,key,hv,by simpa using hu,e2,e3⟩
 refine JD.call (knd:=Dy X.prog X.w) (kvs:=kvs) (items:=its.toArray) (I.ok.hd hc) hol hcl hdl hdd (by lia) (by rw[keys]; exact nd) (by simp; lia) (fun i=>match vs[i]? with|some (.ref t)=>t|_=>0) (fun i h=>?_) (fun i h=>?_) fun h' tk' hd hk=>?_
 .obtain⟨t,key,e1,e2,e3,e4⟩:=key i h
  rw[e1];exact e2
 .obtain⟨t,key,e1,e2,e3,e4⟩:=key i h
  rw[e1];exact⟨key,e3,e4⟩
 .have hS:(s.heap.objs.size==sysModules)=false:=by
   have:=I.big;have hne:s.heap.objs.size≠sysModules:=fun z=>by rw[z] at this; exact Nat.lt_irrefl _ this
   simpa using hne
  have hlz:us.length<=sizeLine:=by lia
  refine⟨.ref s.heap.objs.size,_,I.laid (t':=tk') (o:=.dK us) hk (Nat.le_refl _) ?_,rfl,q _ (I.hok.fresh (Nat.le_refl _))⟩;exact⟨hlz,hS,kvs,hkv,hd⟩
end
end L2
namespace J
open PySem PySem.Spec PyProof.Rows L2
section
variable{X:Cx}{a b c e:Expr}{es:List Expr}{m m1 m2 m3:ME}{ms:MA}{p pos pos' p2 apos cpos q npos:Pos}{x:Str}
variable{K:Frag}{N:Addr->Prop}{H:Hp}{U:L2.St}{v:V}{L:List Addr}
noncomputable def Lo:D->Option Key
 | .int i=>some (.inl i)
 | .str z=>some (.inr z)
 | .non | .bl _ | .lst _ | .tup _=>none
noncomputable def Hf:List D->Option (List (Key×D))
 | []=>some []
 | .tup [k,d]::ds=>(Lo k).bind fun k=>(Hf ds).map ((k,d) :: ·)
 | _::_=>none
noncomputable def Mg:List A->Option A:=on1 fun a=>(Dq a).bind fun ds=>(Hf ds).bind fun kvs=>if (kvs.map (·.1)).Nodup then some (.dic kvs) else none
theorem Q2{d:D}{k:Key}(r:RepA N H v d)(e:Lo d=some k):v=kV k:=by
 cases d with
 | int i=>simp only[Lo,Option.some.injEq] at e; subst e; cases r; rfl
 | str z=>simp only[Lo,Option.some.injEq] at e; subst e; cases r; rfl
 | _=>simp[Lo] at e
theorem Rv:∀{vs:List V} {ds:List D} {kvs:List (Key×D)},Aw N H vs ds->Hf ds=some kvs->∃us:List (Key×V),K4 K H vs us/\Paired (fun(u:Key×V) (k:Key×D)=>u.1=k.1/\RepA N H u.2 k.2) us kvs:=by
 intro _l;induction _l with
 | nil =>
  intro _m;cases _m with
  | nil =>
   intro kvs _ e;simp only[Hf,Option.some.injEq] at e;subst e;exact⟨[],.nil,.nil⟩
  | cons _ _ =>
   intro _ q _;simp only[Aw] at q
 | cons v vs ih =>
  intro _m;cases _m with
  | nil =>
   intro _ q _;simp only[Aw] at q
  | cons d ds =>
   intro kvs q e;unfold Hf at e;split at e
   .rename_i h; cases h
   .rename_i k' d' ds' h
    cases h;simp only[bind_eq_some_iff,map_eq_some_iff] at e;obtain⟨k,e1,kvs',e2,rfl⟩:=e;obtain⟨us,h1,h2⟩:=ih q.2 e2;have q1:=q.1;cases q1 with
    | @tup a ws _ hh hz hl hr =>
     obtain⟨w1,w2,rfl⟩:=Q5 hl;have r1:=hr 0 w1 k' rfl rfl;have r2:=hr 1 w2 d' rfl rfl;have ek:=Q2 r1 e1;refine⟨(k,w2)::us,.cons ⟨a,rfl,.inl (.inl ?_)⟩ h1,.cons ⟨rfl,r2⟩ h2⟩;rw[hh,ek]
   .cases e
theorem MV{us:List (Key×V)}{kvs:List (Key×D)}(hp:Paired (fun(u:Key×V) (k:Key×D)=>u.1=k.1/\RepA N H u.2 k.2) us kvs):us.map (·.1)=kvs.map (·.1):=by
 induction hp with
 | nil=>rfl
 | cons r t ih=>rw[List.map_cons,List.map_cons,r.1,ih]
theorem Td:OpN K Mg (UT K):=by
 intro N H xs as b Q hs e k
 replace e:=Fs e
 obtain⟨a,rfl,e⟩:=e;simp only[bind_eq_some_iff] at e;obtain⟨ds,e1,kvs,e2,e3⟩:=e;split at e3
 .rename_i hn
  cases e3;obtain⟨x,L1,rfl,h1⟩:=DU hs;obtain⟨p,vs,rfl,hp,hz,q⟩:=Fq h1 e1;obtain⟨us,g1,g2⟩:=Rv (K:=K) q e2;refine⟨p,vs,us,rfl,.inl (.inl hp),g1,by rw[MV g2]; exact hn,fun l hl=>k _ _ ?_⟩
  have sm:=BV (o:=.dK us) hl;refine⟨sm,[l],?_,by simp,fun b hb=>by simp at hb; rw[hb]; exact hl⟩;rw[Au];have hlen:us.length<=sizeLine:=by
   have:=Paired.length g1;lia
  refine⟨l,us,rfl,rfl,AQ,hlen,Paired.mapQ g2 fun u kd r=>⟨r.1,r.2.tr (M:=fun _=>False) (fun _ z=>z.elim) (Gf.kept sm) fun b z=>?_⟩⟩;rcases z with z|z
  .exact .inl z
  .simp at z; subst z; exact .inr hl
 .cases e3
noncomputable def Qd(kvs:List (Key×D))(k:Key):Option D:=(kvs.find? fun kv=>decide (kv.1=k)).map (·.2)
theorem Xv{k:Key}{us:List (Key×V)}{kvs:List (Key×D)}(hp:Paired (fun(u:Key×V) (k:Key×D)=>u.1=k.1/\RepA N H u.2 k.2) us kvs){d:D}(e:Qd kvs k=some d):∃v,HY us k=some v/\RepA N H v d:=by
 induction hp with
 | nil=>simp[Qd] at e
 | @cons u kd us kvs r t ih =>
  simp only[Qd,HY,List.find?_cons] at e |-;by_cases h:kd.1=k
  .have h':u.1=k:=r.1.trans h
   simp only[h,decide_true,Option.map_some,Option.some.injEq] at e;simp only[h',decide_true,Option.map_some,Option.some.injEq,exists_eq_left'];subst e;exact r.2
  .have h':¬u.1=k:=fun z=>h (r.1.symm.trans z)
   simp only[h,decide_false] at e;simp only[h',decide_false];exact ih e
noncomputable def Pc:List A->Option A:=on2 fun q1 q2=>(Hx q1).bind fun kvs=>(fzU q2).bind fun d=>(Lo d).bind fun k=>(Qd kvs k).map A.fz
theorem VY:OpN K Pc (r2L fun x y H Q=>∃a v,x=.ref a/\HZ H a y (some v)/\Q v H):=by
 intro N H xs as b Q hs e k
 replace e:=Co e
 obtain⟨q1,q2,rfl,e⟩:=e
 replace e:=bind_eq_some_iff.mp e
 obtain⟨kvs,eq1,e⟩:=e;cases SH eq1;clear eq1
 replace e:=bind_eq_some_iff.mp e
 obtain⟨d,eq2,e⟩:=e;cases Ji eq2;clear eq2;simp only[bind_eq_some_iff,map_eq_some_iff] at e;obtain⟨ky,e1,d',e2,rfl⟩:=e;obtain⟨x,y,L1,L2,rfl,h1,h2⟩:=Bm hs;rw[Au] at h1;obtain⟨a,us,rfl,rfl,ha,hz,hp⟩:=h1;obtain⟨_,h2⟩:=D7.mp h2;cases Q2 h2 e1;obtain⟨v,hv,rv⟩:=Xv hp e2;refine⟨_,_,rfl,a,v,rfl,?_,k _ _ (F1 rv)⟩;rw[<- hv];exact HZ.k ha
theorem Vz{k:Nat}(hr:Room k X.A)(hs:U7 b)(ha:JE X a m1)(hb:JE X b m2):JE X (.Subscript a b pos) (opM Pc (m2L m1 m2)):=by
 refine AJ (To (Ox hr) ha hb hs) fun U H Q h=>?_;exact tE.mono (two VY h) fun x H1 h1=>tE.mono h1 fun y H2 h2=>h2
end
section
variable{P:Program}{w:World}{K:Frag}{mg:Str->Option Value}{base:Heap}
theorem A0{x qual:Str}{st:Stmt}{f:Addr}{fd:FuncData}{N ps:List Str}{k:Nat}{m:MS}(F:Fun K x qual st f fd)(S:FnScope N ps (Bf st))(hb:∀(cdv:Value) (A:Around) (outer:List Env) (s:Shared) (H:Hp) (E:XK),Room k (A.deeper (envOfC qual (Bf st) s.heap.objs.size f cdv))->JSs (Me CX0 P w K mg base N qual (Bf st) f cdv A outer s H E).nox (CT st) m):
  FnOk P w K mg base CX0 (k+1) f fd ps (spJ K (fnM ps.length N.length m) ps.length):=by
 refine F.ok S (fun vs H Q E h=>?_) fun cdv A outer s H vs Q E hr h=>⟨_,hb cdv A outer s H E hr,?_⟩
 .obtain⟨_,_,_,h,_⟩:=h
  exact h
 .have hl:vs.length=ps.length:=by
   obtain⟨_,_,_,h,_⟩:=h;exact h
  have:=Om h;unfold L2.start;rw[hl];exact this
theorem Ak{np nn:Nat}{b:MS}:∀args y,fnM np nn b args=some y->args.length=np:=fun args y e=>by
 unfold fnM at e;split at e
 .rename_i h; exact h
 .cases e
theorem VO{Φ:Fn}{H:Hp}{a:Addr}{ns:List Int}{as':List A}{E:XK}(hl:ns.length<=63)(hO:Sr H)(hS:SqL K H a (ns.map V.int))(e : Φ [(.ro,.scr ns)]=some (.fz (.bl true),as')):spJ K Φ 1 [.ref a] H (fun v _=>v=.bl true) E:=by
 refine⟨[(.ro,.scr ns)],fun _=>False,fun _=>[],rfl,⟨rfl,fun i st b h=>?_,fun _ _=>rfl,fun _=>List.nodup_nil,fun i j p h=>by simp at h,fun i p h=>by simp at h,fun p z=>?_⟩,_,_,e,fun v H' ⟨L,fp',p,q⟩=>?_⟩
 .cases i with
  | zero =>
   simp at h;obtain⟨rfl,rfl⟩:=h;refine⟨.ref a,rfl,?_⟩;rw[Au];refine⟨a,rfl,rfl,fun H' k=>?_,Nat.le_trans hl (by decide)⟩;rcases hS with (h|⟨o,h⟩)|h
   .rcases hO a with z|⟨o,xs,z⟩|⟨ps,z⟩
    .rw[z] at h; cases h
    .rw[z] at h; cases h
    .rw[z] at h; cases h
   .exact .inl (.inr ⟨o,k _ _ h⟩)
   .exact .inr h
  | succ i=>simp at h
 .rcases z with ⟨i,z⟩|z
  .simp at z
  .exact z.elim
 .exact RL q rfl
end
end J
end
section
namespace J
open PySem PySem.Spec PyProof.Rows L2
noncomputable def moves:List R->Ro->Option (List A×Ro)
 | [],Z=>some ([],Z)
 | r::rs,Z=>(move Z r).bind fun p=>(moves rs p.2).map fun q=>(p.1::q.1,q.2)
noncomputable def GJ(m:MA):ME:=fun Z=>(m Z).bind fun p=>(moves p.1 p.2).bind fun q=>if q.1.length<=LIM then some (.val (mkT q.1),q.2) else none
section
variable{K:Frag}{Z Z' Z1 Z2:Ro}{U σ' σ1 σ2:L2.St}{H H' H1 H2:Hp}{O O' N:Addr->Prop}{fp fp' fp1 fp2:Nat->List Addr}{L L1:List Addr}
theorem Post.perm{L':List Addr}(x:Post K O fp H Z Z1 U σ1 L fp1 H1)(h:∀p,p∈L'↔p∈L)(nd:L'.Nodup):Post K O fp H Z Z1 U σ1 L' fp1 H1:=
 ⟨x.rel.congr fun p=>or_congr Iff.rfl (h p).symm,nd,fun p hp=>x.lo p ((h p).mp hp),fun p hp=>x.new p (hp.imp (h p).mp id),x.kept,x.ln,x.stab⟩
theorem Post.give{i:Nat}{a:A}{v:V}(x:Post K O fp H Z Z1 U U L fp1 H1)(ha : Z1[i]? = some (some (.own,a)))(hv : U[i]? = some (some v)):
  Post K O fp H Z (Z1.set i none) U U (L++fp1 i) (pt fp1 i []) H1/\Au K (NN fp1 (ad O L)) H1 v a (fp1 i)/\∀p,NN (pt fp1 i []) (ad O (L++fp1 i)) p↔NN fp1 (ad O L) p:=by
 obtain⟨v',hv',q⟩:=x.rel.slot i _ _ ha;rw[hv] at hv'; cases hv';have nn:∀p,NN (pt fp1 i []) (ad O (L++fp1 i)) p↔NN fp1 (ad O L) p:=fun p=>by
  constructor
  .intro z
   rcases z with ⟨j,z⟩|z|z
   .rcases Bc z with ⟨_,z⟩|⟨_,z⟩
    .simp at z
    .exact .inl ⟨j,z⟩
   .exact .inr (.inl z)
   .rcases List.mem_append.mp z with z|z
    .exact .inr (.inr z)
    .exact .inl ⟨i,z⟩
  .intro z
   rcases z with ⟨j,z⟩|z|z
   .by_cases hj:j=i
    .subst hj; exact .inr (.inr (List.mem_append_right _ z))
    .exact .inl ⟨j,by rw[GG hj]; exact z⟩
   .exact .inr (.inl z)
   .exact .inr (.inr (List.mem_append_left _ z))
 have nd:(L++fp1 i).Nodup:=List.nodup_append.mpr ⟨x.nd,x.rel.nd i,fun a ha b hb e=>by subst e; exact x.rel.off i a hb (.inr ha)⟩;have R:=x.rel.set (i:=i) (s:=none) (o:=some v) (L:=[]) (O':=ad O (L++fp1 i)) (As ha) (fun p z=>(nn p).mp (.inr z)) (fun p hp=>by simp at hp) List.nodup_nil (fun p hp=>by simp at hp) (fun p hp=>by simp at hp)
  (fun j p hj h z=>by
   rcases z with z|z
   .exact x.rel.off j p h (.inl z)
   .rcases List.mem_append.mp z with z|z
    .exact x.rel.off j p h (.inr z)
    .exact hj (x.rel.inj j i p h z)) (fun st a e=>by cases e) (fun _=>rfl)
 rw[JU hv] at R;refine⟨⟨R,nd,fun p hp z=>?_,fun p hp=>?_,x.kept,rfl,fun j st a' h n=>?_⟩,q,nn⟩
 .rcases List.mem_append.mp hp with hp|hp
  .exact x.lo p hp z
  .exact x.rel.off i p hp (.inl z)
 .rcases hp with hp|⟨j,hp⟩
  .rcases List.mem_append.mp hp with hp|hp
   .exact x.new p (.inl hp)
   .exact x.new p (.inr ⟨i,hp⟩)
  .rcases Bc hp with ⟨_,z⟩|⟨_,z⟩
   .simp at z
   .exact x.new p (.inr ⟨j,z⟩)
 .obtain⟨a2,h2,_,f2⟩:=x.stab j st a' h n
  refine⟨a2,?_,rfl,f2⟩;rw[List.getElem?_set_ne]
  .exact h2
  .rintro rfl
   rw[ha] at h2; cases h2; exact n rfl
theorem RRs.weak(h:∀p,O' p->N p):∀{vs:List V} {rs:List R} {L:List Addr},RRs K N H U vs rs L->RRs K O' H U vs rs L
 | [],[],_,q=>q
 | [],_::_,_,q=>by simp only[RRs] at q
 | _::_,[],_,q=>by simp only[RRs] at q
 | v::vs,r::rs,L,q=>by
  simp only[RRs] at q |-;obtain⟨L1,L2,rfl,h1,h2⟩:=q;refine⟨L1,L2,rfl,?_,RRs.weak h h2⟩;cases r with
  | val a=>exact DJ h h1
  | ref i=>exact h1
theorem NO:∀{rs:List R} {vs:List V} {as:List A} {Z1 Z2:Ro} {fp1:Nat->List Addr} {Lacc L:List Addr},Post K O fp H Z Z1 U U (Lacc++L) fp1 H1->RRs K (NN fp1 (ad O (Lacc++L))) H1 U vs rs L->moves rs Z1=some (as,Z2) ->
  ∃L2 fp2,Post K O fp H Z Z2 U U (Lacc++L2) fp2 H1/\Ap K (NN fp2 (ad O (Lacc++L2))) H1 vs as L2/\∀p,NN fp2 (ad O (Lacc++L2)) p↔NN fp1 (ad O (Lacc++L)) p:=by
 intro _l;induction _l with
 | nil =>
  intro _m;cases _m with
  | nil =>
   intro as Z1 Z2 fp1 Lacc L x q e;simp only[moves,Option.some.injEq,Prod.mk.injEq] at e;obtain⟨rfl,rfl⟩:=e;simp only[RRs] at q;subst q;exact⟨[],fp1,x,by simp[Ap],fun p=>Iff.rfl⟩
  | cons _ _ =>
   intro _ _ _ _ _ _ _ q _;simp only[RRs] at q
 | cons r rs ih =>
  intro _m;cases _m with
  | nil =>
   intro _ _ _ _ _ _ _ q _;simp only[RRs] at q
  | cons v vs =>
   intro as Z1 Z2 fp1 Lacc L x q e;simp only[RRs] at q;obtain⟨L1,L2,rfl,h1,h2⟩:=q;simp only[moves,bind_eq_some_iff,map_eq_some_iff] at e;obtain⟨⟨a,Z3⟩,e1,⟨as',Z4⟩,e2,e3⟩:=e;cases e3;cases r with
   | val b =>
    simp only[move,Option.some.injEq,Prod.mk.injEq] at e1;obtain⟨rfl,rfl⟩:=e1;rw[<- List.append_assoc] at x h1 h2;obtain⟨L3,fp3,p3,q3,n3⟩:=ih (Lacc:=Lacc++L1) x h2 e2;rw[List.append_assoc] at p3 q3 n3;refine⟨L1++L3,fp3,p3,?_,fun p=>by rw[n3 p,List.append_assoc]⟩;simp only[Ap];exact⟨L1,L3,rfl,DJ (fun p z=>by have:=(n3 p).mp z; rw[List.append_assoc]; rw[List.append_assoc] at this; exact this) h1,q3⟩
   | ref i =>
    obtain⟨rfl,hv⟩:=h1;rw[List.nil_append] at x h2;simp only[move] at e1;split at e1
    .rename_i a' ha
     cases e1;obtain⟨g1,g2,g3⟩:=x.give ha hv;have nd:((Lacc++fp1 i)++L2).Nodup:=by
      have:=g1.nd;rw[List.append_assoc] at this |-;exact(List.perm_append_comm.append_left Lacc).nodup this
     have g1':Post K O fp H Z (Z1.set i none) U U ((Lacc++fp1 i)++L2) (pt fp1 i []) H1:=g1.perm (fun p=>by simp; exact⟨fun z=>by rcases z with z|z|z; exact .inl z; exact .inr (.inr z); exact .inr (.inl z),fun z=>by rcases z with z|z|z; exact .inl z; exact .inr (.inr z); exact .inr (.inl z)⟩) nd;have nn:∀p,NN (pt fp1 i []) (ad O ((Lacc++fp1 i)++L2)) p↔NN fp1 (ad O (Lacc++L2)) p:=fun p=>by
      rw[<- g3 p];refine or_congr Iff.rfl (or_congr Iff.rfl ?_);simp;exact⟨fun z=>by rcases z with z|z|z; exact .inl z; exact .inr (.inr z); exact .inr (.inl z),fun z=>by rcases z with z|z|z; exact .inl z; exact .inr (.inr z); exact .inr (.inl z)⟩
     obtain⟨L3,fp3,p3,q3,n3⟩:=ih (Lacc:=Lacc++fp1 i) g1' (RRs.weak (fun p z=>(nn p).mp z) h2) e2;rw[List.append_assoc] at p3 q3 n3;refine⟨fp1 i++L3,fp3,p3,?_,fun p=>by rw[n3 p,nn p]; simp⟩;simp only[Ap];exact⟨fp1 i,L3,rfl,DJ (fun p z=>(nn p).mp ((n3 p).mp z)) g2,q3⟩
    .cases e1
theorem Uh{m:MA}{Q:VK}(h:tE K (GJ m) U H Q):YA (tA K m) U H Q:=by
 obtain⟨Z,O,fp,rl,x,Z',e,k⟩:=h;simp only[GJ,bind_eq_some_iff] at e;obtain⟨⟨rs,Z1⟩,e1,⟨as,Z2⟩,e2,e3⟩:=e;split at e3
 .rename_i hz
  cases e3;refine⟨Z,O,fp,rl,rs,_,e1,fun vs H1 yy=>?_⟩
  obtain⟨L,fp1,p,q⟩:=yy;obtain⟨L2,fp2,p2,q',_⟩:=NO (Lacc:=[]) p q e2;rw[List.nil_append] at p2 q';have hl:=q'.len;refine⟨by rw[hl]; exact hz,fun a ha=>k _ _ ?_⟩;have s:=BV (o:=.tup vs) ha;have q2:Ap K (NN fp2 (ad O L2)) (upd H1 a (.tup vs)) vs as L2:=q'.tr (M:=fun _=>False) (fun _ z=>z.elim) (Gf.kept s) (fun p z=>.inl z) fun _ _ z=>z;show Kw _ _ _ _ _ _ _ (.val (mkT as)) _ _;unfold mkT;split
  .rename_i ds hd
   obtain⟨rfl,qd⟩:=q2.fzs hd;exact⟨[],fp2,p2.more s List.nodup_nil (fun p hp=>by simp at hp),N1 (N0 AQ (by rw[hl]; exact hz) qd)⟩
  .refine⟨L2,fp2,p2.more s p2.nd (fun p hp=>.inl hp),?_⟩
   show Au _ _ _ _ _ _;rw[Au];exact⟨a,vs,rfl,AQ,by rw[hl]; exact hz,q2⟩
 .cases e3
end
section
variable{X:Cx}{a b c e:Expr}{es:List Expr}{m m1 m2 m3:ME}{ms:MA}{p pos pos' p2 apos cpos q npos:Pos}{x:Str}{K:Frag}
theorem GO{k:Nat}(h:JA X es ms):JE X (.Tuple es k pos) (GJ ms):=AJ (Wv h) fun _ _ _ h=>Uh h
theorem Jw:OpN K EI (r2L (rI0 fun i j=>.int (i-j))):=HM
theorem Tc:OpN K Ht (r2L (rI0 fun i j=>.int (Builtin.bitAnd i j))):=HM
theorem VX:OpN K Nr (r2L (rI0 fun i j=>.int (Builtin.bitOr i j))):=HM
theorem UQ:OpN K gtA (r2L (rI0 fun i j=>.bl (decide (j<i)))):=MN
theorem OK:OpN K geA (r2L (rI0 fun i j=>.bl (decide (j<=i)))):=MN
end
end J
end
section
namespace L2
open PySem PySem.Spec PyProof.Rows
section
variable{X:Cx}{pins:List (Addr×Obj)}{U:St}{H:Hp}{s:Shared}{h':Heap}
theorem Inv.turnedT{t':Nat}{T:Addr}{xs:List V}{ch:List Addr}(I:Inv X pins U H s)(hf:∀b∈ch,Ge X pins H b)(k:∀b o,b∉ch->s.heap.get? b=some o->h'.get? b=some o)(hT:s.heap.objs.size<=T)(new:BB X.prog X.w (upd H T (.tup xs)) h' T (.tup xs)):Inv X pins U (upd H T (.tup xs)) { s with heap:=h',toks:=t' }:=by
 have hn:H T=none:=I.hok.fresh hT;have nch:∀b u,H b=some u->b∉ch:=fun b u e z=>by rw[(hf b z).1] at e; cases e
 have neT:∀b u,H b=some u->b≠T:=fun b u e z=>by rw[z,hn] at e; cases e
 refine I.step (g':=s.gens) (d':=s.drawn) (ch:=ch) (fun b hb=>?_) (fun b o _ _ hc e _=>k b o hc e) (fun b o _ _ hc e _=>⟨o.slots,k b o hc e⟩) (fun b o hc e n=>?_)
  (fun b o hc e=>⟨o,k b o hc e⟩) (fun b xs e=>by rw[AL (neT b _ e)]; exact e) (fun b o u e=>by rw[AL (neT b _ e)]; exact e) (fun b ps e=>⟨#[],by rw[AL (neT b _ e),e]; simp⟩) (fun m hm=>?_) (fun b u e=>?_) I.bare
 .obtain⟨f0,f1,f2,f3,f4,f5⟩:=hf b hb
  exact⟨f3,f1,f4,f5⟩
 .rw[AL (Nat.ne_of_lt (Nat.lt_of_lt_of_le (Heap.lt_size e) hT))]; exact n
 .obtain⟨o,es,ep,ho,r⟩:=hm
  exact⟨o,es,ep,k _ o (fun z=>(hf _ z).2.1 rfl) ho,r⟩
 .by_cases hb:b=T
  .subst hb; rw[AQ] at e; cases e; exact new
  .rw[AL hb] at e
   refine(I.hok b u e).stay (fun c v hc q=>k c v ?_ q) (fun c q=>by rw[AL (neT c _ q)]; exact q) fun c ys q=>by rw[AL (neT c _ q)]; exact q
   rcases hc with z|z
   .rw[z]; exact nch b u e
   .exact nch c _ z
end
noncomputable def Ite(z:Str):It:=⟨fun i _=>i<z.cps.size,fun i H v H'=>∃c T,z.cps[i]? = some c/\H T=none/\v=.ref T/\H'=upd H T (.tup [.int i,.str ⟨#[c]⟩]),fun i _=>z.cps.size<=i⟩
theorem KD{P:Program}{w:World}{A:Around}(hh:A.handled=none)(it:Addr)(z:Str)(t:Tok):Draws P w A it [it] z.cps.size (fun i v=>∃c u,z.cps[i]? = some c/\v=.str ⟨#[c]⟩ u) (fun i h=>h.IsStrIter it (strIterType z) z t i):=by
 cases ha:z.cps.all (· < 128)
 .have e:strIterType z = "str_iterator" := by simp[strIterType,ha]
  rw[e];exact Draws.strWide hh it z t
 .have e:strIterType z = "str_ascii_iterator" := by simp[strIterType,ha]
  rw[e];exact Draws.strAscii hh it z t
theorem P9{P:Program}{w:World}{K:Frag}{ts:List Expr}{k:Nat}{pos:Pos}(e it:Addr)(hne:e≠it)(z:Str)(t:Tok):
  Turn P w K (.Tuple ts k pos) (Ite z) [e,it] e (fun i h=>i<=z.cps.size/\(∃old,IsEnum h e it ((i:Nat):Int) old)/\h.IsStrIter it (strIterType z) z t i) where
 mem:=by simp
 obj:=fun i h st b hb=>by
  obtain⟨_,⟨old,he⟩,o,ho,c,d⟩:=st;simp only[List.mem_cons,List.not_mem_nil,or_false] at hb;rcases hb with rfl|rfl
  .exact⟨_,he,fun v q=>by cases q⟩
  .exact⟨o,ho,fun v q=>by rw[d] at q; cases q⟩
 keep:=fun i h h' st kk=>by
  obtain⟨le,⟨old,he⟩,o,ho,r⟩:=st;exact⟨le,⟨old,kk e (by simp) _ he⟩,o,kk it (by simp) _ ho,r⟩
 item:=by
  intro X hP hw hK hc i pins s U H E I hf st hg;subst hP hw hK;obtain⟨le,⟨old,he⟩,hs⟩:=st;have D:=KD (P:=X.prog) (w:=X.w) (A:=X.A.in1) (I.ok.hd hc) it z t;have elt:e<s.heap.objs.size:=Heap.lt_size he;have ilt:it<s.heap.objs.size:=by obtain⟨o,ho,_⟩:=hs; exact Heap.lt_size ho
  refine wpAny_pyNext_enum_itemD D he hs hg hne (by simpa using hne) fun x h1 tk hx ho hs1 hT hsz hk=>?_;obtain⟨c,u,hcc,rfl⟩:=hx;refine⟨_,rfl,wpAny_letOwnedTupleGo_enum ho fun h2 he2 hs2=>?_⟩;have hs2':Heap.SameBut e h1 h2:=hs2;have g2:h2.get? s.heap.objs.size=some { cls:=.type "tuple",data:=.seq #[.int i tk,.str ⟨#[c]⟩ u] }:=(hs2'.2 _ (Nat.ne_of_gt elt)).trans hT;have I2:Inv X pins U (upd H s.heap.objs.size (.tup [.int i,.str ⟨#[c]⟩])) { s with heap:=h2,toks:=tk+1 }:=by
   refine I.turnedT (ch:=[e,it]) hf (fun b o hb q=>?_) (Nat.le_refl _) ?_
   .simp only[List.mem_cons,List.not_mem_nil,or_false,not_or] at hb
    exact(hs2'.2 b hb.1).trans (hk b o hb.1 hb.2 q)
   .exact⟨by show 2<=sizeLine; decide,[.int i tk,.str ⟨#[c]⟩ u],.cons ⟨_,rfl⟩ (.cons ⟨_,rfl⟩ .nil),_,g2,rfl,_,rfl⟩
  refine⟨.ref s.heap.objs.size,_,I2,rfl,⟨c,_,hcc,I.hok.fresh (Nat.le_refl _),rfl,rfl⟩,⟨hg,⟨_,by simpa using he2⟩,?_⟩,fun b hb=>?_⟩
  .obtain⟨o,ho1,r⟩:=hs1
   exact⟨o,(hs2'.2 it (Ne.symm hne)).trans ho1,r⟩
  .have hlt:b<s.heap.objs.size:=by
    simp only[List.mem_cons,List.not_mem_nil,or_false] at hb;rcases hb with rfl|rfl
    .exact elt
    .exact ilt
   rw[AL (Nat.ne_of_lt hlt)];exact(hf b hb).1
 done:=by
  intro X hP hw hK hc i pins s U H E I hf st hg;subst hP hw hK;obtain⟨le,⟨old,he⟩,hs⟩:=st;have D:=KD (P:=X.prog) (w:=X.w) (A:=X.A.in1) (I.ok.hd hc) it z t;have hg':z.cps.size<=i:=hg;obtain⟨f0,f1,f2,f3,f4,f5⟩:=hf it (by simp);have e0:i=z.cps.size:=by lia
  subst e0;exact wpAny_pyNext_enum_endD D he hs fun h1 eb=>⟨rfl,I.turned (t':=s.toks) (fun b o hb q=>eb b o hb q) f0 f1 f3 f4 f5⟩
 self:=fun _ _ _ _ _ st h=>by
  obtain⟨_,⟨old,he⟩,_⟩:=st;exact wpAny_pyIter_enum he h
section
variable{X:Cx}
noncomputable def UI(tl:TA):TI:=fun U H R=>tl U H fun vs H1=>∃z,vs=[.str z]/\R (Ite z) H1
theorem Ts{ts:List Expr}{k:Nat}{tpos:Pos}{a:Expr}{ta:TA}{p pos:Pos}(hg:Gl X "enumerate")(hm:X.mg "enumerate" = none)(ha:PA X [a] ta)(hs:starEach [a] X.env=[(false,eval a X.env)]):
  PI X (.Tuple ts k tpos) (.Call (.Name "enumerate" p) [a] [] pos) (UI ta):=by
 intro pins s U H R I h;refine Call_ (Gy I hg hm boot_enumerate (PyProof.Rows.callWith_type1 (thn (ha pos pins s U H _ I h) fun us s1 yy=>?_) hs rfl));obtain⟨vs,H1,I1,r1,q1⟩:=yy;obtain⟨z,e,q⟩:=q1;subst e;obtain⟨u,rfl,ru⟩:=r1.one;obtain⟨t,rfl⟩:=ru;refine call_enumerate_str fun h1 he hit hsz hk=>?_;refine wpAny_pyIter_enum he ?_;have I2:Inv X pins U H1 { s1 with heap:=h1 }:=I1.kept (t':=s1.toks) hk;refine⟨_,[s1.heap.objs.size+1,s1.heap.objs.size],_,_,H1,rfl,I2,P9 _ _ (Nat.succ_ne_self _) z t,⟨Nat.zero_le _,⟨_,he⟩,hit⟩,fun b hb=>?_,q⟩;simp only[List.mem_cons,List.not_mem_nil,or_false] at hb;rcases hb with rfl|rfl
 .exact I1.fpOk (Nat.le_succ _) (I1.hok.fresh (Nat.le_succ _))
 .exact I1.fpOk (Nat.le_refl _) (I1.hok.fresh (Nat.le_refl _))
end
end L2
namespace J
open PySem PySem.Spec PyProof.Rows L2
section
variable{X:Cx}{a b c e:Expr}{es:List Expr}{m m1 m2 m3:ME}{ms:MA}{p pos pos' p2 apos cpos q npos:Pos}{x:Str}
variable{K:Frag}{N:Addr->Prop}{H:Hp}{U:L2.St}{v:V}{L:List Addr}
noncomputable def F5(z:Str):List D:=(List.range z.cps.size).map fun(i:Nat)=>D.tup [.int (i:Int),.str ⟨#[z.cps.getD i 0]⟩]
noncomputable def IA(m:ME):MI:=fun Z=>(m Z).bind fun p=>match p.1 with
 | .val (.fz (.str z))=>if z.length<=LIM then some (F5 z,none,p.2) else none
 | _=>none
theorem Ui{R:It->Hp->Prop}(h:tI K (IA m) U H R):UI (Cs (tE K m) Hl) U H R:=by
 obtain⟨Z,O,fp,rl,ds,n,Z',e,k⟩:=h;simp only[IA,bind_eq_some_iff] at e;obtain⟨⟨r,Z1⟩,e1,e2⟩:=e;dsimp only at e2;split at e2
 .rename_i z
  split at e2
  .rename_i hz
   cases e2;refine⟨Z,O,fp,rl,_,_,e1,fun v H1 yy=>?_⟩
   obtain⟨L,fp1,p,q⟩:=yy;have q':Au K (NN fp1 (ad O L)) H1 v (.fz (.str z)) L:=q;rw[Au] at q';obtain⟨rfl,q'⟩:=q';cases q';refine⟨z,rfl,k _ _ ⟨.val (.fz .non),.non,.fz .non,[],fp1,p,EF (K:=K) .non,rfl,rfl,fun N H2 _=>?_⟩⟩;have hl:(F5 z).length=z.cps.size:=by simp[F5]
   refine⟨fun i hi=>by show i<z.cps.size; lia,fun i hi=>by show z.cps.size<=i; lia,fun i v H' d y e=>?_⟩;obtain⟨c,T,hc,hT,rfl,rfl⟩:=y;have hi:i<z.cps.size:=by have:=As e; lia
   have hd:d=.tup [.int i,.str ⟨#[c]⟩]:=by
    have ec:z.cps.getD i 0=c:=by
     rw[Array.getD_eq_getD_getElem?,hc]; rfl
    simp only[F5,List.getElem?_map,List.getElem?_range hi,Option.map_some,Option.some.injEq] at e;rw[<- e,ec]
   subst hd;refine⟨BV hT,.tup AQ (by show 2<=sizeLine; decide) rfl fun j v d h1 h2=>?_⟩
   match j with
   | 0=>simp at h1 h2; subst h1 h2; exact .int _
   | 1=>simp at h1 h2; subst h1 h2; exact .str _ (by show 1<=sizeLine; decide)
   | j+2=>simp at h1
  .cases e2
 .cases e2
theorem OB{ts:List Expr}{tk:Nat}{tpos:Pos}(hg:Gl X "enumerate")(hm:X.mg "enumerate" = none)(hs:starEach [a] X.env=[(false,eval a X.env)])(h:JE X a m):JI X (.Tuple ts tk tpos) (.Call (.Name "enumerate" p) [a] [] pos) (IA m):=F4 (Ts hg hm (D6 h GF hs) hs) fun _ _ _ h=>Ui h
theorem Q0(i:Nat){y:Str}{py spos:Pos}{scope:Scope}{iter elt:Expr}{ifs:List Expr}{px:Pos}{mi:MI}{mt:MT}(nd:X.N.Nodup)(hiN:X.N[i]? = some y)(hy:X.env.scope.names.lookup y=some .local)(hok:Bx [x] X.N scope X.env.scope=true)(hc:X.calm=true)(hx:scope.names.lookup x=some .local)(hs:∀z,foldedSetIterable iter X.env z=pure z)(hsw:swapsWith (.ListComp elt [⟨.Name x px,iter,ifs,0⟩] scope pos) (some (.Name y py)) spos.line X.env=pure true)(hi:JI X (.Name x px) iter mi)(ht:JTc X [x] scope ifs mt)(he:JEc X [x] scope elt m):
  JS X (.Assign [.Name y py] (.ListComp elt [⟨.Name x px,iter,ifs,0⟩] scope pos) spos) (AH i (AG mi 0 mt m)):=by
 have hnx:x∉X.N:=fun hy=>by
  simp only[Bx,Bool.and_eq_true,List.all_eq_true] at hok;have:=hok.2 x (by simp);simp[hy] at this
 exact BM (M0 (un:=Si) (te:=tE X.K m) nd hiN hy hc hok hi (fun C s H fp pins=>HQ rfl (List.nodup_cons.mpr ⟨hnx,nd⟩) (lookup_relabel_local hx)) ht (fun C s H fp pins=>he C s H fp pins) hs hsw) fun _ _ _ h=>GU (J1 h)
end
end J
end
section
namespace Sg
open PySem
section
variable{P:Program}{w:World}{A:Around}{E:Value->Shared->Prop}{s:Shared}
end
section
variable{P:Program}{w:World}{A:Around}{E:Value->Shared->Prop}
end
section
variable{P:Program}{w:World}{A:Around}{E:Value->Shared->Prop}{s:Shared}
end
section
variable{P:Program}{w:World}{A:Around}{E:Value->Shared->Prop}{s:Shared}
end
section
variable{P:Program}{w:World}{A:Around}{E:Value->Shared->Prop}{s:Shared}
end
end Sg
end
section
namespace Sg
open PySem PyProof.Rows
section
variable{P:Program}{w:World}{A:Around}{E:Value->Shared->Prop}{s:Shared}
end
section
variable{P:Program}{w:World}{A:Around}{E:Value->Shared->Prop}{s:Shared}
end
end Sg
end
section
namespace L2
open PySem PySem.Spec PyProof.Rows Sg
section
variable{X:Cx}
end
end L2
namespace J
open PySem PySem.Spec PyProof.Rows L2 Sg
section
variable{X:Cx}{a b c e:Expr}{es:List Expr}{m m1 m2 m3:ME}{ms:MA}{p pos pos' p2 apos cpos q npos:Pos}{x:Str}
variable{K:Frag}{N:Addr->Prop}{H:Hp}{U:L2.St}{v:V}{L:List Addr}
end
end J
end
section
namespace J
open PySem PySem.Spec PyProof.Rows L2
section
variable{K:Frag}{Z Z' Z1 Z2:Ro}{U σ' σ1 σ2:L2.St}{H H' H1 H2:Hp}{O O' N:Addr->Prop}{fp fp' fp1 fp2:Nat->List Addr}{L L1:List Addr}
noncomputable def O9(i:Nat):MS:=fun Z=>(C7 Z i).bind fun h=>some (.next (Z.set i (some (h.1,.lst []))))
theorem Xe{i:Nat}{D:Ends}(h:tS K (O9 i) D U H):OZ (Yq K "list" RH (P7 i)) D U H:=by
 obtain⟨Z,O,fp,rl,fl,e,w⟩:=h;simp only[O9,bind_eq_some_iff,Option.some.injEq] at e;obtain⟨⟨st,as⟩,e0,e1⟩:=e;subst e1;obtain⟨g,gst⟩:=HC e0;obtain⟨v,hv,q0⟩:=rl.slot i _ _ g;rw[Au] at q0;obtain⟨p0,vs0,L',rfl,e6,hp0,_,_⟩:=q0;refine⟨_,hv,.inl ⟨rfl,vs0,.inl (.inl hp0)⟩,p0,vs0,rfl,rfl,hp0,w _ _ _ (rl.post.mut (a':=.lst []) (L':=[p0]) g gst hv (by rw[e6]; simp) hp0 (fun b hb=>?_) (by simp) ?_)⟩
 .simp at hb
  subst hb;rw[e6];simp
 .rw[Au]
  exact⟨p0,[],[],rfl,rfl,AQ,Nat.zero_le _,by simp only[Ap]⟩
end
section
variable{X:Cx}{a b c e:Expr}{es:List Expr}{m m1 m2 m3:ME}{ms:MA}{p pos pos' p2 apos cpos q npos:Pos}{x:Str}
theorem VE(i:Nat)(hN:X.N[i]? = some x)(hv:Vis X.env.scope x)(hd:(x==("__debug__" : Str))=false)(hcd:(x==("__classdict__" : Str))=false)(hbase:attributeBase (.Name x npos) "clear" X.env (eval (.Name x npos) X.env)=eval (.Name x npos) X.env)(hline:(apos.endLine==cpos.line)=true)(hw:swapsWith (.Call (.Attribute (.Name x npos) "clear" apos) [] [] cpos) none pos.line X.env=pure false):JS X (.Expr (.Call (.Attribute (.Name x npos) "clear" apos) [] [] cpos) pos) (O9 i):=
 BM (LK (Wf PySem.F.plainAttrs_list PySem.F.slot_list_clear PySem.F.type_list_clear Ra (JK hN hv hd hcd) hbase hline) hw) fun _ _ _ h=>Xe h
end
end J
end
section
namespace L2
open PySem PySem.Spec PyProof.Rows
section
variable{X:Cx}{pins:List (Addr×Obj)}{U:St}{H:Hp}{s:Shared}
end
section
variable{P:Program}{w:World}{A:Around}{E:Value->Shared->Prop}{s:Shared}
theorem nextT{it t:Addr}{i:Nat}{items:Array Value}{x:Value}{Q:Value->Shared->Prop}(hit:s.heap.IsTupleIter it t i)(ht:s.heap.IsTuple t items)(hx:items[i]? = some x)(hQ:∀h',h'.IsTupleIter it t (i+1)->Heap.SameBut it s.heap h'->Q x { s with heap:=h' }):wpAny (model P w) A (Builtin.SmallTypes.nextOf (.ref it)) Q E s:=by
 obtain⟨o,ho,hc,hd⟩:=id hit;obtain⟨ol,hol,_,nl,hdl⟩:=ht;unfold Builtin.SmallTypes.nextOf;refine wpAny_bind (wpAny_callSpecial?_slot (name:=Str.ofString "__next__") hit.typeIs F.slot_tuple_iterator_next (wpAny_call_entry F.slot_tuple_iterator_next hit.typeIs F.entry_tuple_iterator_next ?_ (F.args_tuple_iterator_next_1 _)));show wpAny _ _ (field (.ref it) 0 >>= _) _ _ s;refine wpAny_bind (wpAny_field ho hd (x:=.ref t) rfl ?_);show wpAny _ _ (if (Value.ref t==Value.none)=true then _ else _) _ _ s;rw[if_neg (show ¬((Value.ref t==Value.none)=true) from Bool.false_ne_true)];show wpAny _ _ (field (.ref it) 1 >>= _) _ _ s;refine wpAny_bind (wpAny_field ho hd (x:=.int i 0) rfl ?_);show wpAny _ _ (seqItems? (.ref t) >>= _) _ _ s;refine wpAny_bind (wpAny_seqItems hol hdl ?_);simp only[Int.toNat_natCast,hx];refine wpAny_bind (wpAny_setField ho hd (by simp) (wpAny_pure ⟨x,rfl,wpAny_pure (hQ _ ?_ (Heap.SameBut.update ..))⟩));exact⟨_,Heap.get?_update_self _ ho (Obj.isFreed_of_fields (Obj.data_mapFields hd _)),(Obj.cls_mapFields ..).trans hc,by rw[Obj.data_mapFields hd]; simp[rawInt]⟩
theorem Px{it t:Addr}{i:Nat}{items:Array Value}{Q:Value->Shared->Prop}(hh:A.handled=none)(hit:s.heap.IsTupleIter it t i)(ht:s.heap.IsTuple t items)(hx:items[i]? = none)(hE:∀h' e,Heap.ExtBut it s.heap h'->(∃o,h'.get? e=some o/\o.cls=.type "StopIteration")->E (.ref e) { s with heap:=h' }):wpAny (model P w) A (Builtin.SmallTypes.nextOf (.ref it)) Q E s:=by
 obtain⟨o,ho,hc,hd⟩:=id hit;obtain⟨ol,hol,_,nl,hdl⟩:=ht;unfold Builtin.SmallTypes.nextOf;refine wpAny_bind (wpAny_callSpecial?_slot (name:=Str.ofString "__next__") hit.typeIs F.slot_tuple_iterator_next (wpAny_call_entry F.slot_tuple_iterator_next hit.typeIs F.entry_tuple_iterator_next ?_ (F.args_tuple_iterator_next_1 _)));show wpAny _ _ (field (.ref it) 0 >>= _) _ _ s;refine wpAny_bind (wpAny_field ho hd (x:=.ref t) rfl ?_);show wpAny _ _ (if (Value.ref t==Value.none)=true then _ else _) _ _ s;rw[if_neg (show ¬((Value.ref t==Value.none)=true) from Bool.false_ne_true)];show wpAny _ _ (field (.ref it) 1 >>= _) _ _ s;refine wpAny_bind (wpAny_field ho hd (x:=.int i 0) rfl ?_);show wpAny _ _ (seqItems? (.ref t) >>= _) _ _ s;refine wpAny_bind (wpAny_seqItems hol hdl ?_);simp only[Int.toNat_natCast,hx];refine wpAny_bind (wpAny_rule (wpAny_bind (wpAny_setField ho hd (by simp) ?_)));show wpAny _ _ (newExc (.type "StopIteration") [] >>= _) _ _ _;refine wpAny_bind ?_;simp only[newExc,newTuple];refine wpAny_bind (wpAny_newObj_type ?_ (by size_fits));refine wpAny_bind (m:=firstArgMember _ _) (wpAny_of_eq (a:=Value.none) (by first|rfl|(simp only[firstArgMember]; rfl)) ?_);refine wpAny_newObj_type ?_ (by size_fits);simp only[raiseNew];refine wpAny_bind (wpAny_handled ?_);first|rw[show A.in1.handled=none from hh]|rw[hh]
 refine wpAny_bind (wpAny_pure (wpAny_throw ?_));exact hE _ _ (((Heap.SameBut.update ..).extBut.push _).push _) ⟨_,Heap.get?_push_size _ rfl,rfl⟩
noncomputable def ZSt(n a b:Addr)(i:Nat)(h:Heap):Prop:=IsZip h (n+4) (n+2) (n+3) .none/\IsPair h (n+2) (.ref n) (.ref (n+1))/\(∃u v,IsPair h (n+3) u v)/\h.IsTupleIter n a i/\h.IsTupleIter (n+1) b i
theorem nx{n k j:Nat}(h:k≠j:=by decide):n+k≠n+j:=fun e=>h (Nat.add_left_cancel e)
theorem Sn{n a b:Addr}{i:Nat}{xs ys:Array Value}{x y:Value}{Q:Option Value->Shared->Prop}(st:ZSt n a b i s.heap)(ha:a<n)(hb:b<n)(h1:s.heap.IsTuple a xs)(h2:s.heap.IsTuple b ys)(hx:xs[i]? = some x)(hy:ys[i]? = some y)(hQ:∀h',IsZip h' (n+4) (n+2) (n+3) (rawInt s.heap.objs.size)->IsPair h' (n+3) x y->h'.IsTupleIter n a (i+1)->h'.IsTupleIter (n+1) b (i+1)->IsPair h' s.heap.objs.size x y ->
   (∀c o,c≠n+4->c≠n+3->c≠n->c≠n+1->s.heap.get? c=some o->h'.get? c=some o)->Q (some (.ref s.heap.objs.size)) { s with heap:=h' }):
  wpAny (model P w) A (pyNext (.ref (n+4))) Q E s:=by
 obtain⟨hz,hTI,⟨u,v,hTO⟩,i1,i2⟩:=st;have hT:s.TypeIs (.ref (n+4)) "zip" := ⟨_,hz,rfl⟩;have an:∀k,a≠n+k:=fun k=>Nat.ne_of_lt (Nat.lt_of_lt_of_le ha (Nat.le_add_right ..));have bn:∀k,b≠n+k:=fun k=>Nat.ne_of_lt (Nat.lt_of_lt_of_le hb (Nat.le_add_right ..));unfold pyNext;refine wpAny_bind (wpAny_attempt (wpAny_callSpecial?_slot (name:=Str.ofString "__next__") hT F.slot_zip_next (wpAny_call_entry F.slot_zip_next hT F.entry_zip_next ?_ (F.args_zip_next_1 _))));show wpAny _ _ (field (.ref (n+4)) 2 >>= _) _ _ _;refine wpAny_bind (wpAny_field hz rfl (x:=.bool false) rfl ?_);show wpAny _ _ (field (.ref (n+4)) 3 >>= _) _ _ _;refine wpAny_bind (wpAny_field hz rfl (x:=.ref (n+2)) rfl ?_);refine wpAny_bind (wpAny_seqItems hTI rfl ?_);show wpAny _ _ (Builtin.SmallTypes.ownedTupleIsFree (.ref (n+4)) >>= _) _ _ _;refine wpAny_bind ?_;unfold Builtin.SmallTypes.ownedTupleIsFree;refine wpAny_bind (wpAny_field hz rfl (x:=.none) rfl (wpAny_pure ?_));simp only[if_true];refine wpAny_bind (wpAny_rule ?_);refine wpAny_bind (wpAny_field hz rfl (x:=.ref (n+3)) rfl ?_);refine wpAny_bind (wpAny_setField_rec hz (by simp) fun g1 z1 s1=>?_)
 replace z1:IsZip g1 (n+4) (n+2) (n+3) .ellipsis:=z1
 have e1:=s1.1;have s1:=s1.extBut;refine wpAny_bind ?_;simp only[List.zipIdx_cons,List.zipIdx_nil,List.forIn_cons,List.forIn_nil];refine wpAny_bind (wpAny_bind (wpAny_onRaise ?_));show wpAny _ _ (Builtin.SmallTypes.nextOf (.ref n) >>= _) _ _ _;refine wpAny_bind (nextT (i1.extBut s1 (nx (k:=0))) (h1.extBut s1 (an _)) hx fun g2 i1 s2=>wpAny_pure ?_);have e2:=s2.1;have s2:Heap.ExtBut n g1 g2:=s2.extBut;have t2:IsPair g2 (n+3) u v:=s2 _ _ (nx (j:=0)) (s1 _ _ nx hTO);refine wpAny_bind (wpAny_seqItems t2 rfl (wpAny_bind (wpAny_updateSeq_pair t2 fun g3 t3 s3=>?_)))
 replace t3:IsPair g3 (n+3) x v:=t3
 have e3:=s3.1;have s3:Heap.ExtBut (n+3) g2 g3:=s3.extBut;refine wpAny_bind (wpAny_letGo (wpAny_pure ?_));refine wpAny_bind (wpAny_bind (wpAny_onRaise ?_));show wpAny _ _ (Builtin.SmallTypes.nextOf (.ref (n+1)) >>= _) _ _ _;refine wpAny_bind (nextT (((i2.extBut s1 nx).extBut s2 (nx (j:=0))).extBut s3 nx) (((h2.extBut s1 (bn _)).extBut s2 (bn 0)).extBut s3 (bn _)) hy fun g4 i2 s4=>wpAny_pure ?_);have e4:=s4.1;have s4:Heap.ExtBut (n+1) g3 g4:=s4.extBut;have t4:IsPair g4 (n+3) x v:=s4 _ _ nx t3;refine wpAny_bind (wpAny_seqItems t4 rfl (wpAny_bind (wpAny_updateSeq_pair t4 fun g5 t5 s5=>?_)))
 replace t5:IsPair g5 (n+3) x y:=t5
 have e5:=s5.1;have s5:Heap.ExtBut (n+3) g4 g5:=s5.extBut;refine wpAny_bind (wpAny_letGo (wpAny_pure (wpAny_pure ?_)));refine wpAny_bind (wpAny_seqItems t5 rfl ?_);refine wpAny_bind (wpAny_newTuple ?_);have hsz:g5.objs.size=s.heap.objs.size:=by rw[e5,e4,e3,e2,e1]
 have z5:IsZip g5 (n+4) (n+2) (n+3) .ellipsis:=s5 _ _ nx (s4 _ _ nx (s3 _ _ nx (s2 _ _ (nx (j:=0)) z1)));have k5:∀c o,c≠n+4->c≠n+3->c≠n->c≠n+1->s.heap.get? c=some o->g5.get? c=some o:=fun c o c1 c2 c3 c4 e=>s5 _ _ c2 (s4 _ _ c4 (s3 _ _ c2 (s2 _ _ c3 (s1 _ _ c1 e))));have i1:g5.IsTupleIter n a (i+1):=((i1.extBut s3 (nx (k:=0))).extBut s4 (nx (k:=0))).extBut s5 (nx (k:=0));have i2:g5.IsTupleIter (n+1) b (i+1):=i2.extBut s5 nx;have zl:n+4<g5.objs.size:=Heap.lt_size z5;show wpAny _ _ (Builtin.SmallTypes.ownedTupleHandOut (.ref (n+4)) (.ref g5.objs.size) >>= _) _ _ _;refine wpAny_bind ?_;unfold Builtin.SmallTypes.ownedTupleHandOut;have z6:IsZip (g5.push { cls:=.type "tuple",data:=.seq #[x,y] }) (n+4) (n+2) (n+3) .ellipsis:=Heap.get?_push_of_some _ z5;refine wpAny_bind (wpAny_setField_rec z6 (by simp) fun g7 z7 s7=>?_)
 replace z7:IsZip g7 (n+4) (n+2) (n+3) (rawInt g5.objs.size):=z7
 refine wpAny_setField_rec z7 (by simp) fun g8 z8 s8=>?_
 replace z8:IsZip g8 (n+4) (n+2) (n+3) (rawInt g5.objs.size):=z8
 have up:∀c o,c≠n+4->g5.get? c=some o->g8.get? c=some o:=fun c o c1 e=>s8.extBut _ _ c1 (s7.extBut _ _ c1 (Heap.get?_push_of_some _ e));have T8:IsPair g8 g5.objs.size x y:=s8.extBut _ _ (Nat.ne_of_gt zl) (s7.extBut _ _ (Nat.ne_of_gt zl) (Heap.get?_push_size _ rfl));rw[hsz] at z8 T8;refine wpAny_pure ⟨_,rfl,wpAny_pure ?_⟩;show Q (some (.ref g5.objs.size)) _;rw[hsz];exact hQ g8 z8 (up _ _ nx t5) (i1.at fun o e=>up _ o (nx (k:=0)) e) (i2.at fun o e=>up _ o nx e) T8 fun c o c1 c2 c3 c4 e=>up c o c1 (k5 c o c1 c2 c3 c4 e)
theorem Uy{n a b:Addr}{i:Nat}{xs:Array Value}{Q:Option Value->Shared->Prop}(hh:A.handled=none)(st:ZSt n a b i s.heap)(ha:a<n)(h1:s.heap.IsTuple a xs)(hx:xs[i]? = none)(hQ:∀h',(∀c o,c≠n+4->c≠n->s.heap.get? c=some o->h'.get? c=some o)->Q none { s with heap:=h' }):wpAny (model P w) A (pyNext (.ref (n+4))) Q E s:=by
 obtain⟨hz,hTI,⟨u,v,hTO⟩,i1,i2⟩:=st;have hT:s.TypeIs (.ref (n+4)) "zip" := ⟨_,hz,rfl⟩;have an:∀k,a≠n+k:=fun k=>Nat.ne_of_lt (Nat.lt_of_lt_of_le ha (Nat.le_add_right ..));unfold pyNext;refine wpAny_bind (wpAny_attempt (wpAny_callSpecial?_slot (name:=Str.ofString "__next__") hT F.slot_zip_next (wpAny_call_entry F.slot_zip_next hT F.entry_zip_next ?_ (F.args_zip_next_1 _))));show wpAny _ _ (field (.ref (n+4)) 2 >>= _) _ _ _;refine wpAny_bind (wpAny_field hz rfl (x:=.bool false) rfl ?_);show wpAny _ _ (field (.ref (n+4)) 3 >>= _) _ _ _;refine wpAny_bind (wpAny_field hz rfl (x:=.ref (n+2)) rfl ?_);refine wpAny_bind (wpAny_seqItems hTI rfl ?_);show wpAny _ _ (Builtin.SmallTypes.ownedTupleIsFree (.ref (n+4)) >>= _) _ _ _;refine wpAny_bind ?_;unfold Builtin.SmallTypes.ownedTupleIsFree;refine wpAny_bind (wpAny_field hz rfl (x:=.none) rfl (wpAny_pure ?_));simp only[if_true];refine wpAny_bind (wpAny_rule ?_);refine wpAny_bind (wpAny_field hz rfl (x:=.ref (n+3)) rfl ?_);refine wpAny_bind (wpAny_setField_rec hz (by simp) fun g1 z1 s1=>?_)
 replace z1:IsZip g1 (n+4) (n+2) (n+3) .ellipsis:=z1
 have s1:=s1.extBut;refine wpAny_bind ?_;simp only[List.zipIdx_cons,List.zipIdx_nil,List.forIn_cons,List.forIn_nil];refine wpAny_bind (wpAny_bind (wpAny_onRaise ?_));show wpAny _ _ (Builtin.SmallTypes.nextOf (.ref n) >>= _) _ _ _;refine wpAny_bind (Px hh (i1.extBut s1 (nx (k:=0))) (h1.extBut s1 (an _)) hx fun g2 e s2 he=>?_);obtain⟨oe,hoe,hce⟩:=he;have z2:IsZip g2 (n+4) (n+2) (n+3) .ellipsis:=s2 _ _ (nx (j:=0)) z1;have hez:e≠n+4:=fun x=>by subst x; rw[z2] at hoe; cases hoe; simp at hce
 refine wpAny_setField_rec z2 (by simp) fun g3 _ s3=>?_;refine wpAny_bind (wpAny_isInstance (T := "StopIteration") (b:=true) ⟨oe,s3.extBut _ _ hez hoe,hce⟩ isSubtype_stop ?_);exact wpAny_pure (hQ _ fun c o c1 c2 x=>s3.extBut _ _ c1 (s2 _ _ c2 (s1 _ _ c1 x)))
theorem pk{h:Heap}{o:Obj}{n:Nat}(e:h.objs.size=n)(hf:o.isFreed=false:=by rfl):(h.push o).get? n=some o:=e ▸ Heap.get?_push_size _ hf
theorem NL(a b:Addr)(xs ys:Array Value):
  Meets (Builtin.«zip.__new__» ⟨[.type "zip",.ref a,.ref b],[]⟩) (fun _ R s=>s.heap.IsTuple a xs/\s.heap.IsTuple b ys/\∀h',ZSt s.heap.objs.size a b 0 h'->(∀c o,s.heap.get? c=some o->h'.get? c=some o) ->
   R (.ok (.ret (.ref (s.heap.objs.size+4)))) { s with heap:=h' }):=
 .of_wp fun prog w A R s h=>by
  obtain⟨hp,g,d,tk,os⟩:=s; obtain⟨hl1,hl2,h⟩:=h;have hsub:=sub_zip;have hL1:Heap.IsTuple (Shared.heap ⟨hp,g,d,tk,os⟩) a xs:=hl1;have hL2:Heap.IsTuple (Shared.heap ⟨hp.push { cls:=.type "tuple_iterator",data:=.fields #[.ref a,.int 0 0] },g,d,tk,os⟩) b ys:=Heap.IsTuple.push hl2 _
  wp_walk using wpAny_pyIter_tuple hL1,wpAny_pyIter_tuple hL2
  refine⟨_,rfl,?_⟩;simp only[Heap.size_push];refine h _ ⟨?_,?_,⟨.none,.none,?_⟩,⟨{ cls:=.type "tuple_iterator",data:=.fields #[.ref a,.int 0 0] },?_,rfl,rfl⟩,⟨{ cls:=.type "tuple_iterator",data:=.fields #[.ref b,.int 0 0] },?_,rfl,rfl⟩⟩ fun c o x=>Heap.get?_push_of_some _ (Heap.get?_push_of_some _ (Heap.get?_push_of_some _ (Heap.get?_push_of_some _ (Heap.get?_push_of_some _ x))))
  .exact pk (by simp only[Heap.size_push])
  .exact Heap.get?_push_of_some _ (Heap.get?_push_of_some _ (pk (by simp only[Heap.size_push])))
  .exact Heap.get?_push_of_some _ (pk (by simp only[Heap.size_push]))
  .exact Heap.get?_push_of_some _ (Heap.get?_push_of_some _ (Heap.get?_push_of_some _ (Heap.get?_push_of_some _ (pk rfl))))
  .exact Heap.get?_push_of_some _ (Heap.get?_push_of_some _ (Heap.get?_push_of_some _ (pk (by simp only[Heap.size_push]))))
theorem O8{a b:Addr}{xs ys:Array Value}{Q:Value->Shared->Prop}(h1:s.heap.IsTuple a xs)(h2:s.heap.IsTuple b ys)(h:∀h',ZSt s.heap.objs.size a b 0 h'->(∀c o,s.heap.get? c=some o->h'.get? c=some o)->Q (.ref (s.heap.objs.size+4)) { s with heap:=h' }):wpAny (model P w) A (call (.type "zip") [.ref a,.ref b]) Q E s:=by
 refine callType_new F.called_zip (by decide) (F.typeCall_zip_2 _ _) (F.newCall_zip_2 _ _) (fun obj=>F.args_object_init_3 obj _ _) F.entry_zip_new (NL a b xs ys) ⟨h1,h2,fun h' st k=>?_⟩;exact⟨⟨_,st.1,rfl⟩,h _ st k⟩
end
theorem Inv.turnedL{X:Cx}{pins:List (Addr×Obj)}{U:St}{H:Hp}{s:Shared}{h':Heap}{t':Nat}{ch:List Addr}(I:Inv X pins U H s)(hf:∀b∈ch,Ge X pins H b)(k:∀b o,b∉ch->s.heap.get? b=some o->h'.get? b=some o):
  Inv X pins U H { s with heap:=h',toks:=t' }:=by
 have nch:∀b u,H b=some u->b∉ch:=fun b u e z=>by rw[(hf b z).1] at e; cases e
 refine I.step (g':=s.gens) (d':=s.drawn) (ch:=ch) (fun b hb=>?_) (fun b o _ _ hc e _=>k b o hc e) (fun b o _ _ hc e _=>⟨o.slots,k b o hc e⟩) (fun _ _ _ _ n=>n) (fun b o hc e=>⟨o,k b o hc e⟩) (fun _ _ e=>e) (fun _ _ _ e=>e) (fun b ps e=>⟨#[],by rw[e]; simp⟩) (fun m hm=>?_) (fun b u e=>?_) I.bare
 .obtain⟨f0,f1,f2,f3,f4,f5⟩:=hf b hb
  exact⟨f3,f1,f4,f5⟩
 .obtain⟨o,es,ep,ho,r⟩:=hm
  exact⟨o,es,ep,k _ o (fun z=>(hf _ z).2.1 rfl) ho,r⟩
 .refine(I.hok b u e).stay (fun c v hc q=>k c v ?_ q) (fun c q=>q) fun c ys q=>q
  rcases hc with z|z
  .rw[z]; exact nch b u e
  .exact nch c _ z
noncomputable def Itz(a b:Addr):It:=
 ⟨fun i H=>∃xs ys x y,H a=some (.tup xs)/\H b=some (.tup ys)/\xs[i]? = some x/\ys[i]? = some y,
  fun i H v H'=>∃T xs ys x y,H a=some (.tup xs)/\H b=some (.tup ys)/\xs[i]? = some x/\ys[i]? = some y/\H T=none/\v=.ref T/\H'=upd H T (.tup [x,y]),
  fun i H=>∃xs,H a=some (.tup xs)/\xs.length<=i⟩
theorem Sd{P:Program}{w:World}{K:Frag}{ts:List Expr}{k:Nat}{pos:Pos}(n a b:Addr)(ha:a<n)(hb:b<n):
  Turn P w K (.Tuple ts k pos) (Itz a b) [n+4,n+2,n+3,n,n+1] (n+4) (fun i h=>ZSt n a b i h) where
 mem:=by simp
 obj:=fun i h st c hc=>by
  obtain⟨hz,hTI,⟨u,v,hTO⟩,⟨o1,g1,_,d1⟩,⟨o2,g2,_,d2⟩⟩:=st;simp only[List.mem_cons,List.not_mem_nil,or_false] at hc;rcases hc with rfl|rfl|rfl|rfl|rfl
  .exact⟨_,hz,fun v q=>by cases q⟩
  .exact⟨_,hTI,fun v q=>by cases q⟩
  .exact⟨_,hTO,fun v q=>by cases q⟩
  .exact⟨_,g1,fun v q=>by rw[d1] at q; cases q⟩
  .exact⟨_,g2,fun v q=>by rw[d2] at q; cases q⟩
 keep:=fun i h h' st kk=>by
  obtain⟨hz,hTI,⟨u,v,hTO⟩,i1,i2⟩:=st;exact⟨kk _ (by simp) _ hz,kk _ (by simp) _ hTI,⟨u,v,kk _ (by simp) _ hTO⟩,i1.at fun o e=>kk _ (by simp) o e,i2.at fun o e=>kk _ (by simp) o e⟩
 item:=by
  intro X hP hw hK hc i pins s U H E I hf st hg;subst hP hw hK;obtain⟨xs,ys,x,y,h1,h2,hx,hy⟩:=hg;obtain⟨as,ra,pa,za⟩:=I.tuple (.inl (.inl h1));obtain⟨bs,rb,pb,zb⟩:=I.tuple (.inl (.inl h2));obtain⟨u,hu,ru⟩:=ra.get hx;obtain⟨v,hv,rv⟩:=rb.get hy;have zl:n+4<s.heap.objs.size:=Heap.lt_size st.1;have hTI:=st.2.1;refine Sn st ha hb (show s.heap.IsTuple a as.toArray from pa) (show s.heap.IsTuple b bs.toArray from pb) (x:=u) (y:=v) (by simpa using hu) (by simpa using hv) fun h1' z1 t1 i1 i2 T1 k1=>?_;refine⟨_,rfl,wpAny_letOwnedTupleGo_zip z1 fun h2' z2 s2=>?_⟩;have s2:Heap.ExtBut (n+4) h1' h2':=s2.extBut;have T2:IsPair h2' s.heap.objs.size u v:=s2 _ _ (Nat.ne_of_gt zl) T1;have I2:Inv X pins U (upd H s.heap.objs.size (.tup [x,y])) { s with heap:=h2',toks:=s.toks }:=by
   refine I.turnedT (ch:=[n+4,n+2,n+3,n,n+1]) hf (fun c o hc q=>?_) (Nat.le_refl _) ⟨by show 2<=sizeLine; decide,[u,v],.cons ru (.cons rv .nil),_,T2,rfl,_,rfl⟩;simp only[List.mem_cons,List.not_mem_nil,or_false,not_or] at hc;exact s2 _ _ hc.1 (k1 c o hc.1 hc.2.2.1 hc.2.2.2.1 hc.2.2.2.2 q)
  refine⟨.ref s.heap.objs.size,_,I2,rfl,⟨_,xs,ys,x,y,h1,h2,hx,hy,I.hok.fresh (Nat.le_refl _),rfl,rfl⟩,⟨z2,s2 _ _ nx (k1 _ _ nx nx (nx (j:=0)) nx hTI),⟨_,_,s2 _ _ nx t1⟩,i1.extBut s2 (nx (k:=0)),i2.extBut s2 nx⟩,fun c hc=>?_⟩;have hlt:c<s.heap.objs.size:=by
   have le:∀k,k<=4->n+k<s.heap.objs.size:=fun k h=>Nat.lt_of_le_of_lt (Nat.add_le_add_left h n) zl;simp only[List.mem_cons,List.not_mem_nil,or_false] at hc;rcases hc with rfl|rfl|rfl|rfl|rfl
   .exact zl
   .exact le 2 (by decide)
   .exact le 3 (by decide)
   .exact le 0 (by decide)
   .exact le 1 (by decide)
  rw[AL (Nat.ne_of_lt hlt)];exact(hf c hc).1
 done:=by
  intro X hP hw hK hc i pins s U H E I hf st hg;subst hP hw hK;obtain⟨xs,h1,hx⟩:=hg;obtain⟨as,ra,pa,za⟩:=I.tuple (.inl (.inl h1));have hl:=ra.length;refine Uy (I.ok.hd hc) st ha (show s.heap.IsTuple a as.toArray from pa) (by simp; lia) fun h' k=>⟨rfl,?_⟩;refine I.turnedL (t':=s.toks) (ch:=[n+4,n+2,n+3,n,n+1]) hf fun c o hc q=>?_;simp only[List.mem_cons,List.not_mem_nil,or_false,not_or] at hc;exact k c o hc.1 hc.2.2.2.1 q
 self:=fun _ _ _ _ _ st h=>wpAny_pyIter_zip st.1 h
end L2
namespace L2
open PySem PySem.Spec PyProof.Rows
section
variable{X:Cx}
theorem boot_zip:bootBuiltins "zip" = some (.type "zip"):=by decide +kernel
noncomputable def XU(tl:TA):TI:=fun U H R=>tl U H fun vs H1=>∃a b xs ys,vs=[.ref a,.ref b]/\H1 a=some (.tup xs)/\H1 b=some (.tup ys)/\R (Itz a b) H1
theorem Wz{ts:List Expr}{k:Nat}{tpos:Pos}{x y:Expr}{ta:TA}{p pos:Pos}(hg:Gl X "zip")(hm:X.mg "zip" = none)(ha:PA X [x,y] ta)(hs:starEach [x,y] X.env=(false,eval x X.env)::starEach [y] X.env)(hpl:(backTo pos (starEach [y] X.env)).any (·.1)=false):
  PI X (.Tuple ts k tpos) (.Call (.Name "zip" p) [x,y] [] pos) (XU ta):=by
 intro pins s U H R I h;refine Call_ (Gy I hg hm boot_zip (PyProof.Rows.callWith_type1 (thn (ha pos pins s U H _ I h) fun us s1 yy=>?_) hs hpl));obtain⟨vs,H1,I1,r1,q1⟩:=yy;obtain⟨a,b,xs,ys,e,h1,h2,q⟩:=q1;subst e;obtain⟨as,ra,pa,za⟩:=I1.tuple (.inl (.inl h1));obtain⟨bs,rb,pb,zb⟩:=I1.tuple (.inl (.inl h2));have ta':s1.heap.IsTuple a as.toArray:=pa;have tb':s1.heap.IsTuple b bs.toArray:=pb;have la:a<s1.heap.objs.size:=by obtain⟨o,ho,_⟩:=ta'; exact Heap.lt_size ho
 have lb:b<s1.heap.objs.size:=by obtain⟨o,ho,_⟩:=tb'; exact Heap.lt_size ho
 cases r1 with
 | @cons _ u1 _ _ e1 rr =>
  cases rr with
  | @cons _ u2 _ _ e2 rr =>
   cases rr;have e1:u1=Value.ref a:=e1;have e2:u2=Value.ref b:=e2;subst e1 e2;refine O8 ta' tb' fun h' st hk=>wpAny_pyIter_zip st.1 ?_
   refine⟨_,[s1.heap.objs.size+4,s1.heap.objs.size+2,s1.heap.objs.size+3,s1.heap.objs.size,s1.heap.objs.size+1],_,_,H1,rfl,I1.kept (t':=s1.toks) hk,Sd _ a b la lb,st,fun c hc=>?_,q⟩;have le:s1.heap.objs.size<=c:=by
    simp only[List.mem_cons,List.not_mem_nil,or_false] at hc;rcases hc with rfl|rfl|rfl|rfl|rfl<;>first|exact Nat.le_add_right .. | exact Nat.le_refl _
   exact I1.fpOk le (I1.hok.fresh le)
end
end L2
namespace J
open PySem PySem.Spec PyProof.Rows L2
section
variable{X:Cx}{a b c e:Expr}{es:List Expr}{m m1 m2 m3:ME}{ms:MA}{p pos pos' p2 apos cpos q npos:Pos}{x:Str}
variable{K:Frag}{N:Addr->Prop}{H:Hp}{U:L2.St}{v:V}{L:List Addr}
noncomputable def isS:D->Bool
 | .str _=>true
 | .int _=>true
 | _=>false
noncomputable def IQ(ds es:List D):List D:=List.zipWith (fun d e=>D.tup [d,e]) ds es
theorem Pn(i:Nat){y z:Str}{py spos:Pos}{scope:Scope}{iter elt:Expr}{ifs:List Expr}{px pz pt':Pos}{k:Nat}{mi:MI}{mt:MT}(nd:X.N.Nodup)(hiN:X.N[i]? = some y)(hy:X.env.scope.names.lookup y=some .local)(hok:Bx [x,z] X.N scope X.env.scope=true)(hc:X.calm=true)(hxz:x≠z)(hx:scope.names.lookup x=some .local)(hz:scope.names.lookup z=some .local)(hs:∀w,foldedSetIterable iter X.env w=pure w)(hsw:swapsWith (.ListComp elt [⟨.Tuple [.Name x px,.Name z pz] k pt',iter,ifs,0⟩] scope pos) (some (.Name y py)) spos.line X.env=pure true)(hi:JI X (.Tuple [.Name x px,.Name z pz] k pt') iter mi)(ht:JTc X [x,z] scope ifs mt)(he:JEc X [x,z] scope elt m):
  JS X (.Assign [.Name y py] (.ListComp elt [⟨.Tuple [.Name x px,.Name z pz] k pt',iter,ifs,0⟩] scope pos) spos) (AH i (AG mi 2 mt m)):=by
 have nw:=LG hok;refine BM (M0 (un:=Ut X.K 2) (te:=tE X.K m) nd hiN hy hc hok hi (fun C s H fp pins=>?_) ht (fun C s H fp pins=>he C s H fp pins) hs hsw) fun _ _ _ h=>GU (J1 h);have P:=MY (X:=cxC X [x,z] scope C s H fp pins) (px:=px) (py:=pz) (pos:=pt') (k:=k) hc rfl rfl (List.nodup_cons.mpr ⟨by
  intro w;rcases List.mem_cons.mp w with w|w
  .exact hxz w
  .exact nw x (by simp) w,List.nodup_cons.mpr ⟨nw z (by simp),nd⟩⟩) (lookup_relabel_local hx) (lookup_relabel_local hz)
 intro pins' s' σ0 U H' v u vs h0 I r hu;obtain⟨a,rfl,hq,hl⟩:=hu;obtain⟨v1,v2,rfl⟩:=Q5 hl;exact P pins' s' σ0 U H' _ u _ h0 I r ⟨a,v1,v2,rfl,hq,rfl⟩
end
end J
end
section
namespace Ug
open PySem Sg
section
variable{P:Program}{w:World}{A:Around}{E:Value->Shared->Prop}{s:Shared}
end
section
variable{P:Program}{w:World}{A:Around}{E:Value->Shared->Prop}
end
section
variable{P:Program}{w:World}{A:Around}{E:Value->Shared->Prop}{s:Shared}
end
section
variable{P:Program}{w:World}{A:Around}{E:Value->Shared->Prop}{s:Shared}
end
section
variable{P:Program}{w:World}{A:Around}{E:Value->Shared->Prop}{s:Shared}
end
end Ug
end
section
namespace Ug
open PySem Sg PyProof.Rows
section
variable{P:Program}{w:World}{A:Around}{E:Value->Shared->Prop}{s:Shared}
end
end Ug
end
section
namespace L2
open PySem PySem.Spec PyProof.Rows Sg
section
variable{X:Cx}
end
end L2
namespace J
open PySem PySem.Spec PyProof.Rows L2 Sg
section
variable{X:Cx}{a b c e:Expr}{es:List Expr}{m m1 m2 m3:ME}{ms:MA}{p pos pos' p2 apos cpos q npos:Pos}{x:Str}
variable{K:Frag}{N:Addr->Prop}{H:Hp}{U:L2.St}{v:V}{L:List Addr}
theorem three{f:List A->Option A}{r:V->V->V->Hp->VK->Prop}(ok:OpN K f (fun xs H Q=>∃x y z,xs=[x,y,z]/\r x y z H Q)){Q:VK}(h:tE K (opM f (Ac m1 (Ac m2 (Ac m3 Ai)))) U H Q):
  tE K m1 U H fun x H1=>tE K m2 U H1 fun y H2=>tE K m3 U H2 fun z H3=>r x y z H3 Q:=by
 have h1:=D8 (K2 ok h);refine tE.mono h1 fun v H1 h2=>tE.mono (D8 h2) fun u H2 h3=>tE.mono (D8 h3) fun w H3 h4=>?_;obtain⟨x,y,z,e,q⟩:=Hk h4;cases e;exact q
noncomputable def Ex:A->Bool
 | .fz .non=>true
 | _=>false
end
end J
end
section
namespace Lm
open PySem PyProof.Rows
section
variable{prog:Program}{w:World}{A:Around}{E:Value->Shared->Prop}{s:Shared}{h₀:Heap}{l q I S:Addr}{vs:List Value}{R:Result->Shared->Prop}{Q:Value->Shared->Prop}
end
end Lm
end
section
namespace L2
open PySem PySem.Spec PyProof.Rows PySem.W
section
variable{X:Cx}{pins:List (Addr×Obj)}{U:St}{H:Hp}{s:Shared}{h':Heap}
end
end L2
namespace L2
open PySem PySem.Spec PyProof.Rows PySem.W
end L2
end
section
namespace J
open PySem PySem.Spec PyProof.Rows L2 PySem.W
section
variable{X:Cx}{a b c e:Expr}{es:List Expr}{m m1 m2 m3:ME}{ms:MA}{p pos pos' p1 p2 p3 lp kp:Pos}{x y:Str}
variable{K:Frag}{N:Addr->Prop}{H:Hp}{U:L2.St}{v:V}{L:List Addr}
end
section
variable{X:Cx}{K:Frag}
end
section
variable{P:Program}{w:World}{K:Frag}{mg:Str->Option Value}{base:Heap}
theorem SF{f c b:Addr}{oc:Value}{od:Option Addr}{fd:FuncData}{osl:Array (Option Value)}(n:nsIn K mainGlobals Bh=some (some (.ref f)))(lk:K.lookup f=some ⟨oc,od,.func fd,osl⟩)(t:tabIn K Bh=some (c,b)):fd.code=.ref c:=by
 unfold tabIn at t;rw[n] at t;dsimp only at t;rw[lk] at t;dsimp only at t;split at t
 .rename_i c' hc
  split at t
  .split at t
   .cases t; exact hc
   .cases t
  .cases t
 .cases t
theorem Vl{st:Stmt}{f c b:Addr}{fd:FuncData}{N ps:List Str}{k:Nat}{m:MS}(F:Fun K Bh Bh st f fd)(hn:nsIn K mainGlobals Bh=some (some (.ref f)))(ht:tabIn K Bh=some (c,b))(S:FnScope N ps (Bf st))(hb:∀(A:Around) (outer:List Env) (s:Shared) (H:Hp) (E:XK),Room k (A.deeper (envOfC Bh (Bf st) s.heap.objs.size f (.ref c)))->JSs (Me CX0 P w K mg base N Bh (Bf st) f (.ref c) A outer s H E).nox (CT st) m):
  FnOk P w K mg base CX0 (k+1) f fd ps (spJ K (fnM ps.length N.length m) ps.length):=by
 obtain⟨oc,od,kV,doc,pm,an,cdv,ct,osl,rfl,lk,hcd⟩:=F.ex;have ec:cdv=.ref c:=SF hn lk ht;subst ec;refine UC lk hcd S (fun vs H Q E h=>?_) fun A outer s H vs Q E hr h=>?_
 .obtain⟨_,_,_,h,_⟩:=h
  exact h
 .have hl:vs.length=ps.length:=by
   obtain⟨_,_,_,h,_⟩:=h;exact h
  have:=Om h;refine⟨_,PSs.nox (hb A outer s H E hr),?_⟩;unfold L2.start;rw[hl];exact this
end
end J
end
section
namespace L2
open PySem PySem.Spec PyProof.Rows
section
variable{X:Cx}{a e:Expr}{ta te:TE}{apos cpos:Pos}
end
end L2
namespace J
open PySem PySem.Spec PyProof.Rows L2
section
variable{X:Cx}{a b c e:Expr}{es:List Expr}{m m1 m2 m3:ME}{ms:MA}{p pos pos' p2 apos cpos q npos:Pos}{x:Str}
variable{K:Frag}{N:Addr->Prop}{H:Hp}{U:L2.St}{v:V}{L:List Addr}
end
section
variable{K:Frag}{Z Z' Z1 Z2:Ro}{U σ' σ1 σ2:L2.St}{H H' H1 H2:Hp}{O O' N:Addr->Prop}{fp fp' fp1 fp2:Nat->List Addr}{L L1:List Addr}
theorem K3{p:Addr}{o oo:HO}(him:imm oo=false)(hy:H p=some oo):Kept (fun q=>q=p) H (upd H p o):=fun b u e c=>by
 by_cases hb:b=p
 .subst hb
  rcases c with c|c
  .exact absurd rfl c
  .rw[hy] at e; cases e; rw[him] at c; cases c
 .rw[AL hb]; exact e
theorem Post.mutD{i:Nat}{st:Own}{a a':A}{v:V}{p:Addr}{o oo:HO}{L':List Addr}(him:imm oo=false)(x:Post K O fp H Z Z1 U U L fp1 H1)(hi : Z1[i]? = some (some (st,a)))(hst:st≠.ro)(hv : U[i]? = some (some v))(hp:p∈fp1 i)(hy:H1 p=some oo)(hL:∀q∈L',q∈fp1 i\/q∈L)(nd:L'.Nodup)(hr:Au K (NN fp1 (ad O L)) (upd H1 p o) v a' L'):Post K O fp H Z (Z1.set i (some (st,a'))) U U [] (pt fp1 i L') (upd H1 p o):=by
 have alp:∀q,H1 q≠none->upd H1 p o q≠none:=fun q z=>by
  by_cases e:q=p
  .subst e; rw[AQ]; simp
  .rw[AL e]; exact z
 have k:=K3 (o:=o) him hy
 -- first the heap,then the slot
 have nn:∀q,NN (pt fp1 i L') (ad O []) q->NN fp1 (ad O L) q:=fun q z=>by
  rcases z with ⟨j,z⟩|z|z
  .rcases Bc z with ⟨_,z⟩|⟨_,z⟩
   .rcases hL q z with z|z
    .exact .inl ⟨i,z⟩
    .exact .inr (.inr z)
   .exact .inl ⟨j,z⟩
  .exact .inr (.inl z)
  .simp at z
 have dis:∀q∈L',∀j,j≠i->q∉fp1 j:=fun q hq j hj z=>by
  rcases hL q hq with w|w
  .exact hj (x.rel.inj j i q z w)
  .exact x.rel.off j q z (.inr w)
 refine⟨⟨by rw[List.length_set]; exact x.rel.len,fun j st' b e=>?_,fun j h=>?_,fun j=>?_,fun j1 j2 q h1 h2=>?_,fun j q h z=>?_,fun q z=>alp q (x.rel.al q (nn q z))⟩,List.nodup_nil,fun q h=>by simp at h,fun q h=>?_,fun b u e c=>?_,rfl,fun j st' b e h=>?_⟩
 .by_cases hj:j=i
  .subst hj
   rw[List.getElem?_set_self (As hi)] at e;cases e;exact⟨v,hv,by rw[E9]; exact DJ nn hr⟩
  .rw[List.getElem?_set_ne (Ne.symm hj)] at e
   obtain⟨w,e1,q⟩:=x.rel.slot j _ _ e;refine⟨w,e1,?_⟩;rw[GG hj];exact q.tr (M:=fun q=>q=p) (fun b z=>by rw[z]; exact .inl ⟨i,hp⟩) k (fun b z=>.inl (nn b z)) fun b hb z=>hj (x.rel.inj j i p (z ▸ hb) hp)
 .by_cases hj:j=i
  .subst hj
   exact absurd (List.getElem?_set_self (As hi)) (h st a')
  .rw[GG hj]
   exact x.rel.out j fun st' b e=>h st' b (by rw[List.getElem?_set_ne (Ne.symm hj)]; exact e)
 .by_cases hj:j=i
  .subst hj; rw[E9]; exact nd
  .rw[GG hj]; exact x.rel.nd j
 .rcases Bc h1 with ⟨e1,z1⟩|⟨e1,z1⟩
  .rcases Bc h2 with ⟨e2,z2⟩|⟨e2,z2⟩
   .rw[e1,e2]
   .exact absurd z2 (dis q z1 j2 e2)
  .rcases Bc h2 with ⟨e2,z2⟩|⟨e2,z2⟩
   .exact absurd z1 (dis q z2 j1 e1)
   .exact x.rel.inj j1 j2 q z1 z2
 .have z':=Jb.mp z
  rcases Bc h with ⟨_,z1⟩|⟨_,z1⟩
  .rcases hL q z1 with w|w
   .exact x.rel.off i q w (.inl z')
   .exact x.lo q w z'
  .exact x.rel.off j q z1 (.inl z')
 .rcases h with h|⟨j,h⟩
  .simp at h
  .rcases Bc h with ⟨_,z1⟩|⟨_,z1⟩
   .rcases hL q z1 with w|w
    .exact x.new q (.inr ⟨i,w⟩)
    .exact x.new q (.inl w)
   .exact x.new q (.inr ⟨j,z1⟩)
 .have e1:=x.kept b u e c
  by_cases hb:b=p
  .subst hb
   rw[hy] at e1;cases e1;rcases c with c|c
   .rcases x.new b (.inr ⟨i,hp⟩) with z|z
    .exact absurd z c
    .rw[e] at z; cases z
   .rw[him] at c; cases c
  .rw[AL hb]; exact e1
 .obtain⟨b',e1,_,f⟩:=x.stab j st' b e h
  by_cases hj:j=i
  .subst hj
   rw[hi] at e1;cases e1;exact⟨a',List.getElem?_set_self (As hi),rfl,fun z=>absurd z hst⟩
  .exact⟨b',by rw[List.getElem?_set_ne (Ne.symm hj)]; exact e1,rfl,f⟩
end
section
variable{X:Cx}{a b c e:Expr}{es:List Expr}{m m1 m2 m3:ME}{ms:MA}{p pos pos' p2 apos cpos q npos:Pos}{x:Str}
end
end J
end
section
namespace J
open PySem PySem.Spec PyProof.Rows L2
noncomputable abbrev MR:=Ro->Option Str
noncomputable abbrev FnR:=List (Own×A)->Option Str
noncomputable def Yj(a:MS)(r:MR):MR:=fun Z=>(a Z).bind fun f=>match f with
 | .next Z1=>r Z1
 | _=>none
noncomputable def ifR(c:MT)(r:MR):MR:=fun Z=>(c Z).bind fun p=>if p.1 then r p.2 else none
noncomputable def LJ:List (Own×A)->Bool
 | []=>true
 | (.own,.fz _)::as=>LJ as
 | _=>false
noncomputable def UA(Ψ:FnR)(m:MA):MR:=fun Z=>(m Z).bind fun p=>(DK p.2 p.1).bind fun args=>if LJ args then Ψ args else none
section
variable{K:Frag}{XC:Str->Addr}{E:XK}{U:L2.St}{H:Hp}{D:Ends}{r:MR}{a:MS}{c:MT}
end
section
variable{X:Cx}{K:Frag}{XC:Str->Addr}{E:XK}{r:MR}{w1:MS}{s:Stmt}{ss st st':List Stmt}{mt:MT}{c:Expr}{pos:Pos}
end
section
variable{P:Program}{w:World}{K:Frag}{mg:Str->Option Value}{base:Heap}{XC:Str->Addr}
section
variable{N:List Str}{qual:Str}{scope:Scope}{f:Addr}{cd:Value}{A:Around}{outer:List Env}{s:Shared}{H:Hp}{E:XK}
end
end
end J
end
section
namespace PySem
section
variable{M:Model}{A:Around}{E:Value->Shared->Prop}
variable{nm q nm' q':Str}{C N B N':Addr}{bs bm bs' bm':List Value}{hdct hdct':Bool}{sn sn':List Str}{sub sub':List Value}{ab ab':Bool}{col col':Option Bool}{dd dd':Option Addr}{k0 k1 k2 k3 k5 j0 j1 j2 j3 j5:Option Value}{newId newId':String}
end
section
variable{prog:Program}{w:World}{A:Around}{E:Value->Shared->Prop}{s:Shared}{env:Env}
end
end PySem
end
section
namespace L2
open PySem PySem.Spec PyProof.Rows
section
variable{P:Program}{w:World}{outer:List Env}{H H':Hp}{s s':Shared}{a C:Addr}{a0:Value}{B:Heap}
end
section
variable{X:Cx}{pins:List (Addr×Obj)}{U:St}{H H':Hp}{s s':Shared}{a C:Addr}{a0:Value}{B:Heap}
end
section
variable{X:Cx}{body:List Stmt}{h0:ExceptHandler}{hs:List ExceptHandler}{pos:Pos}{t:TS}
end
section
variable{X:Cx}{k j:Nat}{x:Str}{ps:List Str}{sp:Sp}{E:XK}{p cpos pos:Pos}{e:Expr}{es:List Expr}{t:TA}{pins:List (Addr×Obj)}{U:St}{H:Hp}{s:Shared}
end
section
variable{X:Cx}{pins:List (Addr×Obj)}{U:St}{H H':Hp}{s s':Shared}{a C:Addr}{a0:Value}{B:Heap}
end
end L2
end
section
namespace PySem
end PySem
namespace L2
open PySem PySem.Spec PyProof.Rows
section
variable{X:Cx}{pins:List (Addr×Obj)}{U:St}{H H':Hp}{s s3:Shared}{a C:Addr}{a0:Value}{B:Heap}
end
end L2
end
section
namespace L2
open PySem PySem.Spec PyProof.Rows
section
variable{prog:Program}{w:World}{A:Around}{E:Value->Shared->Prop}{s:Shared}
end
section
variable{prog:Program}{w:World}{A:Around}{E:Value->Shared->Prop}{s:Shared}
end
end L2
end
section
namespace J
open PySem PySem.Spec PyProof.Rows L2
section
variable{X:Cx}{a b c e:Expr}{m m1 m2 m3:ME}{p pos pos' p2:Pos}
variable{K:Frag}{N:Addr->Prop}{H:Hp}{v:V}
end
end J
end
section
namespace L2
open PySem PySem.Spec PyProof.Rows
section
variable{X:Cx}
end
end L2
namespace J
open PySem PySem.Spec PyProof.Rows L2
section
variable{X:Cx}{a b c e:Expr}{es:List Expr}{m m1 m2 m3:ME}{ms:MA}{p pos pos' p2 apos cpos q npos:Pos}{x:Str}
variable{K:Frag}{N:Addr->Prop}{H:Hp}{U:L2.St}{v:V}{L:List Addr}
noncomputable def Ij:List A->Option A:=on2 fun a q2=>(Io q2).bind fun _u=>some (.fz (.bl (Ex a)))
theorem ED:OpN K Ij (r2L fun x y H Q=>y=.non/\Q (.bl (decide (x=.non))) H):=by
 intro N H xs as b Q hs e k
 replace e:=Co e
 obtain⟨a,q2,rfl,e⟩:=e
 replace e:=bind_eq_some_iff.mp e
 obtain⟨_u,eq2,e⟩:=e;cases S9 eq2;clear eq2;cases e;obtain⟨x,y,L1,L2,rfl,h1,h2⟩:=Bm hs;obtain⟨_,h2⟩:=D7.mp h2;cases h2;refine⟨_,_,rfl,rfl,k _ _ ?_⟩;have:decide (x=V.non)=Ex a:=by
  cases a with
  | fz d =>
   obtain⟨_,h1⟩:=D7.mp h1;cases h1<;>simp[Ex]
  | lst as=>rw[Au] at h1; obtain⟨_,_,_,rfl,_⟩:=h1; simp[Ex]
  | tup as=>rw[Au] at h1; obtain⟨_,_,rfl,_⟩:=h1; simp[Ex]
  | scr ns=>rw[Au] at h1; obtain⟨_,rfl,_⟩:=h1; simp[Ex]
  | dic kvs=>rw[Au] at h1; obtain⟨_,_,rfl,_⟩:=h1; simp[Ex]
  | dct kvs=>rw[Au] at h1; obtain⟨_,_,rfl,_⟩:=h1; simp[Ex]
  | opq _ _=>rw[Au] at h1; obtain⟨rfl,_⟩:=h1; simp[Ex]
 rw[this];exact F1 (.bl _)
noncomputable def Ss:List A->Option A:=G8 (fun _ _=>true) fun i j=>i+j
noncomputable def Vd(i:Nat)(m:ME):MS:=AH i (opM Ss (m2L (Aa i) m))
theorem VD(i:Nat)(hN:X.N.Nodup)(hi:X.N[i]? = some x)(hx:Loc X.env.scope x)(hf:X.fn x=true)(h:JE X e m):JS X (.AugAssign (.Name x pos') .Add e pos) (Vd i m):=
 BM (WA hN hi hx h Vt (.inl hf)) fun D U H h=>by
  have h1:tE X.K (opM Ss (m2L (Aa i) m)) U H fun z H2=>D.nx (U.set i (some z)) H2:=J1 h;obtain⟨v,e1,q⟩:=R5 (two HM h1);refine⟨v,e1,tE.mono q fun y H1 h2=>?_⟩;obtain⟨i',j',a1,a2,a3⟩:=h2;exact⟨i',j',a1,a2,a3⟩
end
end J
end
section
namespace L2
open PySem PySem.Spec PyProof.Rows
section
variable{X:Cx}{pins:List (Addr×Obj)}{U:St}{H:Hp}{s:Shared}
noncomputable abbrev withN(X:Cx)(N':List Str):Cx:={ X with N:=N' }
noncomputable def ID(N' N:List Str)(sco:Scope):Bool:=(N'.length==N.length)&&(N'.zip N).all fun p=>p.1==p.2 || (sco.names.lookup p.1).isNone
theorem SO:∀{N' N:List Str} {sco:Scope},ID N' N sco=true->∀(i:Nat) (x:Str),N'[i]? = some x->Vis sco x->N[i]? = some x:=by
 intro N' N sco h i x e v;simp only[ID,Bool.and_eq_true,beq_iff_eq,List.all_eq_true] at h;obtain⟨hl,ha⟩:=h;have hi:i<N'.length:=(List.getElem?_eq_some_iff.mp e).1;have hi2:i<N.length:=by rw[<- hl]; exact hi
 have hz:(N'.zip N)[i]? = some (x,N[i]):=by
  rw[List.getElem?_zip_eq_some];exact⟨e,List.getElem?_eq_getElem hi2⟩
 have:=ha _ (List.mem_of_getElem? hz);simp only[Bool.or_eq_true,beq_iff_eq,Option.isNone_iff_eq_none] at this;rcases this with z|z
 .rw[List.getElem?_eq_getElem hi2,<- z]
 .rcases v with v|v|v<;>rw[z] at v<;>cases v
theorem Cx.Ok.withN{N':List Str}(ok:X.Ok):(withN X N').Ok:=⟨ok.mod,ok.kind,ok.glob,ok.blt,ok.above,ok.inj,ok.has,ok.cab,ok.hd,ok.frames,ok.stk,ok.exf,ok.bs,ok.bsz,ok.noex,ok.exfs,ok.funs,ok.frf,ok.tb⟩
theorem Inv.hide{N':List Str}(h:ID N' X.N X.env.scope=true)(I:Inv X pins U H s):Inv (withN X N') pins U H s:=by
 refine⟨I.ok.withN,I.os,I.bare,I.base,?_,I.cell,I.free,I.freeC,I.pin,I.hok,?_⟩
 .obtain⟨m,hn,q⟩:=I.loc
  exact⟨m,hn,fun i x v e1 e2 vis=>q i x v (SO h i x e1 vis) e2 vis⟩
 .simp only[ID,Bool.and_eq_true,beq_iff_eq] at h
  exact I.len.trans h.1.symm
theorem Inv.blank{N':List Str}(I:Inv (withN X N') pins U H s):Inv X pins (List.replicate X.N.length none) H s:=by
 have ok:X.Ok:=⟨I.ok.mod,I.ok.kind,I.ok.glob,I.ok.blt,I.ok.above,I.ok.inj,I.ok.has,I.ok.cab,I.ok.hd,I.ok.frames,I.ok.stk,I.ok.exf,I.ok.bs,I.ok.bsz,I.ok.noex,I.ok.exfs,I.ok.funs,I.ok.frf,I.ok.tb⟩;refine⟨ok,I.os,I.bare,I.base,?_,I.cell,I.free,I.freeC,I.pin,I.hok,by rw[List.length_replicate]⟩;obtain⟨m,hn,_⟩:=I.loc;refine⟨m,hn,fun i x v e1 e2 vis=>?_⟩;rw[List.getElem?_replicate] at e2;split at e2<;>simp at e2
theorem Wn{N':List Str}{own:List Str}{scope:Scope}{target iter elt:Expr}{ifs:List Expr}{pos:Pos}{wi:TI}{un:TU}{tc:TT}{te:TE}(hid:ID N' X.N X.env.scope=true)(hc:X.calm=true)(hok:Bx own N' scope X.env.scope=true)(hi:PI X target iter wi)(hg:∀C s H fp pins,PGo (cxC (withN X N') own scope C s H fp pins) target own.length un)(ht:∀C s H fp pins,PTs (cxC (withN X N') own scope C s H fp pins) ifs tc)(he:∀C s H fp pins,PE (cxC (withN X N') own scope C s H fp pins) elt te)(hs:∀x,foldedSetIterable iter X.env x=pure x:=by intro _; rfl):PE X (.ListComp elt [⟨target,iter,ifs,0⟩] scope pos) (tLc wi un tc te):=by
 intro pins s U H Q I h;have hok':Bx own (withN X N').N scope (withN X N').env.scope=true:=hok;rw[eval_ListComp];refine wpAny_comprehension_free (use:=none) rfl hs (La (env:=X.env) (Bx.free (X:=withN X N') hok' (I.hide hid))) (Bx.kind hok) (Bx.names hok) ?_;refine thn (hi pins s U H _ I h) fun v s1 h1=>thn h1 fun itv s2 h2=>?_;obtain⟨it,fp,tn,J,H2,e,I2,T,st2,f2,q⟩:=h2;subst e;obtain⟨W,w0,turn⟩:=q s2.heap.objs.size I2.fresh;refine wpAny_newObj_type (hd:=by size_fits) ?_;have I3:Inv X pins U (upd H2 s2.heap.objs.size (.lst [])) { s2 with heap:=s2.heap.push { cls:=.type "list",data:=.seq ([]:List Value).toArray } }:=I2.lnew (its:=[]) (t':=s2.toks) .nil (Nat.zero_le _);have st3:tn 0 (s2.heap.push { cls:=.type "list",data:=.seq ([]:List Value).toArray }):=T.keep _ _ _ st2 fun b _ o e=>Heap.get?_push_of_some _ e;have f3:∀b∈fp,Ge X pins (upd H2 s2.heap.objs.size (.lst [])) b:=fun b hb=>by
  obtain⟨o,e,_⟩:=T.obj _ _ st2 b hb;exact⟨by rw[AL (Nat.ne_of_lt (Heap.lt_size e))]; exact(f2 b hb).1,(f2 b hb).2⟩
 refine thn (GQ (X:=withN X N') (iter:=iter) (pos:=pos) (R:=compPost (model X.prog X.w) X.A X.xe none (EP X pins U Q) (.ref s2.heap.objs.size) (s2.heap.push { cls:=.type "list",data:=.seq ([]:List Value).toArray }).objs.size) hc hok' hg ht he (I3.hide hid) T st3 f3 W w0 turn fun s' σ' H' J' q'=>?_) fun cenv s4 ⟨el,h4⟩=>?_
 .obtain⟨m,hn,_⟩:=J'.loc
  have J2:=Inv.blank (X:=cxC X own scope (s2.heap.push { cls:=.type "list",data:=.seq ([]:List Value).toArray }).objs.size _ _ fp pins) (N':=own++N') J';exact⟨m,hn,fun h' hs'=>⟨.ref s2.heap.objs.size,H',E4 I3 f3 J2 hs',rfl,q'⟩⟩
 .have el':cenv.locals=(s2.heap.push { cls:=.type "list",data:=.seq ([]:List Value).toArray }).objs.size:=el
  rw[<- el'] at h4;exact h4
end
end L2
namespace J
open PySem PySem.Spec PyProof.Rows L2
section
variable{X:Cx}{x:Str}{pos:Pos}{mi:MI}{mt:MT}{m:ME}
theorem QY(N':List Str){scope:Scope}{iter elt:Expr}{ifs:List Expr}{px:Pos}(hid:ID N' X.N X.env.scope=true)(hok:Bx [x] N' scope X.env.scope=true)(hc:X.calm=true)(hn:N'.Nodup)(hx:scope.names.lookup x=some .local)(hs:∀z,foldedSetIterable iter X.env z=pure z)(hi:JI X (.Name x px) iter mi)(ht:JTc (withN X N') [x] scope ifs mt)(he:JEc (withN X N') [x] scope elt m):
  JE X (.ListComp elt [⟨.Name x px,iter,ifs,0⟩] scope pos) (AG mi 0 mt m):=by
 have hnx:∀y∈N',x≠y:=fun y hy z=>by
  simp only[Bx,Bool.and_eq_true,List.all_eq_true] at hok;have:=hok.2 x (by simp);rw[z] at this;simp[hy] at this
 exact AJ (Wn (te:=tE X.K m) hid hc hok hi (fun C s H fp pins=>HQ rfl (List.nodup_cons.mpr ⟨fun z=>hnx x z rfl,hn⟩) (lookup_relabel_local hx)) ht (fun C s H fp pins=>he C s H fp pins) hs) fun _ _ _ h=>GU h
end
end J
end
section
namespace L2
open PySem PySem.Spec PyProof.Rows
section
variable{X:Cx}{tg:Expr}
end
section
variable{X:Cx}{pins:List (Addr×Obj)}{U:St}{H:Hp}{s:Shared}
end
section
variable{X:Cx}
end
section
variable{prog:Program}{w:World}{A:Around}{E:Value->Shared->Prop}{h:Heap}{g:Array GenState}{d:Drawn}{t:Nat}{os:OsState}{a C:Addr}{o:Obj}{K:Frag}
end
end L2
end
section
namespace J
open PySem PySem.Spec PyProof.Rows L2
section
variable{X:Cx}{a:Expr}{m:ME}{p pos q:Pos}{K:Frag}{H:Hp}{U:L2.St}
end
section
variable{X:Cx}{a b c e:Expr}{m:ME}{mt:MT}{mi:MI}{p pos:Pos}{x:Str}
end
end J
end
section
namespace L2
open PySem PySem.Spec PyProof.Rows
section
variable{X:Cx}{CX:CXT}{k:Nat}{f C:Addr}{fd:FuncData}{ps:List Str}{sp:Sp}{dvs:List V}{ds:List Value}{E:XK}{x m:Str}{p pos apos:Pos}{e o:Expr}{es:List Expr}{ta:TE}{t:TA}
end
end L2
namespace J
open PySem PySem.Spec PyProof.Rows L2
section
variable{P:Program}{w:World}{K:Frag}{mg:Str->Option Value}{base:Heap}
end
section
variable{X:Cx}{e:Expr}{es:List Expr}{ms:MA}{p pos:Pos}{x:Str}
end
end J
end
section
namespace L2
open PySem PySem.Spec PyProof.Rows PySem.W
section
variable{P:Program}{w:World}{K:Frag}{mg:Str->Option Value}{base:Heap}
end
section
variable{X:Cx}{pins:List (Addr×Obj)}{U:St}{H:Hp}{s:Shared}{a:Addr}{o:Obj}
end
end L2
end
section
namespace J
open PySem PySem.Spec PyProof.Rows L2
section
variable{P:Program}{w:World}{K:Frag}{mg:Str->Option Value}{base:Heap}
end
end J
end
section
namespace J
open PySem PySem.Spec PyProof.Rows L2 PySem.W
section
variable{P:Program}{w:World}{K:Frag}{mg:Str->Option Value}{base:Heap}
end
section
variable{X:Cx}{scope:Scope}{pins:List (Addr×Obj)}{U:L2.St}{H H2:Hp}{s:Shared}{Z:Ro}{O:Addr->Prop}{fp:Nat->List Addr}
end
end J
end
section
namespace L2
open PySem PySem.Spec PyProof.Rows
section
variable{X:Cx}
end
end L2
namespace J
open PySem PySem.Spec PyProof.Rows L2
section
variable{X:Cx}{a b c e:Expr}{m:ME}{mt:MT}{mi:MI}{p pos apos cpos q:Pos}{x:Str}{K:Frag}
end
end J
end
section
namespace J
open PySem PySem.Spec PyProof.Rows L2 PySem.W
section
variable{P:Program}{w:World}{K:Frag}{mg:Str->Option Value}{base:Heap}
end
noncomputable def Hg(x:Str)(n:Nat):Str:=⟨(List.replicate n x.cps).foldl (· ++ ·) #[]⟩
theorem Qz(x:Array Nat):∀(n:Nat) (a:Array Nat),((List.replicate n x).foldl (· ++ ·) a).toList=a.toList++(List.replicate n x.toList).flatten:=by
 intro n;induction n with
 | zero=>intro a; simp
 | succ n ih=>intro a; rw[List.replicate_succ,List.foldl_cons,ih]; simp[List.replicate_succ]
theorem KW(x:Str)(n:Nat):(Hg x n).cps.toList=(List.replicate n x.cps.toList).flatten:=by
 unfold Hg;exact(Qz x.cps n #[]).trans (by simp)
theorem RM(x:Str)(n:Nat):(Hg x n).length=n*x.length:=by
 have h:(Hg x n).length=(Hg x n).cps.toList.length:=by simp[Str.length]
 rw[h,KW];simp[Str.length]
theorem RO(x:Str):Hg x 1=x:=by
 obtain⟨c⟩:=x;simp[Hg]
theorem RN{x:Str}(h:x.length=0)(n:Nat):Hg x n=x:=by
 obtain⟨⟨c⟩⟩:=x;have:c=[]:=List.eq_nil_of_length_eq_zero (by simpa[Str.length] using h);subst this;have e:=KW ⟨#[]⟩ n;have:(Hg ⟨#[]⟩ n).cps.toList=[]:=by rw[e]; simp
 generalize Hg ⟨#[]⟩ n=y at this;obtain⟨⟨d⟩⟩:=y;simp at this;subst this;rfl
theorem JB{X:Cx}:OpR X (binaryOp .Mult) (fun x y H Q=>∃z i,x=.str z/\y=.int i/\(z.length<=1000/\0<=i/\i<=1000)/\Q (.str (Hg z i.toNat)) H):=by
 intro pins s U H x y v u Q I rx ry h;obtain⟨z,i,rfl,rfl,⟨h1,h2,h3⟩,q⟩:=h;obtain⟨t,rfl⟩:=rx;obtain⟨t',rfl⟩:=ry;have hz:z.length*i.toNat<=1000000:=Nat.le_trans (Nat.mul_le_mul h1 (show i.toNat<=1000 by omega)) (by decide);have hlim:1000000<=sizeLine:=by decide
 refine P.mul_str (by rw[decide_eq_false (by omega),decide_eq_false (by omega)]; rfl) (fun a b=>?_) (fun a b=>?_) ?_
 .have:1000<=(2 ^ 63-1:Int) / i:=Int.le_ediv_of_mul_le (by omega) (by omega)
  omega
 .unfold Builtin.Str.tooLong
  exact decide_eq_false (by omega)
 .split
  .rename_i hi
   have:i.toNat=0:=by omega
   rw[this] at q;exact⟨by decide,⟨.str (Hg z 0),H,I.tok _,⟨_,rfl⟩,q⟩⟩
  .split
   .rename_i hc
    have:Hg z i.toNat=z:=by
     simp only[Bool.or_eq_true,beq_iff_eq] at hc;rcases hc with hc|hc
     .rw[hc]; exact RO z
     .exact RN hc _
    rw[this] at q;exact⟨.str z,H,I,⟨_,rfl⟩,q⟩
   .exact⟨by rw[show(⟨(List.replicate i.toNat z.cps).foldl (· ++ ·) #[]⟩:Str)=Hg z i.toNat from rfl,RM,Nat.mul_comm]; omega,⟨.str (Hg z i.toNat),H,I.tok _,⟨_,rfl⟩,q⟩⟩
section
variable{K:Frag}
end
section
variable{X:Cx}{K:Frag}{a b:Expr}{m1 m2:ME}{p2 pos:Pos}{N:Addr->Prop}{H:Hp}
end
end J
end
section
namespace J
open PySem PySem.Spec PyProof.Rows L2
section
variable{X:Cx}
end
section
variable{K:Frag}{U:L2.St}{H:Hp}
end
section
variable{X:Cx}{p pos apos cpos npos npos2:Pos}{x y:Str}
end
end J
end
section
namespace L2
open PySem PySem.Spec PyProof.Rows
section
variable{X:Cx}
theorem PR{N':List Str}{i:Nat}{y:Str}{py spos:Pos}{own:List Str}{scope:Scope}{target iter elt:Expr}{ifs:List Expr}{pos:Pos}{wi:TI}{un:TU}{tc:TT}{te:TE}(nd:X.N.Nodup)(hiN:X.N[i]? = some y)(hy:X.env.scope.names.lookup y=some .local)(hid:ID N' X.N X.env.scope=true)(hc:X.calm=true)(hok:Bx own N' scope X.env.scope=true)(hi:PI X target iter wi)(hg:∀C s H fp pins,PGo (cxC (withN X N') own scope C s H fp pins) target own.length un)(ht:∀C s H fp pins,PTs (cxC (withN X N') own scope C s H fp pins) ifs tc)(he:∀C s H fp pins,PE (cxC (withN X N') own scope C s H fp pins) elt te)(hs:∀x,foldedSetIterable iter X.env x=pure x:=by intro _; rfl)(hsw:swapsWith (.ListComp elt [⟨target,iter,ifs,0⟩] scope pos) (some (.Name y py)) spos.line X.env=pure true:=by rfl):
  PS X (.Assign [.Name y py] (.ListComp elt [⟨target,iter,ifs,0⟩] scope pos) spos) (Oa (tLc wi un tc te) (HA i)):=by
 intro pins s U H D I h;have hok':Bx own (withN X N').N scope (withN X N').env.scope=true:=hok;rw[exec_Assign_Name_used _ _ _ _ hsw];refine wpAny_bind (wpAny_standAt (wpAny_bind ?_));show wpAny _ X.A (do let _ <- comprehension (.ListComp elt [⟨target,iter,ifs,0⟩] scope pos) scope X.env _ (newList []) false (eval iter X.env) (some (assign (.Name y py) X.env))) _ _ s;refine wpAny_bind (wpAny_mono (wpAny_comprehension_free (use:=some (assign (.Name y py) X.env)) (Q:=fun _ s'=>SP X pins D .next s') rfl hs (La (env:=X.env) (Bx.free (X:=withN X N') hok' (I.hide hid))) (Bx.kind hok) (Bx.names hok) ?_) (fun _ s' hq=>wpAny_pure (wpAny_pure hq)) fun _ _ e=>e);refine thn (hi pins s U H _ I h) fun v s1 h1=>thn h1 fun itv s2 h2=>?_;obtain⟨it,fp,tn,J,H2,e,I2,T,st2,f2,q⟩:=h2;subst e;obtain⟨W,w0,turn⟩:=q s2.heap.objs.size I2.fresh;refine wpAny_newObj_type (hd:=by size_fits) ?_;have I3:Inv X pins U (upd H2 s2.heap.objs.size (.lst [])) { s2 with heap:=s2.heap.push { cls:=.type "list",data:=.seq ([]:List Value).toArray } }:=I2.lnew (its:=[]) (t':=s2.toks) .nil (Nat.zero_le _);have st3:tn 0 (s2.heap.push { cls:=.type "list",data:=.seq ([]:List Value).toArray }):=T.keep _ _ _ st2 fun b _ o e=>Heap.get?_push_of_some _ e;have f3:∀b∈fp,Ge X pins (upd H2 s2.heap.objs.size (.lst [])) b:=fun b hb=>by
  obtain⟨o,e,_⟩:=T.obj _ _ st2 b hb;exact⟨by rw[AL (Nat.ne_of_lt (Heap.lt_size e))]; exact(f2 b hb).1,(f2 b hb).2⟩
 generalize hS:({ s2 with heap:=s2.heap.push { cls:=.type "list",data:=.seq ([]:List Value).toArray } }:Shared)=s3 at I3 st3;have st3':tn 0 s3.heap:=by rw[<- hS]; exact st3
 refine thn (GQ (X:=withN X N') (iter:=iter) (pos:=pos) (acc:=s2.heap.objs.size) (Q:=fun x H1=>HA i x U H1 D.nx) (R:=compPost (model X.prog X.w) X.A X.xe (some (assign (.Name y py) X.env)) (fun _ s'=>SP X pins D .next s') (.ref s2.heap.objs.size) s3.heap.objs.size) hc hok' hg ht he (I3.hide hid) T st3' f3 W w0 turn fun s' σ' H' J' q'=>?_) fun cenv s4 ⟨el,h4⟩=>?_
 .have J2:=Inv.blank (X:=cxC X own scope s3.heap.objs.size _ _ fp pins) (N':=own++N') J'
  have I4:Inv X pins U H' s':=E4 I3 f3 J2 (h':=s'.heap) (.refl ..);obtain⟨m,⟨oC,es,ep,hoC,hdC,hrC⟩,_⟩:=J'.loc;have hCL:s3.heap.objs.size≠X.env.locals:=Nat.ne_of_gt I3.lt;have hfs:s3.heap.objs.size∉X.fs:=I3.nofs (Nat.le_refl _);have hCc:∀x c,X.env.cells.lookup x=some c->c≠s3.heap.objs.size:=fun x c e=>by
   obtain⟨v,z⟩:=I3.cell x c e;exact Nat.ne_of_lt z.lt
  have hCp:∀p∈X.pn++pins,p.1≠s3.heap.objs.size:=fun p hp=>Nat.ne_of_lt (Heap.lt_size (I3.pin p hp).1);have I5:Inv X (pins++[(s3.heap.objs.size,oC)]) U H' s':=I4.pins_of fun p hp=>(List.mem_append.mp hp).elim (fun z=>I4.pin p (List.mem_append_right _ z)) fun z=>by
   have z':p=(s3.heap.objs.size,oC):=by simpa using z
   subst z';exact⟨hoC,J'.free,hCL,hfs,fun v=>by rw[hdC]; intro z; cases z⟩
  show wpAny _ X.A (assign (.Name y py) X.env (.ref s2.heap.objs.size)) _ _ s';refine wpAny_assign_Name (FD I5 nd hiN (.inl hy) (v:=.ref s2.heap.objs.size) rfl (fun s6 I6=>?_) (.inr hy));have hp:=I6.pin (s3.heap.objs.size,oC) (List.mem_append_right _ (List.mem_append_right _ (by simp)));refine⟨m,⟨oC,es,ep,hp.1,hdC,hrC⟩,fun h' hs'=>?_⟩;exact⟨_,H',I6.unpinned.turned (h':=h') (t':=s6.toks) (it:=s3.heap.objs.size) (fun b o hb e=>(hs'.2 b hb).trans e) hp.2.1 hCL (.inr I3.sz) hCc hCp,q'⟩
 .have el':cenv.locals=s3.heap.objs.size:=el
  rw[<- el'] at h4;exact h4
end
end L2
namespace J
open PySem PySem.Spec PyProof.Rows L2
section
variable{X:Cx}{x:Str}{pos:Pos}{m:ME}
end
end J
end
section
namespace L2
open PySem PySem.Spec PyProof.Rows
section
variable{X:Cx}
noncomputable def RI(K:Frag):List V->Hp->VK->Prop:=fun xs H Q=>∃p ys,xs=[.ref p]/\SqL K H p ys/\∀l,H l=none->Q (.ref l) (upd H l (.tup ys))
theorem Bk:Cv X (.type "tuple") (RI X.K):=by
 intro pins s U H xs us Q I r h;obtain⟨p,ys,rfl,hq,q⟩:=h;obtain⟨u,rfl,ru⟩:=r.one;cases ru;obtain⟨its,rv,pl,hz⟩:=I.list hq;have hlen:=rv.length;refine call_tuple_list pl.isList (fun h' kk=>?_) (by simp; lia);have I1:Inv X pins U H { s with heap:=h',toks:=s.toks }:=I.kept kk;exact⟨.ref h'.objs.size,_,I1.laid (t':=s.toks) (o:=.tup ys) (fun b o e=>Heap.get?_push_of_some _ e) (Nat.le_refl _) ⟨hz,its,rv,⟨_,Heap.get?_push_size _ rfl,rfl,_,rfl⟩⟩,rfl,q _ (I1.hok.fresh (Nat.le_refl _))⟩
end
end L2
namespace J
open PySem PySem.Spec PyProof.Rows L2
section
variable{X:Cx}{e:Expr}{es:List Expr}{m:ME}{ms:MA}{p pos:Pos}{K:Frag}
noncomputable def GI:List A->Option A:=on1 fun a=>(Dq a).bind fun ds=>if ds.length<=LIM then some (.fz (.tup ds)) else none
theorem CI:OpN K GI (RI K):=by
 intro N H xs as b Q hs e k
 replace e:=Fs e
 obtain⟨a,rfl,e⟩:=e;simp only[bind_eq_some_iff] at e;obtain⟨ds,e1,e2⟩:=e;split at e2
 .rename_i hz
  cases e2;obtain⟨x,L1,rfl,h1⟩:=DU hs;obtain⟨p,vs,rfl,hp,hz',q⟩:=Fq h1 e1;exact⟨p,vs,rfl,.inl (.inl hp),fun l hl=>k _ _ (Th hl hz' q)⟩
 .cases e2
end
end J
end
section
namespace J
open PySem PySem.Spec PyProof.Rows L2
section
variable{P:Program}{w:World}{K:Frag}{mg:Str->Option Value}{base:Heap}{XC:Str->Addr}
variable{N:List Str}{qual:Str}{scope:Scope}{f:Addr}{cd:Value}{A:Around}{outer:List Env}{s:Shared}{H:Hp}{E:XK}
end
end J
namespace L2
open PySem PySem.Spec PyProof.Rows
section
variable{X:Cx}
end
end L2
namespace J
open PySem PySem.Spec PyProof.Rows L2
section
variable{K:Frag}{H:Hp}{N:Addr->Prop}
theorem PV{vs:List V}{ds:List D}(q:Aw N H vs ds):∀k:Nat,Aw N H (List.replicate k vs).flatten (List.replicate k ds).flatten:=by
 intro k;induction k with
 | zero=>simp only[List.replicate_zero,List.flatten_nil,Aw]
 | succ k ih=>rw[List.replicate_succ,List.replicate_succ,List.flatten_cons,List.flatten_cons]; exact GP q ih
noncomputable def Mx:List A->Option A:=on2 fun x q2=>(B6 q2).bind fun j=>(Dq x).bind fun ds=>if 0<=j/\j<=1000/\ds.length<=1000 then some (.lst ((List.replicate j.toNat ds).flatten.map A.fz)) else none
theorem IU:OpN K Mx (r2L Yf):=by
 intro N H xs as b Q hs e k
 replace e:=Co e
 obtain⟨q1,q2,rfl,e⟩:=e
 replace e:=bind_eq_some_iff.mp e
 obtain⟨j,eq2,e⟩:=e;cases Bj eq2;simp only[bind_eq_some_iff] at e;obtain⟨ds,e1,e⟩:=e;split at e
 .rename_i hc
  cases e;obtain⟨x,y,L1,L2,rfl,h1,h2⟩:=Bm hs;cases Bz h2;obtain⟨p,vs,rfl,hp,hz,q⟩:=Fq h1 e1;have hl:=q.len;have big:1000000<=sizeLine:=by decide
  have h3:vs.length*j.toNat<=1000*1000:=Nat.mul_le_mul (by omega) (by omega);refine⟨_,_,rfl,p,j,vs,rfl,rfl,hp,by omega,by omega,by omega,fun p' hp'=>k _ _ (ON hp' ?_ (PV q _))⟩;rw[len_rep,Nat.mul_comm]; omega
 .cases e
end
section
variable{X:Cx}{a b:Expr}{m m1 m2:ME}{p2 pos:Pos}
end
end J
end
section
namespace J
open PySem PySem.Spec PyProof.Rows L2
noncomputable def gk(d:D):Bool:=Q1 d&&shB 8 d
noncomputable def XJ:A->Option (List (D×D))
 | .dct kvs=>some kvs
 | .fz _ | .lst _ | .tup _ | .scr _ | .dic _ | .opq _ _=>none
theorem SG{a:A}{kvs:List (D×D)}(h:XJ a=some kvs):a=.dct kvs:=by
 cases a with
 | dct k=>cases h; rfl
 | _=>cases h
noncomputable def Iw(kvs:List (D×D))(k:D):Option D:=(kvs.find? fun kv=>decide (kv.1=k)).map (·.2)
noncomputable def HU(kvs:List (D×D))(k:D)(d:D):List (D×D):=if kvs.any fun kv=>decide (kv.1=k) then kvs.map fun kv=>if kv.1=k then (kv.1,d) else kv else kvs++[(k,d)]
section
variable{N:Addr->Prop}{H:Hp}{us:List (D×V)}{kvs:List (D×D)}{k d:D}{y:V}
noncomputable abbrev PrE(N:Addr->Prop)(H:Hp):List (D×V)->List (D×D)->Prop:=Paired (fun(u:D×V) (k:D×D)=>u.1=k.1/\RepA N H u.2 k.2)
theorem UG(r:RepA N H y d)(h:gk d=true):KR H y d/\Sh 8 d:=by
 unfold gk at h;rw[Bool.and_eq_true] at h;exact⟨KR.of r h.1,JV h.2⟩
theorem Qe(hp:PrE N H us kvs):(HY us k).isSome=(Iw kvs k).isSome:=by
 induction hp with
 | nil=>rfl
 | @cons u kd us kvs r t ih =>
  simp only[Iw,HY,List.find?_cons] at ih |-;by_cases h:kd.1=k
  .have h':u.1=k:=r.1.trans h
   simp only[h,h',decide_true,Option.map_some,Option.isSome_some]
  .have h':¬u.1=k:=fun z=>h (r.1.symm.trans z)
   simp only[h,h',decide_false];exact ih
theorem TH(hp:PrE N H us kvs)(r:RepA N H y d):PrE N H (putK us k y) (HU kvs k d):=by
 have ha:(us.any fun kv=>decide (kv.1=k))=kvs.any fun kv=>decide (kv.1=k):=by
  induction hp with
  | nil=>rfl
  | cons q t ih=>rw[List.any_cons,List.any_cons,ih,q.1]
 unfold putK HU;rw[ha];cases (kvs.any fun kv=>decide (kv.1=k)) with
 | true =>
  simp only[if_true];clear ha;induction hp with
  | nil=>exact .nil
  | @cons u kd us kvs q t ih =>
   refine .cons ?_ ih;dsimp only;by_cases h:kd.1=k
   .rw[if_pos h,if_pos (q.1.trans h)]; exact⟨q.1,r⟩
   .rw[if_neg h,if_neg fun z=>h (q.1.symm.trans z)]; exact q
 | false =>
  simp only[Bool.false_eq_true,if_false];clear ha;induction hp with
  | nil=>exact .cons ⟨rfl,r⟩ .nil
  | cons q t ih=>exact .cons q ih
theorem HZ.g{a:Addr}{us:List (D×V)}{k:D}(e:H a=some (.dT us))(ky:KR H y k/\Sh 8 k):HZ H a y (HY us k):=.inr ⟨us,k,.inl e,ky.1,ky.2,rfl⟩
end
section
variable{X:Cx}{a b c e:Expr}{m m1 m2 m3:ME}{p pos pos' p2 apos cpos npos:Pos}{x:Str}
variable{K:Frag}{N:Addr->Prop}{H:Hp}{v:V}
noncomputable def UH:ME:=opM (fun _=>some (.dct [])) Ai
theorem SY:JE X (.Dict [] [] pos) UH:=by
 refine AJ Ry fun U H Q h=>?_;have ok:OpN X.K (fun _=>some (.dct [])) (fun _ H Q=>∀p,H p=none->Q (.ref p) (upd H p (.dT []))):=by
  intro N H xs as b Q hs e k;cases e;intro p hp;refine k _ _ ⟨BV hp,[p],?_,by simp,fun b hb=>by simp at hb; rw[hb]; exact hp⟩;rw[Au];exact⟨p,[],rfl,rfl,AQ,Nat.zero_le _,.nil⟩
 exact Hk (K2 ok h)
noncomputable def Vp(neg:Bool):List A->Option A:=on2 fun q1 q2=>(fzU q1).bind fun d=>(XJ q2).bind fun kvs=>if gk d then some (.fz (.bl ((Iw kvs d).isSome != neg))) else none
theorem VZ(neg:Bool):OpN K (Vp neg) (r2L fun y x H Q=>∃a o,x=.ref a/\HZ H a y o/\Q (.bl (o.isSome != neg)) H):=by
 intro N H xs as b Q hs e k
 replace e:=Co e
 obtain⟨q1,q2,rfl,e⟩:=e
 replace e:=bind_eq_some_iff.mp e
 obtain⟨d,eq1,e⟩:=e;cases Ji eq1;clear eq1
 replace e:=bind_eq_some_iff.mp e
 obtain⟨kvs,eq2,e⟩:=e;cases SG eq2;clear eq2;split at e
 .rename_i hk
  cases e;obtain⟨x,y,L1,L2,rfl,h1,h2⟩:=Bm hs;obtain⟨_,h1⟩:=D7.mp h1;rw[Au] at h2;obtain⟨a,us,rfl,rfl,ha,hz,hp⟩:=h2;refine⟨_,_,rfl,a,_,rfl,HZ.g ha (UG h1 hk),?_⟩;rw[Qe hp];exact k _ _ (F1 (.bl _))
 .cases e
theorem VH{k:Nat}(hr:Room k X.A)(hm:behindInMarks .In b=false)(ha:JE X a m1)(hb:JE X b m2):JT X (.Compare a [.In] [b] pos) (AF (opM (Vp false) (m2L m1 m2))):=by
 refine HS (WE (Wd (Ox hr) ha hb) hm) fun U H Q h=>?_;exact tE.mono (two (VZ false) (J3 h)) fun x H1 h1=>tE.mono h1 fun y H2 ⟨a,o,e,g,q⟩=>⟨a,o,e,g,by simpa using q⟩
end
noncomputable def KH(Z:Ro)(i:Nat):Option (Own×List (D×D)):=match Z[i]? with
 | some (some (.ro,_))=>none
 | some (some (st,.dct kvs))=>some (st,kvs)
 | _=>none
section
variable{K:Frag}{Z Z' Z1 Z2:Ro}{U σ' σ1 σ2:L2.St}{H H' H1 H2:Hp}{O O' N:Addr->Prop}{fp fp' fp1 fp2:Nat->List Addr}{L L1:List Addr}
theorem Mo{i:Nat}{st:Own}{kvs:List (D×D)}(h:KH Z i=some (st,kvs)): Z[i]? = some (some (st,.dct kvs))/\st≠.ro:=by
 unfold KH at h;split at h
 .cases h
 .rename_i st' as' hn e
  cases h;exact⟨e,fun z=>hn z⟩
 .cases h
noncomputable def HB(i:Nat)(mk me:ME):MS:=fun Z=>(me Z).bind fun p=>(share p.2 p.1).bind fun s=>(KH s.2 i).bind fun _=>(mk s.2).bind fun t=>match t.1 with
 | .val (.fz kd)=>(KH t.2 i).bind fun h=>if gk kd/\h.2.length<LIM then some (.next (t.2.set i (some (h.1,.dct (HU h.2 kd s.1))))) else none
 | _=>none
theorem Um{i:Nat}{mk me:ME}{D:Ends}(h:tS K (HB i mk me) D U H):UY (P7 i) (tE K mk) (tE K me) D U H:=by
 obtain⟨Z,O,fp,rl,fl,e,w⟩:=h;simp only[HB,bind_eq_some_iff] at e;obtain⟨⟨r,Z1⟩,e1,⟨d,Z2⟩,e2,⟨st0,as0⟩,e0,⟨r3,Z3⟩,e3,e4⟩:=e;dsimp only at e4;split at e4
 .rename_i kd
  simp only[bind_eq_some_iff] at e4;obtain⟨⟨st,kvs⟩,e5,e7⟩:=e4;split at e7
  .rename_i hlen
   obtain⟨hgk,hlen⟩:=hlen;cases e7;refine⟨Z,O,fp,rl,r,Z1,e1,fun y H1 yy=>?_⟩;obtain⟨L,fp1,p,q⟩:=yy;obtain⟨fp2,p2,q2⟩:=Dt p q e2;obtain⟨g0,_⟩:=Mo e0;obtain⟨v,hv,q0⟩:=p2.rel.slot i _ _ g0;rw[Au] at q0;obtain⟨p0,us0,rfl,_,hp0,_,_⟩:=q0;refine⟨_,hv,Z2,O,fp2,p2.rel0,_,Z3,e3,fun y2 H2 yy=>?_⟩;obtain⟨L3,fp3,p3,q3⟩:=yy;obtain⟨_,q3⟩:=(D7 (K:=K)).mp q3;have ky:=UG q3 hgk;have p4:=(p2.next p3).drop0;obtain⟨g,gst⟩:=Mo e5;obtain⟨v',hv',qi⟩:=p4.rel.slot i _ _ g;rw[hv] at hv'; cases hv';rw[Au] at qi;obtain⟨pa,us,e8,e9,hp,hz',hs⟩:=qi;cases e8;have hlu:=Paired.length hs;have qy:RepA (NN fp3 (ad O [])) H2 y d:=(ET (fun b z=>Hb.mpr z) q2).tr (M:=Fp fp2) (fun b z=>.inl z) p3.kept fun b z=>by
    rcases z with z|z|z
    .exact(p3.new b (.inr z)).imp (fun y=>.inl y) id
    .exact .inl (.inr z)
    .simp at z
   have k:=K3 (o:=.dT (putK us kd y)) rfl hp;have pn:NN fp3 (ad O []) p0:=.inl ⟨i,by rw[e9]; simp⟩;have h1:PrE (NN fp3 (ad O [])) (upd H2 p0 (.dT (putK us kd y))) us kvs:=Paired.mapQ hs fun u kd r=>⟨r.1,r.2.tr (M:=fun b=>b=p0) (fun b z=>z ▸ pn) k fun b z=>.inl z⟩;have h2:RepA (NN fp3 (ad O [])) (upd H2 p0 (.dT (putK us kd y))) y d:=qy.tr (M:=fun b=>b=p0) (fun b z=>z ▸ pn) k fun b z=>.inl z;have hlz:LIM<=sizeLine:=by decide
   have hl3:us.length<sizeLine:=by have:kvs.length<LIM:=hlen; lia
   refine⟨p0,upd H2 p0 (.dT (putK us kd y)),rfl,.inr ⟨us,kd,hp,ky.1,ky.2,hl3,rfl⟩,w _ _ _ (Post.mutD (a':=.dct (HU kvs kd d)) (L':=[p0]) rfl p4 g gst hv (by rw[e9]; simp) hp (fun b hb=>?_) (by simp) ?_)⟩
   .simp at hb; subst hb; exact .inl (by rw[e9]; simp)
   .rw[Au]
    have:=Gz us kd y;exact⟨p0,putK us kd y,rfl,rfl,AQ,by lia,TH h1 h2⟩
  .cases e7
 .cases e4
end
section
variable{X:Cx}{a b c e:Expr}{es:List Expr}{m m1 m2 m3:ME}{ms:MA}{p pos pos' p2 apos cpos q npos:Pos}{x:Str}
theorem S2{k:Nat}(i:Nat)(hr:Room k X.A)(hN:X.N[i]? = some x)(hv:Vis X.env.scope x)(hd:(x==("__debug__" : Str))=false)(hcd:(x==("__classdict__" : Str))=false)(hs:swapsWith e (some (.Subscript (.Name x npos) b pos')) pos.line X.env=pure false)(hk:JE X b m1)(he:JE X e m2):JS X (.Assign [.Subscript (.Name x npos) b pos'] e pos) (HB i m1 m2):=
 BM (L2.Tv (Ox hr) (JK hN hv hd hcd) hk he hs) fun _ _ _ h=>Um h
end
end J
end
section
namespace L2
open PySem PySem.Spec PyProof.Rows
noncomputable def Iel(K:Frag)(l:Addr):It:=
 ⟨fun i H=>∃xs x,SqL K H l xs/\xs[i]? = some x,fun i H v H'=>∃T x,(∀xs,SqL K H l xs->xs[i]? = some x)/\H T=none/\v=.ref T/\H'=upd H T (.tup [.int i,x]),fun i H=>∃xs,SqL K H l xs/\xs.length<=i⟩
theorem Pd{P:Program}{w:World}{A:Around}(hh:A.handled=none)(it l:Addr)(items:Array Value)(i:Nat)(hi:items.size<=i):Draws P w A it [it,l] i (fun _ _=>False) (fun j h=>j=i/\h.IsListIter it l i/\h.IsList l items) where
 live:=fun _ _ st=>let⟨o,ho,_⟩:=st.2.1; ⟨o,ho⟩
 frame:=fun _ _ _ st hk=>⟨st.1,st.2.1.at fun o e=>hk it (by simp) o e,st.2.2.at fun o e=>hk l (by simp) o e⟩
 item:=fun j s Q E hj st hQ=>absurd st.1 (Nat.ne_of_lt hj)
 done:=fun s Q E st hE=>wpAny_nextOf_list_end hh st.2.1 st.2.2 (by simp; lia) hE
theorem Od{P:Program}{w:World}{K:Frag}{ts:List Expr}{k:Nat}{pos:Pos}(e it l:Addr)(hne:e≠it)(hl:l<it)(hle:l<e):
  Turn P w K (.Tuple ts k pos) (Iel K l) [e,it] e (fun i h=>(∃old,IsEnum h e it ((i:Nat):Int) old)/\h.IsListIter it l i) where
 mem:=by simp
 obj:=fun i h st b hb=>by
  obtain⟨⟨old,he⟩,o,ho,c,d⟩:=st;simp only[List.mem_cons,List.not_mem_nil,or_false] at hb;rcases hb with rfl|rfl
  .exact⟨_,he,fun v q=>by cases q⟩
  .exact⟨o,ho,fun v q=>by rw[d] at q; cases q⟩
 keep:=fun i h h' st kk=>by
  obtain⟨⟨old,he⟩,o,ho,r⟩:=st;exact⟨⟨old,kk e (by simp) _ he⟩,o,kk it (by simp) _ ho,r⟩
 item:=by
  intro X hP hw hK hc i pins s U H E I hf st hg;subst hP hw hK;obtain⟨⟨old,he⟩,hs⟩:=st;obtain⟨xs,x,hq,hx⟩:=hg;obtain⟨its,rv,p,hz⟩:=I.list hq;obtain⟨u,hu,ru⟩:=rv.get hx;have D:=Draws.list (prog:=X.prog) (w:=X.w) (A:=X.A.in1) (I.ok.hd hc) it l (Nat.ne_of_lt hl) its.toArray;have elt:e<s.heap.objs.size:=Heap.lt_size he;have ilt:it<s.heap.objs.size:=by obtain⟨o,ho,_⟩:=hs; exact Heap.lt_size ho
  have hui:i<its.length:=(List.getElem?_eq_some_iff.mp hu).1;refine wpAny_pyNext_enum_itemD D he ⟨hs,p.isList⟩ (by simpa using hui) hne (by simp only[List.mem_cons,List.not_mem_nil,or_false,not_or]; exact⟨hne,Nat.ne_of_gt hle⟩) fun y h1 tk hy ho hs1 hT hsz hk=>?_;have hyu:y=u:=by
   have:its.toArray[i]? = some u:=by simpa using hu
   rw[this] at hy;injection hy with hy
   exact hy.symm
  subst hyu;refine⟨_,rfl,wpAny_letOwnedTupleGo_enum ho fun h2 he2 hs2=>?_⟩;have hs2':Heap.SameBut e h1 h2:=hs2;have g2:h2.get? s.heap.objs.size=some { cls:=.type "tuple",data:=.seq #[.int i tk,y] }:=(hs2'.2 _ (Nat.ne_of_gt elt)).trans hT;have I2:Inv X pins U (upd H s.heap.objs.size (.tup [.int i,x])) { s with heap:=h2,toks:=tk+1 }:=by
   refine I.turnedT (ch:=[e,it]) hf (fun b o hb q=>?_) (Nat.le_refl _) ?_
   .simp only[List.mem_cons,List.not_mem_nil,or_false,not_or] at hb
    exact(hs2'.2 b hb.1).trans (hk b o hb.1 hb.2 q)
   .exact⟨by show 2<=sizeLine; decide,[.int i tk,y],.cons ⟨_,rfl⟩ (.cons ru .nil),_,g2,rfl,_,rfl⟩
  refine⟨.ref s.heap.objs.size,_,I2,rfl,⟨_,x,fun ys hy=>by rw[I.list_inj hy hq]; exact hx,I.hok.fresh (Nat.le_refl _),rfl,rfl⟩,⟨⟨_,by simpa using he2⟩,?_⟩,fun b hb=>?_⟩
  .obtain⟨o,ho1,r⟩:=hs1.1
   exact⟨o,(hs2'.2 it (Ne.symm hne)).trans ho1,r⟩
  .have hlt:b<s.heap.objs.size:=by
    simp only[List.mem_cons,List.not_mem_nil,or_false] at hb;rcases hb with rfl|rfl
    .exact elt
    .exact ilt
   rw[AL (Nat.ne_of_lt hlt)];exact(hf b hb).1
 done:=by
  intro X hP hw hK hc i pins s U H E I hf st hg;subst hP hw hK;obtain⟨⟨old,he⟩,hs⟩:=st;obtain⟨xs,hq,hx⟩:=hg;obtain⟨its,rv,p,hz⟩:=I.list hq;have hlen:=rv.length;have D:=Pd (P:=X.prog) (w:=X.w) (A:=X.A.in1) (I.ok.hd hc) it l its.toArray i (by simp; lia);obtain⟨f0,f1,f2,f3,f4,f5⟩:=hf it (by simp);exact wpAny_pyNext_enum_endD D he ⟨rfl,hs,p.isList⟩ fun h1 eb=>⟨rfl,I.turned (t':=s.toks) (fun b o hb q=>eb b o hb q) f0 f1 f3 f4 f5⟩
 self:=fun _ _ _ _ _ st h=>by
  obtain⟨⟨old,he⟩,_⟩:=st;exact wpAny_pyIter_enum he h
section
variable{X:Cx}
noncomputable def QH(K:Frag)(tl:TA):TI:=fun U H R=>tl U H fun vs H1=>∃l xs,vs=[.ref l]/\SqL K H1 l xs/\R (Iel K l) H1
theorem RC{ts:List Expr}{k:Nat}{tpos:Pos}{a:Expr}{ta:TA}{p pos:Pos}(hg:Gl X "enumerate")(hm:X.mg "enumerate" = none)(ha:PA X [a] ta)(hs:starEach [a] X.env=[(false,eval a X.env)]):
  PI X (.Tuple ts k tpos) (.Call (.Name "enumerate" p) [a] [] pos) (QH X.K ta):=by
 intro pins s U H R I h;refine Call_ (Gy I hg hm boot_enumerate (PyProof.Rows.callWith_type1 (thn (ha pos pins s U H _ I h) fun us s1 yy=>?_) hs rfl));obtain⟨vs,H1,I1,r1,q1⟩:=yy;obtain⟨l,xs,e,hq,q⟩:=q1;subst e;obtain⟨u,rfl,ru⟩:=r1.one;cases ru;obtain⟨its,rv,pl,hz⟩:=I1.list hq;have llt:l<s1.heap.objs.size:=by obtain⟨o,n,e,_⟩:=pl; exact Heap.lt_size e
 refine call_enumerate_list pl.isList fun h1 he hit hsz hk=>?_;refine wpAny_pyIter_enum he ?_;have I2:Inv X pins U H1 { s1 with heap:=h1 }:=I1.kept (t':=s1.toks) hk;refine⟨_,[s1.heap.objs.size+1,s1.heap.objs.size],_,_,H1,rfl,I2,Od _ _ l (Nat.succ_ne_self _) llt (Nat.lt_succ_of_lt llt),⟨⟨_,he⟩,hit⟩,fun b hb=>?_,q⟩;simp only[List.mem_cons,List.not_mem_nil,or_false] at hb;rcases hb with rfl|rfl
 .exact I1.fpOk (Nat.le_succ _) (I1.hok.fresh (Nat.le_succ _))
 .exact I1.fpOk (Nat.le_refl _) (I1.hok.fresh (Nat.le_refl _))
end
end L2
namespace J
open PySem PySem.Spec PyProof.Rows L2
section
variable{X:Cx}{a b c e:Expr}{es:List Expr}{m m1 m2 m3:ME}{ms:MA}{p pos pos' p2 apos cpos q npos:Pos}{x:Str}
variable{K:Frag}{N:Addr->Prop}{H:Hp}{U:L2.St}{v:V}{L:List Addr}
noncomputable def IK(ds:List D):List D:=(List.range ds.length).map fun(i:Nat)=>D.tup [.int (i:Int),ds.getD i .non]
noncomputable def Li:A->Bool
 | .fz (.lst _)=>true
 | .lst _=>true
 | .scr _=>true
 | _=>false
noncomputable def GY(m:ME):MI:=fun Z=>(m Z).bind fun p=>(peek p.2 p.1).bind fun a=>if Li a then (AW a).map fun ds=>(IK ds,nameOf p.1,p.2) else none
theorem SS{a:A}(h:Li a=true):ND a=false:=by
 cases a with
 | fz d=>cases d<;>first|rfl|cases h
 | _=>first|rfl|cases h
theorem R6{R:It->Hp->Prop}(h:tI K (GY m) U H R):QH K (Cs (tE K m) Hl) U H R:=by
 obtain⟨Z,O,fp,rl,ds,n,Z',e,k⟩:=h;simp only[GY,bind_eq_some_iff] at e;obtain⟨⟨r,Z1⟩,e1,a,e2,e3⟩:=e;split at e3
 .rename_i hT
  replace hT:=SS hT
  simp only[map_eq_some_iff] at e3;obtain⟨ds',e3,e4⟩:=e3;cases e4;refine⟨Z,O,fp,rl,r,_,e1,fun v H1 yy=>?_⟩;obtain⟨L,fp1,p,q⟩:=yy;obtain⟨L',q'⟩:=p.rel.peek q e2;obtain⟨pa,vs,rfl,hk,_⟩:=Ez q' e3;rw[hT] at hk;refine⟨pa,vs,rfl,hk,k _ _ ⟨r,.ref pa,a,L,fp1,p,q,rfl,e2,fun N H2 yy=>?_⟩⟩;obtain⟨⟨L2,q2⟩,_⟩:=yy;obtain⟨pb,ws,e5,hk2,hd⟩:=Ez q2 e3;cases e5;rw[hT] at hk2;have hk2:SqL K H2 pa ws:=hk2;have hl:(IK ds').length=ds'.length:=by simp[IK]
  refine⟨fun i hi=>?_,fun i hi=>⟨ws,hk2,by rw[hd.len]; lia⟩,fun i x H' d y e=>?_⟩
  .obtain⟨x,hx⟩:=SJ hd (by rw[<- hl]; exact hi)
   exact⟨ws,x,hk2,hx⟩
  .obtain⟨T,y,hy,hT',rfl,rfl⟩:=y
   have hi:i<ds'.length:=by have:=As e; lia
   have hd':d=.tup [.int i,ds'[i]]:=by
    simp only[IK,List.getElem?_map,List.getElem?_range hi,Option.map_some,Option.some.injEq] at e;rw[<- e];simp[List.getD,hi]
   subst hd';have sm:=BV (o:=.tup [.int i,y]) hT';refine⟨sm,.tup AQ (by show 2<=sizeLine; decide) rfl fun j v d h1 h2=>?_⟩
   match j with
   | 0=>simp at h1 h2; subst h1 h2; exact .int _
   | 1 =>
    simp at h1 h2;subst h1 h2;exact(hd.get i y ds'[i] (hy ws hk2) (by simp)).grow sm
   | j+2=>simp at h1
 .cases e3
theorem HG{ts:List Expr}{tk:Nat}{tpos:Pos}(hg:Gl X "enumerate")(hm:X.mg "enumerate" = none)(hs:starEach [a] X.env=[(false,eval a X.env)])(h:JE X a m):JI X (.Tuple ts tk tpos) (.Call (.Name "enumerate" p) [a] [] pos) (GY m):=F4 (RC hg hm (D6 h GF hs) hs) fun _ _ _ h=>R6 h
end
end J
end
section
namespace L2
open PySem PySem.Spec PyProof.Rows
section
variable{X:Cx}{H:Hp}
open Classical in
noncomputable def eqW(H:Hp)(e:D)(y:Value):Bool:=if ∃d v,RelV v y/\Rep H v d/\eqD d e=true then true else false
theorem Qv{e d:D}{v:V}{y:Value}(r:RelV v y)(q:Rep H v d):eqW H e y=eqD d e:=by
 unfold eqW;cases h:eqD d e with
 | true=>rw[if_pos ⟨d,v,r,q,h⟩]
 | false =>
  rw[if_neg];rintro ⟨d',v',r',q',h'⟩;cases r.inj r';cases q.inj q';rw[h] at h';cases h'
theorem Sx{e:D}{xs:List V}{its:List Value}(rv:Vals xs its):∀{ds:List D},Paired (Rep H) xs ds->its.any (eqW H e)=ds.any fun d=>eqD d e:=by
 induction rv with
 | nil=>intro ds q; cases q; rfl
 | cons r t ih =>
  intro ds q;cases q with
  | cons q1 q2=>rw[List.any_cons,List.any_cons,Qv r q1,ih q2]
theorem Q9{xs:List V}{its:List Value}(rv:Vals xs its):∀{ds:List D},Paired (Rep H) xs ds->∀u∈its,∃v d,RelV v u/\Rep H v d/\d∈ds:=by
 induction rv with
 | nil=>intro ds q u hu; exact nomatch hu
 | cons r t ih =>
  intro ds q u hu;cases q with
  | cons q1 q2 =>
   rcases List.mem_cons.mp hu with e|hu
   .subst e; exact⟨_,_,r,q1,List.mem_cons_self⟩
   .obtain⟨v,d,h1,h2,h3⟩:=ih q2 u hu
    exact⟨v,d,h1,h2,List.mem_cons_of_mem _ h3⟩
noncomputable def X9(K:Frag)(neg:Bool):R2:=fun x y H Q=>∃p xs d ds,y=.ref p/\SqL K H p xs/\Rep H x d/\Paired (Rep H) xs ds/\(∀e∈ds,Sh 8 e)/\Q (.bl (if neg then !(ds.any fun e=>eqD e d) else ds.any fun e=>eqD e d)) H
theorem V9(hu:X.A.units+10<cLine):OpR X (compareOp .In) (X9 X.K false):=by
 intro pins s U H x y v u Q I rx ry h;obtain⟨p,xs,d,ds,rfl,hq,hd,hr,hs,q⟩:=h;cases ry;obtain⟨its,r,pl,hz⟩:=I.list hq;refine SeqAt.in_listAt (eqW H d) pl.isList (fun w hw=>?_) ⟨.bl _,H,I,rfl,?_⟩
 .obtain⟨v',d',h1,h2,h3⟩:=Q9 r hr w (by simpa using hw)
  rw[Qv h1 h2];exact Ic (A:=X.A.in1) I.hok h2 hd h1 rx (hs d' h3) (lt8 hu)
 .rw[show its.toArray.any (eqW H d)=its.any (eqW H d) by simp,Sx r hr]
  exact q
end
end L2
namespace J
open PySem PySem.Spec PyProof.Rows L2
section
variable{X:Cx}{a b c e:Expr}{m m1 m2 m3:ME}{p pos pos' p2:Pos}
variable{K:Frag}{N:Addr->Prop}{H:Hp}{v:V}
theorem PU{vs:List V}:∀{ds:List D},Aw N H vs ds->Paired (Rep H) vs ds:=by
 induction vs with
 | nil=>intro ds q; cases ds with|nil=>exact .nil|cons d ds=>simp only[Aw] at q
 | cons v vs ih=>intro ds q; cases ds with|nil=>simp only[Aw] at q|cons d ds=>exact .cons q.1.rep (ih q.2)
noncomputable def Q7(neg:Bool):List A->Option A:=on2 fun q1 q2=>(er q1).bind fun d=>(Dq q2).bind fun ds=>if ds.all (shB 8) then some (.fz (.bl (if neg then !inD d ds else inD d ds))) else none
theorem V2(neg:Bool):OpN K (Q7 neg) (r2L (X9 K neg)):=by
 intro N H xs as b Q hs e k
 replace e:=Co e
 obtain⟨q1,q2,rfl,e⟩:=e
 replace e:=bind_eq_some_iff.mp e
 obtain⟨d,eq1,e⟩:=e
 replace e:=bind_eq_some_iff.mp e
 obtain⟨ds,eq2,e⟩:=e;split at e
 .rename_i hk
  cases e;obtain⟨x,y,L1,L2,rfl,h1,h2⟩:=Bm hs;obtain⟨p,vs,rfl,hp,hz,q⟩:=Fq h2 eq2;refine⟨_,_,rfl,p,vs,d,ds,rfl,.inl (.inl hp),(h1.er eq1).rep,PU q,fun e he=>JV (List.all_eq_true.mp hk e he),k _ _ (F1 (.bl _))⟩
 .cases e
theorem VA{k:Nat}(hr:Room k X.A)(hm:behindInMarks .In b=false)(ha:JE X a m1)(hb:JE X b m2):JE X (.Compare a [.In] [b] pos) (opM (Q7 false) (m2L m1 m2)):=Bl (V2 false) (V9 (Ox hr)) hm ha hb
end
end J
end
section
namespace L2
open PySem PySem.Spec PyProof.Rows
end L2
namespace J
open PySem PySem.Spec PyProof.Rows L2 PySem.W
section
variable{X:Cx}{XC:Str->Addr}{E:XK}{K:Frag}{U:L2.St}{H:Hp}{D:Ends}
noncomputable def Vu(c:MT)(r s:MR):MR:=fun Z=>(c Z).bind fun p=>if p.1 then r p.2 else s p.2
end
section
variable{P:Program}{w:World}{K:Frag}{mg:Str->Option Value}{base:Heap}
end
end J
end
section
namespace J
open PySem PySem.Spec PyProof.Rows L2
section
variable{X:Cx}{s:Stmt}{m:MS}{K:Frag}{U:L2.St}{H:Hp}{D:Ends}
theorem Xh{i:Nat}(h:tS K (Ao m (Lf i)) D U H):tS K m D U H:=by
 obtain⟨Z,O,fp,rl,fl,e,w⟩:=h;simp only[Ao,bind_eq_some_iff] at e;obtain⟨f,e1,e2⟩:=e;refine⟨Z,O,fp,rl,f,e1,?_⟩;cases f with
 | next Z1 =>
  simp only[Lf,map_eq_some_iff] at e2;obtain⟨⟨d,Z2⟩,e3,rfl⟩:=e2;intro σ' fp' H' p;have hg:∃a,Z1[i]? = some (some (.own,a)):=by
   simp only[share] at e3;split at e3
   .rename_i a h; exact⟨a,h⟩
   .cases e3
  obtain⟨a,hg⟩:=hg;obtain⟨v,hv,_⟩:=p.rel.slot i _ _ hg;obtain⟨fp2,p2,_⟩:=Dt (v:=v) (r:=.ref i) p.rel0.post ⟨rfl,hv⟩ e3;exact w σ' fp2 H' (p.next p2)
 | brk Z1=>cases e2; exact w
 | cnt Z1=>cases e2; exact w
 | ret a Z1=>cases e2; exact w
theorem Ln(i:Nat)(h:JS X s m):JS X s (Ao m (Lf i)):=BM h fun _ _ _ h=>Xh h
end
section
variable{X:Cx}{x:Str}{pos:Pos}{m:ME}
theorem EB(N':List Str)(i:Nat){y:Str}{py spos:Pos}{scope:Scope}{iter elt:Expr}{ifs:List Expr}{px:Pos}{mi:MI}{mt:MT}(nd:X.N.Nodup)(hiN:X.N[i]? = some y)(hy:X.env.scope.names.lookup y=some .local)(hid:ID N' X.N X.env.scope=true)(nd':N'.Nodup)(hok:Bx [x] N' scope X.env.scope=true)(hc:X.calm=true)(hx:scope.names.lookup x=some .local)(hs:∀w,foldedSetIterable iter X.env w=pure w)(hsw:swapsWith (.ListComp elt [⟨.Name x px,iter,ifs,0⟩] scope pos) (some (.Name y py)) spos.line X.env=pure true)(hi:JI X (.Name x px) iter mi)(ht:JTc (withN X N') [x] scope ifs mt)(he:JEc (withN X N') [x] scope elt m):
  JS X (.Assign [.Name y py] (.ListComp elt [⟨.Name x px,iter,ifs,0⟩] scope pos) spos) (AH i (AG mi 0 mt m)):=by
 have nw:=LG hok;exact BM (PR (un:=Si) (te:=tE X.K m) nd hiN hy hid hc hok hi (fun C s H fp pins=>HQ rfl (List.nodup_cons.mpr ⟨nw x (by simp),nd'⟩) (lookup_relabel_local hx)) ht (fun C s H fp pins=>he C s H fp pins) hs hsw) fun _ _ _ h=>GU (J1 h)
end
end J
namespace J
open PySem PySem.Spec PyProof.Rows L2
end J
end
section
namespace J
open PySem PySem.Spec PyProof.Rows L2
section
variable{P:Program}{w:World}{K:Frag}{mg:Str->Option Value}{base:Heap}{XC:Str->Addr}
variable{N:List Str}{qual:Str}{scope:Scope}{f:Addr}{cd:Value}{A:Around}{outer:List Env}{s:Shared}{H:Hp}{E:XK}
end
section
variable{X:Cx}{XC:Str->Addr}{E:XK}
end
end J
end
section
namespace L2
open PySem PySem.Spec PyProof.Rows
section
variable{X:Cx}
end
end L2
namespace J
open PySem PySem.Spec PyProof.Rows L2
section
variable{X:Cx}{a:Expr}{m:ME}{p pos:Pos}{K:Frag}{H:Hp}{U:L2.St}
end
end J
end
section
namespace L2
open PySem PySem.Spec PyProof.Rows
section
variable{X:Cx}
end
end L2
namespace J
open PySem PySem.Spec PyProof.Rows L2
section
variable{K:Frag}{N:Addr->Prop}{H H1:Hp}{U:L2.St}{O:Addr->Prop}{Z Z2 Z3:Ro}{fp fp2:Nat->List Addr}
noncomputable def LL(i:Nat)(mk:ME)(d:D):Ro->Option Ro:=fun Z=>(C7 Z i).bind fun _=>(mk Z).bind fun t=>match t.1 with
 | .val (.fz (.int k))=>(C7 t.2 i).bind fun h=>(ixN h.2.length k).map fun j=>t.2.set i (some (h.1,.lst (h.2.set j (.fz d))))
 | _=>none
end
section
variable{X:Cx}{a b c e:Expr}{es:List Expr}{m m1 m2 m3:ME}{ms:MA}{p pos pos' pos2 p2 apos cpos q npos npos2 tpos:Pos}{x:Str}{kt:Nat}
end
end J
end
section
namespace L2
open PySem PySem.Spec PyProof.Rows
noncomputable def ZSl(n a b:Addr)(i:Nat)(h:Heap):Prop:=IsZip h (n+4) (n+2) (n+3) .none/\IsPair h (n+2) (.ref n) (.ref (n+1))/\(∃u v,IsPair h (n+3) u v)/\h.IsListIter n a i/\h.IsListIter (n+1) b i
noncomputable def Ilz(K:Frag)(a b:Addr):It:=
 ⟨fun i H=>∃xs ys x y,SqL K H a xs/\SqL K H b ys/\xs[i]? = some x/\ys[i]? = some y,
  fun i H v H'=>∃T x y,(∀xs,SqL K H a xs->xs[i]? = some x)/\(∀ys,SqL K H b ys->ys[i]? = some y)/\H T=none/\v=.ref T/\H'=upd H T (.tup [x,y]),
  fun i H=>∃xs ys,SqL K H a xs/\SqL K H b ys/\xs.length<=i⟩
theorem apart{n a b:Addr}(ha:a<n)(hb:b<n):ZipApart (n+4) (n+2) (n+3) n (n+1) a b:=by
 refine⟨?_,?_,?_,?_,?_,?_,?_,?_,?_,?_,?_,?_,?_,?_,?_,?_,?_,?_⟩<;>(intro e; simp only[Addr] at *; omega)
theorem Qb{P:Program}{w:World}{K:Frag}{ts:List Expr}{k:Nat}{pos:Pos}(n a b:Addr)(ha:a<n)(hb:b<n):
  Turn P w K (.Tuple ts k pos) (Ilz K a b) [n+4,n+2,n+3,n,n+1] (n+4) (fun i h=>ZSl n a b i h) where
 mem:=by simp
 obj:=fun i h st c hc=>by
  obtain⟨hz,hTI,⟨u,v,hTO⟩,⟨o1,g1,_,d1⟩,⟨o2,g2,_,d2⟩⟩:=st;simp only[List.mem_cons,List.not_mem_nil,or_false] at hc;rcases hc with rfl|rfl|rfl|rfl|rfl
  .exact⟨_,hz,fun v q=>by cases q⟩
  .exact⟨_,hTI,fun v q=>by cases q⟩
  .exact⟨_,hTO,fun v q=>by cases q⟩
  .exact⟨_,g1,fun v q=>by rw[d1] at q; cases q⟩
  .exact⟨_,g2,fun v q=>by rw[d2] at q; cases q⟩
 keep:=fun i h h' st kk=>by
  obtain⟨hz,hTI,⟨u,v,hTO⟩,i1,i2⟩:=st;exact⟨kk _ (by simp) _ hz,kk _ (by simp) _ hTI,⟨u,v,kk _ (by simp) _ hTO⟩,i1.at fun o e=>kk _ (by simp) o e,i2.at fun o e=>kk _ (by simp) o e⟩
 item:=by
  intro X hP hw hK hc i pins s U H E I hf st hg;subst hP hw hK;obtain⟨xs,ys,x,y,h1,h2,hx,hy⟩:=hg;obtain⟨as,ra,pa,za⟩:=I.list h1;obtain⟨bs,rb,pb,zb⟩:=I.list h2;obtain⟨u,hu,ru⟩:=ra.get hx;obtain⟨v,hv,rv⟩:=rb.get hy;have zl:n+4<s.heap.objs.size:=Heap.lt_size st.1;obtain⟨hz,hTI,⟨u0,v0,hTO⟩,i1,i2⟩:=st;refine wpAny_pyNext_zip_item (apart ha hb) hz hTI hTO i1 i2 pa.isList pb.isList (x:=u) (y:=v) (by simpa using hu) (by simpa using hv) fun h1' z1 t1 i1 i2 T1 _ k1=>?_;refine⟨_,rfl,wpAny_letOwnedTupleGo_zip z1 fun h2' z2 s2=>?_⟩;have s2:Heap.ExtBut (n+4) h1' h2':=s2.extBut;have T2:IsPair h2' s.heap.objs.size u v:=s2 _ _ (Nat.ne_of_gt zl) T1;have I2:Inv X pins U (upd H s.heap.objs.size (.tup [x,y])) { s with heap:=h2',toks:=s.toks }:=by
   refine I.turnedT (ch:=[n+4,n+2,n+3,n,n+1]) hf (fun c o hc q=>?_) (Nat.le_refl _) ⟨by show 2<=sizeLine; decide,[u,v],.cons ru (.cons rv .nil),_,T2,rfl,_,rfl⟩;simp only[List.mem_cons,List.not_mem_nil,or_false,not_or] at hc;exact s2 _ _ hc.1 (k1 c o hc.1 hc.2.2.1 hc.2.2.2.1 hc.2.2.2.2 q)
  refine⟨.ref s.heap.objs.size,_,I2,rfl,⟨_,x,y,fun zs hz=>by rw[I.list_inj hz h1]; exact hx,fun zs hz=>by rw[I.list_inj hz h2]; exact hy,I.hok.fresh (Nat.le_refl _),rfl,rfl⟩,⟨z2,s2 _ _ nx (k1 _ _ nx nx (nx (j:=0)) nx hTI),⟨_,_,s2 _ _ nx t1⟩,i1.extBut s2 (nx (k:=0)),i2.extBut s2 nx⟩,fun c hc=>?_⟩;have hlt:c<s.heap.objs.size:=by
   have le:∀k,k<=4->n+k<s.heap.objs.size:=fun k h=>Nat.lt_of_le_of_lt (Nat.add_le_add_left h n) zl;simp only[List.mem_cons,List.not_mem_nil,or_false] at hc;rcases hc with rfl|rfl|rfl|rfl|rfl
   .exact zl
   .exact le 2 (by decide)
   .exact le 3 (by decide)
   .exact le 0 (by decide)
   .exact le 1 (by decide)
  rw[AL (Nat.ne_of_lt hlt)];exact(hf c hc).1
 done:=by
  intro X hP hw hK hc i pins s U H E I hf st hg;subst hP hw hK;obtain⟨xs,ys,h1,h2,hx⟩:=hg;obtain⟨as,ra,pa,za⟩:=I.list h1;obtain⟨bs,rb,pb,zb⟩:=I.list h2;have hl:=ra.length;obtain⟨hz,hTI,⟨u0,v0,hTO⟩,i1,i2⟩:=st;refine wpAny_pyNext_zip_end (I.ok.hd hc) (apart ha hb) hz hTI hTO i1 i2 pa.isList pb.isList (.inl (by simp; lia)) fun h' k=>⟨rfl,?_⟩;refine I.turnedL (t':=s.toks) (ch:=[n+4,n+2,n+3,n,n+1]) hf fun c o hc q=>?_;simp only[List.mem_cons,List.not_mem_nil,or_false,not_or] at hc;exact k c o hc.1 hc.2.2.1 hc.2.2.2.1 hc.2.2.2.2 q
 self:=fun _ _ _ _ _ st h=>wpAny_pyIter_zip st.1 h
section
variable{X:Cx}
noncomputable def UK(K:Frag)(tl:TA):TI:=fun U H R=>tl U H fun vs H1=>∃a b xs ys,vs=[.ref a,.ref b]/\SqL K H1 a xs/\SqL K H1 b ys/\R (Ilz K a b) H1
theorem Tt{ts:List Expr}{k:Nat}{tpos:Pos}{x y:Expr}{ta:TA}{p pos:Pos}(hg:Gl X "zip")(hm:X.mg "zip" = none)(ha:PA X [x,y] ta)(hs:starEach [x,y] X.env=(false,eval x X.env)::starEach [y] X.env)(hpl:(backTo pos (starEach [y] X.env)).any (·.1)=false):
  PI X (.Tuple ts k tpos) (.Call (.Name "zip" p) [x,y] [] pos) (UK X.K ta):=by
 intro pins s U H R I h;refine Call_ (Gy I hg hm boot_zip (PyProof.Rows.callWith_type1 (thn (ha pos pins s U H _ I h) fun us s1 yy=>?_) hs hpl));obtain⟨vs,H1,I1,r1,q1⟩:=yy;obtain⟨a,b,xs,ys,e,h1,h2,q⟩:=q1;subst e;obtain⟨as,ra,pa,za⟩:=I1.list h1;obtain⟨bs,rb,pb,zb⟩:=I1.list h2;have la:a<s1.heap.objs.size:=by obtain⟨o,n,e,_⟩:=pa; exact Heap.lt_size e
 have lb:b<s1.heap.objs.size:=by obtain⟨o,n,e,_⟩:=pb; exact Heap.lt_size e
 cases r1 with
 | @cons _ u1 _ _ e1 rr =>
  cases rr with
  | @cons _ u2 _ _ e2 rr =>
   cases rr;have e1:u1=Value.ref a:=e1;have e2:u2=Value.ref b:=e2;subst e1 e2;refine call_zip_2 pa.isList pb.isList fun h' z1 t1 t2 i1 i2 _ hk=>wpAny_pyIter_zip z1 ?_
   refine⟨_,[s1.heap.objs.size+4,s1.heap.objs.size+2,s1.heap.objs.size+3,s1.heap.objs.size,s1.heap.objs.size+1],_,_,H1,rfl,I1.kept (t':=s1.toks) hk,Qb _ a b la lb,⟨z1,t1,⟨_,_,t2⟩,i1,i2⟩,fun c hc=>?_,q⟩;have le:s1.heap.objs.size<=c:=by
    simp only[List.mem_cons,List.not_mem_nil,or_false] at hc;rcases hc with rfl|rfl|rfl|rfl|rfl<;>first|exact Nat.le_add_right .. | exact Nat.le_refl _
   exact I1.fpOk le (I1.hok.fresh le)
end
end L2
namespace J
open PySem PySem.Spec PyProof.Rows L2
section
variable{X:Cx}{a b c e:Expr}{es:List Expr}{m m1 m2 m3:ME}{ms:MA}{p pos pos' p2 apos cpos q npos:Pos}{x:Str}
variable{K:Frag}{N:Addr->Prop}{H:Hp}{U:L2.St}{v:V}{L:List Addr}
noncomputable def lsU:A->Option (List D)
 | .fz (.lst ds)=>some ds
 | _=>none
noncomputable def tpU:A->Option (List D)
 | .fz (.tup ds)=>some ds
 | _=>none
theorem Q8{a:A}{ds:List D}(h:lsU a=some ds):a=.fz (.lst ds):=by
 unfold lsU at h;split at h
 .cases h; rfl
 .cases h
theorem Sa{a:A}{ds:List D}(h:tpU a=some ds):a=.fz (.tup ds):=by
 unfold tpU at h;split at h
 .cases h; rfl
 .cases h
noncomputable def Ng(m1 m2:ME):MI:=fun Z=>(Ac m1 (Ac m2 Ai) Z).bind fun p=>(peeks p.2 p.1).bind fun as=>match as with
 | [a,b]=>(lsU a).bind fun ds=>(lsU b).bind fun es=>if ds.length=es.length then some (IQ ds es,none,p.2) else none
 | _=>none
noncomputable def J6(m1 m2:ME):MI:=fun Z=>(Ac m1 (Ac m2 Ai) Z).bind fun p=>(peeks p.2 p.1).bind fun as=>match as with
 | [a,b]=>(tpU a).bind fun ds=>(tpU b).bind fun es=>if ds.length=es.length then some (IQ ds es,none,p.2) else none
 | _=>none
theorem Uk{R:It->Hp->Prop}(h:tI K (Ng m1 m2) U H R):UK K (tA K (Ac m1 (Ac m2 Ai))) U H R:=by
 obtain⟨Z,O,fp,rl,ds,n,Z',e,k⟩:=h;simp only[Ng,bind_eq_some_iff] at e;obtain⟨⟨rs,Z1⟩,e1,as,e2,e3⟩:=e;dsimp only at e2 e3;split at e3
 case h_2=>cases e3
 rename_i a b;simp only[bind_eq_some_iff] at e3;obtain⟨ds,ea,es,eb,e3⟩:=e3;cases Q8 ea;cases Q8 eb;split at e3
 case isFalse=>cases e3
 rename_i z3;cases e3;refine⟨Z,O,fp,rl,_,_,e1,fun vs H1 yy=>?_⟩;obtain⟨L,fp1,p,q⟩:=yy;have hs:=p.rel.peeks q e2;obtain⟨v1,v2,_,_,rfl,h1,h2⟩:=Bm hs;rw[Au] at h1 h2;obtain⟨rfl,h1⟩:=h1;obtain⟨rfl,h2⟩:=h2;have w1:RepA (NN fp1 (ad O [])) H1 v1 (.lst ds):=ET (fun b z=>by rcases z with z|z|z; exact .inl z; exact .inr (.inl z); simp at z) h1;have w2:RepA (NN fp1 (ad O [])) H1 v2 (.lst es):=ET (fun b z=>by rcases z with z|z|z; exact .inl z; exact .inr (.inl z); simp at z) h2;cases h1 with
 | lst g1 s1 n1 l1 r1 =>
  cases h2 with
  | lst g2 s2 n2 l2 r2 =>
   refine⟨_,_,_,_,rfl,.inl (.inl g1),.inl (.inl g2),k _ _ ⟨.val (.fz .non),.non,.fz .non,[],fp1,p.drop0,EF (K:=K) .non,rfl,rfl,fun N H2 yy=>?_⟩⟩;obtain⟨_,_,st⟩:=yy;have f1:=st _ _ w1;have f2:=st _ _ w2;cases f1 with
   | lst g1 s1 n1 l1 r1 =>
    cases f2 with
    | lst g2 s2 n2 l2 r2 =>
     have q1:SqL K H2 _ _:=.inl (.inl g1);have q2:SqL K H2 _ _:=.inl (.inl g2);have hl:(IQ ds es).length=ds.length:=by rw[IQ,List.length_zipWith,z3,Nat.min_self]
     refine⟨fun i hi=>?_,fun i hi=>⟨_,_,q1,q2,by rw[l1,<- hl]; exact hi⟩,fun i v H' d y e=>?_⟩
     .rw[hl] at hi
      exact⟨_,_,_,_,q1,q2,List.getElem?_eq_getElem (by lia),List.getElem?_eq_getElem (by lia)⟩
     .obtain⟨T,x,y,hx,hy,hT,rfl,rfl⟩:=y
      have hx:=hx _ q1;have hy:=hy _ q2;have hi:i<ds.length:=by have:=As e; lia
      have hj:i<es.length:=by lia
      simp only[IQ,List.getElem?_zipWith,List.getElem?_eq_getElem hi,List.getElem?_eq_getElem hj] at e;cases e;have sm:=BV (o:=.tup [x,y]) hT;have k1:=(r1 i x _ hx (List.getElem?_eq_getElem hi)).grow sm;have k2:=(r2 i y _ hy (List.getElem?_eq_getElem hj)).grow sm;refine⟨sm,.tup AQ (by show 2<=sizeLine; decide) rfl fun j v d h1 h2=>?_⟩
      match j with
      | 0=>simp at h1 h2; subst h1 h2; exact k1
      | 1=>simp at h1 h2; subst h1 h2; exact k2
      | j+2=>simp at h1
theorem Ul{R:It->Hp->Prop}(h:tI K (J6 m1 m2) U H R):XU (tA K (Ac m1 (Ac m2 Ai))) U H R:=by
 obtain⟨Z,O,fp,rl,ds,n,Z',e,k⟩:=h;simp only[J6,bind_eq_some_iff] at e;obtain⟨⟨rs,Z1⟩,e1,as,e2,e3⟩:=e;dsimp only at e2 e3;split at e3
 case h_2=>cases e3
 rename_i a b;simp only[bind_eq_some_iff] at e3;obtain⟨ds,ea,es,eb,e3⟩:=e3;cases Sa ea;cases Sa eb;split at e3
 case isFalse=>cases e3
 rename_i z3;cases e3;refine⟨Z,O,fp,rl,_,_,e1,fun vs H1 yy=>?_⟩;obtain⟨L,fp1,p,q⟩:=yy;have hs:=p.rel.peeks q e2;obtain⟨v1,v2,_,_,rfl,h1,h2⟩:=Bm hs;rw[Au] at h1 h2;obtain⟨rfl,h1⟩:=h1;obtain⟨rfl,h2⟩:=h2;have w1:RepA (NN fp1 (ad O [])) H1 v1 (.tup ds):=ET (fun b z=>by rcases z with z|z|z; exact .inl z; exact .inr (.inl z); simp at z) h1;have w2:RepA (NN fp1 (ad O [])) H1 v2 (.tup es):=ET (fun b z=>by rcases z with z|z|z; exact .inl z; exact .inr (.inl z); simp at z) h2;cases h1 with
 | tup g1 s1 l1 r1 =>
  cases h2 with
  | tup g2 s2 l2 r2 =>
   refine⟨_,_,_,_,rfl,g1,g2,k _ _ ⟨.val (.fz .non),.non,.fz .non,[],fp1,p.drop0,EF (K:=K) .non,rfl,rfl,fun N H2 yy=>?_⟩⟩;obtain⟨_,_,st⟩:=yy;have f1:=st _ _ w1;have f2:=st _ _ w2;cases f1 with
   | tup g1 s1 l1 r1 =>
    cases f2 with
    | tup g2 s2 l2 r2 =>
     have hl:(IQ ds es).length=ds.length:=by rw[IQ,List.length_zipWith,z3,Nat.min_self]
     refine⟨fun i hi=>?_,fun i hi=>⟨_,g1,by rw[l1,<- hl]; exact hi⟩,fun i v H' d y e=>?_⟩
     .rw[hl] at hi
      exact⟨_,_,_,_,g1,g2,List.getElem?_eq_getElem (by lia),List.getElem?_eq_getElem (by lia)⟩
     .obtain⟨T,xs,ys,x,y,t1,t2,hx,hy,hT,rfl,rfl⟩:=y
      rw[g1] at t1;rw[g2] at t2;cases t1;cases t2;have hi:i<ds.length:=by have:=As e; lia
      have hj:i<es.length:=by lia
      simp only[IQ,List.getElem?_zipWith,List.getElem?_eq_getElem hi,List.getElem?_eq_getElem hj] at e;cases e;have sm:=BV (o:=.tup [x,y]) hT;have k1:=(r1 i x _ hx (List.getElem?_eq_getElem hi)).grow sm;have k2:=(r2 i y _ hy (List.getElem?_eq_getElem hj)).grow sm;refine⟨sm,.tup AQ (by show 2<=sizeLine; decide) rfl fun j v d h1 h2=>?_⟩
      match j with
      | 0=>simp at h1 h2; subst h1 h2; exact k1
      | 1=>simp at h1 h2; subst h1 h2; exact k2
      | j+2=>simp at h1
theorem S1{ts:List Expr}{tk:Nat}{tpos:Pos}(hg:Gl X "zip")(hm:X.mg "zip" = none)(hs:starEach [a,b] X.env=(false,eval a X.env)::starEach [b] X.env)(hpl:(backTo pos (starEach [b] X.env)).any (·.1)=false)(hs2:starEach [b] X.env=[(false,eval b X.env)])(h1:JE X a m1)(h2:JE X b m2):JI X (.Tuple ts tk tpos) (.Call (.Name "zip" p) [a,b] [] pos) (Ng m1 m2):=
 F4 (Tt hg hm (Ab hs h1 (Ab hs2 h2 Ae)) hs hpl) fun _ _ _ h=>Uk h
theorem HH{ts:List Expr}{tk:Nat}{tpos:Pos}(hg:Gl X "zip")(hm:X.mg "zip" = none)(hs:starEach [a,b] X.env=(false,eval a X.env)::starEach [b] X.env)(hpl:(backTo pos (starEach [b] X.env)).any (·.1)=false)(hs2:starEach [b] X.env=[(false,eval b X.env)])(h1:JE X a m1)(h2:JE X b m2):JI X (.Tuple ts tk tpos) (.Call (.Name "zip" p) [a,b] [] pos) (J6 m1 m2):=
 F4 (Wz hg hm (Ab hs h1 (Ab hs2 h2 Ae)) hs hpl) fun _ _ _ h=>Ul h
end
end J
end
section
namespace J
open PySem L2
noncomputable def EV(m:ME)(Z:Ro)(Q:R->Ro->Prop):Prop:=∃r Z',m Z=some (r,Z')/\Q r Z'
noncomputable def AV(m:MA)(Z:Ro)(Q:List R->Ro->Prop):Prop:=∃r Z',m Z=some (r,Z')/\Q r Z'
noncomputable def TV(m:MT)(Z:Ro)(Q:Bool->Ro->Prop):Prop:=∃b Z',m Z=some (b,Z')/\Q b Z'
noncomputable def SV(m:MS)(Z:Ro)(Q:Fl->Prop):Prop:=∃f,m Z=some f/\Q f
noncomputable def IV(m:MI)(Z:Ro)(Q:List D->Option Nat->Ro->Prop):Prop:=∃ds n Z',m Z=some (ds,n,Z')/\Q ds n Z'
noncomputable def FV(Φ:Fn)(as:List (Own×A))(Q:A->List A->Prop):Prop:=∃a os,Φ as=some (a,os)/\Q a os
noncomputable def nxt(K:Ro->Prop)(Q:Fl->Prop):Fl->Prop
 | .next Z=>K Z
 | f=>Q f
noncomputable def turn(I:Ro->Prop)(u:Ro->Ro)(Q:Fl->Prop):Fl->Prop
 | .next Z=>I Z
 | .cnt Z=>I Z
 | .brk Z=>Q (.next (u Z))
 | .ret x Z=>Q (.ret x (u Z))
noncomputable def fin(np:Nat)(Q:A->List A->Prop):Fl->Prop
 | .next Z=>Q (.fz .non) ((Z.take np).map He)
 | .ret a Z=>Q a ((Z.take np).map He)
 | _=>False
noncomputable abbrev Fr(x:Slot):Prop:=free [x] 0=true
section
variable{m m1 m2 m3:ME}{ms:MA}{c c2:MT}{a b:MS}{it:MI}{Z Z1 Z2:Ro}{Q:R->Ro->Prop}{QA:List R->Ro->Prop}{QT:Bool->Ro->Prop}{QS:Fl->Prop}{K:Ro->Prop}{i:Nat}
theorem G0{Φ:Fn}{as:List (Own×A)}{QF:A->List A->Prop}{x:A}{os:List A}(h : Φ as=some (x,os))(q:QF x os):FV Φ as QF:=⟨x,os,h,q⟩
theorem Az{Φ:Fn}{as:List (Own×A)}{QF QF':A->List A->Prop}(h:FV Φ as QF)(k:∀x os,QF x os->QF' x os):FV Φ as QF':=by
 obtain⟨x,os,e,q⟩:=h; exact⟨x,os,e,k x os q⟩
theorem BO{np nn:Nat}{as:List (Own×A)}{QF:A->List A->Prop}(hl:as.length=np)(hZ:as.map some++List.replicate (nn-np) none=Z)(h:SV b Z (fin np QF)):FV (fnM np nn b) as QF:=by
 obtain⟨f,e,q⟩:=h;subst hZ;cases f with
 | next Z'=>exact⟨_,_,by simp only[fnM,if_pos hl,e,Option.bind_some],q⟩
 | ret x Z'=>exact⟨_,_,by simp only[fnM,if_pos hl,e,Option.bind_some],q⟩
 | brk Z'=>exact q.elim
 | cnt Z'=>exact q.elim
theorem DS{d:D}(q:Q (.val (.fz d)) Z):EV (Ag d) Z Q:=⟨_,_,rfl,q⟩
theorem Gq{f:List A->Option A}(h:AV ms Z fun rs Z1=>∃as,peeks Z1 rs=some as/\∃x,f as=some x/\Q (.val x) Z1):EV (opM f ms) Z Q:=by
 obtain⟨rs,Z1,e,as,e2,x,e3,q⟩:=h;exact⟨_,_,by simp only[opM,e,e2,e3,Option.bind_some,Option.map_some],q⟩
noncomputable def bk(rs:List R)(os:List A)(Z:Ro):Ro:=match refs rs with
 | []=>Z
 | _::_=>back rs os Z
theorem XG(rs:List R)(os:List A)(Z:Ro):bk rs os Z=back rs os Z:=by
 unfold bk;split
 .rename_i h
  induction rs generalizing os Z with
  | nil=>simp[back]
  | cons r rs ih =>
   cases r with
   | ref i=>simp[refs] at h
   | val a =>
    have h:refs rs=[]:=h;cases os with
    | nil=>rfl
    | cons o os=>exact ih os Z h
 .rfl
theorem CV{Φ:Fn}(h:AV ms Z fun rs Z1=>∃as,DK Z1 rs=some as/\decide (refs rs).Nodup=true/\FV Φ as fun x os=>Q (.val x) (bk rs os Z1)):EV (Am Φ ms) Z Q:=by
 obtain⟨rs,Z1,e,as,e2,hn,x,os,e3,q⟩:=h;rw[XG] at q;exact⟨_,_,by simp only[Am,e,e2,e3,Option.bind_some,Option.map_some,if_pos (of_decide_eq_true hn)],q⟩
theorem Ce(h:EV m Z fun r Z1=>∃d Z2,share Z1 r=some (d,Z2)/\Q (.val (.fz d)) Z2):EV (AK m) Z Q:=by
 obtain⟨r,Z1,e,d,Z2,e2,q⟩:=h;exact⟨_,_,by simp only[AK,e,e2,Option.bind_some,Option.map_some],q⟩
theorem En(h:EV m1 Z fun r Z1=>∃x,peek Z1 r=some x/\∃y,EY x=some y/\if y then EV m2 Z1 Q else Q (.val (.fz (.bl false))) Z1):EV (andM m1 m2) Z Q:=by
 obtain⟨r,Z1,e,x,e2,y,e3,q⟩:=h;cases y with
 | false=>exact⟨_,_,by simp only[andM,AF,e,e2,e3,Option.bind_some,Option.map_some,Bool.false_eq_true,if_false],q⟩
 | true =>
  obtain⟨r',Z',e4,q⟩:=q;exact⟨_,_,by simp only[andM,AF,e,e2,e3,Option.bind_some,Option.map_some,if_true,e4],q⟩
theorem Gr(h:EV m1 Z fun r Z1=>∃x,peek Z1 r=some x/\∃y,EY x=some y/\if y then Q (.val (.fz (.bl true))) Z1 else EV m2 Z1 Q):EV (orM m1 m2) Z Q:=by
 obtain⟨r,Z1,e,x,e2,y,e3,q⟩:=h;cases y with
 | true=>exact⟨_,_,by simp only[orM,AF,e,e2,e3,Option.bind_some,Option.map_some,if_true],q⟩
 | false =>
  obtain⟨r',Z',e4,q⟩:=q;exact⟨_,_,by simp only[orM,AF,e,e2,e3,Option.bind_some,Option.map_some,Bool.false_eq_true,if_false,e4],q⟩
theorem Ep(h:EV m Z fun r Z1=>∃x,peek Z1 r=some x/\∃y,EY x=some y/\Q (.val (.fz (.bl (!y)))) Z1):EV (notM m) Z Q:=by
 obtain⟨r,Z1,e,x,e2,y,e3,q⟩:=h;exact⟨_,_,by simp only[notM,AF,e,e2,e3,Option.bind_some,Option.map_some],q⟩
theorem Eo(h:TV c Z fun x Z1=>if x then EV m1 Z1 Q else EV m2 Z1 Q):EV (Kb c m1 m2) Z Q:=by
 obtain⟨x,Z1,e,q⟩:=h;cases x with
 | true=>obtain⟨r',Z',e4,q⟩:=q; exact⟨_,_,by simp only[Kb,e,Option.bind_some,if_true,e4],q⟩
 | false=>obtain⟨r',Z',e4,q⟩:=q; exact⟨_,_,by simp only[Kb,e,Option.bind_some,Bool.false_eq_true,if_false,e4],q⟩
theorem CW(h:AV ms Z fun rs Z1=>∃as,vals rs=some as/\decide (as.length<=LIM)=true/\Q (.val (.lst as)) Z1):EV (lstM ms) Z Q:=by
 obtain⟨rs,Z1,e,as,e2,hl,q⟩:=h;exact⟨_,_,by simp only[lstM,e,e2,Option.bind_some,if_pos (of_decide_eq_true hl)],q⟩
theorem Er(h:AV ms Z fun rs Z1=>∃as Z2,moves rs Z1=some (as,Z2)/\decide (as.length<=LIM)=true/\Q (.val (mkT as)) Z2):EV (GJ ms) Z Q:=by
 obtain⟨rs,Z1,e,as,Z2,e2,hl,q⟩:=h;exact⟨_,_,by simp only[GJ,e,e2,Option.bind_some,if_pos (of_decide_eq_true hl)],q⟩
theorem CJ(q:QA [] Z):AV Ai Z QA:=⟨_,_,rfl,q⟩
theorem Cr(h:EV m Z fun r Z1=>AV ms Z1 fun rs Z2=>QA (r::rs) Z2):AV (Ac m ms) Z QA:=by
 obtain⟨r,Z1,e,rs,Z2,e2,q⟩:=h;exact⟨_,_,by simp only[Ac,e,e2,Option.bind_some,Option.map_some],q⟩
theorem IH(h:EV m Z fun r Z1=>QA [r] Z1):AV (m1L m) Z QA:=Cr (by
 obtain⟨r,Z1,e,q⟩:=h; exact⟨r,Z1,e,CJ q⟩)
theorem Jc(h:EV m1 Z fun r Z1=>EV m2 Z1 fun r2 Z2=>QA [r,r2] Z2):AV (m2L m1 m2) Z QA:=Cr (by
 obtain⟨r,Z1,e,q⟩:=h; exact⟨r,Z1,e,IH q⟩)
theorem ES(h:EV m Z fun r Z1=>∃x,peek Z1 r=some x/\∃y,EY x=some y/\QT y Z1):TV (AF m) Z QT:=by
 obtain⟨r,Z1,e,x,e2,y,e3,q⟩:=h;exact⟨_,_,by simp only[AF,e,e2,e3,Option.bind_some,Option.map_some],q⟩
theorem ER(h:TV c Z fun x Z1=>QT (!x) Z1):TV (Ds c) Z QT:=by
 obtain⟨x,Z1,e,q⟩:=h;exact⟨_,_,by simp only[Ds,e,Option.map_some],q⟩
theorem GK(h:TV c Z fun x Z1=>if x then QT true Z1 else TV c2 Z1 QT):TV (orT c c2) Z QT:=by
 obtain⟨x,Z1,e,q⟩:=h;cases x with
 | true=>exact⟨_,_,by simp only[orT,e,Option.bind_some,if_true],q⟩
 | false=>obtain⟨y,Z',e4,q⟩:=q; exact⟨_,_,by simp only[orT,e,Option.bind_some,Bool.false_eq_true,if_false,e4],q⟩
theorem EO(h:TV c Z fun x Z1=>if x then TV c2 Z1 QT else QT false Z1):TV (IG c c2) Z QT:=by
 obtain⟨x,Z1,e,q⟩:=h;cases x with
 | false=>exact⟨_,_,by simp only[IG,e,Option.bind_some,Bool.false_eq_true,if_false],q⟩
 | true=>obtain⟨y,Z',e4,q⟩:=q; exact⟨_,_,by simp only[IG,e,Option.bind_some,if_true,e4],q⟩
theorem A5(h:SV a Z (nxt (fun Z1=>SV b Z1 QS) QS)):SV (Ao a b) Z QS:=by
 obtain⟨f,e,q⟩:=h;cases f with
 | next Z1=>obtain⟨f,e2,q⟩:=q; exact⟨f,by simp only[Ao,e,Option.bind_some,e2],q⟩
 | brk Z1=>exact⟨_,by simp only[Ao,e,Option.bind_some],q⟩
 | cnt Z1=>exact⟨_,by simp only[Ao,e,Option.bind_some],q⟩
 | ret x Z1=>exact⟨_,by simp only[Ao,e,Option.bind_some],q⟩
theorem B8(h:EV m Z fun r Z1=>∃x Z2,keep Z1 r=some (x,Z2)/\free Z2 i=true/\QS (.next (Z2.set i (some (.own,x))))):SV (AH i m) Z QS:=by
 obtain⟨r,Z1,e,x,Z2,e2,e3,q⟩:=h;exact⟨_,by simp only[AH,e,e2,e3,Option.bind_some,if_true],q⟩
theorem EK(h:EV m Z fun _ Z1=>QS (.next Z1)):SV (J9 m) Z QS:=by
 obtain⟨r,Z1,e,q⟩:=h;exact⟨_,by simp only[J9,e,Option.map_some],q⟩
theorem EM(h:EV m Z fun r Z1=>∃x Z2,move Z1 r=some (x,Z2)/\QS (.ret x Z2)):SV (retS m) Z QS:=by
 obtain⟨r,Z1,e,x,Z2,e2,q⟩:=h;exact⟨_,by simp only[retS,e,e2,Option.bind_some,Option.map_some],q⟩
theorem GH(h:TV c Z fun x Z1=>if x then SV a Z1 QS else SV b Z1 QS):SV (ifS c a b) Z QS:=by
 obtain⟨x,Z1,e,q⟩:=h;cases x with
 | true=>obtain⟨f,e2,q⟩:=q; exact⟨f,by simp only[ifS,e,Option.bind_some,if_true,e2],q⟩
 | false=>obtain⟨f,e2,q⟩:=q; exact⟨f,by simp only[ifS,e,Option.bind_some,Bool.false_eq_true,if_false,e2],q⟩
theorem Dg(q:QS (.next Z)):SV AS Z QS:=⟨_,rfl,q⟩
theorem EN{is:List Nat}(h:EV m Z fun r Z1=>∃x Z2,keep Z1 r=some (x,Z2)/\∃as,F3 x=some as/\∃Z3,B7 is as Z2=some Z3/\QS (.next Z3)):SV (Nf is m) Z QS:=by
 obtain⟨r,Z1,e,x,Z2,e2,as,e3,Z3,e4,q⟩:=h;exact⟨_,by simp only[Nf,e,e2,e3,e4,Option.bind_some,Option.map_some],q⟩
theorem EL(h:∃d Z2,share Z (.ref i)=some (d,Z2)/\QS (.next Z2)):SV (Lf i) Z QS:=by
 obtain⟨d,Z2,e,q⟩:=h;exact⟨_,by simp only[Lf,e,Option.map_some],q⟩
theorem EJ(h:SV (AH i (opM Ss (m2L (Aa i) m))) Z QS):SV (Vd i m) Z QS:=h
theorem Ir(h0:∃p,C7 Z i=some p)(h:EV m Z fun r Z1=>∃x Z2,keep Z1 r=some (x,Z2)/\∃st as,C7 Z2 i=some (st,as)/\as.length<LIM/\QS (.next (Z2.set i (some (st,.lst (as++[x])))))):SV (F6 i m) Z QS:=by
 obtain⟨p,e0⟩:=h0;obtain⟨r,Z1,e,x,Z2,e2,st,as,e3,hl,q⟩:=h;exact⟨_,by simp only[F6,e0,e,e2,e3,Option.bind_some,if_pos hl],q⟩
theorem Ud{mk me:ME}(h:EV me Z fun r Z1=>∃d Z2,share Z1 r=some (d,Z2)/\(∃p,KH Z2 i=some p)/\EV mk Z2 fun r2 Z3=>∃kd,r2=.val (.fz kd)/\∃st kvs,KH Z3 i=some (st,kvs)/\gk kd=true/\kvs.length<LIM/\QS (.next (Z3.set i (some (st,.dct (HU kvs kd d)))))):SV (HB i mk me) Z QS:=by
 obtain⟨r,Z1,e,d,Z2,e2,⟨p,e0⟩,r2,Z3,e3,kd,rfl,st,kvs,e4,hk,hl,q⟩:=h;refine⟨_,?_,q⟩;simp only[HB,e,e2,e0,e3,e4,Option.bind_some];rw[if_pos ⟨hk,hl⟩]
theorem BL{is:List Nat}{one:Bool}(h:IV it Z fun ds n Z1=>∃Inv:Nat->Ro->Prop,Inv 0 (lock Z1 n)/\(∀j d Z2,ds[j]? = some d->Inv j Z2->∃Z3,Gi is one d Z2=some Z3/\SV b Z3 (turn (Inv (j+1)) (fun Z4=>unlock Z1 Z4 n) QS))/\∀Z2,Inv ds.length Z2->QS (.next (unlock Z1 Z2 n))):SV (Bw is one it b) Z QS:=by
 obtain⟨ds,n,Z1,e,Inv,h0,hs,he⟩:=h;have key:∀(es:List D) (j:Nat) (Z2:Ro),j<=ds.length->ds.drop j=es->Inv j Z2->∃f,forL is one b es Z2=some f/\QS (IZ Z1 n f):=by
  intro es;induction es with
  | nil =>
   intro j Z2 hj hd hI;have hj2:ds.length<=j:=by
    have:=congrArg List.length hd;simp at this;lia
   have:j=ds.length:=by lia
   subst this;exact⟨_,rfl,he Z2 hI⟩
  | cons d es ih =>
   intro j Z2 hj hd hI;have hlt:j<ds.length:=by
    rcases Nat.lt_or_ge j ds.length with z|z
    .exact z
    .rw[List.drop_eq_nil_of_le z] at hd; cases hd
   rw[List.drop_eq_getElem_cons hlt] at hd;injection hd with e1 e2
   obtain⟨Z3,e3,f,e4,q⟩:=hs j d Z2 (by rw[<- e1]; simp) hI;cases f with
   | next Z4 =>
    obtain⟨f,e5,q⟩:=ih (j+1) Z4 hlt e2 q;exact⟨f,by simp only[forL,e3,e4,Option.bind_some,e5],q⟩
   | cnt Z4 =>
    obtain⟨f,e5,q⟩:=ih (j+1) Z4 hlt e2 q;exact⟨f,by simp only[forL,e3,e4,Option.bind_some,e5],q⟩
   | brk Z4=>exact⟨.next Z4,by simp only[forL,e3,e4,Option.bind_some],q⟩
   | ret x Z4=>exact⟨.ret x Z4,by simp only[forL,e3,e4,Option.bind_some],q⟩
 obtain⟨f,e2,q⟩:=key ds 0 (lock Z1 n) (Nat.zero_le _) (by simp) h0;exact⟨_,by simp only[Bw,e,Option.bind_some,e2,Option.map_some],q⟩
theorem Na{w:Nat}(I:Nat->Ro->Prop)(hw:∃n,n<w/\I n Z)(hs:∀n Z1,I n Z1->TV c Z1 fun x Z2=>if x then SV b Z2 (turn (fun Z3=>∃k,k<n/\I k Z3) (fun Z3=>Z3) QS) else QS (.next Z2)):SV (J5 w c b) Z QS:=by
 have key:∀(w n:Nat) (Z:Ro),n<w->I n Z -> SV (DX c b w) Z QS:=by
  intro w;induction w with
  | zero=>intro n Z h; exact absurd h (Nat.not_lt_zero _)
  | succ w ih =>
   intro n Z h hI;obtain⟨x,Z2,e,q⟩:=hs n Z hI;cases x with
   | false=>exact⟨_,by simp only[DX,e,Option.bind_some,Bool.false_eq_true,if_false],q⟩
   | true =>
    obtain⟨f,e2,q⟩:=q;cases f with
    | next Z3 =>
     obtain⟨k,hk,hI2⟩:=q;obtain⟨f,e3,q⟩:=ih k Z3 (by lia) hI2;exact⟨f,by simp only[DX,e,Option.bind_some,if_true,e2,e3],q⟩
    | cnt Z3 =>
     obtain⟨k,hk,hI2⟩:=q;obtain⟨f,e3,q⟩:=ih k Z3 (by lia) hI2;exact⟨f,by simp only[DX,e,Option.bind_some,if_true,e2,e3],q⟩
    | brk Z3=>exact⟨.next Z3,by simp only[DX,e,Option.bind_some,if_true,e2],q⟩
    | ret y Z3=>exact⟨.ret y Z3,by simp only[DX,e,Option.bind_some,if_true,e2],q⟩
 obtain⟨n,hn,hI⟩:=hw;exact key w n Z hn hI
theorem SM{pat:Nat}{e:ME}(f:D->Option D)(h:IV it Z fun ds n Z1=>decide (ds.length<=LIM)=true/\(∀d∈ds,∃bs,LI pat d=some bs/\TV c (bs.map own++lock Z1 n) fun x Z2=>Z2=bs.map own++lock Z1 n/\if x then EV e (bs.map own++lock Z1 n) (fun r Z3=>Z3=bs.map own++lock Z1 n/\∃v,share (bs.map own++lock Z1 n) r=some (v,bs.map own++lock Z1 n)/\f d=some v) else f d=none)/\Q (.val (.lst ((ds.filterMap f).map A.fz))) (unlock Z1 (lock Z1 n) n)):EV (AG it pat c e) Z Q:=by
 obtain⟨ds,n,Z1,e0,hl,hs,q⟩:=h;have key:∀es:List D,(∀d∈es,d∈ds)->Ee pat c e es (lock Z1 n)=some (es.filterMap f,lock Z1 n):=by
  intro es;induction es with
  | nil=>intro _; rfl
  | cons d es ih =>
   intro hm;obtain⟨bs,e1,x,Z2,e2,rfl,q2⟩:=hs d (hm d List.mem_cons_self);have ih:=ih fun y hy=>hm y (List.mem_cons_of_mem _ hy);have hdr:(bs.map own++lock Z1 n).drop bs.length=lock Z1 n:=by
    rw[List.drop_append_of_le_length (by simp),List.drop_of_length_le (by simp),List.nil_append]
   cases x with
   | false =>
    have q2:f d=none:=q2;simp only[Ee,e1,Option.bind_some,e2,Bool.false_eq_true,if_false,hdr,ih,List.filterMap_cons,q2]
   | true =>
    obtain⟨r,Z3,e3,rfl,v,e4,e5⟩:=q2;simp only[Ee,e1,Option.bind_some,e2,if_true,e3,e4,hdr,ih,Option.map_some,List.filterMap_cons,e5]
 exact⟨_,_,by simp only[AG,e0,Option.bind_some,if_pos (of_decide_eq_true hl),key ds fun _ h=>h,Option.map_some],q⟩
theorem Jf{pat:Nat}{e:ME}(f:D->Option D)(out:List D)(h:IV it Z fun ds n Z1=>ds.length<=100000/\ds.filterMap f=out/\(∀d∈ds,∃bs,LI pat d=some bs/\TV c (bs.map own++lock Z1 n) fun x Z2=>Z2=bs.map own++lock Z1 n/\if x then EV e (bs.map own++lock Z1 n) (fun r Z3=>Z3=bs.map own++lock Z1 n/\∃v,share (bs.map own++lock Z1 n) r=some (v,bs.map own++lock Z1 n)/\f d=some v) else f d=none)/\Q (.val (.lst (out.map A.fz))) (unlock Z1 (lock Z1 n) n)):EV (AG it pat c e) Z Q:=by
 obtain⟨ds,n,Z1,e0,hl,rfl,hs,q⟩:=h;have hL:100000<=LIM:=by decide
 exact SM f ⟨ds,n,Z1,e0,decide_eq_true (by lia),hs,q⟩
theorem Dh{QT:Bool->Ro->Prop}(q:QT true Z):TV BA Z QT:=⟨_,_,rfl,q⟩
theorem Ck{QI:List D->Option Nat->Ro->Prop}(h:EV m Z fun r Z1=>∃x,peek Z1 r=some x/\∃ds,AW x=some ds/\QI ds (nameOf r) Z1):IV (Bi m) Z QI:=by
 obtain⟨r,Z1,e,x,e2,ds,e3,q⟩:=h;exact⟨_,_,_,by simp only[Bi,e,e2,e3,Option.bind_some,Option.map_some],q⟩
theorem Lj{QI:List D->Option Nat->Ro->Prop}(h:EV m Z fun r Z1=>∃k:Int,r=.val (.fz (.int k))/\(-1000000<=k/\k<=1000000)/\QI (Di 0 k.toNat) none Z1):IV (A9 m) Z QI:=by
 obtain⟨r,Z1,e,k,rfl,hk,q⟩:=h;have e0:(-(2 ^ 62)<=k/\k<2 ^ 62)=True:=by simp; lia
 exact⟨_,_,_,by simp only[A9,e,Option.bind_some,e0,if_true],q⟩
theorem Mr{QI:List D->Option Nat->Ro->Prop}(h:EV m Z fun r Z1=>∃x,peek Z1 r=some x/\Li x=true/\∃ds,AW x=some ds/\QI (IK ds) (nameOf r) Z1):IV (GY m) Z QI:=by
 obtain⟨r,Z1,e,x,e2,hL,ds,e3,q⟩:=h;exact⟨_,_,_,by simp only[GY,e,e2,e3,hL,Option.bind_some,if_true,Option.map_some],q⟩
theorem Vw{QI:List D->Option Nat->Ro->Prop}(h:EV m Z fun r Z1=>∃z,r=.val (.fz (.str z))/\decide (z.length<=LIM)=true/\QI (Hi z) none Z1):IV (N9 m) Z QI:=by
 obtain⟨r,Z1,e,z,rfl,hl,q⟩:=h;exact⟨_,_,_,by simp only[N9,e,Option.bind_some,if_pos (of_decide_eq_true hl)],q⟩
theorem A3{I:Ro->Prop}{u:Ro->Ro}{Z:Ro}(h:I Z):turn I u QS (.next Z):=h
theorem Aq{Z:Ro}(h:K Z):nxt K QS (.next Z):=h
theorem EC{x:A}{Z:Ro}(h:QS (.ret x Z)):nxt K QS (.ret x Z):=h
theorem CY{np:Nat}{QF:A->List A->Prop}{x:A}{Z:Ro}(h:QF x ((Z.take np).map He)):fin np QF (.ret x Z):=h
theorem Cf{np:Nat}{QF:A->List A->Prop}{Z:Ro}(h:QF (.fz .non) ((Z.take np).map He)):fin np QF (.next Z):=h
theorem Gv{P1 P2:Prop}{x:Bool}(hx:x=true)(h:P1):if x then P1 else P2:=by rw[if_pos hx]; exact h
theorem E5{P1 P2:Prop}{x:Bool}(hx:x=false)(h:P2):if x then P1 else P2:=by rw[if_neg (by rw[hx]; exact Bool.false_ne_true)]; exact h
theorem Ey{P1 P2:Prop}{x:Bool}(h1:x=true->P1)(h2:x=false->P2):if x then P1 else P2:=by
 cases x with
 | true=>exact h1 rfl
 | false=>exact h2 rfl
end
theorem BR{i j:Int}(h:decide (-1000000<=j/\j<=1000000)=true):Lq [.fz (.int i),.fz (.int j)]=some (.fz (.int (i*j))):=by
 have h:=of_decide_eq_true h;have e:((-(2 ^ 64)<i/\i<2 ^ 64)\/(-(2 ^ 64)<j/\j<2 ^ 64))=True:=by simp only[eq_iff_iff,iff_true]; exact .inr ⟨by lia,by lia⟩
 simp only[Lq,on2,B6,fzU,Gu,Option.bind_some,e,if_true]
theorem ex1{α:Type}{f:Option α}{q:α -> Prop}{x:α}(h:f=some x)(k:q x):∃x,f=some x/\q x:=⟨x,h,k⟩
theorem ex2{α β:Type}{f:Option (α×β)}{q:α -> β -> Prop}{x:α}{y:β}(h:f=some (x,y))(k:q x y):∃x y,f=some (x,y)/\q x y:=⟨x,y,h,k⟩
theorem BD{i:Nat}{Z Z1:Ro}{Q:R->Ro->Prop}{r:R}(h:Aa i Z=some (r,Z1))(q:Q r Z1):EV (Aa i) Z Q:=⟨r,Z1,h,q⟩
theorem ex3{α β:Type}{f:Option (α×β)}{b:β}{q:α -> Prop}{x:α}(h:f=some (x,b))(k:q x):∃x,f=some (x,b)/\q x:=⟨x,h,k⟩
theorem ex0{α β:Type}{r:β}{g:α -> β}{q:α -> Prop}{x:α}(h:r=g x)(k:q x):∃x,r=g x/\q x:=⟨x,h,k⟩
theorem Cb{Ψ:FnR}{ms:MA}{Z:Ro}{o:Option Str}(h:AV ms Z fun rs Z1=>∃as,DK Z1 rs=some as/\LJ as=true/\Ψ as=o):UA Ψ ms Z=o:=by
 obtain⟨rs,Z1,e,as,e2,hp,q⟩:=h;simp only[UA,e,e2,Option.bind_some,hp,if_true,q]
theorem C8{c:MT}{r s:MR}{Z:Ro}{o:Option Str}(h:TV c Z fun x Z1=>if x then r Z1=o else s Z1=o):Vu c r s Z=o:=by
 obtain⟨x,Z1,e,q⟩:=h;cases x with
 | true=>simp only[Vu,e,Option.bind_some,if_true]; exact q
 | false=>simp only[Vu,e,Option.bind_some,Bool.false_eq_true,if_false]; exact q
theorem Ew{c:MT}{r:MR}{Z:Ro}{o:Option Str}(h:TV c Z fun x Z1=>if x then r Z1=o else none=o):ifR c r Z=o:=by
 obtain⟨x,Z1,e,q⟩:=h;cases x with
 | true=>simp only[ifR,e,Option.bind_some,if_true]; exact q
 | false=>simp only[ifR,e,Option.bind_some,Bool.false_eq_true,if_false]; exact q
theorem Dd{a:MS}{r:MR}{Z:Ro}{o:Option Str}(h:SV a Z (nxt (fun Z1=>r Z1=o) fun _=>False)):Yj a r Z=o:=by
 obtain⟨f,e,q⟩:=h;cases f with
 | next Z1=>simp only[Yj,e,Option.bind_some]; exact q
 | brk Z1=>exact q.elim
 | cnt Z1=>exact q.elim
 | ret x Z1=>exact q.elim
section
variable{W:List Str}{r s:MR}{c:MT}
end
section
variable{i:Nat}{m:ME}{Z:Ro}{QS:Fl->Prop}{QI:List D->Option Nat->Ro->Prop}
theorem Oz(h:EV m Z fun r Z1=>∃z,r=.val (.fz (.str z))/\z.length<=100000/\QI (F5 z) none Z1):IV (IA m) Z QI:=by
 obtain⟨r,Z1,e,z,rfl,hl,q⟩:=h;have hL:100000<=LIM:=by decide
 exact⟨_,_,_,by simp only[IA,e,Option.bind_some,if_pos (Nat.le_trans hl hL)],q⟩
theorem B4{Z:Ro}{i:Nat}{d:D}(h:free Z i=true):Gi [i] true d Z=some (Z.set i (J.own d)):=if_pos h
theorem Nq{i j:Nat}{a b:D}{Z:Ro}(h:free Z i=true)(h2:free (Z.set i (some (.own,.fz a))) j=true):Gi [i,j] false (.tup [a,b]) Z=some ((Z.set i (some (.own,.fz a))).set j (some (.own,.fz b))):=by
 simp only[Gi,B7,List.map_cons,List.map_nil,h,h2,if_true]
end
end J
end
section
namespace St
noncomputable def hit(f:Nat->List Int)(bs:List Int)(c:Nat):Bool:=(f c).any fun x=>decide (x∈bs)
noncomputable def fs(f:Nat->List Int):List Int->List Nat->List Nat
 | _,[]=>[]
 | bs,c::w=>if hit f bs c then fs f (bs++f c) w else c::fs f (bs++f c) w
noncomputable def rs(f:Nat->List Int):List Int->List Nat->List Nat
 | _,[]=>[]
 | bs,c::w=>if hit f bs c then c::rs f (bs++f c) w else rs f (bs++f c) w
noncomputable def srt(cs:List Nat):List Nat:=cs.mergeSort fun a b=>decide (a<=b)
variable{f:Nat->List Int}
noncomputable def pl(f:Nat->List Int):List Int->Nat->List Nat->List Nat
 | _,_,[]=>[]
 | bs,k,c::w=>if hit f bs c then pl f (bs++f c) (k+1) w else k::pl f (bs++f c) (k+1) w
end St
end
section
namespace St
variable{f:Nat->List Int}
noncomputable def lst(cs:List Nat):Nat:=(srt cs).headD 0
end St
end
section
namespace Nw
noncomputable abbrev Nm:=Option (Nat×Nat)
noncomputable abbrev N3:=Nat->Nat->Nat->Nm
noncomputable def fi(f:N3)(i:Nat):Nm:=f i i i
noncomputable def knw(n:Nat)(other one:N3)(hand:Nat):Bool:=(List.range n).any fun v=>decide (fi one v∈(List.range n).map (fi other))&&decide (one v v hand=fi one hand)
noncomputable def cmp(n:Nat)(one other:N3)(hand:Nat):Int:=if fi one hand=fi other hand then 0 else if fi one hand=none\/knw n other one hand=true then -1 else 1
noncomputable def DH(n hand:Nat)(a:N3)(fs:List N3):N3:=fs.foldl (fun a k=>if 0<cmp n k a hand then k else a) a
noncomputable def used(n:Nat)(fs:List N3):List Nm:=fs.flatMap fun f=>(List.range n).flatMap fun i=>(List.range n).flatMap fun j=>(List.range n).map fun k=>f i j k
noncomputable def Lst(us:List Nm)(c k:Nat):Prop:=(∀j,j<k->some (c,j)∈us)/\some (c,k)∉us
noncomputable def num(us:List Nm)(c:Nat):Nat:=((List.range (us.length+1)).find? fun k=>decide (some (c,k)∉us)).getD 0
theorem YO(c:Nat):∀(n:Nat) (l:List Nm),l.length<n->∃k,k<n/\some (c,k)∉l:=by
 intro n;induction n with
 | zero=>intro l h; simp at h
 | succ n ih =>
  intro l h;by_cases hn:some (c,n)∈l
  .obtain⟨k,h1,h2⟩:=ih (l.erase (some (c,n))) (by rw[List.length_erase_of_mem hn]; have:=List.length_pos_of_mem hn; omega)
   exact⟨k,by omega,fun z=>h2 ((List.mem_erase_of_ne (by simp; omega)).mpr z)⟩
  .exact⟨n,by omega,hn⟩
theorem HK(us:List Nm)(c:Nat):Lst us c (num us c)/\num us c<=us.length:=by
 have key:∀m,(∃k,k<m/\some (c,k)∉us)->Lst us c (((List.range m).find? fun k=>decide (some (c,k)∉us)).getD 0)/\(((List.range m).find? fun k=>decide (some (c,k)∉us)).getD 0)<m:=by
  intro m h;cases e:(List.range m).find? fun k=>decide (some (c,k)∉us) with
  | none =>
   obtain⟨k,h1,h2⟩:=h;have:=List.find?_eq_none.mp e k (List.mem_range.mpr h1);simp[h2] at this
  | some k =>
   have h1:=List.find?_some e;have h2:=List.mem_of_find?_eq_some e;refine⟨⟨fun j hj=>?_,by simpa using h1⟩,by simpa using h2⟩;have hj:j<k:=hj;obtain⟨_,as,bs,e2,e3⟩:=List.find?_eq_some_iff_append.mp e;have hk:as.length=k:=by
    have hl:as.length<m:=by have:=congrArg List.length e2; simp at this; omega
    have:(List.range m)[as.length]? = some k:=by rw[e2]; simp
    rw[List.getElem?_range hl] at this;simpa using this
   have hj2:j∈as:=by
    have h5:(List.range m)[j]? = as[j]?:=by rw[e2,List.getElem?_append_left (by omega)]
    have hl:j<m:=by have:=congrArg List.length e2; simp at this; omega
    rw[List.getElem?_range hl] at h5;exact List.mem_of_getElem? h5.symm
   have:=e3 j hj2;simpa using this
 obtain⟨h1,h2⟩:=key (us.length+1) (YO c _ us (by omega));exact⟨h1,by have:num us c<us.length+1:=h2; omega⟩
theorem Mw(n:Nat)(fs:List N3):(used n fs).length=fs.length*(n*(n*n)):=by
 have c:∀{α β:Type} (l:List α) (g:α -> List β) (m:Nat),(∀x,(g x).length=m)->(l.flatMap g).length=l.length*m:=by
  intro α β l g m h;induction l with
  | nil=>simp
  | cons x l ih=>rw[List.flatMap_cons,List.length_append,ih,h,List.length_cons,Nat.add_mul,Nat.one_mul,Nat.add_comm]
 refine c _ _ _ fun f=>?_;rw[c _ _ (n*n) fun i=>?_,List.length_range];rw[c _ _ n fun j=>?_,List.length_range];simp
noncomputable def told(n:Nat)(hs:List Int)(nm:Nm)(fs:List N3):N3:=fun i j k =>
 let w:=fun i=>DH n i (fs.headD fun _ _ _=>none) fs
 if (i:Int)∈hs then (if (j:Int)∈hs then (if (k:Int)∈hs then nm else fi (w k) k) else w j j j k) else w i i j k
section
variable(n:Nat)(hd:Nat->List Int)
noncomputable def EW(f:Nat->N3)(c:Nat):List N3:=(hd c).map fun x=>f x.toNat
noncomputable def NP(f:Nat->N3)(c:Nat):Nat:=num (used n (EW hd f c)) c
noncomputable def nxt(f:Nat->N3)(c:Nat):Nat->N3:=fun q=>if (q:Int)∈hd c then told n (hd c) (some (c,NP n hd f c)) (EW hd f c) else f q
noncomputable def EG(f:Nat->N3)(l:List Nat):Nat->N3:=l.foldl (nxt n hd) f
noncomputable def rnN:(Nat->N3)->List Nat->List (Nat×Nat)
 | _,[]=>[]
 | f,c::l=>(c,NP n hd f c)::rnN (nxt n hd f c) l
theorem TL(f:Nat->N3)(l1 l2:List Nat):rnN n hd f (l1++l2)=rnN n hd f l1++rnN n hd (EG n hd f l1) l2:=by
 induction l1 generalizing f with
 | nil=>rfl
 | cons c l ih=>simp only[List.cons_append,rnN,ih,EG,List.foldl_cons]
theorem RS(f:Nat->N3)(l1 l2:List Nat):EG n hd f (l1++l2)=EG n hd (EG n hd f l1) l2:=List.foldl_append
variable{hd}(h0:∀c,∀x∈hd c,0<=x)
include h0 in
include h0 in
include h0 in
end
end Nw
end
section
namespace J
open PySem L2
theorem Ca(ds:List D):fzs (ds.map A.fz)=some ds:=by
 induction ds with
 | nil=>rfl
 | cons d ds ih=>simp[fzs,ih]
theorem FR(ds:List D):ers (ds.map A.fz)=some ds:=by
 induction ds with
 | nil=>simp[ers]
 | cons d ds ih=>simp[ers,er,ih]
theorem Pt(Z:Ro):lock Z none=Z:=rfl
theorem Nd(Z:Ro)(n:Option Nat):unlock Z (lock Z n) n=Z:=by
 cases n with
 | none=>rfl
 | some i =>
  simp only[unlock,lock];split
  .rename_i s e
   apply List.ext_getElem?;intro j;by_cases h:j=i
   .subst h
    have hj:j<Z.length:=As e;split
    .rw[List.getElem?_set_self (by simpa using hj),e]
    .rw[List.getElem?_set_self hj,e]
   .split
    .rw[List.getElem?_set_ne (Ne.symm h),List.getElem?_set_ne (Ne.symm h)]
    .rw[List.getElem?_set_ne (Ne.symm h)]
  .rename_i e
   split
   .rename_i st a e'
    rw[e] at e'; cases e'
   .rfl
theorem Qp{c:MT}{e:ME}{f:D->D}{g:D->Bool}{Z:Ro}:∀{ds:List D},(∀d∈ds,c (own d::Z)=some (g d,own d::Z))->(∀d∈ds,g d=true->∃r,e (own d::Z)=some (r,own d::Z)/\share (own d::Z) r=some (f d,own d::Z))->Ee 0 c e ds Z=some ((ds.filter g).map f,Z):=by
 intro _l;induction _l with
 | nil =>
  intro _ _;exact rfl
 | cons d ds ih =>
  intro hc he;have ih:=ih (fun x hx=>hc x (List.mem_cons_of_mem _ hx)) fun x hx=>he x (List.mem_cons_of_mem _ hx);simp only[Ee,LI,Option.bind_some,List.map_cons,List.map_nil,List.cons_append,List.nil_append,hc d List.mem_cons_self];cases h:g d with
  | true =>
   obtain⟨r,h1,h2⟩:=he d List.mem_cons_self h;simp[h1,h2,ih,h]
  | false=>simp[ih,h]
theorem Md{it:MI}{c:MT}{e:ME}{f:D->D}{g:D->Bool}{Z Z1:Ro}{ds:List D}{n:Option Nat}(hi:it Z=some (ds,n,Z1))(hl:ds.length<=LIM)(hc:∀d∈ds,c (own d::lock Z1 n)=some (g d,own d::lock Z1 n))(he:∀d∈ds,g d=true->∃r,e (own d::lock Z1 n)=some (r,own d::lock Z1 n)/\share (own d::lock Z1 n) r=some (f d,own d::lock Z1 n)):AG it 0 c e Z=some (.val (.lst (((ds.filter g).map f).map A.fz)),Z1):=by
 simp only[AG,hi,Option.bind_some,hl,if_true,Qp hc he,Option.map_some,Nd]
theorem Ib{it:MI}{e:ME}{f:D->D}{Z Z1:Ro}{ds:List D}{n:Option Nat}(hi:it Z=some (ds,n,Z1))(hl:ds.length<=LIM)(he:∀d∈ds,∃r,e (own d::lock Z1 n)=some (r,own d::lock Z1 n)/\share (own d::lock Z1 n) r=some (f d,own d::lock Z1 n)):AG it 0 BA e Z=some (.val (.lst ((ds.map f).map A.fz)),Z1):=by
 have:=Md (g:=fun _=>true) (c:=BA) hi hl (fun d _=>rfl) fun d hd _=>he d hd;rw[List.filter_eq_self.mpr (fun _ _=>rfl)] at this;exact this
theorem Mk{is:List Nat}{one:Bool}{b:MS}(Inv:Nat->Ro->Prop):∀{ds:List D} {i:Nat} {Z:Ro},Inv i Z -> (∀(j:Nat) d Z,ds[j]? = some d->Inv (i+j) Z -> ∃Z1 Z2,Gi is one d Z=some Z1/\(b Z1=some (.next Z2)\/b Z1=some (.cnt Z2))/\Inv (i+j+1) Z2)->∃Z',forL is one b ds Z=some (.next Z')/\Inv (i+ds.length) Z'
 | [],i,Z,h0,_=>⟨Z,rfl,h0⟩
 | d::ds,i,Z,h0,hs=>by
  obtain⟨Z1,Z2,h1,h2,h3⟩:=hs 0 d Z rfl h0;obtain⟨Z',h4,h5⟩:=Mk (ds:=ds) (i:=i+1) (b:=b) (is:=is) (one:=one) Inv h3 fun j d Z e hI=>by
   have:=hs (j+1) d Z (by simpa using e) (by rw[show i+(j+1)=i+1+j by lia]; exact hI);rw[show i+(j+1)+1=i+1+j+1 by lia] at this;exact this
  refine⟨Z',?_,by rw[List.length_cons,show i+(ds.length+1)=i+1+ds.length by lia]; exact h5⟩;rcases h2 with h2|h2<;>simp[forL,h1,h2,h4]
theorem Ml{is:List Nat}{one:Bool}{it:MI}{b:MS}{Z Z1:Ro}{ds:List D}{n:Option Nat}(Inv:Nat->Ro->Prop)(hi:it Z=some (ds,n,Z1))(h0:Inv 0 (lock Z1 n))(hs:∀(j:Nat) d Z,ds[j]? = some d->Inv j Z -> ∃Z1 Z2,Gi is one d Z=some Z1/\(b Z1=some (.next Z2)\/b Z1=some (.cnt Z2))/\Inv (j+1) Z2):∃Z',Bw is one it b Z=some (.next (unlock Z1 Z' n))/\Inv ds.length Z':=by
 obtain⟨Z',h1,h2⟩:=Mk (is:=is) (one:=one) (b:=b) Inv (ds:=ds) (i:=0) h0 fun j d Z e hI=>by
  rw[Nat.zero_add] at hI |-;exact hs j d Z e hI
 refine⟨Z',?_,by simpa using h2⟩;simp[Bw,hi,h1,IZ]
theorem J4(lo:Int)(n:Nat):(Di lo n).length=n:=by simp[Di]
theorem Iv{lo:Int}{n j:Nat}{d:D}(h:(Di lo n)[j]? = some d):d=.int (lo+j)/\j<n:=by
 have hj:j<n:=by have:=As h; simpa[Di] using this
 simp only[Di,List.getElem?_map,List.getElem?_range hj,Option.map_some,Option.some.injEq] at h;exact⟨h.symm,hj⟩
noncomputable def iL(xs:List Int):List D:=xs.map D.int
theorem Oy(xs:List Int):(iL xs).all Cg=true:=by simp[iL,Cg,List.all_eq_true]
theorem Lg(x:Int)(xs:List Int):inD (.int x) (iL xs)=decide (x∈xs):=by
 induction xs with
 | nil=>rfl
 | cons y ys ih =>
  have:inD (.int x) (iL (y::ys))=(eqD (.int y) (.int x) || inD (.int x) (iL ys)):=rfl;rw[this,ih];simp only[IB,List.mem_cons];by_cases h:y=x
  .subst h; simp
  .have h':¬x=y:=fun z=>h z.symm
   simp[h,h']
theorem Fw{α:Type}(xs:List α)(f:α -> Bool):Dl (xs.map fun x=>D.bl (f x))=some (xs.map f):=by
 induction xs with
 | nil=>rfl
 | cons x xs ih=>simp[Dl,ih]
theorem Mq(xs:List Int):QN (iL xs)=some xs:=by
 induction xs with
 | nil=>rfl
 | cons x xs ih =>
  simp only[iL,List.map_cons,QN] at ih |-;rw[ih]; rfl
end J
namespace J
open PySem L2
@[simp] theorem BP(xs:List Int):(iL xs).length=xs.length:=by simp[iL]
theorem NM{d:D}{xs:List Int}:d∈iL xs↔∃i∈xs,d=.int i:=by
 simp only[iL,List.mem_map];constructor
 .rintro ⟨i,h,rfl⟩; exact⟨i,h,rfl⟩
 .rintro ⟨i,h,rfl⟩; exact⟨i,h,rfl⟩
noncomputable def nD:D->Int
 | .int i=>i
 | _=>0
@[simp] theorem YN(i:Int):nD (.int i)=i:=rfl
theorem VR{β:Type}(f:Int -> β)(xs:List Int):(iL xs).map (fun d=>f (nD d))=xs.map f:=by simp[iL]
end J
namespace J
open PySem L2
theorem A8{a b:MS}{Z Z1:Ro}(h:a Z=some (.next Z1)):Ao a b Z=b Z1:=by simp[Ao,h]
theorem YH{c:MT}{a b:MS}{Z Z1:Ro}(h:c Z=some (true,Z1)):ifS c a b Z=a Z1:=by simp[ifS,h]
theorem Vq{c:MT}{a b:MS}{Z Z1:Ro}(h:c Z=some (false,Z1)):ifS c a b Z=b Z1:=by simp[ifS,h]
theorem LV{m:ME}{Z Z1:Ro}{b:Bool}(h:m Z=some (.val (.fz (.bl b)),Z1)):AF m Z=some (b,Z1):=by simp[AF,h,peek,EY]
theorem not_of{m:MT}{Z Z1:Ro}{b:Bool}(h:m Z=some (b,Z1)):Ds m Z=some (!b,Z1):=by simp[Ds,h]
theorem Hh{m:ME}{Z Z1:Ro}{a:A}(h:m Z=some (.val a,Z1)):retS m Z=some (.ret a Z1):=by simp[retS,h,move]
theorem Ia{m:ME}{Z Z1:Ro}{a:A}{i:Nat}(h:m Z=some (.val a,Z1))(hf:free Z1 i=true):AH i m Z=some (.next (Z1.set i (some (.own,a)))):=by simp[AH,h,keep,hf]
theorem Dp{np nn:Nat}{b:MS}{args:List (Own×A)}{a:A}{Z:Ro}(hl:args.length=np)(h:b (args.map some++List.replicate (nn-np) none)=some (.ret a Z)):fnM np nn b args=some (a,(Z.take np).map He):=by simp[fnM,hl,h]
theorem SN{np nn:Nat}{b:MS}{args:List (Own×A)}{Z:Ro}(hl:args.length=np)(h:b (args.map some++List.replicate (nn-np) none)=some (.next Z)):fnM np nn b args=some (.fz .non,(Z.take np).map He):=by simp[fnM,hl,h]
end J
end
section
namespace J
open PySem L2
section
variable{i:Nat}{m e:ME}{Z:Ro}{QS:Fl->Prop}{Q:R->Ro->Prop}
theorem Xs{n:Nat}{d:D}(h:d∈Di 0 n):∃k,k<n/\d=.int (k:Int):=by
 simp only[Di,List.mem_map,List.mem_range,Int.zero_add] at h;obtain⟨k,h1,h2⟩:=h;exact⟨k,h1,h2.symm⟩
theorem D2(n:Nat)(g:Nat->D)(h:EV m Z fun r Z1=>r=.val (.fz (.int (n:Int)))/\n<=1000/\(∀k,k<n->EV e (own (.int (k:Int))::Z1) fun r Z3=>∃v,share Z3 r=some (v,own (.int (k:Int))::Z1)/\Z3=own (.int (k:Int))::Z1/\v=g k)/\Q (.val (.lst (((List.range n).map g).map A.fz))) Z1):EV (AG (A9 m) 0 BA e) Z Q:=by
 refine Jf (fun d=>match d with | .int i=>some (g i.toNat)|_=>none) ((List.range n).map g) (Lj ?_);obtain⟨r,Z1,e0,rfl,hn,hs,q⟩:=h;refine⟨_,Z1,e0,(n:Int),rfl,⟨by lia,by lia⟩,?_,?_,?_,q⟩
 .simp[Di]; lia
 .rw[Di,Int.toNat_natCast,List.filterMap_map,<- List.filterMap_eq_map]
  refine congrArg (fun z=>List.filterMap z (List.range n)) (funext fun k=>?_);simp
 .intro d hd
  obtain⟨k,hk,rfl⟩:=Xs hd;refine⟨[.int (k:Int)],rfl,Dh ⟨rfl,?_⟩⟩;obtain⟨r,Z3,e1,v,e2,rfl,e3⟩:=hs k (by simpa using hk);exact⟨r,_,e1,rfl,v,e2,by simp[e3]⟩
theorem IS(xs:List D)(g:D->D)(h:EV m Z fun r Z1=>∃x,peek Z1 r=some x/\AW x=some xs/\xs.length<=100000/\(∀d,d∈xs->EV e (own d::lock Z1 (nameOf r)) fun r2 Z3=>∃v,share Z3 r2=some (v,own d::lock Z1 (nameOf r))/\Z3=own d::lock Z1 (nameOf r)/\v=g d)/\Q (.val (.lst ((xs.map g).map A.fz))) (unlock Z1 (lock Z1 (nameOf r)) (nameOf r))):EV (AG (Bi m) 0 BA e) Z Q:=by
 refine Jf (fun d=>some (g d)) (xs.map g) (Ck ?_);obtain⟨r,Z1,e0,x,e1,e2,hl,hs,q⟩:=h;refine⟨_,Z1,e0,x,e1,xs,e2,hl,by rw[<- List.filterMap_eq_map]; rfl,?_,q⟩;intro d hd;refine⟨[d],rfl,Dh ⟨rfl,?_⟩⟩;obtain⟨r,Z3,e1,v,e2,rfl,e3⟩:=hs d hd;exact⟨r,_,e1,rfl,v,e2,by simp[e3]⟩
theorem Ld{n:Nat}(xs:List D)(g:Nat->D)(hn:xs.length=n)(h:EV m Z fun r Z1=>∃x,peek Z1 r=some x/\Li x=true/\AW x=some xs/\n<=100000/\(∀k d,k<n->xs[k]? = some d->EV e (own (.int (k:Int))::own d::lock Z1 (nameOf r)) fun r2 Z3=>∃v,share Z3 r2=some (v,own (.int (k:Int))::own d::lock Z1 (nameOf r))/\Z3=own (.int (k:Int))::own d::lock Z1 (nameOf r)/\v=g k)/\Q (.val (.lst (((List.range n).map g).map A.fz))) (unlock Z1 (lock Z1 (nameOf r)) (nameOf r))):EV (AG (GY m) 2 BA e) Z Q:=by
 subst hn;refine Jf (fun d=>match d with | .tup [.int i,_]=>some (g i.toNat)|_=>none) ((List.range xs.length).map g) (Mr ?_);obtain⟨r,Z1,e0,x,e1,e4,e2,hl,hs,q⟩:=h;refine⟨_,Z1,e0,x,e1,e4,xs,e2,?_,?_,?_,q⟩
 .simp[IK]; exact hl
 .rw[IK,List.filterMap_map,<- List.filterMap_eq_map]
  refine congrArg (fun z=>List.filterMap z (List.range xs.length)) (funext fun k=>?_);simp
 .intro d hd
  simp only[IK,List.mem_map,List.mem_range] at hd;obtain⟨k,hk,rfl⟩:=hd;refine⟨[.int (k:Int),xs.getD k .non],rfl,Dh ⟨rfl,?_⟩⟩;obtain⟨r,Z3,e1,v,e2,rfl,e3⟩:=hs k (xs.getD k .non) hk (by simp[List.getD,List.getElem?_eq_getElem hk]);exact⟨r,_,e1,rfl,v,e2,by simp[e3]⟩
theorem JY{mk me:ME}(h:EV me Z fun r Z1=>∃d Z2,share Z1 r=some (d,Z2)/\(∃p,C7 Z2 i=some p)/\EV mk Z2 fun r2 Z3=>∃k:Int,r2=.val (.fz (.int k))/\∃st as,C7 Z3 i=some (st,as)/\∃j,ixN as.length k=some j/\QS (.next (Z3.set i (some (st,.lst (as.set j (.fz d))))))):SV (F7 i mk me) Z QS:=by
 obtain⟨r,Z1,e,d,Z2,e2,⟨p,e0⟩,r2,Z3,e3,k,rfl,st,as,e4,j,e5,q⟩:=h;refine⟨_,?_,q⟩;simp only[F7,e,e2,e0,e3,e4,e5,Option.bind_some,Option.map_some]
theorem Yk{i j:Nat}{a b:A}{Z:Ro}(h:free Z i=true)(h2:free (Z.set i (some (.own,a))) j=true):B7 [i,j] [a,b] Z=some ((Z.set i (some (.own,a))).set j (some (.own,b))):=by
 simp only[B7,h,h2,if_true]
theorem Ea{Z:Ro}{i:Nat}{ds:List D}(h : Z[i]? = some (some (.own,.lst (ds.map A.fz)))):share Z (.ref i)=some (.lst ds,Z.set i (some (.own,.fz (.lst ds)))):=by
 simp only[share,h,J.er,FR,Option.map_some]
theorem Lh(i:Int)(xs:List Int):inA false [.fz (.int i),.fz (.lst (iL xs))]=some (.fz (.bl (decide (i∈xs)))):=by
 have hf:(iL xs).all Cg=true:=by simp[iL,Cg,List.all_eq_true]
 simp only[inA,on2,De,F8,Option.bind_none,Option.none_or,fzU,AW,Option.bind_some,Cg,hf,Bool.and_true,Lg,if_true,Bool.false_eq_true,if_false]
theorem Jl{n k:Nat}(h:k<n):ixN n (k:Int)=some k:=by
 simp[ixN]; lia
end
section
variable{i:Nat}{m m1 m2 e:ME}{Z:Ro}{QS:Fl->Prop}{Q:R->Ro->Prop}
theorem Ux(n:Nat)(f g:Nat->D):IQ ((List.range n).map f) ((List.range n).map g)=(List.range n).map fun q=>D.tup [f q,g q]:=by
 unfold IQ;rw[List.zipWith_map,List.zipWith_self]
theorem SK(n:Nat)(f1 f2 g:Nat->D)(hn:n<=1000)(h:EV m1 Z fun r1 Z1=>r1=.val (.fz (.lst ((List.range n).map f1)))/\EV m2 Z1 fun r2 Z2=>r2=.val (.fz (.lst ((List.range n).map f2)))/\(∀q,q<n->EV e (own (f1 q)::own (f2 q)::Z2) fun r Z3=>∃v,share Z3 r=some (v,own (f1 q)::own (f2 q)::Z2)/\Z3=own (f1 q)::own (f2 q)::Z2/\v=g q)/\Q (.val (.lst (((List.range n).map g).map A.fz))) Z2):EV (AG (Ng m1 m2) 2 BA e) Z Q:=by
 obtain⟨r1,Z1,e1,rfl,r2,Z2,e2,rfl,hs,q⟩:=h;have hz:Ng m1 m2 Z=some ((List.range n).map fun q=>D.tup [f1 q,f2 q],none,Z2):=by
  have:(List.map f1 (List.range n)).length=(List.map f2 (List.range n)).length:=by rw[List.length_map,List.length_map]
  simp only[Ng,Ac,Ai,e1,e2,Option.bind_some,Option.map_some,peeks,peek,lsU,this,if_true,Ux]
 have hL:100000<=LIM:=by decide
 have key:∀js:List Nat,(∀j∈js,j<n)->Ee 2 BA e (js.map fun q=>D.tup [f1 q,f2 q]) Z2=some (js.map g,Z2):=by
  intro js;induction js with
  | nil=>intro _; rfl
  | cons j js ih =>
   intro hj;obtain⟨r,Z3,e3,v,e4,rfl,rfl⟩:=hs j (hj j List.mem_cons_self);have ih:=ih fun k hk=>hj k (List.mem_cons_of_mem _ hk);have ep:LI 2 (D.tup [f1 j,f2 j])=some [f1 j,f2 j]:=rfl;simp only[List.map_cons,Ee,ep,Option.bind_some,BA,if_true,List.map_nil,List.cons_append,List.nil_append,e3,e4,List.length_cons,List.length_nil,List.drop_succ_cons,List.drop_zero,ih,Option.map_some]
 have hk:=key (List.range n) fun j hj=>List.mem_range.mp hj;refine⟨_,_,?_,q⟩;have hlen:(List.map (fun q=>D.tup [f1 q,f2 q]) (List.range n)).length<=LIM:=by rw[List.length_map,List.length_range]; lia
 simp only[AG,hz,Option.bind_some,lock,hlen,if_true,hk,Option.map_some,unlock]
theorem Gp(xs:List (D×D))(g:D->D->D)(hn:xs.length<=1000)(h:EV m1 Z fun r1 Z1=>r1=.val (.fz (.tup (xs.map (·.1))))/\EV m2 Z1 fun r2 Z2=>r2=.val (.fz (.tup (xs.map (·.2))))/\(∀p,p∈xs->EV e (own p.1::own p.2::Z2) fun r Z3=>∃v,share Z3 r=some (v,own p.1::own p.2::Z2)/\Z3=own p.1::own p.2::Z2/\v=g p.1 p.2)/\Q (.val (.lst ((xs.map fun p=>g p.1 p.2).map A.fz))) Z2):EV (AG (J6 m1 m2) 2 BA e) Z Q:=by
 obtain⟨r1,Z1,e1,rfl,r2,Z2,e2,rfl,hs,q⟩:=h;have hz:J6 m1 m2 Z=some (xs.map fun p=>D.tup [p.1,p.2],none,Z2):=by
  have:(xs.map (·.1)).length=(xs.map (·.2)).length:=by rw[List.length_map,List.length_map]
  have e:IQ (xs.map (·.1)) (xs.map (·.2))=xs.map fun p=>D.tup [p.1,p.2]:=by
   unfold IQ;rw[List.zipWith_map,List.zipWith_self]
  simp only[J6,Ac,Ai,e1,e2,Option.bind_some,Option.map_some,peeks,peek,tpU,this,if_true,e]
 have hL:100000<=LIM:=by decide
 have key:∀ys:List (D×D),(∀p∈ys,p∈xs)->Ee 2 BA e (ys.map fun p=>D.tup [p.1,p.2]) Z2=some (ys.map fun p=>g p.1 p.2,Z2):=by
  intro ys;induction ys with
  | nil=>intro _; rfl
  | cons p ys ih =>
   intro hj;obtain⟨r,Z3,e3,v,e4,rfl,rfl⟩:=hs p (hj p List.mem_cons_self);have ih:=ih fun k hk=>hj k (List.mem_cons_of_mem _ hk);have ep:LI 2 (D.tup [p.1,p.2])=some [p.1,p.2]:=rfl;simp only[List.map_cons,Ee,ep,Option.bind_some,BA,if_true,List.map_nil,List.cons_append,List.nil_append,e3,e4,List.length_cons,List.length_nil,List.drop_succ_cons,List.drop_zero,ih,Option.map_some]
 have hk:=key xs fun p hp=>hp;refine⟨_,_,?_,q⟩;have hlen:(List.map (fun p:D×D=>D.tup [p.1,p.2]) xs).length<=LIM:=by rw[List.length_map]; lia
 simp only[AG,hz,Option.bind_some,lock,hlen,if_true,hk,Option.map_some,unlock]
theorem Rq{ds:List D}{j:Nat}{d:D}(h:(IK ds)[j]? = some d):∃e,ds[j]? = some e/\d=.tup [.int (j:Int),e]:=by
 simp only[IK,List.getElem?_map,map_eq_some_iff] at h;obtain⟨k,h1,rfl⟩:=h;obtain⟨h2,h3⟩:=List.getElem?_eq_some_iff.mp h1;simp at h2 h3;subst h3;exact⟨ds[j],List.getElem?_eq_getElem h2,by simp[List.getD,List.getElem?_eq_getElem h2]⟩
theorem WY(n:Nat)(f:Nat->D)(k:Nat)(d:D):(((List.range n).map f).map A.fz).set k (.fz d)=((List.range n).map fun q=>if q=k then d else f q).map A.fz:=by
 rw[<- List.map_set];congr 1;refine List.ext_getElem? fun q=>?_;rw[List.getElem?_set];by_cases hk:k=q
 .subst hk
  rw[if_pos rfl];by_cases hq:k<n
  .simp[hq]
  .simp[hq]
 .rw[if_neg hk]
  have:¬q=k:=fun z=>hk z.symm;by_cases hq:q<n
  .simp[hq,this]
  .simp[hq]
theorem Mv{Z:Ro}{i:Nat}{ds:List D}(h : Z[i]? = some (some (.own,.lst (ds.map A.fz)))):keep Z (.ref i)=some (.fz (.lst ds),Z.set i (some (.own,.fz (.lst ds)))):=by
 show(share Z (.ref i)).map _=_;rw[Ea h]; rfl
theorem CG{α:Type}{n:Nat}{f g:Nat -> α}(h:∀q,q<n->f q=g q):(List.range n).map f=(List.range n).map g:=List.map_congr_left fun q hq=>h q (List.mem_range.mp hq)
end
end J
end
section
namespace Nw
section
variable(ow:Nat->List Nat)
noncomputable def L:Nat->Nat->Nat
 | 0,_=>0
 | k+1,p=>if p∈ow (k+1) then k+1 else L k p
noncomputable def mx(l:List Nat):Nat:=l.foldr max 0
noncomputable def tab:Nat->Nat->Nat->Nat
 | 0=>fun _ _=>0
 | k+1=>fun d q=>if d=k+1 then (if q∈ow (k+1) then k+1 else mx ((ow (k+1)).map fun p=>tab k (L ow k p) q)) else tab k d q
noncomputable def W(d q:Nat):Nat:=tab ow d d q
noncomputable def Bel(d e:Nat):Prop:=∀s,W ow d s<=W ow e s
theorem UM{l:List Nat}{x:Nat}(h:x∈l):x<=mx l:=by
 induction l with
 | nil=>cases h
 | cons y l ih =>
  have e:mx (y::l)=max y (mx l):=rfl;rw[e];rcases List.mem_cons.mp h with rfl|h
  .omega
  .have:=ih h; omega
theorem UO{l:List Nat}{b:Nat}(h:∀x∈l,x<=b):mx l<=b:=by
 induction l with
 | nil=>exact Nat.zero_le _
 | cons y l ih =>
  have e:mx (y::l)=max y (mx l):=rfl;rw[e];have:=h y List.mem_cons_self;have:=ih fun x hx=>h x (List.mem_cons_of_mem _ hx);omega
theorem VU{l:List Nat}(h:l≠[]):mx l∈l:=by
 induction l with
 | nil=>exact absurd rfl h
 | cons y l ih =>
  have e:mx (y::l)=max y (mx l):=rfl;rw[e];by_cases hl:l=[]
  .subst hl; simp[mx]
  .have:=ih hl
   rcases Nat.le_total y (mx l) with z|z
   .rw[Nat.max_eq_right z]; exact List.mem_cons_of_mem _ this
   .rw[Nat.max_eq_left z]; exact List.mem_cons_self
variable{ow}
theorem Hn(k p:Nat):L ow k p<=k:=by
 induction k with
 | zero=>exact Nat.le_refl _
 | succ k ih=>rw[L]; split<;>omega
theorem Ku(k p:Nat):L ow k p=0\/p∈ow (L ow k p):=by
 induction k with
 | zero=>exact .inl rfl
 | succ k ih =>
  rw[L]; split
  .rename_i h; exact .inr h
  .exact ih
theorem Qg{k p d:Nat}(h:p∈ow d)(h1:1<=d)(h2:d<=k):d<=L ow k p:=by
 induction k with
 | zero=>omega
 | succ k ih =>
  rw[L]; split
  .exact h2
  .rename_i hn
   by_cases e:d=k+1
   .subst e; exact absurd h hn
   .exact ih (by omega)
theorem Xo{k d:Nat}(h:d<=k)(q:Nat):tab ow k d q=W ow d q:=by
 induction k with
 | zero =>
  have h0:d=0:=by omega
  subst h0;rfl
 | succ k ih =>
  by_cases e:d=k+1
  .subst e; rfl
  .show(if d=k+1 then _ else tab ow k d q)=_
   rw[if_neg e]; exact ih (by omega)
theorem Qh(q:Nat):W ow 0 q=0:=rfl
theorem H0(k q:Nat):W ow (k+1) q=if q∈ow (k+1) then k+1 else mx ((ow (k+1)).map fun p=>W ow (L ow k p) q):=by
 show(if k+1=k+1 then (if q∈ow (k+1) then k+1 else mx ((ow (k+1)).map fun p=>tab ow k (L ow k p) q)) else tab ow k (k+1) q)=_;rw[if_pos rfl];congr 2;exact List.map_congr_left fun p _=>Xo (Hn k p) q
theorem Ec{d q:Nat}(h:q∈ow d)(h1:1<=d):W ow d q=d:=by
 obtain⟨k,rfl⟩:∃k,d=k+1:=⟨d-1,by omega⟩;rw[H0,if_pos h]
theorem Nj(d:Nat):∀q,W ow d q<=d:=by
 induction d using Nat.strongRecOn with
 | _ d ih =>
  intro q;cases d with
  | zero=>exact Nat.le_refl _
  | succ k =>
   rw[H0]; split
   .exact Nat.le_refl _
   .refine UO fun x hx=>?_
    obtain⟨p,_,rfl⟩:=List.mem_map.mp hx;have h1:=Hn (ow:=ow) k p;have:=ih (L ow k p) (by omega) q;omega
theorem Nl{k p:Nat}(h:p∈ow (k+1)):Bel ow (L ow k p) (k+1):=by
 intro q;rw[H0]; split
 .have:=Nj (ow:=ow) (L ow k p) q
  have:=Hn (ow:=ow) k p;omega
 .exact UM (List.mem_map.mpr ⟨p,h,rfl⟩)
theorem U9(ne:∀k,ow k≠[]){k q:Nat}(h:q∉ow (k+1)):∃p,p∈ow (k+1)/\W ow (k+1) q=W ow (L ow k p) q:=by
 rw[H0,if_neg h];have:=VU (l:=(ow (k+1)).map fun p=>W ow (L ow k p) q) (by simp[ne]);obtain⟨p,h1,h2⟩:=List.mem_map.mp this;exact⟨p,h1,h2.symm⟩
theorem Iy(ne:∀k,ow k≠[])(d:Nat):∀q,W ow d q=0\/q∈ow (W ow d q):=by
 induction d using Nat.strongRecOn with
 | _ d ih =>
  intro q;cases d with
  | zero=>exact .inl rfl
  | succ k =>
   by_cases h:q∈ow (k+1)
   .rw[Ec h (by omega)]; exact .inr h
   .obtain⟨p,_,e⟩:=U9 ne h
    rw[e];have:=Hn (ow:=ow) k p;exact ih _ (by omega) q
theorem GX(ne:∀k,ow k≠[])(d:Nat):∀q,Bel ow (W ow d q) d:=by
 induction d using Nat.strongRecOn with
 | _ d ih =>
  intro q;cases d with
  | zero=>exact fun s=>Nat.le_refl _
  | succ k =>
   by_cases h:q∈ow (k+1)
   .rw[Ec h (by omega)]; exact fun s=>Nat.le_refl _
   .obtain⟨p,hp,e⟩:=U9 ne h
    rw[e];have:=Hn (ow:=ow) k p;exact fun s=>Nat.le_trans (ih _ (by omega) q s) (Nl hp s)
theorem K6(ne:∀k,ow k≠[])(d q:Nat):W ow (W ow d q) q=W ow d q:=by
 rcases Iy ne d q with h|h
 .rw[h]; rfl
 .rcases Nat.eq_zero_or_pos (W ow d q) with z|z
  .rw[z]; rfl
  .exact Ec h z
theorem line{r d e:Nat}(h:r∈ow d)(g:r∈ow e)(h1:1<=d):d<=e->Bel ow d e:=by
 induction e using Nat.strongRecOn with
 | _ e ih =>
  intro hle;by_cases he:d=e
  .subst he; exact fun s=>Nat.le_refl _
  .obtain⟨k,rfl⟩:∃k,e=k+1:=⟨e-1,by omega⟩
   have h2:=Qg h h1 (show d<=k by omega);have h3:=Hn (ow:=ow) k r;have h4:r∈ow (L ow k r):=(Ku k r).resolve_left (by omega);exact fun s=>Nat.le_trans (ih (L ow k r) (by omega) h4 h2 s) (Nl g s)
theorem Qm(ne:∀k,ow k≠[]){d e r:Nat}(h1:1<=d)(h:r∈ow d)(hl:d<=W ow e r):Bel ow d e:=by
 have h4:r∈ow (W ow e r):=(Iy ne e r).resolve_left (by omega);exact fun s=>Nat.le_trans (line h h4 h1 hl s) (GX ne e r s)
theorem Fi{d e r:Nat}(h1:1<=d)(h:r∈ow d)(hb:Bel ow d e):d<=W ow e r:=by
 have:=hb r
 rwa [Ec h h1] at this
theorem Ql(ne:∀k,ow k≠[]){d e:Nat}(hb:Bel ow d e):d<=e:=by
 rcases Nat.eq_zero_or_pos d with z|z
 .omega
 .obtain⟨r,hr⟩:=List.exists_mem_of_ne_nil _ (ne d)
  exact Nat.le_trans (Fi z hr hb) (Nj _ _)
theorem Bel.trans{a b c:Nat}(h:Bel ow a b)(g:Bel ow b c):Bel ow a c:=fun s=>Nat.le_trans (h s) (g s)
theorem OY(ne:∀k,ow k≠[]){f:Nat}(h1:1<=f)(y:Nat):Bel ow f y->f≠y->∃s,s∈ow f/\f<W ow y s:=by
 induction y using Nat.strongRecOn with
 | _ y ih =>
  intro hb hne;obtain⟨r,hr⟩:=List.exists_mem_of_ne_nil _ (ne f);have h2:=Fi h1 hr hb;rcases Nat.lt_or_ge f (W ow y r) with z|z
  .exact⟨r,hr,z⟩
  .have e:W ow y r=f:=by omega
   have hy:=Nj (ow:=ow) y r;obtain⟨k,rfl⟩:∃k,y=k+1:=⟨y-1,by omega⟩;have hn:r∉ow (k+1):=fun q=>hne (by rw[<- e,Ec q (by omega)]);obtain⟨p,hp,e2⟩:=U9 ne hn;have hg:=Hn (ow:=ow) k p;have hbg:Bel ow f (L ow k p):=Qm ne h1 hr (by omega);by_cases hgf:f=L ow k p
   .have hpf:p∈ow f:=by rw[hgf]; exact(Ku k p).resolve_left (by omega)
    exact⟨p,hpf,by rw[Ec hp (by omega)]; omega⟩
   .obtain⟨s,hs,hl⟩:=ih (L ow k p) (by omega) hbg hgf
    exact⟨s,hs,Nat.lt_of_lt_of_le hl (Nl hp s)⟩
theorem VS{P:Nat->Prop}{b:Nat}(hb:∀f,P f->f<=b):∀d,P d->∃f,P f/\∀g,P g->g<=f:=by
 have key:∀n d,P d->b-d<=n->∃f,P f/\∀g,P g->g<=f:=by
  intro n;induction n with
  | zero=>intro d hd hn; exact⟨d,hd,fun g hg=>by have:=hb g hg; have:=hb d hd; omega⟩
  | succ n ih =>
   intro d hd hn;by_cases h:∃g,P g/\d<g
   .obtain⟨g,hg,hl⟩:=h
    exact ih g hg (by have:=hb g hg; omega)
   .exact⟨d,hd,fun g hg=>by
     rcases Nat.lt_or_ge d g with z|z
     .exact absurd ⟨g,hg,z⟩ h
     .exact z⟩
 exact fun d hd=>key (b-d) d hd (Nat.le_refl _)
theorem both(ne:∀k,ow k≠[]){d x y:Nat}(h1:1<=d)(hx:Bel ow d x)(hy:Bel ow d y):∃f,1<=f/\Bel ow d f/\Bel ow f x/\Bel ow f y/\(f=x\/f=y\/((∃s,s∈ow f/\f=W ow x s)/\∃s,s∈ow f/\f=W ow y s)):=by
 obtain⟨f,⟨p1,p2,p3⟩,pm⟩:=VS (P:=fun f=>Bel ow d f/\Bel ow f x/\Bel ow f y) (b:=x) (fun f h=>Ql ne h.2.1) d ⟨fun s=>Nat.le_refl _,hx,hy⟩;have hf:1<=f:=Nat.le_trans h1 (Ql ne p1);refine⟨f,hf,p1,p2,p3,?_⟩;by_cases ex:f=x
 .exact .inl ex
 by_cases ey:f=y
 .exact .inr (.inl ey)
 obtain⟨s1,hs1,l1⟩:=OY ne hf x p2 ex;obtain⟨s2,hs2,l2⟩:=OY ne hf y p3 ey;have key:∀s,s∈ow f->f<W ow x s->f<W ow y s->False:=by
  intro s hs q1 q2;have t1:s∈ow (W ow x s):=(Iy ne x s).resolve_left (by omega);have t2:s∈ow (W ow y s):=(Iy ne y s).resolve_left (by omega);rcases Nat.le_total (W ow x s) (W ow y s) with z|z
  .have:=pm (W ow x s) ⟨p1.trans (line hs t1 hf (by omega)),GX ne x s,(line t1 t2 (by omega) z).trans (GX ne y s)⟩
   omega
  .have:=pm (W ow y s) ⟨p1.trans (line hs t2 hf (by omega)),(line t2 t1 (by omega) z).trans (GX ne x s),GX ne y s⟩
   omega
 refine .inr (.inr ⟨⟨s2,hs2,?_⟩,⟨s1,hs1,?_⟩⟩)
 .have:=Fi hf hs2 p2
  rcases Nat.lt_or_ge f (W ow x s2) with z|z
  .exact(key s2 hs2 z l2).elim
  .omega
 .have:=Fi hf hs1 p3
  rcases Nat.lt_or_ge f (W ow y s1) with z|z
  .exact(key s1 hs1 l1 z).elim
  .omega
theorem Ni{k p d:Nat}(ne:∀k,ow k≠[])(h:d<=k):W ow d p<=L ow k p:=by
 rcases Iy ne d p with z|z
 .omega
 .rcases Nat.eq_zero_or_pos (W ow d p) with q|q
  .omega
  .exact Qg z q (Nat.le_trans (Nj _ _) h)
theorem Qc(ne:∀k,ow k≠[]){k p q d:Nat}(h1:1<=d)(hx:Bel ow d (L ow k p))(hy:Bel ow d (L ow k q)):∃f,1<=f/\Bel ow d f/\(∃s,s∈ow f/\f=W ow (L ow k p) s)/\∃s,s∈ow f/\f=W ow (L ow k q) s:=by
 obtain⟨f,hf,b1,b2,b3,h⟩:=both ne h1 hx hy;refine⟨f,hf,b1,?_⟩;rcases h with e|e|h
 .have hp:p∈ow f:=by rw[e]; exact(Ku k p).resolve_left (by omega)
  refine⟨⟨p,hp,?_⟩,⟨p,hp,?_⟩⟩
  .rw[<- e,Ec hp hf]
  .have q1:=Fi hf hp b3
   have q2:=Ni (p:=p) ne (Hn (ow:=ow) k q);omega
 .have hq:q∈ow f:=by rw[e]; exact(Ku k q).resolve_left (by omega)
  refine⟨⟨q,hq,?_⟩,⟨q,hq,?_⟩⟩
  .have q1:=Fi hf hq b2
   have q2:=Ni (p:=q) ne (Hn (ow:=ow) k p);omega
  .rw[<- e,Ec hq hf]
 .exact h
theorem M8(ne:∀k,ow k≠[]){k p q r d2:Nat}(h1:1<=W ow (W ow (L ow k p) q) r)(h2:W ow (W ow (L ow k p) q) r<d2)(h3:d2<=k)(ho:ow (W ow (W ow (L ow k p) q) r)=ow d2):
  ∃p' q' r' s',p'∈ow d2/\q'∈ow (W ow (L ow (d2-1) p') q')/\r'∈ow (W ow (W ow (L ow (d2-1) p') q') r')/\s'∈ow d2/\W ow (W ow (W ow (L ow (d2-1) p') q') r') s'=W ow (W ow (L ow k p) q) r:=by
 generalize hx:L ow k p=x at *;generalize he:W ow x q=e at *;generalize hd:W ow e r=d1 at *;have hr1:r∈ow d1:=by rw[<- hd]; exact(Iy ne e r).resolve_left (by omega)
 have hr2:r∈ow d2:=ho ▸ hr1;have e1:1<=e:=by
  rcases Nat.eq_zero_or_pos e with z|z
  .rw[z,Qh] at hd; omega
  .exact z
 have hq:q∈ow e:=by rw[<- he]; exact(Iy ne x q).resolve_left (by omega)
 have hbe:Bel ow d1 e:=hd ▸ GX ne e r;have hbx:Bel ow e x:=he ▸ GX ne x q;have hy1:d1<=L ow (d2-1) r:=Qg hr1 h1 (by omega);generalize hy:L ow (d2-1) r=y at *;have hyr:r∈ow y:=by rw[<- hy]; exact(Ku _ r).resolve_left (by omega)
 have hby:Bel ow d1 y:=line hr1 hyr h1 hy1;have hyk:y<=d2-1:=hy ▸ Hn _ _;by_cases hey:Bel ow e y
 .obtain⟨f,hf,b1,b2,b3,h⟩:=both ne e1 hbx hey
  have hWq:W ow f q=e:=by
   have q1:=Fi e1 hq b1;have q2:=b2 q;omega
  have fin:∀s,s∈ow f->f=W ow y s->∃p' q' r' s',p'∈ow d2/\q'∈ow (W ow (L ow (d2-1) p') q')/\r'∈ow (W ow (W ow (L ow (d2-1) p') q') r')/\s'∈ow d2/\W ow (W ow (W ow (L ow (d2-1) p') q') r') s'=d1:=fun s hs hfs =>
   ⟨r,s,q,r,hr2,by rw[hy,<- hfs]; exact hs,by rw[hy,<- hfs,hWq]; exact hq,hr2,by rw[hy,<- hfs,hWq,hd]⟩
  rcases h with z|z|⟨_,s,hs,hfs⟩
  .have hp:p∈ow f:=by rw[z,<- hx]; exact(Ku k p).resolve_left (by omega)
   refine fin p hp ?_;have q1:=Fi hf hp b3;have q2:=Ni (p:=p) ne (show y<=k by omega);omega
  .exact fin r (by rw[z]; exact hyr) (by rw[z,Ec hyr (by omega)])
  .exact fin s hs hfs
 .obtain⟨f,hf,b1,b2,b3,h⟩:=both ne h1 hbe hby
  have hWr:W ow f r=d1:=by
   have q1:=Fi h1 hr1 b1;have q2:=b2 r;omega
  have fin:∀s,s∈ow f->f=W ow y s->∃p' q' r' s',p'∈ow d2/\q'∈ow (W ow (L ow (d2-1) p') q')/\r'∈ow (W ow (W ow (L ow (d2-1) p') q') r')/\s'∈ow d2/\W ow (W ow (W ow (L ow (d2-1) p') q') r') s'=d1:=fun s hs hfs =>
   ⟨r,s,s,r,hr2,by rw[hy,<- hfs]; exact hs,by rw[hy,<- hfs,Ec hs hf]; exact hs,hr2,by rw[hy,<- hfs,Ec hs hf,hWr]⟩
  rcases h with z|z|⟨_,s,hs,hfs⟩
  .exact absurd (z ▸ b3) hey
  .exact fin r (by rw[z]; exact hyr) (by rw[z,Ec hyr (by omega)])
  .exact fin s hs hfs
end
section
variable{ow:Nat->List Nat}{nm:Nat->Nm}{n k:Nat}
noncomputable def Nws(ow:Nat->List Nat)(nm:Nat->Nm)(d:Nat):N3:=fun q r s=>nm (W ow (W ow (W ow d q) r) s)
noncomputable def Use(ow:Nat->List Nat)(k d:Nat):Prop:=∃p q r,d=W ow (W ow (L ow k p) q) r
noncomputable def Inj(ow:Nat->List Nat)(nm:Nat->Nm)(k:Nat):Prop:=∀d1 d2,Use ow k d1->Use ow k d2->nm d1=nm d2->d1=d2
theorem FT(ne:∀k,ow k≠[])(d h:Nat):fi (Nws ow nm d) h=nm (W ow d h):=by
 unfold fi Nws;rw[K6 ne,K6 ne]
theorem Rr(ne:∀k,ow k≠[])(d v h:Nat):Nws ow nm d v v h=nm (W ow (W ow d v) h):=by
 unfold Nws;rw[K6 ne]
theorem U4(ne:∀k,ow k≠[])(k p q:Nat):Use ow k (W ow (L ow k p) q):=⟨p,q,q,(K6 ne _ _).symm⟩
theorem Vf(ne:∀k,ow k≠[])(hb:∀k q,q∈ow k->q<n)(h0:nm 0=none)(h1:∀d,1<=d->nm d≠none)(inj:Inj ow nm k)(p p' h:Nat):
  cmp n (Nws ow nm (L ow k p)) (Nws ow nm (L ow k p')) h=if W ow (L ow k p) h=W ow (L ow k p') h then 0 else if W ow (L ow k p) h<W ow (L ow k p') h then -1 else 1:=by
 have hh:h=h:=rfl;unfold cmp;rw[FT ne,FT ne];generalize hx:L ow k p=x;generalize hy:L ow k p'=y;have ux:∀v,Use ow k (W ow x v):=fun v=>hx ▸ U4 ne k p v;have uy:∀v,Use ow k (W ow y v):=fun v=>hy ▸ U4 ne k p' v;have ux2:∀v w,Use ow k (W ow (W ow x v) w):=fun v w=>⟨p,v,w,by rw[hx]⟩;by_cases hab:W ow x h=W ow y h
 .rw[if_pos (by rw[hab]),if_pos hab]
 .rw[if_neg (fun e=>hab (inj _ _ (ux h) (uy h) e)),if_neg hab]
  by_cases ha:W ow x h=0
  .rw[if_pos (.inl (by rw[ha,h0])),if_pos (by omega)]
  .have key:knw n (Nws ow nm y) (Nws ow nm x) h=true↔W ow x h<W ow y h:=by
    unfold knw;rw[List.any_eq_true];constructor
    .rintro ⟨v,_,hv⟩
     rw[FT ne,FT ne,Rr ne,Bool.and_eq_true,decide_eq_true_eq,decide_eq_true_eq] at hv;obtain⟨hv1,hv2⟩:=hv;obtain⟨w,_,hw⟩:=List.mem_map.mp hv1;rw[FT ne] at hw;have e1:=inj _ _ (uy w) (ux v) hw;have e2:=inj _ _ (ux2 v h) (ux h) hv2;have:=GX ne y w h;rw[e1,e2] at this;omega
    .intro hl
     have hd:h∈ow (W ow x h):=(Iy ne x h).resolve_left ha;have b1:Bel ow (W ow x h) x:=GX ne x h;have b2:Bel ow (W ow x h) y:=Qm ne (by omega) hd (by omega);obtain⟨f,hf,bf,⟨s,hs,es⟩,⟨s',hs',es'⟩⟩:=Qc ne (k:=k) (p:=p) (q:=p') (d:=W ow x h) (by omega) (by rw[hx]; exact b1) (by rw[hy]; exact b2);rw[hx] at es;rw[hy] at es';refine⟨s,List.mem_range.mpr (hb _ _ hs),?_⟩;rw[FT ne,FT ne,Rr ne,Bool.and_eq_true,decide_eq_true_eq,decide_eq_true_eq];refine⟨List.mem_map.mpr ⟨s',List.mem_range.mpr (hb _ _ hs'),by rw[FT ne,<- es,<- es']⟩,?_⟩;have q1:=Fi (by omega) hd bf;have q2:=GX ne x s h;rw[<- es] at q2 |-;rw[show W ow f h=W ow x h by omega]
   have ea:¬nm (W ow x h)=none:=h1 _ (by omega);by_cases hl:W ow x h<W ow y h
   .rw[if_pos hl,if_pos (.inr (key.mpr hl))]
   .rw[if_neg hl,if_neg (fun z=>z.elim ea fun z=>hl (key.mp z))]
theorem Ta(ne:∀k,ow k≠[])(hb:∀k q,q∈ow k->q<n)(h0:nm 0=none)(h1:∀d,1<=d->nm d≠none)(inj:Inj ow nm k)(h:Nat):
  ∀(ps:List Nat) (p0:Nat),∃p,(p=p0\/p∈ps)/\DH n h (Nws ow nm (L ow k p0)) (ps.map fun p=>Nws ow nm (L ow k p))=Nws ow nm (L ow k p)/\W ow (L ow k p0) h<=W ow (L ow k p) h/\∀q∈ps,W ow (L ow k q) h<=W ow (L ow k p) h:=by
 intro ps;induction ps with
 | nil=>intro p0; exact⟨p0,.inl rfl,rfl,Nat.le_refl _,by simp⟩
 | cons q ps ih =>
  intro p0;have e:DH n h (Nws ow nm (L ow k p0)) ((q::ps).map fun p=>Nws ow nm (L ow k p))=DH n h (if 0<cmp n (Nws ow nm (L ow k q)) (Nws ow nm (L ow k p0)) h then Nws ow nm (L ow k q) else Nws ow nm (L ow k p0)) (ps.map fun p=>Nws ow nm (L ow k p)):=rfl;have ec:=Vf ne hb h0 h1 inj q p0 h;by_cases hc:W ow (L ow k p0) h<W ow (L ow k q) h
  .have:(0:Int)<cmp n (Nws ow nm (L ow k q)) (Nws ow nm (L ow k p0)) h:=by rw[ec,if_neg (by omega),if_neg (by omega)]; decide
   rw[if_pos this] at e;obtain⟨p,hp,ep,l1,l2⟩:=ih q;refine⟨p,.inr ?_,e.trans ep,by omega,fun r hr=>?_⟩
   .rcases hp with rfl|hp
    .exact List.mem_cons_self
    .exact List.mem_cons_of_mem _ hp
   .rcases List.mem_cons.mp hr with rfl|hr
    .exact l1
    .exact l2 r hr
  .have:¬(0:Int)<cmp n (Nws ow nm (L ow k q)) (Nws ow nm (L ow k p0)) h:=by
    rw[ec];split
    .decide
    .rw[if_pos (by omega)]; decide
   rw[if_neg this] at e;obtain⟨p,hp,ep,l1,l2⟩:=ih p0;refine⟨p,hp.imp id fun z=>List.mem_cons_of_mem _ z,e.trans ep,l1,fun r hr=>?_⟩;rcases List.mem_cons.mp hr with rfl|hr
   .omega
   .exact l2 r hr
theorem Im(ne:∀k,ow k≠[])(hb:∀k q,q∈ow k->q<n)(h0:nm 0=none)(h1:∀d,1<=d->nm d≠none)(inj:Inj ow nm k){h:Nat}(hh:h∉ow (k+1)){fs:List N3}(hf:fs=(ow (k+1)).map fun p=>Nws ow nm (L ow k p)):
  ∃p,DH n h (fs.headD fun _ _ _=>none) fs=Nws ow nm (L ow k p)/\W ow (L ow k p) h=W ow (k+1) h:=by
 rw[H0,if_neg hh];have hne:=ne (k+1);generalize ow (k+1)=os at hf hne;cases os with
 | nil=>exact absurd rfl hne
 | cons p0 ps =>
  obtain⟨p,hp,ep,l1,l2⟩:=Ta ne hb h0 h1 inj h (p0::ps) p0;subst hf;refine⟨p,ep,?_⟩;refine Nat.le_antisymm (UM (List.mem_map.mpr ⟨p,by rcases hp with rfl|hp; exact List.mem_cons_self; exact hp,rfl⟩)) (UO fun x hx=>?_);obtain⟨q,hq,rfl⟩:=List.mem_map.mp hx;exact l2 q hq
theorem O1(ne:∀k,ow k≠[])(hb:∀k q,q∈ow k->q<n)(h0:nm 0=none)(h1:∀d,1<=d->nm d≠none)(inj:Inj ow nm k){hs:List Int}(hhs:∀q:Nat,(q:Int)∈hs↔q∈ow (k+1)){fs:List N3}(hf:fs=(ow (k+1)).map fun p=>Nws ow nm (L ow k p)):
  told n hs (nm (k+1)) fs=Nws ow nm (k+1):=by
 funext i j s;unfold told;dsimp only;by_cases hi:(i:Int)∈hs
 .have wi:W ow (k+1) i=k+1:=Ec ((hhs i).mp hi) (by omega)
  rw[if_pos hi];by_cases hj:(j:Int)∈hs
  .have wj:W ow (k+1) j=k+1:=Ec ((hhs j).mp hj) (by omega)
   rw[if_pos hj];by_cases hk:(s:Int)∈hs
   .have wk:W ow (k+1) s=k+1:=Ec ((hhs s).mp hk) (by omega)
    rw[if_pos hk,Nws,wi,wj,wk]
   .obtain⟨p,e,ew⟩:=Im ne hb h0 h1 inj (fun z=>hk ((hhs s).mpr z)) hf
    rw[if_neg hk,e,FT ne,Nws,wi,wj,ew]
  .obtain⟨p,e,ew⟩:=Im ne hb h0 h1 inj (fun z=>hj ((hhs j).mpr z)) hf
   rw[if_neg hj,e,Rr ne,Nws,wi,ew]
 .obtain⟨p,e,ew⟩:=Im ne hb h0 h1 inj (fun z=>hi ((hhs i).mpr z)) hf
  rw[if_neg hi,e,Nws,Nws,ew]
end
section
variable(n:Nat)(hd:Nat->List Int)(l:List Nat)
noncomputable abbrev F0':Nat->N3:=fun _ _ _ _=>none
noncomputable def owL:Nat->List Nat
 | 0=>[0]
 | k+1=>match l[k]? with
  | some c=>(hd c).map Int.toNat
  | none=>[0]
noncomputable def nuL(d:Nat):Nat:=((rnN n hd F0' l).getD (d-1) (0,0)).2
noncomputable def ltL(d:Nat):Nat:=l.getD (d-1) 0
noncomputable def nmL(d:Nat):Nm:=if d=0 then none else some (ltL l d,nuL n hd l d)
structure Good:Prop where
 n0:0<n
 ne:∀c∈l,hd c≠[]
 bd:∀c∈l,∀x∈hd c,0<=x/\x<(n:Int)
variable{n hd l}
theorem F2{k c:Nat}(h:l[k]? = some c):owL hd l (k+1)=(hd c).map Int.toNat:=by
 show(match l[k]? with|some c=>(hd c).map Int.toNat|none=>[0])=_;rw[h]
theorem NX(g:Good n hd l)(k:Nat):owL hd l k≠[]:=by
 cases k with
 | zero=>simp[owL]
 | succ k =>
  cases e:l[k]? with
  | none=>simp[owL,e]
  | some c=>rw[F2 e]; simp; exact g.ne c (List.mem_of_getElem? e)
theorem JH(g:Good n hd l)(k q:Nat)(h:q∈owL hd l k):q<n:=by
 cases k with
 | zero=>simp[owL] at h; have:=g.n0; omega
 | succ k =>
  cases e:l[k]? with
  | none=>simp[owL,e] at h; have:=g.n0; omega
  | some c =>
   rw[F2 e] at h;obtain⟨x,hx,rfl⟩:=List.mem_map.mp h;have:=g.bd c (List.mem_of_getElem? e) x hx;omega
theorem DA(g:Good n hd l){k c:Nat}(h:l[k]? = some c)(q:Nat):(q:Int)∈hd c↔q∈owL hd l (k+1):=by
 rw[F2 h,List.mem_map];constructor
 .intro z; exact⟨_,z,by simp⟩
 .rintro ⟨x,hx,e⟩
  have:=g.bd c (List.mem_of_getElem? h) x hx;rw[show(q:Int)=x by omega];exact hx
theorem Hz{k c:Nat}{f:Nat->N3}{nm:Nat->Nm}(h:l[k]? = some c)(hf:∀p,f p=Nws (owL hd l) nm (L (owL hd l) k p)):EW hd f c=(owL hd l (k+1)).map fun p=>Nws (owL hd l) nm (L (owL hd l) k p):=by
 rw[F2 h,EW,List.map_map];exact List.map_congr_left fun x _=>hf _
theorem Yg{k c:Nat}(h:l[k]? = some c):(rnN n hd F0' l).getD k (0,0)=(c,NP n hd (EG n hd F0' (l.take k)) c):=by
 have hk:k<l.length:=(List.getElem?_eq_some_iff.mp h).1;have e:l=l.take k++c::l.drop (k+1):=by
  rw[<- (List.getElem?_eq_some_iff.mp h).2,<- List.drop_eq_getElem_cons hk,List.take_append_drop]
 have len:∀f (l:List Nat),(rnN n hd f l).length=l.length:=by
  intro f l;induction l generalizing f with
  | nil=>rfl
  | cons c l ih=>simp only[rnN,List.length_cons,ih]
 have e2:rnN n hd F0' l=rnN n hd F0' (l.take k)++rnN n hd (EG n hd F0' (l.take k)) (c::l.drop (k+1)):=by
  rw[<- TL,<- e]
 rw[e2,List.getD_eq_getElem?_getD,List.getElem?_append_right (by rw[len,List.length_take]; omega),len,List.length_take,Nat.min_eq_left (by omega),Nat.sub_self];rfl
theorem WN{k c:Nat}(h:l[k]? = some c)(f:Nat->N3):EG n hd f (l.take (k+1))=nxt n hd (EG n hd f (l.take k)) c:=by
 rw[List.take_succ,h,RS]; rfl
theorem UN{k c:Nat}(h:l[k]? = some c):ltL l (k+1)=c:=by
 simp[ltL,List.getD,h]
theorem NQ{k c:Nat}(h:l[k]? = some c):nuL n hd l (k+1)=NP n hd (EG n hd F0' (l.take k)) c:=by
 rw[nuL,Nat.add_sub_cancel,Yg h]
theorem KO{k c:Nat}(h:l[k]? = some c):nmL n hd l (k+1)=some (c,NP n hd (EG n hd F0' (l.take k)) c):=by
 rw[nmL,if_neg (by omega),UN h,NQ h]
theorem S7:nmL n hd l 0=none:=rfl
theorem S8(d:Nat)(h:1<=d):nmL n hd l d≠none:=by rw[nmL,if_neg (by omega)]; simp
theorem My{fs:List N3}{f:N3}{i j k:Nat}(h:f∈fs)(hi:i<n)(hj:j<n)(hk:k<n):f i j k∈used n fs:=by
 refine List.mem_flatMap.mpr ⟨f,h,List.mem_flatMap.mpr ⟨i,List.mem_range.mpr hi,List.mem_flatMap.mpr ⟨j,List.mem_range.mpr hj,List.mem_map.mpr ⟨k,List.mem_range.mpr hk,rfl⟩⟩⟩⟩
theorem Sj{fs:List N3}{x:Nm}(h:x∈used n fs):∃f,f∈fs/\∃i j k,i<n/\j<n/\k<n/\x=f i j k:=by
 obtain⟨f,hf,h⟩:=List.mem_flatMap.mp h;obtain⟨i,hi,h⟩:=List.mem_flatMap.mp h;obtain⟨j,hj,h⟩:=List.mem_flatMap.mp h;obtain⟨k,hk,h⟩:=List.mem_map.mp h;exact⟨f,hf,i,j,k,List.mem_range.mp hi,List.mem_range.mp hj,List.mem_range.mp hk,h.symm⟩
theorem QM(g:Good n hd l){k:Nat}(hk:k<=l.length)(ih:∀j,j<k->∀p,EG n hd F0' (l.take j) p=Nws (owL hd l) (nmL n hd l) (L (owL hd l) j p)):Inj (owL hd l) (nmL n hd l) k:=by
 have ne:=NX g;have key:∀d1 d2,Use (owL hd l) k d1->1<=d1->d1<d2->d2<=k->nmL n hd l d1≠nmL n hd l d2:=by
  intro d1 d2 hu h1 h2 h3 e;obtain⟨j2,rfl⟩:∃j,d2=j+1:=⟨d2-1,by omega⟩;obtain⟨j1,rfl⟩:∃j,d1=j+1:=⟨d1-1,by omega⟩;have c2:l[j2]? = some l[j2]:=List.getElem?_eq_getElem (by omega);have c1:l[j1]? = some l[j1]:=List.getElem?_eq_getElem (by omega);have e1:=KO (n:=n) (hd:=hd) c1;have e2:=KO (n:=n) (hd:=hd) c2;have el:l[j1]=l[j2]:=by
   rw[e1,e2] at e;exact(Prod.mk.inj (Option.some.inj e)).1
  have ho:owL hd l (j1+1)=owL hd l (j2+1):=by rw[F2 c1,F2 c2,el]
  obtain⟨p,q,r,hu⟩:=hu;rw[hu] at h1 h2 ho;obtain⟨p',q',r',s',m1,m2,m3,m4,hw⟩:=M8 ne h1 h2 h3 ho;rw[<- hu,Nat.add_sub_cancel] at hw;have hfs:=Hz c2 (ih j2 (by omega));have hmem:Nws (owL hd l) (nmL n hd l) (L (owL hd l) j2 p') q' r' s'∈used n (EW hd (EG n hd F0' (l.take j2)) l[j2]):=by
   refine My ?_ (JH g _ _ m2) (JH g _ _ m3) (JH g _ _ m4);rw[hfs];exact List.mem_map.mpr ⟨p',m1,rfl⟩
  have hx:Nws (owL hd l) (nmL n hd l) (L (owL hd l) j2 p') q' r' s'=nmL n hd l (j1+1):=by unfold Nws; rw[hw]
  rw[hx,e,e2] at hmem;exact(HK _ _).1.2 hmem
 have small:∀d,Use (owL hd l) k d->d<=k:=fun d ⟨p,q,r,e⟩=>by
  have:=Nj (ow:=owL hd l) (W (owL hd l) (L (owL hd l) k p) q) r;have:=Nj (ow:=owL hd l) (L (owL hd l) k p) q;have:=Hn (ow:=owL hd l) k p;omega
 intro d1 d2 u1 u2 e;rcases Nat.eq_zero_or_pos d1 with z|z
 .rcases Nat.eq_zero_or_pos d2 with y|y
  .omega
  .rw[z,S7] at e; exact absurd e.symm (S8 d2 y)
 .rcases Nat.eq_zero_or_pos d2 with y|y
  .rw[y,S7] at e; exact absurd e (S8 d1 z)
  .rcases Nat.lt_trichotomy d1 d2 with q|q|q
   .exact absurd e (key d1 d2 u1 z q (small d2 u2))
   .exact q
   .exact absurd e.symm (key d2 d1 u2 y q (small d1 u1))
theorem Lu(g:Good n hd l):∀k,k<=l.length->∀p,EG n hd F0' (l.take k) p=Nws (owL hd l) (nmL n hd l) (L (owL hd l) k p):=by
 intro k;induction k using Nat.strongRecOn with
 | _ k ih =>
  intro hk p;cases k with
  | zero=>rfl
  | succ k =>
   have ih':∀j,j<k+1->∀p,EG n hd F0' (l.take j) p=Nws (owL hd l) (nmL n hd l) (L (owL hd l) j p):=fun j hj=>ih j hj (by omega);have inj:=QM g (show k<=l.length by omega) fun j hj=>ih' j (by omega);have c:l[k]? = some l[k]:=List.getElem?_eq_getElem (by omega);have hfs:=Hz c (ih' k (by omega));rw[WN c];unfold nxt;have em:=KO (n:=n) (hd:=hd) c;have et:=O1 (NX g) (JH g) S7 S8 inj (DA g c) hfs;rw[em] at et;by_cases hp:(p:Int)∈hd l[k]
   .rw[if_pos hp,et]
    have hp':=(DA g c p).mp hp;rw[L,if_pos hp']
   .have hp':p∉owL hd l (k+1):=fun z=>hp ((DA g c p).mpr z)
    rw[if_neg hp,L,if_neg hp',ih' k (by omega) p]
theorem SQ(g:Good n hd l){k:Nat}(hk:k<=l.length):Inj (owL hd l) (nmL n hd l) k:=QM g hk fun j hj=>Lu g j (by omega)
end
end Nw
namespace Nw
section
variable{n:Nat}{hd:Nat->List Int}{l:List Nat}
theorem P8(g:Good n hd l){k c:Nat}(hc:l[k]? = some c)(j:Nat):some (c,j)∈used n (EW hd (EG n hd F0' (l.take k)) c)↔∃p,p∈owL hd l (k+1)/\∃q r s,q<n/\r<n/\s<n/\1<=W (owL hd l) (W (owL hd l) (W (owL hd l) (L (owL hd l) k p) q) r) s/\ltL l (W (owL hd l) (W (owL hd l) (W (owL hd l) (L (owL hd l) k p) q) r) s)=c/\nuL n hd l (W (owL hd l) (W (owL hd l) (W (owL hd l) (L (owL hd l) k p) q) r) s)=j:=by
 have hk:k<l.length:=(List.getElem?_eq_some_iff.mp hc).1;rw[Hz hc (Lu g k (by omega))];constructor
 .intro h
  obtain⟨f,hf,q,r,s,h1,h2,h3,e⟩:=Sj h;obtain⟨p,hp,rfl⟩:=List.mem_map.mp hf;refine⟨p,hp,q,r,s,h1,h2,h3,?_⟩;unfold Nws nmL at e;split at e
  .cases e
  .rename_i hz
   have e:=Option.some.inj e;exact⟨by omega,(congrArg Prod.fst e).symm,(congrArg Prod.snd e).symm⟩
 .rintro ⟨p,hp,q,r,s,h1,h2,h3,h4,h5,h6⟩
  have hm:=My (n:=n) (List.mem_map.mpr ⟨p,hp,rfl⟩:Nws (owL hd l) (nmL n hd l) (L (owL hd l) k p)∈(owL hd l (k+1)).map fun p=>Nws (owL hd l) (nmL n hd l) (L (owL hd l) k p)) h1 h2 h3;have e:Nws (owL hd l) (nmL n hd l) (L (owL hd l) k p) q r s=some (c,j):=by
   unfold Nws nmL;rw[if_neg (by omega),h5,h6]
  rwa [e] at hm
noncomputable def dd1(ow:Nat->List Nat)(n d q r:Nat):List Nat:=(List.range n).map fun s=>W ow (W ow (W ow d q) r) s
noncomputable def dd2(ow:Nat->List Nat)(n d q:Nat):List Nat:=(List.range n).flatMap fun r=>dd1 ow n d q r
noncomputable def dd3(ow:Nat->List Nat)(n d:Nat):List Nat:=(List.range n).flatMap fun q=>dd2 ow n d q
noncomputable def tk(n:Nat)(hd:Nat->List Int)(l:List Nat)(c:Nat)(ds:List Nat):List Int:=(ds.filter fun d=>decide (1<=d/\ltL l d=c)).map fun d=>(nuL n hd l d:Int)
theorem Xq(c:Nat)(a b:List Nat):tk n hd l c (a++b)=tk n hd l c a++tk n hd l c b:=by simp[tk]
theorem Xr(g:Good n hd l){k c:Nat}(hc:l[k]? = some c)(j:Nat):(j:Int)∈tk n hd l c ((hd c).flatMap fun x=>dd3 (owL hd l) n (L (owL hd l) k x.toNat))↔some (c,j)∈used n (EW hd (EG n hd F0' (l.take k)) c):=by
 rw[P8 g hc];simp only[tk,List.mem_map,List.mem_filter,List.mem_flatMap,dd3,dd2,dd1,List.mem_range,decide_eq_true_eq];constructor
 .rintro ⟨d,⟨⟨x,hx,q,h1,r,h2,s,h3,rfl⟩,h4,h5⟩,h6⟩
  refine⟨x.toNat,by rw[F2 hc]; exact List.mem_map.mpr ⟨x,hx,rfl⟩,q,r,s,h1,h2,h3,h4,h5,by omega⟩
 .rintro ⟨p,hp,q,r,s,h1,h2,h3,h4,h5,h6⟩
  rw[F2 hc] at hp;obtain⟨x,hx,rfl⟩:=List.mem_map.mp hp;exact⟨_,⟨⟨x,hx,q,h1,r,h2,s,h3,rfl⟩,h4,h5⟩,by rw[h6]⟩
theorem XZ{k c:Nat}(hc:l[k]? = some c):nuL n hd l (k+1)<=(hd c).length*(n*(n*n)):=by
 rw[NQ hc];have:=(HK (used n (EW hd (EG n hd F0' (l.take k)) c)) c).2;rw[Mw] at this;simpa[NP,EW] using this
end
end Nw
end
section
namespace Gk28
open PySem PySem.Spec PyProof.Rows L2 J
noncomputable def top(i:Nat):Stmt:=PySem.Challenge.pw_handsapart_k28_news_told.main.body.getD i (.Pass ⟨0,0,0,0⟩)
noncomputable def Cz:MS:=Ao (ifS (AF (opM eqA (m2L (opM ixA (m2L (Aa 0) (Ag (.int 1)))) (Ag (.int 0))))) (Ao (AH 2 (opM MC (m2L (opM ixA (m2L (Aa 0) (Ag (.int 0)))) (Aa 1)))) (Ao (F7 0 (Ag (.int 0)) (opM Mj (m2L (opM ixA (m2L (Aa 0) (Ag (.int 0)))) (Aa 1)))) (retS (Aa 2)))) AS) (Ao (F7 0 (Ag (.int 0)) (opM MC (m2L (opM Bv (m2L (opM Bv (m2L (opM Lq (m2L (opM ixA (m2L (Aa 0) (Ag (.int 0)))) (Ag (.int 48271)))) (opM Lq (m2L (opM Lq (m2L (Ag (.int 7919)) (opM ixA (m2L (Aa 0) (Ag (.int 1)))))) (opM ixA (m2L (Aa 0) (Ag (.int 1)))))))) (Ag (.int 17)))) (Ag (.int 2147483647))))) (Ao (F7 0 (Ag (.int 1)) (opM Bv (m2L (opM ixA (m2L (Aa 0) (Ag (.int 1)))) (Ag (.int 1))))) (retS (opM MC (m2L (opM Mj (m2L (opM MC (m2L (opM Lq (m2L (opM ixA (m2L (Aa 0) (Ag (.int 0)))) (Ag (.int 69621)))) (Ag (.int 2147483629)))) (Ag (.int 5)))) (Aa 1))))))
noncomputable def Ah:Fn:=fnM 2 3 Cz
noncomputable def Ef:MS:=Ao (AH 1 (opM Bv (m2L (Ag (.int 2)) (Am Ah (Ac (Aa 0) (Ac (Ag (.int 3)) Ai)))))) (Ao (AH 2 (opM Bv (m2L (Ag (.int 1)) (Am Ah (Ac (Aa 0) (Ac (Ag (.int 6)) Ai)))))) (Ao (AH 3 (Am Ah (Ac (Aa 0) (Ac (Ag (.int 2)) Ai)))) (Ao (AH 4 (lstM Ai)) (Ao (AH 5 (Ag (.int 0))) (Ao (Bw [6] true (A9 (Aa 2)) (Ao (AH 5 (opM Bv (m2L (Aa 5) (Am Ah (Ac (Aa 0) (Ac (opM EI (m2L (opM Bv (m2L (opM EI (m2L (Ag (.int 27)) (Aa 2))) (Aa 6))) (Aa 5))) Ai)))))) (Ao (AH 7 (opM Bv (m2L (Ag (.int 1)) (Am Ah (Ac (Aa 0) (Ac (opM EI (m2L (opM FC (m2L (Ag (.int 1)) (Aa 1))) (Ag (.int 1)))) Ai)))))) (Ao (ifS (AF (opM eqA (m2L (Aa 3) (Ag (.int 1))))) (AH 7 (opM Nr (m2L (opM FC (m2L (Ag (.int 1)) (Am Ah (Ac (Aa 0) (Ac (Aa 1) Ai))))) (opM FC (m2L (Ag (.int 1)) (Am Ah (Ac (Aa 0) (Ac (Aa 1) Ai)))))))) AS) (Ao (F6 4 (GJ (Ac (AK (opM ixA (m2L (Ag (.str (Str.ofString "abcdefghijklmnopqrstuvwxyz"))) (Aa 5)))) (Ac (AK (AG (A9 (Aa 1)) 0 (AF (opM eqA (m2L (opM Ht (m2L (opM IM (m2L (Aa 8) (Aa 0))) (Ag (.int 1)))) (Ag (.int 1))))) (Aa 0))) Ai)))) (AH 5 (opM Bv (m2L (Aa 5) (Ag (.int 1)))))))))) (retS (GJ (Ac (AK (Aa 1)) (Ac (AK (Aa 4)) Ai)))))))))
noncomputable def Du:Fn:=fnM 1 8 Ef
noncomputable def FO:MS:=Ao (AH 3 (Am Ah (Ac (Aa 0) (Ac (opM Bv (m2L (Aa 2) (Ag (.int 1)))) Ai)))) (Ao (ifS (AF (opM eqA (m2L (Am Ah (Ac (Aa 0) (Ac (Ag (.int 8)) Ai))) (Ag (.int 1))))) (AH 3 (Am Ah (Ac (Aa 0) (Ac (Ag (.int 41)) Ai)))) AS) (Ao (AH 4 (Ag (.str (Str.ofString "")))) (Ao (Bw [5] true (A9 (Aa 3)) (AH 4 (opM Bv (m2L (Aa 4) (opM ixA (m2L (opM ixA (m2L (opM ixA (m2L (Aa 1) (Ag (.int 1)))) (Am Ah (Ac (Aa 0) (Ac (opM CM (Ac (opM ixA (m2L (Aa 1) (Ag (.int 1)))) Ai)) Ai))))) (Ag (.int 0)))))))) (retS (Aa 4)))))
noncomputable def E1:Fn:=fnM 3 6 FO
noncomputable def Fm:MS:=Ao (AH 2 (opM Mg (Ac (opM ixA (m2L (Aa 0) (Ag (.int 1)))) Ai))) (retS (AG (N9 (Aa 1)) 0 BA (opM Pc (m2L (Aa 3) (Aa 0)))))
noncomputable def D4:Fn:=fnM 2 3 Fm
noncomputable def DL:MS:=Ao (AH 2 (lstM Ai)) (Ao (AH 3 (AG (A9 (Aa 0)) 0 BA (opM Lr (m1L (Ag (.int 1)))))) (Ao (Bw [4,5] false (GY (Aa 1)) (Ao (AH 6 (AG (A9 (Aa 0)) 0 BA (opM Lr (m1L (Ag (.int 1)))))) (Ao (Bw [7] true (Bi (Aa 5)) (ifS (AF (opM geA (m2L (opM ixA (m2L (Aa 3) (Aa 7))) (Ag (.int 0))))) (AH 6 (AG (Ng (AK (Aa 6)) (AK (opM ixA (m2L (Aa 2) (opM ixA (m2L (Aa 3) (Aa 7))))))) 2 BA (opM S5 (Ac (Aa 0) (Ac (Aa 1) Ai))))) AS)) (Ao (Bw [7] true (Bi (Aa 5)) (Ao (F7 6 (Aa 7) (Aa 4)) (F7 3 (Aa 7) (Aa 4)))) (F6 2 (Aa 6)))))) (retS (Aa 2))))
noncomputable def C1:Fn:=fnM 2 8 DL
noncomputable def Gk:MS:=Ao (ifS (AF (opM ltA (m2L (Aa 1) (Ag (.int 0))))) (retS (opM Lr (m1L (Ag (.int 1))))) AS) (retS (opM ixA (m2L (opM ixA (m2L (Aa 0) (Aa 1))) (Aa 2))))
noncomputable def Dn:Fn:=fnM 3 3 Gk
noncomputable def Ej:MS:=Ao (AH 3 (lstM Ai)) (Ao (Bw [4] true (A9 (Aa 0)) (Ao (AH 5 (lstM Ai)) (Ao (AH 6 (Am Dn (Ac (Aa 1) (Ac (Aa 2) (Ac (Aa 4) Ai))))) (Ao (Bw [7] true (A9 (Aa 0)) (Ao (AH 8 (Am Dn (Ac (Aa 1) (Ac (Aa 6) (Ac (Aa 7) Ai))))) (F6 5 (AK (AG (A9 (Aa 0)) 0 BA (Am Dn (Ac (Aa 2) (Ac (Aa 9) (Ac (Aa 0) Ai))))))))) (F6 3 (Aa 5)))))) (retS (Aa 3)))
noncomputable def Bd:Fn:=fnM 3 9 Ej
noncomputable def Eh:MS:=Ao (AH 4 (opM ixA (m2L (Aa 0) (Ag (.int 0))))) (Ao (AH 5 (AG (A9 (Aa 4)) 0 BA (opM Lr (m1L (Ag (.int 1)))))) (Ao (AH 6 (lstM Ai)) (Ao (Bw [7,8] false (IA (Aa 1)) (Ao (AH 9 (lstM Ai)) (Ao (Bw [10] true (Bi (opM ixA (m2L (Aa 2) (Aa 7)))) (Bw [11] true (Bi (Am Bd (Ac (Aa 4) (Ac (Aa 3) (Ac (opM ixA (m2L (Aa 5) (Aa 10))) Ai))))) (Bw [12] true (Bi (Aa 11)) (AH 9 (opM Bv (m2L (Aa 9) (AG (Bi (Aa 12)) 0 (IG (AF (opM geA (m2L (Aa 0) (Ag (.int 0))))) (AF (opM eqA (m2L (opM ixA (m2L (Aa 2) (Aa 0))) (Aa 9))))) (opM ixA (m2L (opM ixA (m2L (Aa 7) (Aa 0))) (Ag (.int 1))))))))))) (Ao (AH 13 (Ag (.int 0))) (Ao (J5 300 (AF (opM (inA false) (m2L (Aa 13) (Aa 9)))) (AH 13 (opM Bv (m2L (Aa 13) (Ag (.int 1)))))) (Ao (F6 6 (GJ (Ac (AK (Aa 8)) (Ac (AK (Aa 13)) Ai)))) (Bw [10] true (Bi (opM ixA (m2L (Aa 2) (Aa 7)))) (F7 5 (Aa 10) (Aa 7))))))))) (retS (Aa 6)))))
noncomputable def Dv:Fn:=fnM 4 14 Eh
noncomputable def Fj:MS:=Ao (AH 3 (AG (A9 (Aa 0)) 0 BA (opM Lr (m1L (Ag (.int 1)))))) (Ao (Bw [4] true (A9 (Aa 2)) (Bw [5] true (Bi (opM ixA (m2L (Aa 1) (Aa 4)))) (F7 3 (Aa 5) (Aa 4)))) (retS (Aa 3)))
noncomputable def C0:Fn:=fnM 3 6 Fj
noncomputable def CU:MS:=Ao (ifS (AF (opM geA (m2L (opM Qj (Ac (Aa 0) Ai)) (opM Tu (m2L (Ag (.int 10)) (Ag (.int 18))))))) (retS (lstM (Ac (AK (opM Qj (Ac (Aa 0) Ai))) (Ac (AK (Ag (.int 0))) Ai)))) AS) (retS (lstM (Ac (AK (opM MC (m2L (Aa 0) (Ag (.int 2147483647))))) (Ac (AK (Ag (.int 1))) Ai))))
noncomputable def DE:Fn:=fnM 1 1 CU
noncomputable def Ek:MS:=retS (andM (opM (B0 isInt) (m1L (Aa 0))) (notM (opM (B0 isBool) (m1L (Aa 0)))))
noncomputable def AY:Fn:=fnM 1 1 Ek
noncomputable def Dw:Fn:=fnM 2 2 Hj
noncomputable def Cc:MS:=Ao (ifS (AF (opM (B0 isTup) (m1L (Aa 1)))) (Ao (ifS (orT (Ds (AF (opM (B0 isTup) (m1L (Aa 0))))) (AF (opM neA (m2L (opM CM (Ac (Aa 0) Ai)) (opM CM (Ac (Aa 1) Ai)))))) (retS (Ag (.bl false))) AS) (retS (opM Gg (Ac (AG (J6 (Aa 0) (Aa 1)) 2 BA (Am Dw (Ac (Aa 0) (Ac (Aa 1) Ai)))) Ai)))) AS) (Ao (ifS (AF (opM (B0 isStr) (m1L (Aa 1)))) (retS (andM (opM (B0 isStr) (m1L (Aa 0))) (opM eqA (m2L (Aa 0) (Aa 1))))) AS) (Ao (ifS (AF (opM Ij (m2L (Aa 1) (Ag .non)))) (retS (opM Ij (m2L (Aa 0) (Ag .non)))) AS) (retS (andM (Am AY (Ac (Aa 0) Ai)) (opM eqA (m2L (Aa 0) (Aa 1)))))))
noncomputable def CC:Fn:=fnM 2 2 Cc
noncomputable def Cd:MS:=Ao (ifS (AF (opM (B0 isTup) (m1L (Aa 1)))) (Ao (ifS (orT (Ds (AF (opM (B0 isTup) (m1L (Aa 0))))) (AF (opM neA (m2L (opM CM (Ac (Aa 0) Ai)) (opM CM (Ac (Aa 1) Ai)))))) (retS (Ag (.bl false))) AS) (retS (opM Gg (Ac (AG (J6 (Aa 0) (Aa 1)) 2 BA (Am CC (Ac (Aa 0) (Ac (Aa 1) Ai)))) Ai)))) AS) (Ao (ifS (AF (opM (B0 isStr) (m1L (Aa 1)))) (retS (andM (opM (B0 isStr) (m1L (Aa 0))) (opM eqA (m2L (Aa 0) (Aa 1))))) AS) (Ao (ifS (AF (opM Ij (m2L (Aa 1) (Ag .non)))) (retS (opM Ij (m2L (Aa 0) (Ag .non)))) AS) (retS (andM (Am AY (Ac (Aa 0) Ai)) (opM eqA (m2L (Aa 0) (Aa 1)))))))
noncomputable def B3:Fn:=fnM 2 2 Cd
noncomputable def Ei:MS:=Ao (ifS (AF (opM (B0 isTup) (m1L (Aa 1)))) (Ao (ifS (orT (Ds (AF (opM (B0 isTup) (m1L (Aa 0))))) (AF (opM neA (m2L (opM CM (Ac (Aa 0) Ai)) (opM CM (Ac (Aa 1) Ai)))))) (retS (Ag (.bl false))) AS) (retS (opM Gg (Ac (AG (J6 (Aa 0) (Aa 1)) 2 BA (Am B3 (Ac (Aa 0) (Ac (Aa 1) Ai)))) Ai)))) AS) (Ao (ifS (AF (opM (B0 isStr) (m1L (Aa 1)))) (retS (andM (opM (B0 isStr) (m1L (Aa 0))) (opM eqA (m2L (Aa 0) (Aa 1))))) AS) (Ao (ifS (AF (opM Ij (m2L (Aa 1) (Ag .non)))) (retS (opM Ij (m2L (Aa 0) (Ag .non)))) AS) (retS (andM (Am AY (Ac (Aa 0) Ai)) (opM eqA (m2L (Aa 0) (Aa 1)))))))
noncomputable def CD:Fn:=fnM 2 2 Ei
noncomputable def Bq:MS:=Ao (ifS (AF (opM (B0 isTup) (m1L (Aa 1)))) (Ao (ifS (orT (Ds (AF (opM (B0 isTup) (m1L (Aa 0))))) (AF (opM neA (m2L (opM CM (Ac (Aa 0) Ai)) (opM CM (Ac (Aa 1) Ai)))))) (retS (Ag (.bl false))) AS) (retS (opM Gg (Ac (AG (J6 (Aa 0) (Aa 1)) 2 BA (Am CD (Ac (Aa 0) (Ac (Aa 1) Ai)))) Ai)))) AS) (Ao (ifS (AF (opM (B0 isStr) (m1L (Aa 1)))) (retS (andM (opM (B0 isStr) (m1L (Aa 0))) (opM eqA (m2L (Aa 0) (Aa 1))))) AS) (Ao (ifS (AF (opM Ij (m2L (Aa 1) (Ag .non)))) (retS (opM Ij (m2L (Aa 0) (Ag .non)))) AS) (retS (andM (Am AY (Ac (Aa 0) Ai)) (opM eqA (m2L (Aa 0) (Aa 1)))))))
noncomputable def BG:Fn:=fnM 2 2 Bq
noncomputable def Cy:MS:=Ao (ifS (AF (opM (B0 isTup) (m1L (Aa 1)))) (Ao (ifS (orT (Ds (AF (opM (B0 isTup) (m1L (Aa 0))))) (AF (opM neA (m2L (opM CM (Ac (Aa 0) Ai)) (opM CM (Ac (Aa 1) Ai)))))) (retS (Ag (.bl false))) AS) (retS (opM Gg (Ac (AG (J6 (Aa 0) (Aa 1)) 2 BA (Am BG (Ac (Aa 0) (Ac (Aa 1) Ai)))) Ai)))) AS) (Ao (ifS (AF (opM (B0 isStr) (m1L (Aa 1)))) (retS (andM (opM (B0 isStr) (m1L (Aa 0))) (opM eqA (m2L (Aa 0) (Aa 1))))) AS) (Ao (ifS (AF (opM Ij (m2L (Aa 1) (Ag .non)))) (retS (opM Ij (m2L (Aa 0) (Ag .non)))) AS) (retS (andM (Am AY (Ac (Aa 0) Ai)) (opM eqA (m2L (Aa 0) (Aa 1)))))))
noncomputable def Bn:Fn:=fnM 2 2 Cy
noncomputable def Iz:MS:=retS (andM (opM (B0 isTup) (m1L (Aa 0))) (opM eqA (m2L (opM CM (Ac (Aa 0) Ai)) (Ag (.int 2)))))
noncomputable def CK:Fn:=fnM 1 1 Iz
noncomputable def Hw:MS:=retS (andM (opM (B0 isInt) (m1L (Aa 0))) (notM (opM (B0 isBool) (m1L (Aa 0)))))
noncomputable def Ci:Fn:=fnM 1 1 Hw
noncomputable def Dj:MS:=retS (andM (Am Ci (Ac (Aa 0) Ai)) (J7 leA leA (Ag (.int 2)) (Aa 0) (Ag (.int 4))))
noncomputable def Bg:Fn:=fnM 1 1 Dj
noncomputable def DY:MS:=retS (andM (Am Ci (Ac (Aa 0) Ai)) (J7 leA ltA (Ag (.int 0)) (Aa 0) (Aa 1)))
noncomputable def Ba:Fn:=fnM 2 2 DY
noncomputable def B5:MS:=retS (opM Gg (Ac (AG (Bi (Aa 0)) 0 BA (Am Ba (Ac (Aa 0) (Ac (Aa 2) Ai)))) Ai))
noncomputable def BE:Fn:=fnM 2 2 B5
noncomputable def BZ:MS:=retS (andM (opM (B0 IE) (m1L (Aa 0))) (Am BE (Ac (Aa 0) (Ac (Aa 1) Ai))))
noncomputable def AU:Fn:=fnM 2 2 BZ
noncomputable def CA:MS:=Ao (ifS (Ds (AF (Am AU (Ac (Aa 0) (Ac (Aa 1) Ai))))) (retS (Ag (.bl false))) AS) (retS (opM Gg (Ac (AG (A9 (opM EI (m2L (opM CM (Ac (Aa 0) Ai)) (Ag (.int 1))))) 0 BA (opM ltA (m2L (opM ixA (m2L (Aa 1) (Aa 0))) (opM ixA (m2L (Aa 1) (opM Bv (m2L (Aa 0) (Ag (.int 1))))))))) Ai)))
noncomputable def A4:Fn:=fnM 2 2 CA
noncomputable def DZ:MS:=retS (andM (opM (B0 isStr) (m1L (Aa 0))) (andM (opM eqA (m2L (opM CM (Ac (Aa 0) Ai)) (Ag (.int 1)))) (J7 leA leA (Ag (.str (Str.ofString "a"))) (Aa 0) (Ag (.str (Str.ofString "z"))))))
noncomputable def Br:Fn:=fnM 1 1 DZ
noncomputable def Hu:MS:=Ao (ifS (orT (Ds (AF (Am CK (Ac (Aa 1) Ai)))) (Ds (AF (Am Br (Ac (opM ixA (m2L (Aa 1) (Ag (.int 0)))) Ai))))) (retS (Ag (.bl false))) AS) (retS (andM (Am A4 (Ac (opM ixA (m2L (Aa 1) (Ag (.int 1)))) (Ac (Aa 0) Ai))) (opM gtA (m2L (opM CM (Ac (opM ixA (m2L (Aa 1) (Ag (.int 1)))) Ai)) (Ag (.int 0))))))
noncomputable def CO:Fn:=fnM 2 2 Hu
noncomputable def DM:MS:=Ao (ifS (orT (Ds (AF (opM (B0 IE) (m1L (Aa 1))))) (Ds (AF (J7 leA leA (Ag (.int 1)) (opM CM (Ac (Aa 1) Ai)) (Ag (.int 6)))))) (retS (Ag (.bl false))) AS) (Ao (ifS (Ds (AF (opM Gg (Ac (AG (Bi (Aa 1)) 0 BA (Am CO (Ac (Aa 1) (Ac (Aa 0) Ai)))) Ai)))) (retS (Ag (.bl false))) AS) (retS (opM Gg (Ac (AG (A9 (opM EI (m2L (opM CM (Ac (Aa 1) Ai)) (Ag (.int 1))))) 0 BA (opM ltA (m2L (opM ixA (m2L (opM ixA (m2L (Aa 2) (Aa 0))) (Ag (.int 0)))) (opM ixA (m2L (opM ixA (m2L (Aa 2) (opM Bv (m2L (Aa 0) (Ag (.int 1)))))) (Ag (.int 0))))))) Ai))))
noncomputable def C2:Fn:=fnM 2 2 DM
noncomputable def Hv:MS:=Ao (ifS (Ds (AF (Am CK (Ac (Aa 0) Ai)))) (retS (Ag (.bl false))) AS) (retS (andM (Am Bg (Ac (opM ixA (m2L (Aa 0) (Ag (.int 0)))) Ai)) (Am C2 (Ac (opM ixA (m2L (Aa 0) (Ag (.int 0)))) (Ac (opM ixA (m2L (Aa 0) (Ag (.int 1)))) Ai)))))
noncomputable def DF:Fn:=fnM 1 1 Hv
noncomputable def Gm:MS:=ifS (Ds (AF (Am DF (Ac (Aa 0) Ai)))) (Hj) AS
noncomputable def BI:Fn:=fnM 1 1 Gm
noncomputable def Gn:MS:=Ao (J9 (Am BI (Ac (Aa 0) Ai))) (Ao (AH 1 (opM GI (Ac (opM Mx (m2L (lstM (Ac (AK (Ag .non)) Ai)) (opM ixA (m2L (Aa 0) (Ag (.int 0)))))) Ai))) (Ao (AH 2 (opM GI (Ac (opM Mx (m2L (lstM (Ac (AK (Aa 1)) Ai)) (opM ixA (m2L (Aa 0) (Ag (.int 0)))))) Ai))) (retS (opM GI (Ac (opM Mx (m2L (lstM (Ac (AK (Aa 2)) Ai)) (opM ixA (m2L (Aa 0) (Ag (.int 0)))))) Ai)))))
noncomputable def Es:Fn:=fnM 1 3 Gn
noncomputable def Em:MS:=retS (LR KJ (Ag (.str (Str.ofString ""))) (m1L (AG (Bi (opM ixA (m2L (Aa 0) (Ag (.int 1))))) 0 BA (opM ixA (m2L (Aa 0) (Ag (.int 0)))))))
noncomputable def BH:Fn:=fnM 1 1 Em
noncomputable def Fo:MS:=retS (andM (opM (B0 isStr) (m1L (Aa 1))) (andM (opM eqA (m2L (opM CM (Ac (Aa 1) Ai)) (Ag (.int 1)))) (opM (inA false) (m2L (Aa 1) (Am BH (Ac (Aa 0) Ai))))))
noncomputable def C4:Fn:=fnM 2 2 Fo
noncomputable def DO:MS:=ifS (Ds (AF (Am C4 (Ac (Aa 0) (Ac (Aa 1) Ai))))) (Hj) AS
noncomputable def C5:Fn:=fnM 2 2 DO
noncomputable def FQ:MS:=retS (opM ixA (m2L (opM ixA (m2L (opM ixA (m2L (Aa 0) (Ag (.int 1)))) (LR Jk (Am BH (Ac (Aa 0) Ai)) (m1L (Aa 1))))) (Ag (.int 1))))
noncomputable def E3:Fn:=fnM 2 2 FQ
noncomputable def DR:MS:=Ao (AH 2 UH) (Ao (Bw [3] true (Bi (Aa 1)) (Bw [4] true (Bi (Aa 3)) (Bw [5] true (Bi (Aa 4)) (Bw [6] true (Bi (Aa 5)) (HB 2 (Aa 6) (Ag (.bl true))))))) (Ao (AH 7 (Ag (.int 0))) (Ao (J5 300 (AF (opM (Vp false) (m2L (GJ (Ac (AK (Aa 0)) (Ac (AK (Aa 7)) Ai))) (Aa 2)))) (Vd 7 (Ag (.int 1)))) (retS (GJ (Ac (AK (Aa 0)) (Ac (AK (Aa 7)) Ai)))))))
noncomputable def C6:Fn:=fnM 2 8 DR
noncomputable def El:MS:=retS (opM ixA (m2L (opM ixA (m2L (opM ixA (m2L (Aa 0) (Aa 1))) (Aa 1))) (Aa 1)))
noncomputable def AZ:Fn:=fnM 2 2 El
noncomputable def DQ:MS:=retS (opM ixA (m2L (opM ixA (m2L (Aa 0) (Aa 1))) (Aa 1)))
noncomputable def BN:Fn:=fnM 2 2 DQ
noncomputable def DN:MS:=Ao (AH 3 (Am AZ (Ac (Aa 1) (Ac (Aa 2) Ai)))) (Ao (AH 4 (AG (A9 (opM CM (Ac (Aa 0) Ai))) 0 BA (Am AZ (Ac (Aa 1) (Ac (Aa 0) Ai))))) (retS (opM O5 (Ac (AG (A9 (opM CM (Ac (Aa 1) Ai))) 0 BA (andM (opM (Q7 false) (m2L (Am AZ (Ac (Aa 2) (Ac (Aa 0) Ai))) (Aa 5))) (opM eqA (m2L (opM ixA (m2L (Am BN (Ac (Aa 2) (Ac (Aa 0) Ai))) (Aa 3))) (Aa 4))))) Ai))))
noncomputable def C3:Fn:=fnM 3 5 DN
noncomputable def FP:MS:=Ao (AH 3 (Am AZ (Ac (Aa 0) (Ac (Aa 2) Ai)))) (Ao (ifS (AF (opM eqA (m2L (Aa 3) (Am AZ (Ac (Aa 1) (Ac (Aa 2) Ai)))))) (retS (Ag (.int 0))) AS) (Ao (ifS (orT (AF (opM Ij (m2L (Aa 3) (Ag .non)))) (AF (Am C3 (Ac (Aa 1) (Ac (Aa 0) (Ac (Aa 2) Ai)))))) (retS (opM Lr (m1L (Ag (.int 1))))) AS) (retS (Ag (.int 1)))))
noncomputable def E2:Fn:=fnM 3 4 FP
noncomputable def Dm:MS:=Ao (AH 2 (opM ixA (m2L (Aa 0) (Ag (.int 0))))) (Ao (Bw [3] true (Bi (Aa 0)) (ifS (AF (opM gtA (m2L (Am E2 (Ac (Aa 3) (Ac (Aa 2) (Ac (Aa 1) Ai)))) (Ag (.int 0))))) (AH 2 (Aa 3)) AS)) (retS (Aa 2)))
noncomputable def CH:Fn:=fnM 2 4 Dm
noncomputable def DP:MS:=Ao (J9 (Am BI (Ac (Aa 0) Ai))) (Ao (J9 (Am C5 (Ac (Aa 0) (Ac (Aa 1) Ai)))) (Ao (AH 3 (Am E3 (Ac (Aa 0) (Ac (Aa 1) Ai)))) (Ao (AH 4 (Am C6 (Ac (Aa 1) (Ac (Aa 2) Ai)))) (Ao (AH 5 (AG (A9 (opM ixA (m2L (Aa 0) (Ag (.int 0))))) 0 BA (Am CH (Ac (Aa 3) (Ac (Aa 0) Ai))))) (Ao (AH 6 (opM GI (Ac (AG (GY (Aa 5)) 2 BA (Kb (AF (opM (inA false) (m2L (Aa 0) (Aa 5)))) (Aa 6) (Am AZ (Ac (Aa 1) (Ac (Aa 0) Ai))))) Ai))) (Ao (AH 7 (opM GI (Ac (AG (GY (Aa 5)) 2 BA (Kb (AF (opM (inA false) (m2L (Aa 0) (Aa 5)))) (Aa 8) (Am BN (Ac (Aa 1) (Ac (Aa 0) Ai))))) Ai))) (Ao (AH 8 (opM GI (Ac (AG (GY (Aa 5)) 2 BA (Kb (AF (opM (inA false) (m2L (Aa 0) (Aa 5)))) (Aa 9) (opM ixA (m2L (Aa 1) (Aa 0))))) Ai))) (retS (GJ (Ac (AK (Aa 4)) (Ac (AK (Aa 8)) Ai)))))))))))
noncomputable def Cj:Fn:=fnM 3 9 DP
noncomputable def Eg:MS:=Ao (AH 2 (lstM Ai)) (Ao (Bw [3] true (Bi (Aa 0)) (Ao (AH 4 (lstM Ai)) (Ao (Bw [5] true (Bi (Aa 3)) (F6 4 (opM GI (Ac (AG (Bi (Aa 5)) 0 BA (Kb (AF (opM geA (m2L (Aa 0) (Ag (.int 0))))) (opM ixA (m2L (Aa 2) (Aa 0))) (Ag .non))) Ai)))) (F6 2 (opM GI (Ac (Aa 4) Ai)))))) (retS (opM GI (Ac (Aa 2) Ai))))
noncomputable def CB:Fn:=fnM 2 6 Eg
noncomputable def Cw:MS:=Ao (ifS (AF (opM ltA (m2L (Aa 1) (opM CM (Ac (Aa 0) Ai))))) (retS (opM ixA (m2L (Aa 0) (Aa 1)))) AS) (retS (Ag (.int 0)))
noncomputable def CZ:Fn:=fnM 2 2 Cw
noncomputable def J8:MS:=retS (opM GI (Ac (AG (A9 (Aa 0)) 0 BA (opM GI (Ac (AG (A9 (Aa 1)) 0 BA (opM GI (Ac (opM Mx (m2L (lstM (Ac (AK (Ag .non)) Ai)) (Aa 2))) Ai))) Ai))) Ai))
noncomputable def D3:Fn:=fnM 1 1 J8
noncomputable def Lb:MS:=Ao (AH 1 (Am Du (Ac (Am DE (Ac (Am CZ (Ac (Aa 0) (Ac (Ag (.int 0)) Ai))) Ai)) Ai))) (Ao (AH 2 (Am E1 (Ac (Am DE (Ac (Am CZ (Ac (Aa 0) (Ac (Ag (.int 1)) Ai))) Ai)) (Ac (Aa 1) (Ac (Ag (.int 12)) Ai))))) (Ao (AH 3 (opM ixA (m2L (Aa 1) (Ag (.int 0))))) (Ao (Ao (AH 4 (Am D4 (Ac (Aa 1) (Ac (Aa 2) Ai)))) (Lf 4)) (Ao (Ao (AH 5 (Am C1 (Ac (Aa 3) (Ac (Aa 4) Ai)))) (Lf 5)) (Ao (Ao (AH 6 (Am Dv (Ac (Aa 1) (Ac (Aa 2) (Ac (Aa 4) (Ac (Aa 5) Ai)))))) (Lf 6)) (Ao (ifS (Ds (AF (Am Bn (Ac (Am Es (Ac (Aa 1) Ai)) (Ac (Am D3 (Ac (Aa 3) Ai)) Ai))))) (retS (Ag (.bl false))) AS) (Ao (AH 7 (AG (A9 (Aa 3)) 0 BA (Am Es (Ac (Aa 2) Ai)))) (Ao (Bw [8,9] false (IA (Aa 2)) (Ao (AH 10 (AG (Bi (opM ixA (m2L (Aa 4) (Aa 8)))) 0 BA (opM ixA (m2L (Aa 8) (Aa 0))))) (Ao (Nf [11,12] (Am Cj (Ac (Aa 1) (Ac (Aa 9) (Ac (Aa 10) Ai))))) (Ao (ifS (AF (opM neA (m2L (Aa 10) (AG (Bi (opM ixA (m2L (Aa 4) (Aa 8)))) 0 BA (opM ixA (m2L (Aa 8) (Aa 0))))))) (retS (Ag (.bl false))) AS) (Ao (O9 10) (Ao (AH 13 (Am CB (Ac (AK (Am Bd (Ac (Aa 3) (Ac (Aa 5) (Ac (Aa 8) Ai))))) (Ac (Aa 6) Ai)))) (Ao (ifS (orT (Ds (AF (Am Bn (Ac (Aa 11) (Ac (opM ixA (m2L (Aa 6) (Aa 8))) Ai))))) (Ds (AF (Am Bn (Ac (Aa 12) (Ac (Aa 13) Ai)))))) (retS (Ag (.bl false))) AS) (Bw [14] true (Bi (opM ixA (m2L (Aa 4) (Aa 8)))) (F7 7 (Aa 14) (Aa 12)))))))))) (Ao (Ao (AH 15 (Am C0 (Ac (Aa 3) (Ac (Aa 4) (Ac (opM CM (Ac (Aa 2) Ai)) Ai))))) (Lf 15)) (retS (opM eqA (m2L (Aa 7) (AG (Bi (Aa 15)) 0 BA (Am CB (Ac (AK (Am Bd (Ac (Aa 4) (Ac (Aa 6) (Ac (Aa 0) Ai))))) (Ac (Aa 7) Ai))))))))))))))))
noncomputable def Ih:Fn:=fnM 1 16 Lb
local macro_rules | `(tactic| walk_at $s:str)=>do
 let n:=s.getString
 if n.startsWith "v" && n.length < 4 && n != "vis" then `(tactic| exact VB $(Lean.quote (n.drop 1).toNat!) rfl (by walk_at "vis") dK dK) else Lean.Macro.throwUnsupported
local macro_rules | `(tactic| walk_at "vis")=>`(tactic| first | exact .inl rfl | exact .inr (.inl rfl) | exact .inr (.inr rfl))
local macro_rules | `(tactic| walk_at "loc")=>`(tactic| first | exact .inl rfl | exact .inr rfl)
structure Blt2 (mg:Str->Option Value):Prop where
 sorted:mg "sorted" = none
 set:mg "set" = none
 enumerate:mg "enumerate" = none
 zip:mg "zip" = none
 reversed:mg "reversed" = none
section
variable{P:Program}{w:World}{K:Frag}{mg:Str->Option Value}{base:Heap}
theorem LA{f:Addr}{fd:FuncData}(F:Fun K "_law_take" "_law_take" (top 37) f fd)(B:Blt mg K)(B2:Blt2 mg):
  FnOk P w K mg base CX0 1 f fd ["_law_bag_here","_law_many"] (spJ K Ah 2):=by
 refine A0 (N:=["_law_bag_here","_law_many","_law_digit"]) F ⟨rfl,rfl,rfl,dK,rfl,dK,dK⟩ fun cdv A outer s H E hr=>?_;have nd3:List.Nodup (["_law_bag_here","_law_many","_law_digit"]:List Str):=by decide +kernel
 refine Ad ?_ ?_;refine A6 ?_ ?_ ?_;refine A7 CF (BK hr) (AE _) ?_ ?_;refine AB AD Ar (fun _ _=>rfl) ?_ ?_;walk_at "v0";exact Aj;exact Aj;refine Ad ?_ ?_;refine Ay 2 nd3 rfl (by walk_at "loc") rfl rfl ?_;refine AI Js Jz ?_ ?_;refine AB AD Ar (fun _ _=>rfl) ?_ ?_;walk_at "v0";exact Aj;walk_at "v1";refine Ad ?_ ?_;refine Gx 0 rfl (by walk_at "vis") dK dK (fun _=>rfl) rfl rfl rfl ?_ ?_;exact Aj;refine AI OJ OL ?_ ?_;refine AB AD Ar (fun _ _=>rfl) ?_ ?_;walk_at "v0";exact Aj;walk_at "v1";refine Af ?_;refine An ?_;walk_at "v2";exact AA;refine Ad ?_ ?_;refine Gx 0 rfl (by walk_at "vis") dK dK (fun _=>rfl) rfl rfl rfl ?_ ?_;exact Aj;refine AI Js Jz ?_ ?_;refine AI CN BY ?_ ?_;refine AI CN BY ?_ ?_;refine AI LC LD ?_ ?_;refine AB AD Ar (fun _ _=>rfl) ?_ ?_;walk_at "v0";exact Aj;exact Aj;refine AI LC LD ?_ ?_;refine AI LC LD ?_ ?_;exact Aj;refine AB AD Ar (fun _ _=>rfl) ?_ ?_;walk_at "v0";exact Aj;refine AB AD Ar (fun _ _=>rfl) ?_ ?_;walk_at "v0";exact Aj;exact Aj;exact Aj;refine Ad ?_ ?_;refine Gx 0 rfl (by walk_at "vis") dK dK (fun _=>rfl) rfl rfl rfl ?_ ?_;exact Aj;refine AI CN BY ?_ ?_;refine AB AD Ar (fun _ _=>rfl) ?_ ?_;walk_at "v0";exact Aj;exact Aj;refine Af ?_;refine An ?_;refine AI Js Jz ?_ ?_;refine AI OJ OL ?_ ?_;refine AI Js Jz ?_ ?_;refine AI LC LD ?_ ?_;refine AB AD Ar (fun _ _=>rfl) ?_ ?_;walk_at "v0";exact Aj;exact Aj;exact Aj;exact Aj;walk_at "v1"
theorem Kc{f:Addr}{fd:FuncData}(F:Fun K "_law_house" "_law_house" (top 38) f fd)(B:Blt mg K)(B2:Blt2 mg)(AX:Def P w K mg base CX0 1 "_law_take" ["_law_bag_here","_law_many"] (spJ K Ah 2)):
  FnOk P w K mg base CX0 2 f fd ["_law_bag_here"] (spJ K Du 1):=by
 refine A0 (N:=["_law_bag_here","_law_hands","_law_many","_law_few","_law_letters","_law_at","_law_k","_law_bits"]) F ⟨rfl,rfl,rfl,dK,rfl,dK,dK⟩ fun cdv A outer s H E hr=>?_;have nd8:List.Nodup (["_law_bag_here","_law_hands","_law_many","_law_few","_law_letters","_law_at","_law_k","_law_bits"]:List Str):=by decide +kernel
 refine Ad ?_ ?_;refine Ay 1 nd8 rfl (by walk_at "loc") rfl rfl ?_;refine AI CN BY ?_ ?_;exact Aj;refine Al AX Ak rfl rfl rfl rfl rfl hr (by decide) Av dK rfl rfl rfl ?_;refine Ab rfl ?_ ?_;walk_at "v0";refine Ab rfl ?_ ?_;exact Aj;exact Ae;refine Ad ?_ ?_;refine Ay 2 nd8 rfl (by walk_at "loc") rfl rfl ?_;refine AI CN BY ?_ ?_;exact Aj;refine Al AX Ak rfl rfl rfl rfl rfl hr (by decide) Av dK rfl rfl rfl ?_;refine Ab rfl ?_ ?_;walk_at "v0";refine Ab rfl ?_ ?_;exact Aj;exact Ae;refine Ad ?_ ?_;refine Ay 3 nd8 rfl (by walk_at "loc") rfl rfl ?_;refine Al AX Ak rfl rfl rfl rfl rfl hr (by decide) Av dK rfl rfl rfl ?_;refine Ab rfl ?_ ?_;walk_at "v0";refine Ab rfl ?_ ?_;exact Aj;exact Ae;refine Ad ?_ ?_;refine Ay 4 nd8 rfl (by walk_at "loc") rfl rfl ?_;refine C9 ?_;exact Ae;refine Ad ?_ ?_;refine Ay 5 nd8 rfl (by walk_at "loc") rfl rfl ?_;exact Aj;refine Ad ?_ ?_;refine Bu PassesOwn.never rfl ?_ ?_ ?_ (fun _=>rfl);refine Bo rfl B.range rfl ?_;walk_at "v2";exact BS 6 nd8 rfl (by walk_at "loc") rfl;refine Ad ?_ ?_;refine Ay 5 nd8 rfl (by walk_at "loc") rfl rfl ?_;refine AI CN BY ?_ ?_;walk_at "v5";refine Al AX Ak rfl rfl rfl rfl rfl hr (by decide) Av dK rfl rfl rfl ?_;refine Ab rfl ?_ ?_;walk_at "v0";refine Ab rfl ?_ ?_;refine AI Jw JC ?_ ?_;refine AI CN BY ?_ ?_;refine AI Jw JC ?_ ?_;exact Aj;walk_at "v2";walk_at "v6";walk_at "v5";exact Ae;refine Ad ?_ ?_;refine Ay 7 nd8 rfl (by walk_at "loc") rfl rfl ?_;refine AI CN BY ?_ ?_;exact Aj;refine Al AX Ak rfl rfl rfl rfl rfl hr (by decide) Av dK rfl rfl rfl ?_
 refine Ab rfl ?_ ?_;walk_at "v0";refine Ab rfl ?_ ?_;refine AI Jw JC ?_ ?_;refine AI NU NW ?_ ?_;exact Aj;walk_at "v1";exact Aj;exact Ae;refine Ad ?_ ?_;refine A6 ?_ ?_ ?_;refine A7 CF (BK hr) (AE _) ?_ ?_;walk_at "v3";exact Aj;refine Af ?_;refine Ay 7 nd8 rfl (by walk_at "loc") rfl rfl ?_;refine AI VX X2 ?_ ?_;refine AI NU NW ?_ ?_;exact Aj;refine Al AX Ak rfl rfl rfl rfl rfl hr (by decide) Av dK rfl rfl rfl ?_;refine Ab rfl ?_ ?_;walk_at "v0";refine Ab rfl ?_ ?_;walk_at "v1";exact Ae;refine AI NU NW ?_ ?_;exact Aj;refine Al AX Ak rfl rfl rfl rfl rfl hr (by decide) Av dK rfl rfl rfl ?_;refine Ab rfl ?_ ?_;walk_at "v0";refine Ab rfl ?_ ?_;walk_at "v1";exact Ae;exact AA;refine Ad ?_ ?_;refine Ha 4 rfl (by walk_at "vis") dK dK rfl rfl rfl rfl ?_;refine GO ?_;refine Ab rfl ?_ ?_;refine AO ?_;refine AB AD Ar (fun _ _=>rfl) ?_ ?_;exact Jm dK;walk_at "v5";refine Ab rfl ?_ ?_;refine AO ?_;refine CL (by rfl) rfl nd8 (by rfl) (fun _=>rfl) ?_ ?_ ?_;refine Bo rfl B.range rfl ?_;walk_at "v1";refine OD fun _ _ _ _ _=>?_;refine A7 CF (BK hr) (AE _) ?_ ?_;refine AI Tc V7 ?_ ?_;refine AI V5 Wb ?_ ?_;walk_at "v8";walk_at "v0";exact Aj;exact Aj;intro _ _ _ _ _;walk_at "v0";exact Ae;refine Af ?_;refine Ay 5 nd8 rfl (by walk_at "loc") rfl rfl ?_;refine AI CN BY ?_ ?_;walk_at "v5";exact Aj;refine Af ?_;refine An ?_;refine GO ?_;refine Ab rfl ?_ ?_;refine AO ?_;walk_at "v1";refine Ab rfl ?_ ?_;refine AO ?_;walk_at "v4";exact Ae
theorem MJ{f:Addr}{fd:FuncData}(F:Fun K "_law_row" "_law_row" (top 39) f fd)(B:Blt mg K)(B2:Blt2 mg)(AX:Def P w K mg base CX0 1 "_law_take" ["_law_bag_here","_law_many"] (spJ K Ah 2)):
  FnOk P w K mg base CX0 2 f fd ["_law_bag_here","_law_house_here","_law_most"] (spJ K E1 3):=by
 refine A0 (N:=["_law_bag_here","_law_house_here","_law_most","_law_size","_law_row_here","_law_k"]) F ⟨rfl,rfl,rfl,dK,rfl,dK,dK⟩ fun cdv A outer s H E hr=>?_;have nd6:List.Nodup (["_law_bag_here","_law_house_here","_law_most","_law_size","_law_row_here","_law_k"]:List Str):=by decide +kernel
 refine Ad ?_ ?_;refine Ay 3 nd6 rfl (by walk_at "loc") rfl rfl ?_;refine Al AX Ak rfl rfl rfl rfl rfl hr (by decide) Av dK rfl rfl rfl ?_;refine Ab rfl ?_ ?_;walk_at "v0";refine Ab rfl ?_ ?_;refine AI CN BY ?_ ?_;walk_at "v2";exact Aj;exact Ae;refine Ad ?_ ?_;refine A6 ?_ ?_ ?_;refine A7 CF (BK hr) (AE _) ?_ ?_;refine Al AX Ak rfl rfl rfl rfl rfl hr (by decide) Av dK rfl rfl rfl ?_;refine Ab rfl ?_ ?_;walk_at "v0";refine Ab rfl ?_ ?_;exact Aj;exact Ae;exact Aj;refine Af ?_;refine Ay 3 nd6 rfl (by walk_at "loc") rfl rfl ?_;refine Al AX Ak rfl rfl rfl rfl rfl hr (by decide) Av dK rfl rfl rfl ?_;refine Ab rfl ?_ ?_;walk_at "v0";refine Ab rfl ?_ ?_;exact Aj;exact Ae;exact AA;refine Ad ?_ ?_;refine Ay 4 nd6 rfl (by walk_at "loc") rfl rfl ?_;exact Jm dK;refine Ad ?_ ?_;refine Bu PassesOwn.never rfl ?_ ?_ ?_ (fun _=>rfl);refine Bo rfl B.range rfl ?_;walk_at "v3";exact BS 5 nd6 rfl (by walk_at "loc") rfl;refine Af ?_;refine Ay 4 nd6 rfl (by walk_at "loc") rfl rfl ?_;refine AI CN BY ?_ ?_;walk_at "v4";refine AB AD Ar (fun _ _=>rfl) ?_ ?_;refine AB AD Ar (fun _ _=>rfl) ?_ ?_;refine AB AD Ar (fun _ _=>rfl) ?_ ?_;walk_at "v1";exact Aj;refine Al AX Ak rfl rfl rfl rfl rfl hr (by decide) Av dK rfl rfl rfl ?_;refine Ab rfl ?_ ?_;walk_at "v0";refine Ab rfl ?_ ?_;refine Ax By AM B.len Boot.«len» dK dK rfl rfl rfl ?_;refine Ab rfl ?_ ?_;refine AB AD Ar (fun _ _=>rfl) ?_ ?_;walk_at "v1";exact Aj;exact Ae;exact Ae;exact Aj;refine Af ?_;refine An ?_;walk_at "v4"
theorem Ly{f:Addr}{fd:FuncData}(F:Fun K "_law_owns" "_law_owns" (top 40) f fd)(B:Blt mg K)(B2:Blt2 mg):
  FnOk P w K mg base CX0 1 f fd ["_law_house_here","_law_row_here"] (spJ K D4 2):=by
 refine A0 (N:=["_law_house_here","_law_row_here","_law_by_letter"]) F ⟨rfl,rfl,rfl,dK,rfl,dK,dK⟩ fun cdv A outer s H E hr=>?_;have nd3:List.Nodup (["_law_house_here","_law_row_here","_law_by_letter"]:List Str):=by decide +kernel
 refine Ad ?_ ?_;refine Ay 2 nd3 rfl (by walk_at "loc") rfl rfl ?_;refine BQ Td (Nt rfl) B.dict Boot.«dict» dK dK rfl rfl rfl ?_;refine Ab rfl ?_ ?_;refine AB AD Ar (fun _ _=>rfl) ?_ ?_;walk_at "v0";exact Aj;exact Ae;refine Af ?_;refine An ?_;refine CL (by rfl) rfl nd3 (by rfl) (fun _=>rfl) ?_ ?_ ?_;refine VC ?_;walk_at "v1";exact AR;intro _ _ _ _ _;refine Vz hr (fun _ _=>rfl) ?_ ?_;walk_at "v3";walk_at "v0"
theorem Jo{f:Addr}{fd:FuncData}(F:Fun K "_law_newest" "_law_newest" (top 41) f fd)(B:Blt mg K)(B2:Blt2 mg):
  FnOk P w K mg base CX0 1 f fd ["_law_hands","_law_owns_here"] (spJ K C1 2):=by
 refine A0 (N:=["_law_hands","_law_owns_here","_law_newest_here","_law_last_here","_law_k","_law_owned","_law_line_of","_law_hand"]) F ⟨rfl,rfl,rfl,dK,rfl,dK,dK⟩ fun cdv A outer s H E hr=>?_;have nd8:List.Nodup (["_law_hands","_law_owns_here","_law_newest_here","_law_last_here","_law_k","_law_owned","_law_line_of","_law_hand"]:List Str):=by decide +kernel
 refine Ad ?_ ?_;refine Ay 2 nd8 rfl (by walk_at "loc") rfl rfl ?_;refine C9 ?_;exact Ae;refine Ad ?_ ?_;refine EB ["_law_hands","_law_owns_here","_law_newest_here","_law_last_here","_law_k","_law_owned","_law_line_of","?"] 3 nd8 rfl rfl rfl dK rfl rfl rfl (fun _=>rfl) rfl ?_ ?_ ?_;refine Bo rfl B.range rfl ?_;walk_at "v0";exact AR;intro _ _ _ _ _;refine KI Ip Iu ?_;exact Aj;refine Ad ?_ ?_;refine Bu PassesOwn.never rfl ?_ ?_ ?_ (fun _=>rfl);refine HG rfl B2.enumerate rfl ?_;walk_at "v1";refine IW rfl ?_ rfl rfl;refine DI 4 nd8 rfl (by walk_at "loc") rfl ?_ rfl;refine DI 5 nd8 rfl (by walk_at "loc") rfl ?_ rfl;exact IY;refine Ad ?_ ?_;refine EB ["_law_hands","_law_owns_here","_law_newest_here","_law_last_here","_law_k","_law_owned","_law_line_of","?"] 6 nd8 rfl rfl rfl dK rfl rfl rfl (fun _=>rfl) rfl ?_ ?_ ?_;refine Bo rfl B.range rfl ?_;walk_at "v0";exact AR;intro _ _ _ _ _;refine KI Ip Iu ?_;exact Aj;refine Ad ?_ ?_;refine Bu PassesOwn.never rfl ?_ ?_ ?_ (fun _=>rfl);refine Bt ?_;walk_at "v5";exact BS 7 nd8 rfl (by walk_at "loc") rfl;refine Af ?_;refine A6 ?_ ?_ ?_;refine A7 OK OM (AE _) ?_ ?_;refine AB AD Ar (fun _ _=>rfl) ?_ ?_;walk_at "v3";walk_at "v7";exact Aj;refine Af ?_;refine Pn 6 nd8 rfl rfl (by rfl) rfl dK (by rfl) (by rfl) (fun _=>rfl) (by kernel_rfl) ?_ ?_ ?_;refine S1 rfl B2.zip rfl rfl rfl ?_ ?_;refine AO ?_;walk_at "v6";refine AO ?_;refine AB AD Ar (fun _ _=>rfl) ?_ ?_;walk_at "v2";refine AB AD Ar (fun _ _=>rfl) ?_ ?_;walk_at "v3";walk_at "v7";exact AR;intro _ _ _ _ _
 refine Ax V3 (O7 rfl) B.max Boot.«max» dK dK rfl rfl rfl ?_;refine Ab rfl ?_ ?_;walk_at "v0";refine Ab rfl ?_ ?_;walk_at "v1";exact Ae;exact AA;refine Ad ?_ ?_;refine Bu PassesOwn.never rfl ?_ ?_ ?_ (fun _=>rfl);refine Bt ?_;walk_at "v5";exact BS 7 nd8 rfl (by walk_at "loc") rfl;refine Ad ?_ ?_;refine Gx 6 rfl (by walk_at "vis") dK dK (fun _=>rfl) rfl rfl rfl ?_ ?_;walk_at "v7";walk_at "v4";refine Af ?_;refine Gx 3 rfl (by walk_at "vis") dK dK (fun _=>rfl) rfl rfl rfl ?_ ?_;walk_at "v7";walk_at "v4";refine Af ?_;refine Ha 2 rfl (by walk_at "vis") dK dK rfl rfl rfl rfl ?_;walk_at "v6";refine Af ?_;refine An ?_;walk_at "v2"
theorem NR{f:Addr}{fd:FuncData}(F:Fun K "_law_of" "_law_of" (top 43) f fd)(B:Blt mg K)(B2:Blt2 mg):
  FnOk P w K mg base CX0 1 f fd ["_law_newest_here","_law_deed","_law_hand"] (spJ K Dn 3):=by
 refine A0 (N:=["_law_newest_here","_law_deed","_law_hand"]) F ⟨rfl,rfl,rfl,dK,rfl,dK,dK⟩ fun cdv A outer s H E hr=>?_;refine Ad ?_ ?_;refine A6 ?_ ?_ ?_;refine A7 MU HN (AE _) ?_ ?_;walk_at "v1";exact Aj;refine Af ?_;refine An ?_;refine KI Ip Iu ?_;exact Aj;exact AA;refine Af ?_;refine An ?_;refine AB AD Ar (fun _ _=>rfl) ?_ ?_;refine AB AD Ar (fun _ _=>rfl) ?_ ?_;walk_at "v0";walk_at "v1";walk_at "v2"
theorem Km{f:Addr}{fd:FuncData}(F:Fun K "_law_third" "_law_third" (top 44) f fd)(B:Blt mg K)(B2:Blt2 mg)(Ft:Def P w K mg base CX0 1 "_law_of" ["_law_newest_here","_law_deed","_law_hand"] (spJ K Dn 3)):
  FnOk P w K mg base CX0 2 f fd ["_law_hands","_law_newest_here","_law_last_here"] (spJ K Bd 3):=by
 refine A0 (N:=["_law_hands","_law_newest_here","_law_last_here","_law_found","_law_q","_law_rows","_law_one","_law_r","_law_two"]) F ⟨rfl,rfl,rfl,dK,rfl,dK,dK⟩ fun cdv A outer s H E hr=>?_;have nd9:List.Nodup (["_law_hands","_law_newest_here","_law_last_here","_law_found","_law_q","_law_rows","_law_one","_law_r","_law_two"]:List Str):=by decide +kernel
 refine Ad ?_ ?_;refine Ay 3 nd9 rfl (by walk_at "loc") rfl rfl ?_;refine C9 ?_;exact Ae;refine Ad ?_ ?_;refine Bu PassesOwn.never rfl ?_ ?_ ?_ (fun _=>rfl);refine Bo rfl B.range rfl ?_;walk_at "v0";exact BS 4 nd9 rfl (by walk_at "loc") rfl;refine Ad ?_ ?_;refine Ay 5 nd9 rfl (by walk_at "loc") rfl rfl ?_;refine C9 ?_;exact Ae;refine Ad ?_ ?_;refine Ay 6 nd9 rfl (by walk_at "loc") rfl rfl ?_;refine Al Ft Ak rfl rfl rfl rfl rfl hr (by decide) Av dK rfl rfl rfl ?_;refine Ab rfl ?_ ?_;walk_at "v1";refine Ab rfl ?_ ?_;walk_at "v2";refine Ab rfl ?_ ?_;walk_at "v4";exact Ae;refine Ad ?_ ?_;refine Bu PassesOwn.never rfl ?_ ?_ ?_ (fun _=>rfl);refine Bo rfl B.range rfl ?_;walk_at "v0";exact BS 7 nd9 rfl (by walk_at "loc") rfl;refine Ad ?_ ?_;refine Ay 8 nd9 rfl (by walk_at "loc") rfl rfl ?_;refine Al Ft Ak rfl rfl rfl rfl rfl hr (by decide) Av dK rfl rfl rfl ?_;refine Ab rfl ?_ ?_;walk_at "v1";refine Ab rfl ?_ ?_;walk_at "v6";refine Ab rfl ?_ ?_;walk_at "v7";exact Ae;refine Af ?_;refine Ha 5 rfl (by walk_at "vis") dK dK rfl rfl rfl rfl ?_;refine AO ?_;refine CL (by rfl) rfl nd9 (by rfl) (fun _=>rfl) ?_ ?_ ?_;refine Bo rfl B.range rfl ?_;walk_at "v0";exact AR;intro _ _ _ _ _;refine Al Ft Ak rfl rfl rfl rfl rfl hr (by decide) Av dK rfl rfl rfl ?_;refine Ab rfl ?_ ?_;walk_at "v2";refine Ab rfl ?_ ?_;walk_at "v9";refine Ab rfl ?_ ?_;walk_at "v0";exact Ae;refine Af ?_;refine Ha 3 rfl (by walk_at "vis") dK dK rfl rfl rfl rfl ?_;walk_at "v5";refine Af ?_;refine An ?_;walk_at "v3"
theorem Ke{f:Addr}{fd:FuncData}(F:Fun K "_law_names" "_law_names" (top 45) f fd)(B:Blt mg K)(B2:Blt2 mg)(BW:Def P w K mg base CX0 2 "_law_third" ["_law_hands","_law_newest_here","_law_last_here"] (spJ K Bd 3)):
  FnOk P w K mg base CX0 3 f fd ["_law_house_here","_law_row_here","_law_owns_here","_law_newest_here"] (spJ K Dv 4):=by
 refine A0 (N:=["_law_house_here","_law_row_here","_law_owns_here","_law_newest_here","_law_hands","_law_last_here","_law_names_here","_law_k","_law_letter","_law_taken","_law_hand","_law_rows","_law_line","_law_number"]) F ⟨rfl,rfl,rfl,dK,rfl,dK,dK⟩ fun cdv A outer s H E hr=>?_;have nd14:List.Nodup (["_law_house_here","_law_row_here","_law_owns_here","_law_newest_here","_law_hands","_law_last_here","_law_names_here","_law_k","_law_letter","_law_taken","_law_hand","_law_rows","_law_line","_law_number"]:List Str):=by decide +kernel
 refine Ad ?_ ?_;refine Ay 4 nd14 rfl (by walk_at "loc") rfl rfl ?_;refine AB AD Ar (fun _ _=>rfl) ?_ ?_;walk_at "v0";exact Aj;refine Ad ?_ ?_;refine EB ["_law_house_here","_law_row_here","_law_owns_here","_law_newest_here","_law_hands","_law_last_here","_law_names_here","_law_k","_law_letter","_law_taken","?","_law_rows","_law_line","_law_number"] 5 nd14 rfl rfl rfl dK rfl rfl rfl (fun _=>rfl) rfl ?_ ?_ ?_;refine Bo rfl B.range rfl ?_;walk_at "v4";exact AR;intro _ _ _ _ _;refine KI Ip Iu ?_;exact Aj;refine Ad ?_ ?_;refine Ay 6 nd14 rfl (by walk_at "loc") rfl rfl ?_;refine C9 ?_;exact Ae;refine Ad ?_ ?_;refine Bu PassesOwn.never rfl ?_ ?_ ?_ (fun _=>rfl);refine OB rfl B2.enumerate rfl ?_;walk_at "v1";refine IW rfl ?_ rfl rfl;refine DI 7 nd14 rfl (by walk_at "loc") rfl ?_ rfl;refine DI 8 nd14 rfl (by walk_at "loc") rfl ?_ rfl;exact IY;refine Ad ?_ ?_;refine Ay 9 nd14 rfl (by walk_at "loc") rfl rfl ?_;refine C9 ?_;exact Ae;refine Ad ?_ ?_;refine Bu PassesOwn.never rfl ?_ ?_ ?_ (fun _=>rfl);refine Bt ?_;refine AB AD Ar (fun _ _=>rfl) ?_ ?_;walk_at "v2";walk_at "v7";exact BS 10 nd14 rfl (by walk_at "loc") rfl;refine Af ?_;refine Bu PassesOwn.never rfl ?_ ?_ ?_ (fun _=>rfl);refine Bt ?_;refine Al BW Ak rfl rfl rfl rfl rfl hr (by decide) Av dK rfl rfl rfl ?_;refine Ab rfl ?_ ?_;walk_at "v4";refine Ab rfl ?_ ?_;walk_at "v3";refine Ab rfl ?_ ?_;refine AB AD Ar (fun _ _=>rfl) ?_ ?_;walk_at "v5";walk_at "v10";exact Ae;exact BS 11 nd14 rfl (by walk_at "loc") rfl;refine Af ?_;refine Bu PassesOwn.never rfl ?_ ?_ ?_ (fun _=>rfl)
 refine Bt ?_;walk_at "v11";exact BS 12 nd14 rfl (by walk_at "loc") rfl;refine Af ?_;refine Ay 9 nd14 rfl (by walk_at "loc") rfl rfl ?_;refine AI CN BY ?_ ?_;walk_at "v9";refine CL (by rfl) rfl nd14 (by rfl) (fun _=>rfl) ?_ ?_ ?_;refine Bt ?_;walk_at "v12";refine OD fun _ _ _ _ _=>?_;refine Dx ?_;refine VI ?_ ?_;refine A7 OK OM (AE _) ?_ ?_;walk_at "v0";exact Aj;refine S3 ?_;refine A7 CF (BK hr) (AE _) ?_ ?_;refine AB AD Ar (fun _ _=>rfl) ?_ ?_;walk_at "v2";walk_at "v0";walk_at "v9";intro _ _ _ _ _;refine AB AD Ar (fun _ _=>rfl) ?_ ?_;refine AB AD Ar (fun _ _=>rfl) ?_ ?_;walk_at "v7";walk_at "v0";exact Aj;refine Ad ?_ ?_;refine Ay 13 nd14 rfl (by walk_at "loc") rfl rfl ?_;exact Aj;refine Ad ?_ ?_;refine Mu 300 PassesOwn.never ?_ ?_;refine A7 (MM false) Jy (by with_unfolding_all rfl) ?_ ?_;walk_at "v13";walk_at "v9";refine Af ?_;refine Ay 13 nd14 rfl (by walk_at "loc") rfl rfl ?_;refine AI CN BY ?_ ?_;walk_at "v13";exact Aj;refine Ad ?_ ?_;refine Ha 6 rfl (by walk_at "vis") dK dK rfl rfl rfl rfl ?_;refine GO ?_;refine Ab rfl ?_ ?_;refine AO ?_;walk_at "v8";refine Ab rfl ?_ ?_;refine AO ?_;walk_at "v13";exact Ae;refine Af ?_;refine Bu PassesOwn.never rfl ?_ ?_ ?_ (fun _=>rfl);refine Bt ?_;refine AB AD Ar (fun _ _=>rfl) ?_ ?_;walk_at "v2";walk_at "v7";exact BS 10 nd14 rfl (by walk_at "loc") rfl;refine Af ?_;refine Gx 5 rfl (by walk_at "vis") dK dK (fun _=>rfl) rfl rfl rfl ?_ ?_;walk_at "v10";walk_at "v7";refine Af ?_;refine An ?_;walk_at "v6"
theorem Lw{f:Addr}{fd:FuncData}(F:Fun K "_law_last" "_law_last" (top 42) f fd)(B:Blt mg K)(B2:Blt2 mg):
  FnOk P w K mg base CX0 1 f fd ["_law_hands","_law_owns_here","_law_many"] (spJ K C0 3):=by
 refine A0 (N:=["_law_hands","_law_owns_here","_law_many","_law_last_here","_law_k","_law_hand"]) F ⟨rfl,rfl,rfl,dK,rfl,dK,dK⟩ fun cdv A outer s H E hr=>?_;have nd6:List.Nodup (["_law_hands","_law_owns_here","_law_many","_law_last_here","_law_k","_law_hand"]:List Str):=by decide +kernel
 refine Ad ?_ ?_;refine EB ["_law_hands","_law_owns_here","_law_many","_law_last_here","_law_k","?"] 3 nd6 rfl rfl rfl dK rfl rfl rfl (fun _=>rfl) rfl ?_ ?_ ?_;refine Bo rfl B.range rfl ?_;walk_at "v0";exact AR;intro _ _ _ _ _;refine KI Ip Iu ?_;exact Aj;refine Ad ?_ ?_;refine Bu PassesOwn.never rfl ?_ ?_ ?_ (fun _=>rfl);refine Bo rfl B.range rfl ?_;walk_at "v2";exact BS 4 nd6 rfl (by walk_at "loc") rfl;refine Af ?_;refine Bu PassesOwn.never rfl ?_ ?_ ?_ (fun _=>rfl);refine Bt ?_;refine AB AD Ar (fun _ _=>rfl) ?_ ?_;walk_at "v1";walk_at "v4";exact BS 5 nd6 rfl (by walk_at "loc") rfl;refine Af ?_;refine Gx 3 rfl (by walk_at "vis") dK dK (fun _=>rfl) rfl rfl rfl ?_ ?_;walk_at "v5";walk_at "v4";refine Af ?_;refine An ?_;walk_at "v3"
theorem MH{f:Addr}{fd:FuncData}(F:Fun K "_law_bag" "_law_bag" (top 36) f fd)(B:Blt mg K)(B2:Blt2 mg):
  FnOk P w K mg base CX0 1 f fd ["_law_cell_here"] (spJ K DE 1):=by
 refine A0 (N:=["_law_cell_here"]) F ⟨rfl,rfl,rfl,dK,rfl,dK,dK⟩ fun cdv A outer s H E hr=>?_;refine Ad ?_ ?_;refine A6 ?_ ?_ ?_;refine A7 OK OM (AE _) ?_ ?_;refine Ax Rt L9 B.abs Boot.«abs» dK dK rfl rfl rfl ?_;refine Ab rfl ?_ ?_;walk_at "v0";exact Ae;refine AI V4 Wa ?_ ?_;exact Aj;exact Aj;refine Af ?_;refine An ?_;refine C9 ?_;refine Ab rfl ?_ ?_;refine AO ?_;refine Ax Rt L9 B.abs Boot.«abs» dK dK rfl rfl rfl ?_;refine Ab rfl ?_ ?_;walk_at "v0";exact Ae;refine Ab rfl ?_ ?_;refine AO ?_;exact Aj;exact Ae;exact AA;refine Af ?_;refine An ?_;refine C9 ?_;refine Ab rfl ?_ ?_;refine AO ?_;refine AI Js Jz ?_ ?_;walk_at "v0";exact Aj;refine Ab rfl ?_ ?_;refine AO ?_;exact Aj;exact Ae
theorem Kn{f:Addr}{fd:FuncData}(F:Fun K "_law_whole" "_law_whole" (top 47) f fd)(B:Blt mg K)(B2:Blt2 mg):
  FnOk P w K mg base CX0 1 f fd ["_law_thing"] (spJ K AY 1):=by
 refine A0 (N:=["_law_thing"]) F ⟨rfl,rfl,rfl,dK,rfl,dK,dK⟩ fun cdv A outer s H E hr=>?_;refine Af ?_;refine An ?_;refine Bs ?_ ?_;refine QW rfl rfl B rfl rfl ?_;walk_at "v0";refine BJ ?_;refine QZ ?_;refine QV rfl rfl B rfl rfl ?_;walk_at "v0"
theorem Kg{f:Addr}{fd:FuncData}:FnOk P w K mg base CX0 2 f fd ["_law_found","_law_due"] (spJ K Dw 2):=⟨fun vs H Q E y=>by
 obtain⟨_,_,_,h,_⟩:=y;exact h,fun A outer s H args us vs Q E _ _ _ _ y=>by
 obtain⟨_,_,_,_,_,a,as,e,_⟩:=y;unfold Dw fnM Hj at e;split at e<;>simp at e⟩
theorem Kh{f:Addr}{fd:FuncData}(F:Fun K "_law_same" "_law_same" (top 48) f fd)(B:Blt mg K)(B2:Blt2 mg)(AN:Def P w K mg base CX0 1 "_law_whole" ["_law_thing"] (spJ K AY 1))(FH:Def P w K mg base CX0 2 "_law_same" ["_law_found","_law_due"] (spJ K Dw 2)):
  FnOk P w K mg base CX0 3 f fd ["_law_found","_law_due"] (spJ K CC 2):=by
 refine A0 (N:=["_law_found","_law_due"]) F ⟨rfl,rfl,rfl,dK,rfl,dK,dK⟩ fun cdv A outer s H E hr=>?_;have nd2:List.Nodup (["_law_found","_law_due"]:List Str):=by decide +kernel
 refine Ad ?_ ?_;refine A6 ?_ ?_ ?_;refine Bb (fun _=>rfl) ?_;refine EA rfl rfl B rfl rfl ?_;walk_at "v1";refine Ad ?_ ?_;refine A6 ?_ ?_ ?_;refine Dx ?_;refine HJ ?_ ?_;refine Cm ?_;refine Bb (fun _=>rfl) ?_;refine EA rfl rfl B rfl rfl ?_;walk_at "v0";refine FW ?_;refine A7 KQ (Iq hr) (AE _) ?_ ?_;refine Ax By AM B.len Boot.«len» dK dK rfl rfl rfl ?_;refine Ab rfl ?_ ?_;walk_at "v0";exact Ae;refine Ax By AM B.len Boot.«len» dK dK rfl rfl rfl ?_;refine Ab rfl ?_ ?_;walk_at "v1";exact Ae;refine Af ?_;refine An ?_;exact E6;exact AA;refine Af ?_;refine An ?_;refine Ax FZ (CS rfl) B.all Boot.«all» dK dK rfl rfl rfl ?_;refine Ab rfl ?_ ?_;refine Gw (by rfl) rfl nd2 dK (by rfl) (by rfl) (fun _=>rfl) ?_ ?_ ?_;refine HH rfl B2.zip rfl rfl rfl ?_ ?_;walk_at "v0";walk_at "v1";exact AR;intro _ _ _ _ _;refine Al FH Ak rfl rfl rfl rfl rfl hr (by decide) Av dK rfl rfl rfl ?_;refine Ab rfl ?_ ?_;walk_at "v0";refine Ab rfl ?_ ?_;walk_at "v1";exact Ae;exact Ae;exact AA;refine Ad ?_ ?_;refine A6 ?_ ?_ ?_;refine Bb (fun _=>rfl) ?_;refine DT rfl rfl B rfl rfl ?_;walk_at "v1";refine Af ?_;refine An ?_;refine Bs ?_ ?_;refine DT rfl rfl B rfl rfl ?_;walk_at "v0";refine BJ ?_;refine Bl CF (BK hr) (AE _) ?_ ?_;walk_at "v0";walk_at "v1";exact AA;refine Ad ?_ ?_;refine A6 ?_ ?_ ?_;refine A7 ED EE (AE _) ?_ ?_;walk_at "v1";exact Dc;refine Af ?_;refine An ?_;refine Bl ED EE (AE _) ?_ ?_;walk_at "v0";exact Dc;exact AA;refine Af ?_;refine An ?_;refine Bs ?_ ?_;refine Al AN Ak rfl rfl rfl rfl rfl hr (by decide) Av dK rfl rfl rfl ?_
 refine Ab rfl ?_ ?_;walk_at "v0";exact Ae;refine BJ ?_;refine Bl CF (BK hr) (AE _) ?_ ?_;walk_at "v0";walk_at "v1"
theorem Ki{f:Addr}{fd:FuncData}(F:Fun K "_law_same" "_law_same" (top 48) f fd)(B:Blt mg K)(B2:Blt2 mg)(AN:Def P w K mg base CX0 1 "_law_whole" ["_law_thing"] (spJ K AY 1))(FI:Def P w K mg base CX0 3 "_law_same" ["_law_found","_law_due"] (spJ K CC 2)):
  FnOk P w K mg base CX0 4 f fd ["_law_found","_law_due"] (spJ K B3 2):=by
 refine A0 (N:=["_law_found","_law_due"]) F ⟨rfl,rfl,rfl,dK,rfl,dK,dK⟩ fun cdv A outer s H E hr=>?_;have nd2:List.Nodup (["_law_found","_law_due"]:List Str):=by decide +kernel
 refine Ad ?_ ?_;refine A6 ?_ ?_ ?_;refine Bb (fun _=>rfl) ?_;refine EA rfl rfl B rfl rfl ?_;walk_at "v1";refine Ad ?_ ?_;refine A6 ?_ ?_ ?_;refine Dx ?_;refine HJ ?_ ?_;refine Cm ?_;refine Bb (fun _=>rfl) ?_;refine EA rfl rfl B rfl rfl ?_;walk_at "v0";refine FW ?_;refine A7 KQ (Iq hr) (AE _) ?_ ?_;refine Ax By AM B.len Boot.«len» dK dK rfl rfl rfl ?_;refine Ab rfl ?_ ?_;walk_at "v0";exact Ae;refine Ax By AM B.len Boot.«len» dK dK rfl rfl rfl ?_;refine Ab rfl ?_ ?_;walk_at "v1";exact Ae;refine Af ?_;refine An ?_;exact E6;exact AA;refine Af ?_;refine An ?_;refine Ax FZ (CS rfl) B.all Boot.«all» dK dK rfl rfl rfl ?_;refine Ab rfl ?_ ?_;refine Gw (by rfl) rfl nd2 dK (by rfl) (by rfl) (fun _=>rfl) ?_ ?_ ?_;refine HH rfl B2.zip rfl rfl rfl ?_ ?_;walk_at "v0";walk_at "v1";exact AR;intro _ _ _ _ _;refine Al FI Ak rfl rfl rfl rfl rfl hr (by decide) Av dK rfl rfl rfl ?_;refine Ab rfl ?_ ?_;walk_at "v0";refine Ab rfl ?_ ?_;walk_at "v1";exact Ae;exact Ae;exact AA;refine Ad ?_ ?_;refine A6 ?_ ?_ ?_;refine Bb (fun _=>rfl) ?_;refine DT rfl rfl B rfl rfl ?_;walk_at "v1";refine Af ?_;refine An ?_;refine Bs ?_ ?_;refine DT rfl rfl B rfl rfl ?_;walk_at "v0";refine BJ ?_;refine Bl CF (BK hr) (AE _) ?_ ?_;walk_at "v0";walk_at "v1";exact AA;refine Ad ?_ ?_;refine A6 ?_ ?_ ?_;refine A7 ED EE (AE _) ?_ ?_;walk_at "v1";exact Dc;refine Af ?_;refine An ?_;refine Bl ED EE (AE _) ?_ ?_;walk_at "v0";exact Dc;exact AA;refine Af ?_;refine An ?_;refine Bs ?_ ?_;refine Al AN Ak rfl rfl rfl rfl rfl hr (by decide) Av dK rfl rfl rfl ?_
 refine Ab rfl ?_ ?_;walk_at "v0";exact Ae;refine BJ ?_;refine Bl CF (BK hr) (AE _) ?_ ?_;walk_at "v0";walk_at "v1"
theorem Kj{f:Addr}{fd:FuncData}(F:Fun K "_law_same" "_law_same" (top 48) f fd)(B:Blt mg K)(B2:Blt2 mg)(AN:Def P w K mg base CX0 1 "_law_whole" ["_law_thing"] (spJ K AY 1))(FJ:Def P w K mg base CX0 4 "_law_same" ["_law_found","_law_due"] (spJ K B3 2)):
  FnOk P w K mg base CX0 5 f fd ["_law_found","_law_due"] (spJ K CD 2):=by
 refine A0 (N:=["_law_found","_law_due"]) F ⟨rfl,rfl,rfl,dK,rfl,dK,dK⟩ fun cdv A outer s H E hr=>?_;have nd2:List.Nodup (["_law_found","_law_due"]:List Str):=by decide +kernel
 refine Ad ?_ ?_;refine A6 ?_ ?_ ?_;refine Bb (fun _=>rfl) ?_;refine EA rfl rfl B rfl rfl ?_;walk_at "v1";refine Ad ?_ ?_;refine A6 ?_ ?_ ?_;refine Dx ?_;refine HJ ?_ ?_;refine Cm ?_;refine Bb (fun _=>rfl) ?_;refine EA rfl rfl B rfl rfl ?_;walk_at "v0";refine FW ?_;refine A7 KQ (Iq hr) (AE _) ?_ ?_;refine Ax By AM B.len Boot.«len» dK dK rfl rfl rfl ?_;refine Ab rfl ?_ ?_;walk_at "v0";exact Ae;refine Ax By AM B.len Boot.«len» dK dK rfl rfl rfl ?_;refine Ab rfl ?_ ?_;walk_at "v1";exact Ae;refine Af ?_;refine An ?_;exact E6;exact AA;refine Af ?_;refine An ?_;refine Ax FZ (CS rfl) B.all Boot.«all» dK dK rfl rfl rfl ?_;refine Ab rfl ?_ ?_;refine Gw (by rfl) rfl nd2 dK (by rfl) (by rfl) (fun _=>rfl) ?_ ?_ ?_;refine HH rfl B2.zip rfl rfl rfl ?_ ?_;walk_at "v0";walk_at "v1";exact AR;intro _ _ _ _ _;refine Al FJ Ak rfl rfl rfl rfl rfl hr (by decide) Av dK rfl rfl rfl ?_;refine Ab rfl ?_ ?_;walk_at "v0";refine Ab rfl ?_ ?_;walk_at "v1";exact Ae;exact Ae;exact AA;refine Ad ?_ ?_;refine A6 ?_ ?_ ?_;refine Bb (fun _=>rfl) ?_;refine DT rfl rfl B rfl rfl ?_;walk_at "v1";refine Af ?_;refine An ?_;refine Bs ?_ ?_;refine DT rfl rfl B rfl rfl ?_;walk_at "v0";refine BJ ?_;refine Bl CF (BK hr) (AE _) ?_ ?_;walk_at "v0";walk_at "v1";exact AA;refine Ad ?_ ?_;refine A6 ?_ ?_ ?_;refine A7 ED EE (AE _) ?_ ?_;walk_at "v1";exact Dc;refine Af ?_;refine An ?_;refine Bl ED EE (AE _) ?_ ?_;walk_at "v0";exact Dc;exact AA;refine Af ?_;refine An ?_;refine Bs ?_ ?_;refine Al AN Ak rfl rfl rfl rfl rfl hr (by decide) Av dK rfl rfl rfl ?_
 refine Ab rfl ?_ ?_;walk_at "v0";exact Ae;refine BJ ?_;refine Bl CF (BK hr) (AE _) ?_ ?_;walk_at "v0";walk_at "v1"
theorem Kl{f:Addr}{fd:FuncData}(F:Fun K "_law_same" "_law_same" (top 48) f fd)(B:Blt mg K)(B2:Blt2 mg)(AN:Def P w K mg base CX0 1 "_law_whole" ["_law_thing"] (spJ K AY 1))(FK:Def P w K mg base CX0 5 "_law_same" ["_law_found","_law_due"] (spJ K CD 2)):
  FnOk P w K mg base CX0 6 f fd ["_law_found","_law_due"] (spJ K BG 2):=by
 refine A0 (N:=["_law_found","_law_due"]) F ⟨rfl,rfl,rfl,dK,rfl,dK,dK⟩ fun cdv A outer s H E hr=>?_;have nd2:List.Nodup (["_law_found","_law_due"]:List Str):=by decide +kernel
 refine Ad ?_ ?_;refine A6 ?_ ?_ ?_;refine Bb (fun _=>rfl) ?_;refine EA rfl rfl B rfl rfl ?_;walk_at "v1";refine Ad ?_ ?_;refine A6 ?_ ?_ ?_;refine Dx ?_;refine HJ ?_ ?_;refine Cm ?_;refine Bb (fun _=>rfl) ?_;refine EA rfl rfl B rfl rfl ?_;walk_at "v0";refine FW ?_;refine A7 KQ (Iq hr) (AE _) ?_ ?_;refine Ax By AM B.len Boot.«len» dK dK rfl rfl rfl ?_;refine Ab rfl ?_ ?_;walk_at "v0";exact Ae;refine Ax By AM B.len Boot.«len» dK dK rfl rfl rfl ?_;refine Ab rfl ?_ ?_;walk_at "v1";exact Ae;refine Af ?_;refine An ?_;exact E6;exact AA;refine Af ?_;refine An ?_;refine Ax FZ (CS rfl) B.all Boot.«all» dK dK rfl rfl rfl ?_;refine Ab rfl ?_ ?_;refine Gw (by rfl) rfl nd2 dK (by rfl) (by rfl) (fun _=>rfl) ?_ ?_ ?_;refine HH rfl B2.zip rfl rfl rfl ?_ ?_;walk_at "v0";walk_at "v1";exact AR;intro _ _ _ _ _;refine Al FK Ak rfl rfl rfl rfl rfl hr (by decide) Av dK rfl rfl rfl ?_;refine Ab rfl ?_ ?_;walk_at "v0";refine Ab rfl ?_ ?_;walk_at "v1";exact Ae;exact Ae;exact AA;refine Ad ?_ ?_;refine A6 ?_ ?_ ?_;refine Bb (fun _=>rfl) ?_;refine DT rfl rfl B rfl rfl ?_;walk_at "v1";refine Af ?_;refine An ?_;refine Bs ?_ ?_;refine DT rfl rfl B rfl rfl ?_;walk_at "v0";refine BJ ?_;refine Bl CF (BK hr) (AE _) ?_ ?_;walk_at "v0";walk_at "v1";exact AA;refine Ad ?_ ?_;refine A6 ?_ ?_ ?_;refine A7 ED EE (AE _) ?_ ?_;walk_at "v1";exact Dc;refine Af ?_;refine An ?_;refine Bl ED EE (AE _) ?_ ?_;walk_at "v0";exact Dc;exact AA;refine Af ?_;refine An ?_;refine Bs ?_ ?_;refine Al AN Ak rfl rfl rfl rfl rfl hr (by decide) Av dK rfl rfl rfl ?_
 refine Ab rfl ?_ ?_;walk_at "v0";exact Ae;refine BJ ?_;refine Bl CF (BK hr) (AE _) ?_ ?_;walk_at "v0";walk_at "v1"
theorem Lz{f:Addr}{fd:FuncData}(F:Fun K "_law_same" "_law_same" (top 48) f fd)(B:Blt mg K)(B2:Blt2 mg)(AN:Def P w K mg base CX0 1 "_law_whole" ["_law_thing"] (spJ K AY 1))(FL:Def P w K mg base CX0 6 "_law_same" ["_law_found","_law_due"] (spJ K BG 2)):
  FnOk P w K mg base CX0 7 f fd ["_law_found","_law_due"] (spJ K Bn 2):=by
 refine A0 (N:=["_law_found","_law_due"]) F ⟨rfl,rfl,rfl,dK,rfl,dK,dK⟩ fun cdv A outer s H E hr=>?_;have nd2:List.Nodup (["_law_found","_law_due"]:List Str):=by decide +kernel
 refine Ad ?_ ?_;refine A6 ?_ ?_ ?_;refine Bb (fun _=>rfl) ?_;refine EA rfl rfl B rfl rfl ?_;walk_at "v1";refine Ad ?_ ?_;refine A6 ?_ ?_ ?_;refine Dx ?_;refine HJ ?_ ?_;refine Cm ?_;refine Bb (fun _=>rfl) ?_;refine EA rfl rfl B rfl rfl ?_;walk_at "v0";refine FW ?_;refine A7 KQ (Iq hr) (AE _) ?_ ?_;refine Ax By AM B.len Boot.«len» dK dK rfl rfl rfl ?_;refine Ab rfl ?_ ?_;walk_at "v0";exact Ae;refine Ax By AM B.len Boot.«len» dK dK rfl rfl rfl ?_;refine Ab rfl ?_ ?_;walk_at "v1";exact Ae;refine Af ?_;refine An ?_;exact E6;exact AA;refine Af ?_;refine An ?_;refine Ax FZ (CS rfl) B.all Boot.«all» dK dK rfl rfl rfl ?_;refine Ab rfl ?_ ?_;refine Gw (by rfl) rfl nd2 dK (by rfl) (by rfl) (fun _=>rfl) ?_ ?_ ?_;refine HH rfl B2.zip rfl rfl rfl ?_ ?_;walk_at "v0";walk_at "v1";exact AR;intro _ _ _ _ _;refine Al FL Ak rfl rfl rfl rfl rfl hr (by decide) Av dK rfl rfl rfl ?_;refine Ab rfl ?_ ?_;walk_at "v0";refine Ab rfl ?_ ?_;walk_at "v1";exact Ae;exact Ae;exact AA;refine Ad ?_ ?_;refine A6 ?_ ?_ ?_;refine Bb (fun _=>rfl) ?_;refine DT rfl rfl B rfl rfl ?_;walk_at "v1";refine Af ?_;refine An ?_;refine Bs ?_ ?_;refine DT rfl rfl B rfl rfl ?_;walk_at "v0";refine BJ ?_;refine Bl CF (BK hr) (AE _) ?_ ?_;walk_at "v0";walk_at "v1";exact AA;refine Ad ?_ ?_;refine A6 ?_ ?_ ?_;refine A7 ED EE (AE _) ?_ ?_;walk_at "v1";exact Dc;refine Af ?_;refine An ?_;refine Bl ED EE (AE _) ?_ ?_;walk_at "v0";exact Dc;exact AA;refine Af ?_;refine An ?_;refine Bs ?_ ?_;refine Al AN Ak rfl rfl rfl rfl rfl hr (by decide) Av dK rfl rfl rfl ?_
 refine Ab rfl ?_ ?_;walk_at "v0";exact Ae;refine BJ ?_;refine Bl CF (BK hr) (AE _) ?_ ?_;walk_at "v0";walk_at "v1"
theorem NS{f:Addr}{fd:FuncData}(F:Fun K "is_pair" "is_pair" (top 3) f fd)(B:Blt mg K)(B2:Blt2 mg):
  FnOk P w K mg base CX0 1 f fd ["thing"] (spJ K CK 1):=by
 refine A0 (N:=["thing"]) F ⟨rfl,rfl,rfl,dK,rfl,dK,dK⟩ fun cdv A outer s H E hr=>?_;refine Af ?_;refine An ?_;refine Bs ?_ ?_;refine EA rfl rfl B rfl rfl ?_;walk_at "v0";refine BJ ?_;refine Bl CF (BK hr) (AE _) ?_ ?_;refine Ax By AM B.len Boot.«len» dK dK rfl rfl rfl ?_;refine Ab rfl ?_ ?_;walk_at "v0";exact Ae;exact Aj
theorem MQ{f:Addr}{fd:FuncData}(F:Fun K "is_whole" "is_whole" (top 1) f fd)(B:Blt mg K)(B2:Blt2 mg):
  FnOk P w K mg base CX0 1 f fd ["thing"] (spJ K Ci 1):=by
 refine A0 (N:=["thing"]) F ⟨rfl,rfl,rfl,dK,rfl,dK,dK⟩ fun cdv A outer s H E hr=>?_;refine Af ?_;refine An ?_;refine Bs ?_ ?_;refine QW rfl rfl B rfl rfl ?_;walk_at "v0";refine BJ ?_;refine QZ ?_;refine QV rfl rfl B rfl rfl ?_;walk_at "v0"
theorem GC{f:Addr}{fd:FuncData}(F:Fun K "is_count_of_hands" "is_count_of_hands" (top 16) f fd)(B:Blt mg K)(B2:Blt2 mg)(Dk:Def P w K mg base CX0 1 "is_whole" ["thing"] (spJ K Ci 1))(Et:GInt mg "FEWEST_HANDS" 2)(FU:GInt mg "MOST_HANDS" 4):
  FnOk P w K mg base CX0 2 f fd ["thing"] (spJ K Bg 1):=by
 refine A0 (N:=["thing"]) F ⟨rfl,rfl,rfl,dK,rfl,dK,dK⟩ fun cdv A outer s H E hr=>?_;refine Af ?_;refine An ?_;refine Bs ?_ ?_;refine Al Dk Ak rfl rfl rfl rfl rfl hr (by decide) Av dK rfl rfl rfl ?_;refine Ab rfl ?_ ?_;walk_at "v0";exact Ae;refine BJ ?_;refine NF Jr Jr F0 F0 (by with_unfolding_all rfl) ?_ ?_ ?_;exact Lk Et rfl dK;walk_at "v0";exact Lk FU rfl dK
theorem Hc{f:Addr}{fd:FuncData}(F:Fun K "is_number_below" "is_number_below" (top 2) f fd)(B:Blt mg K)(B2:Blt2 mg)(Dk:Def P w K mg base CX0 1 "is_whole" ["thing"] (spJ K Ci 1)):
  FnOk P w K mg base CX0 2 f fd ["thing","bound"] (spJ K Ba 2):=by
 refine A0 (N:=["thing","bound"]) F ⟨rfl,rfl,rfl,dK,rfl,dK,dK⟩ fun cdv A outer s H E hr=>?_;refine Af ?_;refine An ?_;refine Bs ?_ ?_;refine Al Dk Ak rfl rfl rfl rfl rfl hr (by decide) Av dK rfl rfl rfl ?_;refine Ab rfl ?_ ?_;walk_at "v0";exact Ae;refine BJ ?_;refine NF Jr MU F0 HN (by with_unfolding_all rfl) ?_ ?_ ?_;exact Aj;walk_at "v0";walk_at "v1"
theorem GB{f:Addr}{fd:FuncData}(F:Fun K "are_numbers_below" "are_numbers_below" (top 5) f fd)(B:Blt mg K)(B2:Blt2 mg)(CP:Def P w K mg base CX0 2 "is_number_below" ["thing","bound"] (spJ K Ba 2)):
  FnOk P w K mg base CX0 3 f fd ["things","bound"] (spJ K BE 2):=by
 refine A0 (N:=["things","bound"]) F ⟨rfl,rfl,rfl,dK,rfl,dK,dK⟩ fun cdv A outer s H E hr=>?_;have nd2:List.Nodup (["things","bound"]:List Str):=by decide +kernel
 refine Af ?_;refine An ?_;refine Ax FZ (CS rfl) B.all Boot.«all» dK dK rfl rfl rfl ?_;refine Ab rfl ?_ ?_;refine CL (by rfl) rfl nd2 (by rfl) (fun _=>rfl) ?_ ?_ ?_;refine Bt ?_;walk_at "v0";exact AR;intro _ _ _ _ _;refine Al CP Ak rfl rfl rfl rfl rfl hr (by decide) Av dK rfl rfl rfl ?_;refine Ab rfl ?_ ?_;walk_at "v0";refine Ab rfl ?_ ?_;walk_at "v2";exact Ae;exact Ae
theorem D5{f:Addr}{fd:FuncData}(F:Fun K "is_list_of_numbers_below" "is_list_of_numbers_below" (top 4) f fd)(B:Blt mg K)(B2:Blt2 mg)(Ct:Def P w K mg base CX0 3 "are_numbers_below" ["things","bound"] (spJ K BE 2)):
  FnOk P w K mg base CX0 4 f fd ["thing","bound"] (spJ K AU 2):=by
 refine A0 (N:=["thing","bound"]) F ⟨rfl,rfl,rfl,dK,rfl,dK,dK⟩ fun cdv A outer s H E hr=>?_;refine Af ?_;refine An ?_;refine Bs ?_ ?_;refine QX rfl rfl B rfl rfl ?_;walk_at "v0";refine BJ ?_;refine Al Ct Ak rfl rfl rfl rfl rfl hr (by decide) Av dK rfl rfl rfl ?_;refine Ab rfl ?_ ?_;walk_at "v0";refine Ab rfl ?_ ?_;walk_at "v1";exact Ae
theorem FA{f:Addr}{fd:FuncData}(F:Fun K "is_rising_list_below" "is_rising_list_below" (top 6) f fd)(B:Blt mg K)(B2:Blt2 mg)(Bp:Def P w K mg base CX0 4 "is_list_of_numbers_below" ["thing","bound"] (spJ K AU 2)):
  FnOk P w K mg base CX0 5 f fd ["thing","bound"] (spJ K A4 2):=by
 refine A0 (N:=["thing","bound"]) F ⟨rfl,rfl,rfl,dK,rfl,dK,dK⟩ fun cdv A outer s H E hr=>?_;have nd2:List.Nodup (["thing","bound"]:List Str):=by decide +kernel
 refine Ad ?_ ?_;refine A6 ?_ ?_ ?_;refine Cm ?_;refine Bb (fun _=>rfl) ?_;refine Al Bp Ak rfl rfl rfl rfl rfl hr (by decide) Av dK rfl rfl rfl ?_;refine Ab rfl ?_ ?_;walk_at "v0";refine Ab rfl ?_ ?_;walk_at "v1";exact Ae;refine Af ?_;refine An ?_;exact E6;exact AA;refine Af ?_;refine An ?_;refine Ax FZ (CS rfl) B.all Boot.«all» dK dK rfl rfl rfl ?_;refine Ab rfl ?_ ?_;refine CL (by rfl) rfl nd2 (by rfl) (fun _=>rfl) ?_ ?_ ?_;refine Bo rfl B.range rfl ?_;refine AI Jw JC ?_ ?_;refine Ax By AM B.len Boot.«len» dK dK rfl rfl rfl ?_;refine Ab rfl ?_ ?_;walk_at "v0";exact Ae;exact Aj;exact AR;intro _ _ _ _ _;refine Bl MU HN (AE _) ?_ ?_;refine AB AD Ar (fun _ _=>rfl) ?_ ?_;walk_at "v1";walk_at "v0";refine AB AD Ar (fun _ _=>rfl) ?_ ?_;walk_at "v1";refine AI CN BY ?_ ?_;walk_at "v0";exact Aj;exact Ae
theorem Hd{f:Addr}{fd:FuncData}(F:Fun K "is_small_letter" "is_small_letter" (top 19) f fd)(B:Blt mg K)(B2:Blt2 mg):
  FnOk P w K mg base CX0 1 f fd ["thing"] (spJ K Br 1):=by
 refine A0 (N:=["thing"]) F ⟨rfl,rfl,rfl,dK,rfl,dK,dK⟩ fun cdv A outer s H E hr=>?_;refine Af ?_;refine An ?_;refine Bs ?_ ?_;refine DT rfl rfl B rfl rfl ?_;walk_at "v0";refine Bs ?_ ?_;refine Bl CF (BK hr) (AE _) ?_ ?_;refine Ax By AM B.len Boot.«len» dK dK rfl rfl rfl ?_;refine Ab rfl ?_ ?_;walk_at "v0";exact Ae;exact Aj;refine BJ ?_;refine NF Jr Jr F0 F0 (by with_unfolding_all rfl) ?_ ?_ ?_;exact Jm dK;walk_at "v0";exact Jm dK
theorem MO{f:Addr}{fd:FuncData}(F:Fun K "is_entry" "is_entry" (top 18) f fd)(B:Blt mg K)(B2:Blt2 mg)(BX:Def P w K mg base CX0 5 "is_rising_list_below" ["thing","bound"] (spJ K A4 2))(D9:Def P w K mg base CX0 1 "is_pair" ["thing"] (spJ K CK 1))(CQ:Def P w K mg base CX0 1 "is_small_letter" ["thing"] (spJ K Br 1)):
  FnOk P w K mg base CX0 6 f fd ["hands","thing"] (spJ K CO 2):=by
 refine A0 (N:=["hands","thing"]) F ⟨rfl,rfl,rfl,dK,rfl,dK,dK⟩ fun cdv A outer s H E hr=>?_;refine Ad ?_ ?_;refine A6 ?_ ?_ ?_;refine Dx ?_;refine HJ ?_ ?_;refine Cm ?_;refine Bb (fun _=>rfl) ?_;refine Al D9 Ak rfl rfl rfl rfl rfl hr (by decide) Av dK rfl rfl rfl ?_;refine Ab rfl ?_ ?_;walk_at "v1";exact Ae;refine FW ?_;refine Cm ?_;refine Bb (fun _=>rfl) ?_;refine Al CQ Ak rfl rfl rfl rfl rfl hr (by decide) Av dK rfl rfl rfl ?_;refine Ab rfl ?_ ?_;refine AB AD Ar (fun _ _=>rfl) ?_ ?_;walk_at "v1";exact Aj;exact Ae;refine Af ?_;refine An ?_;exact E6;exact AA;refine Af ?_;refine An ?_;refine Bs ?_ ?_;refine Al BX Ak rfl rfl rfl rfl rfl hr (by decide) Av dK rfl rfl rfl ?_;refine Ab rfl ?_ ?_;refine AB AD Ar (fun _ _=>rfl) ?_ ?_;walk_at "v1";exact Aj;refine Ab rfl ?_ ?_;walk_at "v0";exact Ae;refine BJ ?_;refine Bl UQ UR (AE _) ?_ ?_;refine Ax By AM B.len Boot.«len» dK dK rfl rfl rfl ?_;refine Ab rfl ?_ ?_;refine AB AD Ar (fun _ _=>rfl) ?_ ?_;walk_at "v1";exact Aj;exact Ae;exact Aj
theorem Jp{f:Addr}{fd:FuncData}(F:Fun K "are_entries" "are_entries" (top 17) f fd)(B:Blt mg K)(B2:Blt2 mg)(G5:Def P w K mg base CX0 6 "is_entry" ["hands","thing"] (spJ K CO 2))(Eu:GInt mg "MOST_LETTERS" 6):
  FnOk P w K mg base CX0 7 f fd ["hands","thing"] (spJ K C2 2):=by
 refine A0 (N:=["hands","thing"]) F ⟨rfl,rfl,rfl,dK,rfl,dK,dK⟩ fun cdv A outer s H E hr=>?_;have nd2:List.Nodup (["hands","thing"]:List Str):=by decide +kernel
 refine Ad ?_ ?_;refine A6 ?_ ?_ ?_;refine Dx ?_;refine HJ ?_ ?_;refine Cm ?_;refine Bb (fun _=>rfl) ?_;refine QX rfl rfl B rfl rfl ?_;walk_at "v1";refine FW ?_;refine Cm ?_;refine VG Jr Jr F0 F0 (by with_unfolding_all rfl) ?_ ?_ ?_;exact Aj;refine Ax By AM B.len Boot.«len» dK dK rfl rfl rfl ?_;refine Ab rfl ?_ ?_;walk_at "v1";exact Ae;exact Lk Eu rfl dK;refine Af ?_;refine An ?_;exact E6;exact AA;refine Ad ?_ ?_;refine A6 ?_ ?_ ?_;refine Cm ?_;refine Bb (fun _=>rfl) ?_;refine Ax FZ (CS rfl) B.all Boot.«all» dK dK rfl rfl rfl ?_;refine Ab rfl ?_ ?_;refine CL (by rfl) rfl nd2 (by rfl) (fun _=>rfl) ?_ ?_ ?_;refine Bt ?_;walk_at "v1";exact AR;intro _ _ _ _ _;refine Al G5 Ak rfl rfl rfl rfl rfl hr (by decide) Av dK rfl rfl rfl ?_;refine Ab rfl ?_ ?_;walk_at "v1";refine Ab rfl ?_ ?_;walk_at "v0";exact Ae;exact Ae;refine Af ?_;refine An ?_;exact E6;exact AA;refine Af ?_;refine An ?_;refine Ax FZ (CS rfl) B.all Boot.«all» dK dK rfl rfl rfl ?_;refine Ab rfl ?_ ?_;refine CL (by rfl) rfl nd2 (by rfl) (fun _=>rfl) ?_ ?_ ?_;refine Bo rfl B.range rfl ?_;refine AI Jw JC ?_ ?_;refine Ax By AM B.len Boot.«len» dK dK rfl rfl rfl ?_;refine Ab rfl ?_ ?_;walk_at "v1";exact Ae;exact Aj;exact AR;intro _ _ _ _ _;refine Bl MU HN (AE _) ?_ ?_;refine AB AD Ar (fun _ _=>rfl) ?_ ?_;refine AB AD Ar (fun _ _=>rfl) ?_ ?_;walk_at "v2";walk_at "v0";exact Aj;refine AB AD Ar (fun _ _=>rfl) ?_ ?_;refine AB AD Ar (fun _ _=>rfl) ?_ ?_;walk_at "v2";refine AI CN BY ?_ ?_;walk_at "v0";exact Aj;exact Aj;exact Ae
theorem MP{f:Addr}{fd:FuncData}(F:Fun K "is_house" "is_house" (top 15) f fd)(B:Blt mg K)(B2:Blt2 mg)(D9:Def P w K mg base CX0 1 "is_pair" ["thing"] (spJ K CK 1))(Cu:Def P w K mg base CX0 2 "is_count_of_hands" ["thing"] (spJ K Bg 1))(Fc:Def P w K mg base CX0 7 "are_entries" ["hands","thing"] (spJ K C2 2)):
  FnOk P w K mg base CX0 8 f fd ["thing"] (spJ K DF 1):=by
 refine A0 (N:=["thing"]) F ⟨rfl,rfl,rfl,dK,rfl,dK,dK⟩ fun cdv A outer s H E hr=>?_;refine Ad ?_ ?_;refine A6 ?_ ?_ ?_;refine Cm ?_;refine Bb (fun _=>rfl) ?_;refine Al D9 Ak rfl rfl rfl rfl rfl hr (by decide) Av dK rfl rfl rfl ?_;refine Ab rfl ?_ ?_;walk_at "v0";exact Ae;refine Af ?_;refine An ?_;exact E6;exact AA;refine Af ?_;refine An ?_;refine Bs ?_ ?_;refine Al Cu Ak rfl rfl rfl rfl rfl hr (by decide) Av dK rfl rfl rfl ?_;refine Ab rfl ?_ ?_;refine AB AD Ar (fun _ _=>rfl) ?_ ?_;walk_at "v0";exact Aj;exact Ae;refine BJ ?_;refine Al Fc Ak rfl rfl rfl rfl rfl hr (by decide) Av dK rfl rfl rfl ?_;refine Ab rfl ?_ ?_;refine AB AD Ar (fun _ _=>rfl) ?_ ?_;walk_at "v0";exact Aj;refine Ab rfl ?_ ?_;refine AB AD Ar (fun _ _=>rfl) ?_ ?_;walk_at "v0";exact Aj;exact Ae
theorem Kq{f:Addr}{fd:FuncData}(F:Fun K "need_house" "need_house" (top 20) f fd)(B:Blt mg K)(B2:Blt2 mg)(G6:Def P w K mg base CX0 8 "is_house" ["thing"] (spJ K DF 1)):
  FnOk P w K mg base CX0 9 f fd ["house"] (spJ K BI 1):=by
 refine A0 (N:=["house"]) F ⟨rfl,rfl,rfl,dK,rfl,dK,dK⟩ fun cdv A outer s H E hr=>?_;refine Af ?_;refine A6 ?_ ?_ ?_;refine Cm ?_;refine Bb (fun _=>rfl) ?_;refine Al G6 Ak rfl rfl rfl rfl rfl hr (by decide) Av dK rfl rfl rfl ?_;refine Ab rfl ?_ ?_;walk_at "v0";exact Ae;refine Af ?_;exact Mt;exact AA
theorem NT{f:Addr}{fd:FuncData}(F:Fun K "no_news" "no_news" (top 26) f fd)(B:Blt mg K)(B2:Blt2 mg)(Cq:Def P w K mg base CX0 9 "need_house" ["house"] (spJ K BI 1)):
  FnOk P w K mg base CX0 10 f fd ["house"] (spJ K Es 1):=by
 refine A0 (N:=["house","firsts","seconds"]) F ⟨rfl,rfl,rfl,dK,rfl,dK,dK⟩ fun cdv A outer s H E hr=>?_;have nd3:List.Nodup (["house","firsts","seconds"]:List Str):=by decide +kernel
 refine Ad ?_ ?_;refine NH rfl ?_;refine Al Cq Ak rfl rfl rfl rfl rfl hr (by decide) Av dK rfl rfl rfl ?_;refine Ab rfl ?_ ?_;walk_at "v0";exact Ae;refine Ad ?_ ?_;refine Ay 1 nd3 rfl (by walk_at "loc") rfl rfl ?_;refine BQ CI Bk B.tuple Boot.«tuple» dK dK rfl rfl rfl ?_;refine Ab rfl ?_ ?_;refine AI IU L2.JB ?_ ?_;refine C9 ?_;refine Ab rfl ?_ ?_;refine AO ?_;exact Dc;exact Ae;refine AB AD Ar (fun _ _=>rfl) ?_ ?_;walk_at "v0";exact Aj;exact Ae;refine Ad ?_ ?_;refine Ay 2 nd3 rfl (by walk_at "loc") rfl rfl ?_;refine BQ CI Bk B.tuple Boot.«tuple» dK dK rfl rfl rfl ?_;refine Ab rfl ?_ ?_;refine AI IU L2.JB ?_ ?_;refine C9 ?_;refine Ab rfl ?_ ?_;refine AO ?_;walk_at "v1";exact Ae;refine AB AD Ar (fun _ _=>rfl) ?_ ?_;walk_at "v0";exact Aj;exact Ae;refine Af ?_;refine An ?_;refine BQ CI Bk B.tuple Boot.«tuple» dK dK rfl rfl rfl ?_;refine Ab rfl ?_ ?_;refine AI IU L2.JB ?_ ?_;refine C9 ?_;refine Ab rfl ?_ ?_;refine AO ?_;walk_at "v2";exact Ae;refine AB AD Ar (fun _ _=>rfl) ?_ ?_;walk_at "v0";exact Aj;exact Ae
theorem Kp{f:Addr}{fd:FuncData}(F:Fun K "letters_of" "letters_of" (top 21) f fd)(B:Blt mg K)(B2:Blt2 mg):
  FnOk P w K mg base CX0 1 f fd ["house"] (spJ K BH 1):=by
 refine A0 (N:=["house"]) F ⟨rfl,rfl,rfl,dK,rfl,dK,dK⟩ fun cdv A outer s H E hr=>?_;have nd1:List.Nodup (["house"]:List Str):=by decide +kernel
 refine Af ?_;refine An ?_;refine S0 rfl rfl B rfl ?_ ?_;exact Jm dK;refine CL (by rfl) rfl nd1 (by rfl) (fun _=>rfl) ?_ ?_ ?_;refine Bt ?_;refine AB AD Ar (fun _ _=>rfl) ?_ ?_;walk_at "v0";exact Aj;exact AR;intro _ _ _ _ _;refine AB AD Ar (fun _ _=>rfl) ?_ ?_;walk_at "v0";exact Aj
theorem LB{f:Addr}{fd:FuncData}(F:Fun K "is_letter" "is_letter" (top 22) f fd)(B:Blt mg K)(B2:Blt2 mg)(Cp:Def P w K mg base CX0 1 "letters_of" ["house"] (spJ K BH 1)):
  FnOk P w K mg base CX0 2 f fd ["house","thing"] (spJ K C4 2):=by
 refine A0 (N:=["house","thing"]) F ⟨rfl,rfl,rfl,dK,rfl,dK,dK⟩ fun cdv A outer s H E hr=>?_;refine Af ?_;refine An ?_;refine Bs ?_ ?_;refine DT rfl rfl B rfl rfl ?_;walk_at "v1";refine Bs ?_ ?_;refine Bl CF (BK hr) (AE _) ?_ ?_;refine Ax By AM B.len Boot.«len» dK dK rfl rfl rfl ?_;refine Ab rfl ?_ ?_;walk_at "v1";exact Ae;exact Aj;refine BJ ?_;refine Bl (MM false) Jy (by with_unfolding_all rfl) ?_ ?_;walk_at "v1";refine Al Cp Ak rfl rfl rfl rfl rfl hr (by decide) Av dK rfl rfl rfl ?_;refine Ab rfl ?_ ?_;walk_at "v0";exact Ae
theorem Jt{f:Addr}{fd:FuncData}(F:Fun K "need_letter" "need_letter" (top 23) f fd)(B:Blt mg K)(B2:Blt2 mg)(Gd:Def P w K mg base CX0 2 "is_letter" ["house","thing"] (spJ K C4 2)):
  FnOk P w K mg base CX0 3 f fd ["house","letter"] (spJ K C5 2):=by
 refine A0 (N:=["house","letter"]) F ⟨rfl,rfl,rfl,dK,rfl,dK,dK⟩ fun cdv A outer s H E hr=>?_;refine Af ?_;refine A6 ?_ ?_ ?_;refine Cm ?_;refine Bb (fun _=>rfl) ?_;refine Al Gd Ak rfl rfl rfl rfl rfl hr (by decide) Av dK rfl rfl rfl ?_;refine Ab rfl ?_ ?_;walk_at "v0";refine Ab rfl ?_ ?_;walk_at "v1";exact Ae;refine Af ?_;exact Mt;exact AA
theorem ML{f:Addr}{fd:FuncData}(F:Fun K "hands_of" "hands_of" (top 24) f fd)(B:Blt mg K)(B2:Blt2 mg)(Cp:Def P w K mg base CX0 1 "letters_of" ["house"] (spJ K BH 1)):
  FnOk P w K mg base CX0 2 f fd ["house","letter"] (spJ K E3 2):=by
 refine A0 (N:=["house","letter"]) F ⟨rfl,rfl,rfl,dK,rfl,dK,dK⟩ fun cdv A outer s H E hr=>?_;refine Af ?_;refine An ?_;refine AB AD Ar (fun _ _=>rfl) ?_ ?_;refine AB AD Ar (fun _ _=>rfl) ?_ ?_;refine AB AD Ar (fun _ _=>rfl) ?_ ?_;walk_at "v0";exact Aj;refine QU rfl rfl B rfl rfl ?_ ?_;refine Al Cp Ak rfl rfl rfl rfl rfl hr (by decide) Av dK rfl rfl rfl ?_;refine Ab rfl ?_ ?_;walk_at "v0";exact Ae;walk_at "v1";exact Aj
theorem Jx{f:Addr}{fd:FuncData}(F:Fun K "unused_name" "unused_name" (top 30) f fd)(B:Blt mg K)(B2:Blt2 mg):
  FnOk P w K mg base CX0 1 f fd ["letter","news"] (spJ K C6 2):=by
 refine A0 (N:=["letter","news","used","known","seconds","firsts","name","number"]) F ⟨rfl,rfl,rfl,dK,rfl,dK,dK⟩ fun cdv A outer s H E hr=>?_;have nd8:List.Nodup (["letter","news","used","known","seconds","firsts","name","number"]:List Str):=by decide +kernel
 refine Ad ?_ ?_;refine Ay 2 nd8 rfl (by walk_at "loc") rfl rfl ?_;exact SY;refine Ad ?_ ?_;refine Bu PassesOwn.never rfl ?_ ?_ ?_ (fun _=>rfl);refine Bt ?_;walk_at "v1";exact BS 3 nd8 rfl (by walk_at "loc") rfl;refine Af ?_;refine Bu PassesOwn.never rfl ?_ ?_ ?_ (fun _=>rfl);refine Bt ?_;walk_at "v3";exact BS 4 nd8 rfl (by walk_at "loc") rfl;refine Af ?_;refine Bu PassesOwn.never rfl ?_ ?_ ?_ (fun _=>rfl);refine Bt ?_;walk_at "v4";exact BS 5 nd8 rfl (by walk_at "loc") rfl;refine Af ?_;refine Bu PassesOwn.never rfl ?_ ?_ ?_ (fun _=>rfl);refine Bt ?_;walk_at "v5";exact BS 6 nd8 rfl (by walk_at "loc") rfl;refine Af ?_;refine S2 2 hr rfl (by walk_at "vis") dK dK rfl ?_ ?_;walk_at "v6";exact E6;refine Ad ?_ ?_;refine Ay 7 nd8 rfl (by walk_at "loc") rfl rfl ?_;exact Aj;refine Ad ?_ ?_;refine Mu 300 PassesOwn.never ?_ ?_;refine VH hr (by with_unfolding_all rfl) ?_ ?_;refine GO ?_;refine Ab rfl ?_ ?_;refine AO ?_;walk_at "v0";refine Ab rfl ?_ ?_;refine AO ?_;walk_at "v7";exact Ae;walk_at "v2";refine Af ?_;refine VD 7 nd8 rfl (by walk_at "loc") rfl ?_;exact Aj;refine Af ?_;refine An ?_;refine GO ?_;refine Ab rfl ?_ ?_;refine AO ?_;walk_at "v0";refine Ab rfl ?_ ?_;refine AO ?_;walk_at "v7";exact Ae
theorem Ko{f:Addr}{fd:FuncData}(F:Fun K "first_hand" "first_hand" (top 27) f fd)(B:Blt mg K)(B2:Blt2 mg):
  FnOk P w K mg base CX0 1 f fd ["news","hand"] (spJ K AZ 2):=by
 refine A0 (N:=["news","hand"]) F ⟨rfl,rfl,rfl,dK,rfl,dK,dK⟩ fun cdv A outer s H E hr=>?_;refine Af ?_;refine An ?_;refine AB AD Ar (fun _ _=>rfl) ?_ ?_;refine AB AD Ar (fun _ _=>rfl) ?_ ?_;refine AB AD Ar (fun _ _=>rfl) ?_ ?_;walk_at "v0";walk_at "v1";walk_at "v1";walk_at "v1"
theorem Jv{f:Addr}{fd:FuncData}(F:Fun K "second_hand" "second_hand" (top 28) f fd)(B:Blt mg K)(B2:Blt2 mg):
  FnOk P w K mg base CX0 1 f fd ["news","hand"] (spJ K BN 2):=by
 refine A0 (N:=["news","hand"]) F ⟨rfl,rfl,rfl,dK,rfl,dK,dK⟩ fun cdv A outer s H E hr=>?_;refine Af ?_;refine An ?_;refine AB AD Ar (fun _ _=>rfl) ?_ ?_;refine AB AD Ar (fun _ _=>rfl) ?_ ?_;walk_at "v0";walk_at "v1";walk_at "v1"
theorem Jq{f:Addr}{fd:FuncData}(F:Fun K "is_known_to" "is_known_to" (top 33) f fd)(B:Blt mg K)(B2:Blt2 mg)(A2:Def P w K mg base CX0 1 "first_hand" ["news","hand"] (spJ K AZ 2))(B1:Def P w K mg base CX0 1 "second_hand" ["news","hand"] (spJ K BN 2)):
  FnOk P w K mg base CX0 2 f fd ["other","one","hand"] (spJ K C3 3):=by
 refine A0 (N:=["other","one","hand","deed","common"]) F ⟨rfl,rfl,rfl,dK,rfl,dK,dK⟩ fun cdv A outer s H E hr=>?_;have nd5:List.Nodup (["other","one","hand","deed","common"]:List Str):=by decide +kernel
 refine Ad ?_ ?_;refine Ay 3 nd5 rfl (by walk_at "loc") rfl rfl ?_;refine Al A2 Ak rfl rfl rfl rfl rfl hr (by decide) Av dK rfl rfl rfl ?_;refine Ab rfl ?_ ?_;walk_at "v1";refine Ab rfl ?_ ?_;walk_at "v2";exact Ae;refine Ad ?_ ?_;refine Ay 4 nd5 rfl (by walk_at "loc") rfl rfl ?_;refine CL (by rfl) rfl nd5 (by rfl) (fun _=>rfl) ?_ ?_ ?_;refine Bo rfl B.range rfl ?_;refine Ax By AM B.len Boot.«len» dK dK rfl rfl rfl ?_;refine Ab rfl ?_ ?_;walk_at "v0";exact Ae;exact AR;intro _ _ _ _ _;refine Al A2 Ak rfl rfl rfl rfl rfl hr (by decide) Av dK rfl rfl rfl ?_;refine Ab rfl ?_ ?_;walk_at "v1";refine Ab rfl ?_ ?_;walk_at "v0";exact Ae;refine Af ?_;refine An ?_;refine Ax VW (Qn rfl) B.any Boot.«any» dK dK rfl rfl rfl ?_;refine Ab rfl ?_ ?_;refine CL (by rfl) rfl nd5 (by rfl) (fun _=>rfl) ?_ ?_ ?_;refine Bo rfl B.range rfl ?_;refine Ax By AM B.len Boot.«len» dK dK rfl rfl rfl ?_;refine Ab rfl ?_ ?_;walk_at "v1";exact Ae;exact AR;intro _ _ _ _ _;refine Bs ?_ ?_;refine VA hr (by with_unfolding_all rfl) ?_ ?_;refine Al A2 Ak rfl rfl rfl rfl rfl hr (by decide) Av dK rfl rfl rfl ?_;refine Ab rfl ?_ ?_;walk_at "v2";refine Ab rfl ?_ ?_;walk_at "v0";exact Ae;walk_at "v5";refine BJ ?_;refine Bl CF (BK hr) (AE _) ?_ ?_;refine AB AD Ar (fun _ _=>rfl) ?_ ?_;refine Al B1 Ak rfl rfl rfl rfl rfl hr (by decide) Av dK rfl rfl rfl ?_;refine Ab rfl ?_ ?_;walk_at "v2";refine Ab rfl ?_ ?_;walk_at "v0";exact Ae;walk_at "v3";walk_at "v4";exact Ae
theorem MK{f:Addr}{fd:FuncData}(F:Fun K "compared" "compared" (top 32) f fd)(B:Blt mg K)(B2:Blt2 mg)(A2:Def P w K mg base CX0 1 "first_hand" ["news","hand"] (spJ K AZ 2))(Fd:Def P w K mg base CX0 2 "is_known_to" ["other","one","hand"] (spJ K C3 3)):
  FnOk P w K mg base CX0 3 f fd ["one","other","hand"] (spJ K E2 3):=by
 refine A0 (N:=["one","other","hand","deed"]) F ⟨rfl,rfl,rfl,dK,rfl,dK,dK⟩ fun cdv A outer s H E hr=>?_;have nd4:List.Nodup (["one","other","hand","deed"]:List Str):=by decide +kernel
 refine Ad ?_ ?_;refine Ay 3 nd4 rfl (by walk_at "loc") rfl rfl ?_;refine Al A2 Ak rfl rfl rfl rfl rfl hr (by decide) Av dK rfl rfl rfl ?_;refine Ab rfl ?_ ?_;walk_at "v0";refine Ab rfl ?_ ?_;walk_at "v2";exact Ae;refine Ad ?_ ?_;refine A6 ?_ ?_ ?_;refine A7 CF (BK hr) (AE _) ?_ ?_;walk_at "v3";refine Al A2 Ak rfl rfl rfl rfl rfl hr (by decide) Av dK rfl rfl rfl ?_;refine Ab rfl ?_ ?_;walk_at "v1";refine Ab rfl ?_ ?_;walk_at "v2";exact Ae;refine Af ?_;refine An ?_;exact Aj;exact AA;refine Ad ?_ ?_;refine A6 ?_ ?_ ?_;refine Dx ?_;refine HJ ?_ ?_;refine A7 ED EE (AE _) ?_ ?_;walk_at "v3";exact Dc;refine FW ?_;refine Bb (fun _=>rfl) ?_;refine Al Fd Ak rfl rfl rfl rfl rfl hr (by decide) Av dK rfl rfl rfl ?_;refine Ab rfl ?_ ?_;walk_at "v1";refine Ab rfl ?_ ?_;walk_at "v0";refine Ab rfl ?_ ?_;walk_at "v2";exact Ae;refine Af ?_;refine An ?_;refine KI Ip Iu ?_;exact Aj;exact AA;refine Af ?_;refine An ?_;exact Aj
theorem IL{f:Addr}{fd:FuncData}(F:Fun K "newest_about" "newest_about" (top 31) f fd)(B:Blt mg K)(B2:Blt2 mg)(G3:Def P w K mg base CX0 3 "compared" ["one","other","hand"] (spJ K E2 3)):
  FnOk P w K mg base CX0 4 f fd ["news","hand"] (spJ K CH 2):=by
 refine A0 (N:=["news","hand","newest","known"]) F ⟨rfl,rfl,rfl,dK,rfl,dK,dK⟩ fun cdv A outer s H E hr=>?_;have nd4:List.Nodup (["news","hand","newest","known"]:List Str):=by decide +kernel
 refine Ad ?_ ?_;refine Ay 2 nd4 rfl (by walk_at "loc") rfl rfl ?_;refine AB AD Ar (fun _ _=>rfl) ?_ ?_;walk_at "v0";exact Aj;refine Ad ?_ ?_;refine Bu PassesOwn.never rfl ?_ ?_ ?_ (fun _=>rfl);refine Bt ?_;walk_at "v0";exact BS 3 nd4 rfl (by walk_at "loc") rfl;refine Af ?_;refine A6 ?_ ?_ ?_;refine A7 UQ UR (AE _) ?_ ?_;refine Al G3 Ak rfl rfl rfl rfl rfl hr (by decide) Av dK rfl rfl rfl ?_;refine Ab rfl ?_ ?_;walk_at "v3";refine Ab rfl ?_ ?_;walk_at "v2";refine Ab rfl ?_ ?_;walk_at "v1";exact Ae;exact Aj;refine Af ?_;refine Ay 2 nd4 rfl (by walk_at "loc") rfl rfl ?_;walk_at "v3";exact AA;refine Af ?_;refine An ?_;walk_at "v2"
theorem Ju{f:Addr}{fd:FuncData}(F:Fun K "news_behind" "news_behind" (top 29) f fd)(B:Blt mg K)(B2:Blt2 mg)(Cq:Def P w K mg base CX0 9 "need_house" ["house"] (spJ K BI 1))(Ff:Def P w K mg base CX0 3 "need_letter" ["house","letter"] (spJ K C5 2))(G4:Def P w K mg base CX0 2 "hands_of" ["house","letter"] (spJ K E3 2))(Fh:Def P w K mg base CX0 1 "unused_name" ["letter","news"] (spJ K C6 2))(Eb:Def P w K mg base CX0 4 "newest_about" ["news","hand"] (spJ K CH 2))(A2:Def P w K mg base CX0 1 "first_hand" ["news","hand"] (spJ K AZ 2))(B1:Def P w K mg base CX0 1 "second_hand" ["news","hand"] (spJ K BN 2)):
  FnOk P w K mg base CX0 10 f fd ["house","letter","news"] (spJ K Cj 3):=by
 refine A0 (N:=["house","letter","news","hands","name","newest","firsts","seconds","thirds"]) F ⟨rfl,rfl,rfl,dK,rfl,dK,dK⟩ fun cdv A outer s H E hr=>?_;have nd9:List.Nodup (["house","letter","news","hands","name","newest","firsts","seconds","thirds"]:List Str):=by decide +kernel
 refine Ad ?_ ?_;refine NH rfl ?_;refine Al Cq Ak rfl rfl rfl rfl rfl hr (by decide) Av dK rfl rfl rfl ?_;refine Ab rfl ?_ ?_;walk_at "v0";exact Ae;refine Ad ?_ ?_;refine NH rfl ?_;refine Al Ff Ak rfl rfl rfl rfl rfl hr (by decide) Av dK rfl rfl rfl ?_;refine Ab rfl ?_ ?_;walk_at "v0";refine Ab rfl ?_ ?_;walk_at "v1";exact Ae;refine Ad ?_ ?_;refine Ay 3 nd9 rfl (by walk_at "loc") rfl rfl ?_;refine Al G4 Ak rfl rfl rfl rfl rfl hr (by decide) Av dK rfl rfl rfl ?_;refine Ab rfl ?_ ?_;walk_at "v0";refine Ab rfl ?_ ?_;walk_at "v1";exact Ae;refine Ad ?_ ?_;refine Ay 4 nd9 rfl (by walk_at "loc") rfl rfl ?_;refine Al Fh Ak rfl rfl rfl rfl rfl hr (by decide) Av dK rfl rfl rfl ?_;refine Ab rfl ?_ ?_;walk_at "v1";refine Ab rfl ?_ ?_;walk_at "v2";exact Ae;refine Ad ?_ ?_;refine Q0 5 nd9 rfl rfl (by rfl) rfl (by rfl) (fun _=>rfl) rfl ?_ ?_ ?_;refine Bo rfl B.range rfl ?_;refine AB AD Ar (fun _ _=>rfl) ?_ ?_;walk_at "v0";exact Aj;exact AR;intro _ _ _ _ _;refine Al Eb Ak rfl rfl rfl rfl rfl hr (by decide) Av dK rfl rfl rfl ?_;refine Ab rfl ?_ ?_;walk_at "v3";refine Ab rfl ?_ ?_;walk_at "v0";exact Ae;refine Ad ?_ ?_;refine Ay 6 nd9 rfl (by walk_at "loc") rfl rfl ?_;refine BQ CI Bk B.tuple Boot.«tuple» dK dK rfl rfl rfl ?_;refine Ab rfl ?_ ?_;refine Gw (by rfl) rfl nd9 dK (by rfl) (by rfl) (fun _=>rfl) ?_ ?_ ?_;refine HG rfl B2.enumerate rfl ?_;walk_at "v5";exact AR;intro _ _ _ _ _;refine Ll ?_ ?_ ?_;refine A7 (MM false) Jy (by with_unfolding_all rfl) ?_ ?_;walk_at "v0";walk_at "v5";walk_at "v6"
 refine Al A2 Ak rfl rfl rfl rfl rfl hr (by decide) Av dK rfl rfl rfl ?_;refine Ab rfl ?_ ?_;walk_at "v1";refine Ab rfl ?_ ?_;walk_at "v0";exact Ae;exact Ae;refine Ad ?_ ?_;refine Ay 7 nd9 rfl (by walk_at "loc") rfl rfl ?_;refine BQ CI Bk B.tuple Boot.«tuple» dK dK rfl rfl rfl ?_;refine Ab rfl ?_ ?_;refine Gw (by rfl) rfl nd9 dK (by rfl) (by rfl) (fun _=>rfl) ?_ ?_ ?_;refine HG rfl B2.enumerate rfl ?_;walk_at "v5";exact AR;intro _ _ _ _ _;refine Ll ?_ ?_ ?_;refine A7 (MM false) Jy (by with_unfolding_all rfl) ?_ ?_;walk_at "v0";walk_at "v5";walk_at "v8";refine Al B1 Ak rfl rfl rfl rfl rfl hr (by decide) Av dK rfl rfl rfl ?_;refine Ab rfl ?_ ?_;walk_at "v1";refine Ab rfl ?_ ?_;walk_at "v0";exact Ae;exact Ae;refine Ad ?_ ?_;refine Ay 8 nd9 rfl (by walk_at "loc") rfl rfl ?_;refine BQ CI Bk B.tuple Boot.«tuple» dK dK rfl rfl rfl ?_;refine Ab rfl ?_ ?_;refine Gw (by rfl) rfl nd9 dK (by rfl) (by rfl) (fun _=>rfl) ?_ ?_ ?_;refine HG rfl B2.enumerate rfl ?_;walk_at "v5";exact AR;intro _ _ _ _ _;refine Ll ?_ ?_ ?_;refine A7 (MM false) Jy (by with_unfolding_all rfl) ?_ ?_;walk_at "v0";walk_at "v5";walk_at "v9";refine AB AD Ar (fun _ _=>rfl) ?_ ?_;walk_at "v1";walk_at "v0";exact Ae;refine Af ?_;refine An ?_;refine GO ?_;refine Ab rfl ?_ ?_;refine AO ?_;walk_at "v4";refine Ab rfl ?_ ?_;refine AO ?_;walk_at "v8";exact Ae
theorem Kd{f:Addr}{fd:FuncData}(F:Fun K "_law_named" "_law_named" (top 46) f fd)(B:Blt mg K)(B2:Blt2 mg):
  FnOk P w K mg base CX0 1 f fd ["_law_third_here","_law_names_here"] (spJ K CB 2):=by
 refine A0 (N:=["_law_third_here","_law_names_here","_law_found","_law_rows","_law_lines","_law_line"]) F ⟨rfl,rfl,rfl,dK,rfl,dK,dK⟩ fun cdv A outer s H E hr=>?_;have nd6:List.Nodup (["_law_third_here","_law_names_here","_law_found","_law_rows","_law_lines","_law_line"]:List Str):=by decide +kernel
 refine Ad ?_ ?_;refine Ay 2 nd6 rfl (by walk_at "loc") rfl rfl ?_;refine C9 ?_;exact Ae;refine Ad ?_ ?_;refine Bu PassesOwn.never rfl ?_ ?_ ?_ (fun _=>rfl);refine Bt ?_;walk_at "v0";exact BS 3 nd6 rfl (by walk_at "loc") rfl;refine Ad ?_ ?_;refine Ay 4 nd6 rfl (by walk_at "loc") rfl rfl ?_;refine C9 ?_;exact Ae;refine Ad ?_ ?_;refine Bu PassesOwn.never rfl ?_ ?_ ?_ (fun _=>rfl);refine Bt ?_;walk_at "v3";exact BS 5 nd6 rfl (by walk_at "loc") rfl;refine Af ?_;refine Ha 4 rfl (by walk_at "vis") dK dK rfl rfl rfl rfl ?_;refine BQ CI Bk B.tuple Boot.«tuple» dK dK rfl rfl rfl ?_;refine Ab rfl ?_ ?_;refine CL (by rfl) rfl nd6 (by rfl) (fun _=>rfl) ?_ ?_ ?_;refine Bt ?_;walk_at "v5";exact AR;intro _ _ _ _ _;refine Ll ?_ ?_ ?_;refine A7 OK OM (AE _) ?_ ?_;walk_at "v0";exact Aj;refine AB AD Ar (fun _ _=>rfl) ?_ ?_;walk_at "v2";walk_at "v0";exact Dc;exact Ae;refine Af ?_;refine Ha 2 rfl (by walk_at "vis") dK dK rfl rfl rfl rfl ?_;refine BQ CI Bk B.tuple Boot.«tuple» dK dK rfl rfl rfl ?_;refine Ab rfl ?_ ?_;walk_at "v4";exact Ae;refine Af ?_;refine An ?_;refine BQ CI Bk B.tuple Boot.«tuple» dK dK rfl rfl rfl ?_;refine Ab rfl ?_ ?_;walk_at "v2";exact Ae
theorem Lv{f:Addr}{fd:FuncData}(F:Fun K "_law_cell" "_law_cell" (top 35) f fd)(B:Blt mg K)(B2:Blt2 mg):
  FnOk P w K mg base CX0 1 f fd ["_law_script","_law_k"] (spJ K CZ 2):=by
 refine A0 (N:=["_law_script","_law_k"]) F ⟨rfl,rfl,rfl,dK,rfl,dK,dK⟩ fun cdv A outer s H E hr=>?_;refine Ad ?_ ?_;refine A6 ?_ ?_ ?_;refine A7 MU HN (AE _) ?_ ?_;walk_at "v1";refine Ax By AM B.len Boot.«len» dK dK rfl rfl rfl ?_;refine Ab rfl ?_ ?_;walk_at "v0";exact Ae;refine Af ?_;refine An ?_;refine AB AD Ar (fun _ _=>rfl) ?_ ?_;walk_at "v0";walk_at "v1";exact AA;refine Af ?_;refine An ?_;exact Aj
theorem Lx{f:Addr}{fd:FuncData}(F:Fun K "_law_none" "_law_none" (top 49) f fd)(B:Blt mg K)(B2:Blt2 mg):
  FnOk P w K mg base CX0 1 f fd ["_law_hands"] (spJ K D3 1):=by
 refine A0 (N:=["_law_hands"]) F ⟨rfl,rfl,rfl,dK,rfl,dK,dK⟩ fun cdv A outer s H E hr=>?_;have nd1:List.Nodup (["_law_hands"]:List Str):=by decide +kernel
 have nd2:List.Nodup (["_law_q","_law_hands"]:List Str):=by decide +kernel
 refine Af ?_;refine An ?_;refine BQ CI Bk B.tuple Boot.«tuple» dK dK rfl rfl rfl ?_;refine Ab rfl ?_ ?_;refine CL (by rfl) rfl nd1 (by rfl) (fun _=>rfl) ?_ ?_ ?_;refine Bo rfl B.range rfl ?_;walk_at "v0";exact AR;intro _ _ _ _ _;refine BQ CI Bk B.tuple Boot.«tuple» dK dK rfl rfl rfl ?_;refine Ab rfl ?_ ?_;refine CL (by rfl) rfl nd2 (by rfl) (fun _=>rfl) ?_ ?_ ?_;refine Bo rfl B.range rfl ?_;walk_at "v1";exact AR;intro _ _ _ _ _;refine BQ CI Bk B.tuple Boot.«tuple» dK dK rfl rfl rfl ?_;refine Ab rfl ?_ ?_;refine AI IU L2.JB ?_ ?_;refine C9 ?_;refine Ab rfl ?_ ?_;refine AO ?_;exact Dc;exact Ae;walk_at "v2";exact Ae;exact Ae;exact Ae
theorem V1{f c b:Addr}{fd:FuncData}(F:Fun K "law" "law" (top 50) f fd)(hn:PySem.W.nsIn K mainGlobals Bh=some (some (.ref f)))(ht:PySem.W.tabIn K Bh=some (c,b))(hh:PySem.W.codeHdIn K c b=true)(B:Blt mg K)(B2:Blt2 mg)(FF:Def P w K mg base CX0 2 "_law_house" ["_law_bag_here"] (spJ K Du 1))(G2:Def P w K mg base CX0 2 "_law_row" ["_law_bag_here","_law_house_here","_law_most"] (spJ K E1 3))(Gb:Def P w K mg base CX0 1 "_law_owns" ["_law_house_here","_law_row_here"] (spJ K D4 2))(Fb:Def P w K mg base CX0 1 "_law_newest" ["_law_hands","_law_owns_here"] (spJ K C1 2))(FG:Def P w K mg base CX0 3 "_law_names" ["_law_house_here","_law_row_here","_law_owns_here","_law_newest_here"] (spJ K Dv 4))(F9:Def P w K mg base CX0 1 "_law_last" ["_law_hands","_law_owns_here","_law_many"] (spJ K C0 3))(FE:Def P w K mg base CX0 1 "_law_bag" ["_law_cell_here"] (spJ K DE 1))(DB:Def P w K mg base CX0 7 "_law_same" ["_law_found","_law_due"] (spJ K Bn 2))(GL:Def P w K mg base CX0 10 "no_news" ["house"] (spJ K Es 1))(Fg:Def P w K mg base CX0 10 "news_behind" ["house","letter","news"] (spJ K Cj 3))(D1:Def P w K mg base CX0 1 "_law_named" ["_law_third_here","_law_names_here"] (spJ K CB 2))(EX:Def P w K mg base CX0 1 "_law_cell" ["_law_script","_law_k"] (spJ K CZ 2))(Ga:Def P w K mg base CX0 1 "_law_none" ["_law_hands"] (spJ K D3 1))(BW:Def P w K mg base CX0 2 "_law_third" ["_law_hands","_law_newest_here","_law_last_here"] (spJ K Bd 3)):
  FnOk P w K mg base CX0 11 f fd ["_law_script"] (spJ K Ih 1):=by
 refine Vl (N:=["_law_script","_law_house_here","_law_row_here","_law_hands","_law_owns_here","_law_newest_here","_law_names_here","_law_news","_law_k","_law_letter","_law_handed","_law_name","_law_told","_law_due","_law_hand","_law_last_here"]) F hn ht ⟨rfl,rfl,rfl,dK,rfl,dK,dK⟩ fun A outer s H E hr=>?_;have nd16:List.Nodup (["_law_script","_law_house_here","_law_row_here","_law_hands","_law_owns_here","_law_newest_here","_law_names_here","_law_news","_law_k","_law_letter","_law_handed","_law_name","_law_told","_law_due","_law_hand","_law_last_here"]:List Str):=by decide +kernel
 refine Ad ?_ ?_;refine Ay 1 nd16 rfl (by walk_at "loc") rfl rfl ?_;refine Al FF Ak rfl rfl rfl rfl rfl hr (by decide) Av dK rfl rfl rfl ?_;refine Ab rfl ?_ ?_;refine Al FE Ak rfl rfl rfl rfl rfl hr (by decide) Av dK rfl rfl rfl ?_;refine Ab rfl ?_ ?_;refine Al EX Ak rfl rfl rfl rfl rfl hr (by decide) Av dK rfl rfl rfl ?_;refine Ab rfl ?_ ?_;walk_at "v0";refine Ab rfl ?_ ?_;exact Aj;exact Ae;exact Ae;exact Ae;refine Ad ?_ ?_;refine Ay 2 nd16 rfl (by walk_at "loc") rfl rfl ?_;refine Al G2 Ak rfl rfl rfl rfl rfl hr (by decide) Av dK rfl rfl rfl ?_;refine Ab rfl ?_ ?_;refine Al FE Ak rfl rfl rfl rfl rfl hr (by decide) Av dK rfl rfl rfl ?_;refine Ab rfl ?_ ?_;refine Al EX Ak rfl rfl rfl rfl rfl hr (by decide) Av dK rfl rfl rfl ?_;refine Ab rfl ?_ ?_;walk_at "v0";refine Ab rfl ?_ ?_;exact Aj;exact Ae;exact Ae;refine Ab rfl ?_ ?_;walk_at "v1";refine Ab rfl ?_ ?_;exact Aj;exact Ae;refine Ad ?_ ?_;refine Ay 3 nd16 rfl (by walk_at "loc") rfl rfl ?_;refine AB AD Ar (fun _ _=>rfl) ?_ ?_;walk_at "v1";exact Aj;refine Ad ?_ ?_;refine Ln 4 ?_;refine Ay 4 nd16 rfl (by walk_at "loc") rfl rfl ?_;refine Al Gb Ak rfl rfl rfl rfl rfl hr (by decide) Av dK rfl rfl rfl ?_;refine Ab rfl ?_ ?_;walk_at "v1";refine Ab rfl ?_ ?_;walk_at "v2";exact Ae;refine Ad ?_ ?_;refine Ln 5 ?_;refine Ay 5 nd16 rfl (by walk_at "loc") rfl rfl ?_;refine Al Fb Ak rfl rfl rfl rfl rfl hr (by decide) Av dK rfl rfl rfl ?_;refine Ab rfl ?_ ?_;walk_at "v3";refine Ab rfl ?_ ?_;walk_at "v4";exact Ae;refine Ad ?_ ?_;refine Ln 6 ?_
 refine Ay 6 nd16 rfl (by walk_at "loc") rfl rfl ?_;refine Al FG Ak rfl rfl rfl rfl rfl hr (by decide) Av dK rfl rfl rfl ?_;refine Ab rfl ?_ ?_;walk_at "v1";refine Ab rfl ?_ ?_;walk_at "v2";refine Ab rfl ?_ ?_;walk_at "v4";refine Ab rfl ?_ ?_;walk_at "v5";exact Ae;refine Ad ?_ ?_;refine A6 ?_ ?_ ?_;refine Cm ?_;refine Bb (fun _=>rfl) ?_;refine Al DB Ak rfl rfl rfl rfl rfl hr (by decide) Av dK rfl rfl rfl ?_;refine Ab rfl ?_ ?_;refine Al GL Ak rfl rfl rfl rfl rfl hr (by decide) Av dK rfl rfl rfl ?_;refine Ab rfl ?_ ?_;walk_at "v1";exact Ae;refine Ab rfl ?_ ?_;refine Al Ga Ak rfl rfl rfl rfl rfl hr (by decide) Av dK rfl rfl rfl ?_;refine Ab rfl ?_ ?_;walk_at "v3";exact Ae;exact Ae;refine Af ?_;refine An ?_;exact E6;exact AA;refine Ad ?_ ?_;refine Ay 7 nd16 rfl (by walk_at "loc") rfl rfl ?_;refine QY ["_law_script","_law_house_here","_law_row_here","_law_hands","_law_owns_here","_law_newest_here","_law_names_here","_law_news","_law_k","_law_letter","_law_handed","_law_name","_law_told","_law_due","?","_law_last_here"] rfl rfl rfl dK rfl (fun _=>rfl) ?_ ?_ ?_;refine Bo rfl B.range rfl ?_;walk_at "v3";exact AR;intro _ _ _ _ _;refine Al GL Ak rfl rfl rfl rfl rfl hr (by decide) Av dK rfl rfl rfl ?_;refine Ab rfl ?_ ?_;walk_at "v2";exact Ae;refine Ad ?_ ?_;refine Bu PassesOwn.never rfl ?_ ?_ ?_ (fun _=>rfl);refine OB rfl B2.enumerate rfl ?_;walk_at "v2";refine IW rfl ?_ rfl rfl;refine DI 8 nd16 rfl (by walk_at "loc") rfl ?_ rfl;refine DI 9 nd16 rfl (by walk_at "loc") rfl ?_ rfl;exact IY
 refine Ad ?_ ?_;refine EB ["_law_script","_law_house_here","_law_row_here","_law_hands","_law_owns_here","_law_newest_here","_law_names_here","_law_news","_law_k","_law_letter","_law_handed","_law_name","_law_told","_law_due","?","_law_last_here"] 10 nd16 rfl rfl rfl dK rfl rfl rfl (fun _=>rfl) rfl ?_ ?_ ?_;refine Bt ?_;refine AB AD Ar (fun _ _=>rfl) ?_ ?_;walk_at "v4";walk_at "v8";exact AR;intro _ _ _ _ _;refine AB AD Ar (fun _ _=>rfl) ?_ ?_;walk_at "v8";walk_at "v0";refine Ad ?_ ?_;refine VF ?_ rfl rfl rfl ?_;refine IW rfl ?_ rfl rfl;refine DI 11 nd16 rfl (by walk_at "loc") rfl ?_ rfl;refine DI 12 nd16 rfl (by walk_at "loc") rfl ?_ rfl;exact IY;refine Al Fg Ak rfl rfl rfl rfl rfl hr (by decide) Av dK rfl rfl rfl ?_;refine Ab rfl ?_ ?_;walk_at "v1";refine Ab rfl ?_ ?_;walk_at "v9";refine Ab rfl ?_ ?_;walk_at "v10";exact Ae;refine Ad ?_ ?_;refine A6 ?_ ?_ ?_;refine A7 KQ (Iq hr) (AE _) ?_ ?_;walk_at "v10";refine QY ["_law_script","_law_house_here","_law_row_here","_law_hands","_law_owns_here","_law_newest_here","_law_names_here","_law_news","_law_k","_law_letter","_law_handed","_law_name","_law_told","_law_due","?","_law_last_here"] rfl rfl rfl dK rfl (fun _=>rfl) ?_ ?_ ?_;refine Bt ?_;refine AB AD Ar (fun _ _=>rfl) ?_ ?_;walk_at "v4";walk_at "v8";exact AR;intro _ _ _ _ _;refine AB AD Ar (fun _ _=>rfl) ?_ ?_;walk_at "v8";walk_at "v0";refine Af ?_;refine An ?_;exact E6;exact AA;refine Ad ?_ ?_;exact VE 10 rfl (by walk_at "vis") dK dK rfl rfl rfl;refine Ad ?_ ?_;refine Ay 13 nd16 rfl (by walk_at "loc") rfl rfl ?_
 refine Al D1 Ak rfl rfl rfl rfl rfl hr (by decide) Av dK rfl rfl rfl ?_;refine Ab rfl ?_ ?_;refine AO ?_;refine Al BW Ak rfl rfl rfl rfl rfl hr (by decide) Av dK rfl rfl rfl ?_;refine Ab rfl ?_ ?_;walk_at "v3";refine Ab rfl ?_ ?_;walk_at "v5";refine Ab rfl ?_ ?_;walk_at "v8";exact Ae;refine Ab rfl ?_ ?_;walk_at "v6";exact Ae;refine Ad ?_ ?_;refine A6 ?_ ?_ ?_;refine Dx ?_;refine HJ ?_ ?_;refine Cm ?_;refine Bb (fun _=>rfl) ?_;refine Al DB Ak rfl rfl rfl rfl rfl hr (by decide) Av dK rfl rfl rfl ?_;refine Ab rfl ?_ ?_;walk_at "v11";refine Ab rfl ?_ ?_;refine AB AD Ar (fun _ _=>rfl) ?_ ?_;walk_at "v6";walk_at "v8";exact Ae;refine FW ?_;refine Cm ?_;refine Bb (fun _=>rfl) ?_;refine Al DB Ak rfl rfl rfl rfl rfl hr (by decide) Av dK rfl rfl rfl ?_;refine Ab rfl ?_ ?_;walk_at "v12";refine Ab rfl ?_ ?_;walk_at "v13";exact Ae;refine Af ?_;refine An ?_;exact E6;exact AA;refine Af ?_;refine Bu PassesOwn.never rfl ?_ ?_ ?_ (fun _=>rfl);refine Bt ?_;refine AB AD Ar (fun _ _=>rfl) ?_ ?_;walk_at "v4";walk_at "v8";exact BS 14 nd16 rfl (by walk_at "loc") rfl;refine Af ?_;refine Gx 7 rfl (by walk_at "vis") dK dK (fun _=>rfl) rfl rfl rfl ?_ ?_;walk_at "v14";walk_at "v12";refine Ad ?_ ?_;refine Ln 15 ?_;refine Ay 15 nd16 rfl (by walk_at "loc") rfl rfl ?_;refine Al F9 Ak rfl rfl rfl rfl rfl hr (by decide) Av dK rfl rfl rfl ?_;refine Ab rfl ?_ ?_;walk_at "v3";refine Ab rfl ?_ ?_;walk_at "v4";refine Ab rfl ?_ ?_;refine Ax By AM B.len Boot.«len» dK dK rfl rfl rfl ?_;refine Ab rfl ?_ ?_;walk_at "v2"
 exact Ae;exact Ae;refine Af ?_;refine An ?_;refine Bl CF (BK hr) (AE _) ?_ ?_;walk_at "v7";refine CL (by rfl) rfl nd16 (by rfl) (fun _=>rfl) ?_ ?_ ?_;refine Bt ?_;walk_at "v15";exact AR;intro _ _ _ _ _;refine Al D1 Ak rfl rfl rfl rfl rfl hr (by decide) Av dK rfl rfl rfl ?_;refine Ab rfl ?_ ?_;refine AO ?_;refine Al BW Ak rfl rfl rfl rfl rfl hr (by decide) Av dK rfl rfl rfl ?_;refine Ab rfl ?_ ?_;walk_at "v4";refine Ab rfl ?_ ?_;walk_at "v6";refine Ab rfl ?_ ?_;walk_at "v0";exact Ae;refine Ab rfl ?_ ?_;walk_at "v7";exact Ae
end
end Gk28
end
section
namespace Gk28
open PySem L2 J St
local macro_rules | `(tactic| walk_at "ev")=>do
 let l <- ("on1 on2 on3 Hx Io B6 De fzU Gu F8 Ao ifS AF opM m1L m2L Ac Ai Aa Ag peeks peek er ers EY J.andM J.notM IG orT Ds J7 AK share move moves keep GJ mkT lstM vals fzs Ca FR AH Nf B7 F3 J9 retS AS Hj free F7 F6 YG C7 Am DK Hq refs back P5 He B0 isInt isBool IE isTup isStr Bv EI G8 Lq MC Mj Tu FC IM Ht Nr Lr Qj CM ixA B6 De fzU Gu F8 Option.some_or Option.none_or Option.bind_none AW Dq atI ixN eqA neA ltA leA gtA geA Mp Bi nameOf lock unlock shB Kt Gg O5 LR KJ Jk YY YZ slF own IB Je KG IC Hy Fw Mq Oy Lg inA Cg".splitOn " ").mapM fun s=>`(Lean.Parser.Tactic.simpLemma| $(Lean.mkIdent s.toName):ident)
 let l:=l.toArray
 `(tactic| simp [-List.map_map,$l,*, *])
structure Hs where
 n:Int
 ls:List (Nat×List Int)
noncomputable def chD(c:Nat):D:=.str ⟨#[c]⟩
noncomputable def ld(p:Nat×List Int):D:=.tup [chD p.1,.lst (iL p.2)]
noncomputable def Hs.d(h:Hs):D:=.tup [.int h.n,.lst (h.ls.map ld)]
structure Hs.Ok (h:Hs):Prop where
 n1:2<=h.n
 n2:h.n<=4
 l1:1<=h.ls.length
 l2:h.ls.length<=6
 ch:∀p∈h.ls,97<=p.1/\p.1<=122
 ri:(h.ls.map (·.1)).Pairwise (· < ·)
 hs:∀p∈h.ls,p.2≠[]/\p.2.Pairwise (· < ·)/\∀x∈p.2,0<=x/\x<h.n
@[simp] theorem N6(st:Own)(d:D):Ci [(st,.fz d)]=some (.fz (.bl (isInt d&&!isBool d)),[.fz d]):=by
 simp only[Ci,fnM,Hw];cases d<;>walk_at "ev"
@[simp] theorem OU(s1 s2:Own)(i b:Int):Ba [(s1,.fz (.int i)),(s2,.fz (.int b))]=some (.fz (.bl (decide (0<=i)&&decide (i<b))),[.fz (.int i),.fz (.int b)]):=by
 simp only[Ba,fnM,DY];by_cases h0:0<=i<;>walk_at "ev" <;> simp[h0]
@[simp] theorem KY(st:Own)(x y:D):CK [(st,.fz (.tup [x,y]))]=some (.fz (.bl true),[.fz (.tup [x,y])]):=by
 simp only[CK,fnM,Iz];walk_at "ev"
theorem Nn{α:Type}(xs:List α)(f:α -> Bool):(xs.map f).all id=xs.all f:=by simp[List.all_map]
theorem Kr(s1 s2:Own)(xs:List Int)(b:Int)(hl:xs.length<=LIM):BE [(s1,.fz (.lst (iL xs))),(s2,.fz (.int b))]=some (.fz (.bl (xs.all fun i=>decide (0<=i)&&decide (i<b))),[.fz (.lst (iL xs)),.fz (.int b)]):=by
 have hc:=Ib (it:=Bi (Aa 0)) (e:=Am Ba (Ac (Aa 0) (Ac (Aa 2) Ai))) (Z:=[some (s1,.fz (.lst (iL xs))),some (s2,.fz (.int b))]) (Z1:=[some (s1,.fz (.lst (iL xs))),some (s2,.fz (.int b))]) (ds:=iL xs) (n:=none) (f:=fun d=>.bl (decide (0<=nD d)&&decide (nD d<b))) (by walk_at "ev") (by simpa using hl) (fun d hd=>by
  obtain⟨i,_,rfl⟩:=NM.mp hd;refine⟨.val (.fz (.bl (decide (0<=i)&&decide (i<b)))),?_,?_⟩<;>walk_at "ev" <;> rfl)
 rw[VR (fun i=>D.bl (decide (0<=i)&&decide (i<b)))] at hc;refine Dp (Z:=[some (s1,.fz (.lst (iL xs))),some (s2,.fz (.int b))]) rfl ?_;show B5 [some (s1,.fz (.lst (iL xs))),some (s2,.fz (.int b))]=_;unfold B5;refine Hh ?_;simp only[on1,on2,on3,Hx,Io,B6,De,fzU,Gu,F8,opM,Ac,Ai,hc,Option.bind_some,Option.map_some,peeks,peek,Gg,Dq,Ca,Fw,Nn]
@[simp] theorem LN(s1 s2:Own)(xs:List Int)(b:Int)(hl:xs.length<=LIM):AU [(s1,.fz (.lst (iL xs))),(s2,.fz (.int b))]=some (.fz (.bl (xs.all fun i=>decide (0<=i)&&decide (i<b))),[.fz (.lst (iL xs)),.fz (.int b)]):=by
 have e1:=Kr .own .own xs b hl;simp only[AU,fnM,BZ];clear hl;walk_at "ev"
theorem B9{α:Type}{xs:List α}{k:Nat}{i:Int}(hi:i=k)(h:k<xs.length):atI xs i=some xs[k]:=by
 subst hi;simp[atI,ixN,h]
theorem RP{xs:List Int}(h:xs.Pairwise (· < ·)){k:Nat}(hk:k+1<xs.length):xs[k]'(by lia)<xs[k+1]:=List.pairwise_iff_getElem.mp h k (k+1) (by lia) hk (by lia)
theorem YE{ds:List D}(h:∀d∈ds,d=.bl true):∃bs:List Bool,Dl ds=some bs/\bs.all id=true:=by
 induction ds with
 | nil=>exact⟨[],rfl,rfl⟩
 | cons d ds ih =>
  obtain⟨bs,h1,h2⟩:=ih fun x hx=>h x (List.mem_cons_of_mem _ hx);have:=h d List.mem_cons_self;subst this;exact⟨true::bs,by simp[Dl,h1],by simpa using h2⟩
theorem all_true{it:MI}{e:ME}{Z Z1:Ro}{ds:List D}{n:Option Nat}(hi:it Z=some (ds,n,Z1))(hl:ds.length<=LIM)(he:∀d∈ds,e (J.own d::lock Z1 n)=some (.val (.fz (.bl true)),J.own d::lock Z1 n)):
  opM Gg (Ac (AG it 0 BA e) Ai) Z=some (.val (.fz (.bl true)),Z1):=by
 have hc:=Ib (f:=fun _=>.bl true) hi hl fun d hd=>⟨_,he d hd,by simp[share,er]⟩;obtain⟨bs,h1,h2⟩:=YE (ds:=ds.map fun _=>D.bl true) (by simp);simp only[on1,on2,on3,Hx,Io,B6,De,fzU,Gu,F8,opM,Ac,Ai,hc,Option.bind_some,Option.map_some,peeks,peek,Gg,Dq,Ca,h1,h2]
theorem RV(s1 s2:Own)(xs:List Int)(b:Int)(hl:xs.length<=1000)(hr:xs.Pairwise (· < ·))(hb:∀x∈xs,0<=x/\x<b):A4 [(s1,.fz (.lst (iL xs))),(s2,.fz (.int b))]=some (.fz (.bl true),[.fz (.lst (iL xs)),.fz (.int b)]):=by
 have hL:xs.length<=LIM:=Nat.le_trans hl (by decide);simp only[A4,fnM,CA];have h1:(xs.all fun i=>decide (0<=i)&&decide (i<b))=true:=by simpa[List.all_eq_true] using hb
 have hc:=all_true (it:=A9 (opM EI (m2L (opM CM (Ac (Aa 0) Ai)) (Ag (.int 1))))) (e:=opM ltA (m2L (opM ixA (m2L (Aa 1) (Aa 0))) (opM ixA (m2L (Aa 1) (opM Bv (m2L (Aa 0) (Ag (.int 1)))))))) (Z:=[some (s1,.fz (.lst (iL xs))),some (s2,.fz (.int b))]) (ds:=Di 0 ((xs.length:Int)-1).toNat) (n:=none) (Z1:=[some (s1,.fz (.lst (iL xs))),some (s2,.fz (.int b))])
  (by
   have : -(2 ^ 62)<=(xs.length:Int)-1/\(xs.length:Int)-1<2 ^ 62:=by lia
   simp only[A9]; walk_at "ev"; lia) (by rw[J4]; lia) (fun d hd=>by
   obtain⟨j,hj⟩:=List.mem_iff_getElem?.mp hd;obtain⟨rfl,hj⟩:=Iv hj;have hk:j+1<xs.length:=by lia
   have e1:=B9 (xs:=iL xs) (i:=0+(j:Int)) (k:=j) (by lia) (by simpa using(by lia:j<xs.length));have e2:=B9 (xs:=iL xs) (i:=0+(j:Int)+1) (k:=j+1) (by lia) (by simpa using hk);have e3:=RP hr hk;simp only[iL,List.getElem_map] at e1 e2;simp only[on1,on2,on3,Hx,Io,B6,De,fzU,Gu,F8,Pt,opM,m2L,Ac,Ai,Aa,Ag,J.own,peeks,peek,ixA,B6,De,fzU,Gu,F8,Option.some_or,Option.none_or,Option.bind_none,AW,Bv,ltA,List.getElem?_cons_zero,List.getElem?_cons_succ,Option.bind_some,Option.map_some,iL,e1,e2,e3,decide_true])
 simp only[Ao,ifS,Ds,AF,retS,Am,Ac,Ai,Aa,List.map_cons,List.map_nil,List.getElem?_cons_zero,List.getElem?_cons_succ,Option.bind_some,Option.map_some,DK,Hq,refs,List.nodup_nil,if_true,LN _ _ xs b hL,h1,back,peek,EY,Bool.not_true,Bool.false_eq_true,if_false,AS,List.append_nil,List.length_cons,List.length_nil,Nat.sub_self,List.replicate_zero];simp[hc,move,He]
theorem call_of{Φ:Fn}{ms:MA}{Z Z1 Z2:Ro}{rs:List R}{as:List (Own×A)}{a:A}{os:List A}(h1:ms Z=some (rs,Z1))(h2:DK Z1 rs=some as)(hn:decide (refs rs).Nodup=true)(h3 : Φ as=some (a,os))(hb:back rs os Z1=Z2):Am Φ ms Z=some (.val a,Z2):=by
 subst hb;simp only[Am,h1,h2,h3,Option.bind_some,Option.map_some,if_pos (of_decide_eq_true hn)]
theorem E7{f:List A->Option A}{ms:MA}{Z Z1:Ro}{rs:List R}{as:List A}{c:A}(h1:ms Z=some (rs,Z1))(h2:peeks Z1 rs=some as)(h3:f as=some c):opM f ms Z=some (.val c,Z1):=by
 simp only[opM,h1,h2,h3,Option.bind_some,Option.map_some]
theorem ixL{T:List D}{i:Int}{d:D}(h:atI T i=some d):ixA [.lst (T.map A.fz),.fz (.int i)]=some (.fz d):=by
 simp only[on1,on2,on3,Hx,Io,ixA,B6,fzU,Gu,AW,De,F8,Ca,h,Option.bind_some,Option.map_some,Option.some_or,Option.none_or,Option.bind_none]
theorem ixF{T:List D}{i:Int}{d:D}(h:atI T i=some d):ixA [.fz (.lst T),.fz (.int i)]=some (.fz d):=by
 simp only[on1,on2,on3,Hx,Io,ixA,B6,fzU,Gu,AW,De,F8,h,Option.bind_some,Option.map_some,Option.some_or,Option.none_or,Option.bind_none]
theorem ixS{z:Str}{i:Int}{c:Nat}(h:atI z.cps.toList i=some c):ixA [.fz (.str z),.fz (.int i)]=some (.fz (chD c)):=by
 simp only[on1,on2,on3,Hx,Io,ixA,B6,fzU,Gu,AW,De,F8,h,chD,Option.bind_some,Option.map_some,Option.some_or,Option.none_or,Option.bind_none,Option.map_none]
theorem N8{i j:Int}(h:decide (0<=j/\j<=1000000/\i.natAbs<2 ^ 64)=true):FC [.fz (.int i),.fz (.int j)]=some (.fz (.int (i*2 ^ j.toNat))):=by
 simp only[on1,on2,on3,Hx,Io,FC,G8,B6,fzU,Gu,Option.bind_some,h,if_true]
theorem WZ{i j:Int}(h:decide (0<=j)=true):IM [.fz (.int i),.fz (.int j)]=some (.fz (.int (i / 2 ^ j.toNat))):=by
 simp only[on1,on2,on3,Hx,Io,IM,G8,B6,fzU,Gu,Option.bind_some,h,if_true]
theorem GA{m1 m2:ME}{Z Z1 Z2:Ro}{r1 r2:R}(h1:m1 Z=some (r1,Z1))(h2:m2 Z1=some (r2,Z2)):m2L m1 m2 Z=some ([r1,r2],Z2):=by
 simp only[m2L,Ac,Ai,h1,h2,Option.bind_some,Option.map_some]
theorem M5{m:ME}{Z Z1:Ro}{n:Int}(h:m Z=some (.val (.fz (.int n)),Z1))(h0 : -1000<=n)(h1:n<=1000000):A9 m Z=some (Di 0 n.toNat,none,Z1):=by
 have e0:(-(2 ^ 62)<=n/\n<2 ^ 62)=True:=by simp; lia
 simp only[A9,h,Option.bind_some,e0,if_true]
noncomputable abbrev oI(i:Int):Slot:=some (.own,.fz (.int i))
noncomputable abbrev pN(x:Slot):Prop:=x=none\/∃d,x=some (Own.own,A.fz d)
local macro_rules | `(tactic| walk_at "eo")=>do
 let l <- ("Ao ifS S5 AF opM m1L m2L Ac Ai Aa Ag peeks peek er ers EY J.andM J.notM IG orT Ds J7 AK share move moves keep GJ mkT lstM vals fzs Ca FR AH Nf B7 F3 J9 retS AS Hj free F7 F6 C7 Am DK Hq refs back P5 He B0 isInt isBool IE isTup isStr Bv EI G8 Lq MC Mj Tu FC IM Ht Nr Lr Qj CM ixA B6 De fzU Gu F8 Option.some_or Option.none_or Option.bind_none AW Dq eqA neA ltA leA gtA geA Mp Bi nameOf lock unlock IZ shB Kt Gg O5 LR KJ Jk slF J.own IB Je KG IC Hy Fw Mq Oy Lg BP inA Cg A9 N9 Pc Mg Lo IA on1 on2 on3 Hx Io Ex Ij Ss List.getElem?_cons_zero List.getElem?_cons_succ List.getElem?_nil Option.bind_some Option.bind_none Option.map_some Option.map_none List.map_cons List.map_nil List.cons_append List.nil_append List.append_nil List.length_cons List.length_nil List.length_map List.replicate_zero List.replicate_succ List.nodup_nil List.set_cons_zero List.set_cons_succ List.take_succ_cons List.take_zero if_true if_false Bool.not_true Bool.not_false Bool.false_eq_true reduceIte reduceCtorEq Nat.reduceSub Nat.reduceAdd Nat.sub_self Bool.true_and Bool.and_true Bool.false_and Bool.and_false Bool.true_or Bool.or_true Bool.false_or Bool.or_false decide_true decide_false beq_self_eq_true and_self and_true true_and Nat.zero_add List.nodup_cons List.not_mem_nil not_false_eq_true".splitOn " ").mapM fun s=>`(Lean.Parser.Tactic.simpLemma| $(Lean.mkIdent s.toName):ident)
 let l:=l.toArray
 `(tactic| simp only [$l,*, *])
theorem XH:(Str.ofString "a").cps.toList=[97]:=by decide +kernel
theorem XI:(Str.ofString "z").cps.toList=[122]:=by decide +kernel
theorem NI(a b:Nat):([a] < [b])↔a<b:=by
 rw[List.cons_lt_cons_iff];constructor
 .rintro (h|⟨_,h⟩)
  .exact h
  .exact absurd h (List.not_lt_nil _)
 .intro h; exact .inl h
theorem at0{α:Type}(a:α)(xs:List α):atI (a::xs) 0=some a:=by simp[atI,ixN]
theorem at1{α:Type}(a b:α)(xs:List α):atI (a::b::xs) 1=some b:=by
 have:(1:Int)<((xs.length:Int)+1+1):=by lia
 simp[atI,ixN,this]
theorem TY(st:Own)(c:Nat)(h:97<=c/\c<=122):Br [(st,.fz (chD c))]=some (.fz (.bl true),[.fz (chD c)]):=by
 have e1:decide ([c] < [97])=false:=by rw[decide_eq_false_iff_not,NI]; lia
 have e2:decide ([122] < [c])=false:=by rw[decide_eq_false_iff_not,NI]; lia
 have e3:((Str.length ⟨#[c]⟩:Nat):Int)=1:=rfl;have e4:=XH;have e5:=XI;simp only[Br,fnM,DZ,chD];walk_at "eo"
theorem TN(s1 s2:Own)(n:Int)(p:Nat×List Int)(h:97<=p.1/\p.1<=122)(hl:p.2.length<=1000)(h0:p.2≠[])(hr:p.2.Pairwise (· < ·))(hb:∀x∈p.2,0<=x/\x<n):CO [(s1,.fz (.int n)),(s2,.fz (ld p))]=some (.fz (.bl true),[.fz (.int n),.fz (ld p)]):=by
 have hp:decide ((0:Int)<(p.2.length:Int))=true:=by
  have:=List.length_pos_iff.mpr h0;simpa using this
 have e1:=at0 (chD p.1) [.lst (iL p.2)];have e2:=at1 (chD p.1) (.lst (iL p.2)) [];have e3:=TY .own p.1 h;have e4:=RV .own .own p.2 n hl hr hb;have e5:=KY .own (chD p.1) (.lst (iL p.2));clear hb hr h0 h hl;simp only[CO,fnM,Hu,ld];walk_at "eo"
theorem TM(st:Own)(n:Int)(h1:2<=n)(h2:n<=4):Bg [(st,.fz (.int n))]=some (.fz (.bl true),[.fz (.int n)]):=by
 have e1:=N6 .own (.int n);simp only[Bg,fnM,Dj];walk_at "eo"
theorem RQ{n lo:Int}:∀{xs:List Int},xs.Pairwise (· < ·)->(∀x∈xs,lo<=x/\x<n)->(xs.length:Int)<=max 0 (n-lo):=by
 intro xs;induction xs generalizing lo with
 | nil=>intro _ _; simp; lia
 | cons x xs ih =>
  intro hp hb;have:=ih (lo:=x+1) (List.pairwise_cons.mp hp).2 fun y hy=>⟨by have:=(List.pairwise_cons.mp hp).1 y hy; lia,(hb y (List.mem_cons_of_mem _ hy)).2⟩;have:=hb x List.mem_cons_self;simp only[List.length_cons];lia
theorem Hs.Ok.hl{h:Hs}(ok:h.Ok):∀p∈h.ls,p.2.length<=4:=fun p hp=>by
 obtain⟨_,r,b⟩:=ok.hs p hp;have n2:=ok.n2;have:=RQ r b;lia
theorem PY(s1 s2:Own)(h:Hs)(ok:h.Ok):C2 [(s1,.fz (.int h.n)),(s2,.fz (.lst (h.ls.map ld)))]=some (.fz (.bl true),[.fz (.int h.n),.fz (.lst (h.ls.map ld))]):=by
 have l1:=ok.l1;have l2:=ok.l2;have hlim:1000<=LIM:=by decide
 have hc1:=all_true (it:=Bi (Aa 1)) (e:=Am CO (Ac (Aa 1) (Ac (Aa 0) Ai))) (Z:=[some (s1,.fz (.int h.n)),some (s2,.fz (.lst (h.ls.map ld)))]) (ds:=h.ls.map ld) (n:=none) (Z1:=[some (s1,.fz (.int h.n)),some (s2,.fz (.lst (h.ls.map ld)))])
  (by walk_at "eo") (by simp; lia) (fun d hd=>by
   obtain⟨p,hp,rfl⟩:=List.mem_map.mp hd;obtain⟨h0,hr,hb⟩:=ok.hs p hp;have e1:=TN .own .own h.n p (ok.ch p hp) (by have:=ok.hl p hp; lia) h0 hr hb;clear hb hr h0 hd hp;walk_at "eo")
 have hc2:=all_true (it:=A9 (opM EI (m2L (opM CM (Ac (Aa 1) Ai)) (Ag (.int 1))))) (e:=opM ltA (m2L (opM ixA (m2L (opM ixA (m2L (Aa 2) (Aa 0))) (Ag (.int 0)))) (opM ixA (m2L (opM ixA (m2L (Aa 2) (opM Bv (m2L (Aa 0) (Ag (.int 1)))))) (Ag (.int 0)))))) (Z:=[some (s1,.fz (.int h.n)),some (s2,.fz (.lst (h.ls.map ld)))]) (ds:=Di 0 ((h.ls.length:Int)-1).toNat) (n:=none) (Z1:=[some (s1,.fz (.int h.n)),some (s2,.fz (.lst (h.ls.map ld)))])
  (by
   have e0:(-(2 ^ 62)<=(h.ls.length:Int)-1/\(h.ls.length:Int)-1<2 ^ 62)=True:=by simp; lia
   clear hc1;walk_at "eo") (by rw[J4]; lia) (fun d hd=>by
   obtain⟨j,hj⟩:=List.mem_iff_getElem?.mp hd;obtain⟨rfl,hj⟩:=Iv hj;have hk:j+1<h.ls.length:=by lia
   have e1:=B9 (xs:=h.ls.map ld) (i:=0+(j:Int)) (k:=j) (by lia) (by simpa using(by lia:j<h.ls.length));have e2:=B9 (xs:=h.ls.map ld) (i:=0+(j:Int)+1) (k:=j+1) (by lia) (by simpa using hk);have e3:(h.ls[j]'(by lia)).1<(h.ls[j+1]).1:=by
    have:=List.pairwise_iff_getElem.mp ok.ri j (j+1) (by simp; lia) (by simpa using hk) (by lia);simpa using this
   simp only[List.getElem_map,ld,chD] at e1 e2;have e4:decide ([(h.ls[j]'(by lia)).1] < [(h.ls[j+1]).1])=true:=by rw[decide_eq_true_iff]; exact(NI _ _).mpr e3
   have e5:=at0 (D.str ⟨#[(h.ls[j]'(by lia)).1]⟩) [.lst (iL (h.ls[j]'(by lia)).2)];have e6:=at0 (D.str ⟨#[(h.ls[j+1]).1]⟩) [.lst (iL (h.ls[j+1]).2)];clear hc1 hd e3 hj l1 l2 hlim;walk_at "eo")
 have e5:decide ((1:Int)<=(h.ls.length:Int))=true:=by simp; lia
 have e6:decide ((h.ls.length:Int)<=6)=true:=by simp; lia
 clear l1 l2 hlim;refine Dp (Z:=[some (s1,.fz (.int h.n)),some (s2,.fz (.lst (h.ls.map ld)))]) rfl ?_;show DM [some (s1,.fz (.int h.n)),some (s2,.fz (.lst (h.ls.map ld)))]=_;unfold DM;rw[A8 (Z1:=[some (s1,.fz (.int h.n)),some (s2,.fz (.lst (h.ls.map ld)))]) (by clear hc1 hc2; walk_at "eo"),A8 (Vq (not_of (LV hc1)))];exact Hh hc2
theorem N5(st:Own)(h:Hs)(ok:h.Ok):DF [(st,.fz h.d)]=some (.fz (.bl true),[.fz h.d]):=by
 have e1:=PY .own .own h ok;have e2:=TM .own h.n ok.n1 ok.n2;have e3:=KY .own (.int h.n) (.lst (h.ls.map ld));have e4:=at0 (D.int h.n) [.lst (h.ls.map ld)];have e5:=at1 (D.int h.n) (.lst (h.ls.map ld)) [];simp only[DF,fnM,Hv,Hs.d];walk_at "eo"
theorem HX(st:Own)(h:Hs)(ok:h.Ok):BI [(st,.fz h.d)]=some (.fz .non,[.fz h.d]):=by
 have e1:=N5 .own h ok;simp only[BI,fnM,Gm];walk_at "eo"
noncomputable def Hs.text(h:Hs):Str:=⟨(h.ls.map (·.1)).toArray⟩
theorem K1:∀(xs:List (Nat×List Int)),IF (xs.map fun p=>chD p.1)=some (xs.map fun p=>(⟨#[p.1]⟩:Str))
 | []=>rfl
 | x::xs=>by
  have ih:=K1 xs;simp only[chD] at ih;simp[IF,chD,ih]
theorem QD(xs:List (Nat×List Int)):glue (xs.map fun p=>(⟨#[p.1]⟩:Str))=⟨(xs.map (·.1)).toArray⟩:=by
 unfold glue;congr 1;congr 1;induction xs with
 | nil=>rfl
 | cons x xs ih=>simp at ih |-; exact ih
theorem RZ(xs:List (Nat×List Int)):((xs.map fun p=>(⟨#[p.1]⟩:Str)).map (·.length)).sum=xs.length:=by
 induction xs with
 | nil=>rfl
 | cons x xs ih =>
  have:Str.length ⟨#[x.1]⟩=1:=rfl;simp only[List.map_cons,List.sum_cons,ih,this,List.length_cons];lia
theorem HW(st:Own)(h:Hs)(ok:h.Ok):BH [(st,.fz h.d)]=some (.fz (.str h.text),[.fz h.d]):=by
 have e5:=at1 (D.int h.n) (.lst (h.ls.map ld)) [];have l2:=ok.l2;have hlim:1000<=LIM:=by decide
 have hc:=Ib (it:=Bi (opM ixA (m2L (Aa 0) (Ag (.int 1))))) (e:=opM ixA (m2L (Aa 0) (Ag (.int 0)))) (Z:=[some (st,.fz h.d)]) (Z1:=[some (st,.fz h.d)]) (ds:=h.ls.map ld) (n:=none) (f:=fun d=>match d with | .tup (x::_)=>x|d=>d)
  (by simp only[Hs.d]; walk_at "eo") (by simp; lia) (fun d hd=>by
   obtain⟨p,hp,rfl⟩:=List.mem_map.mp hd;have e6:=at0 (chD p.1) [.lst (iL p.2)];simp only[ld];refine⟨.val (.fz (chD p.1)),?_,?_⟩<;>clear hd hp e5<;>walk_at "eo")
 have e1:(h.ls.map ld).map (fun d=>match d with | .tup (x::_)=>x|d=>d)=h.ls.map fun p=>chD p.1:=by simp[ld]
 rw[e1] at hc;have e2:=K1 h.ls;have e3:=QD h.ls;have e4:(((h.ls.map fun p=>(⟨#[p.1]⟩:Str)).map (·.length)).sum<=16777216)=True:=by rw[RZ]; simp; lia
 have e7:((Str.ofString "").length=0)=True:=by
  have:(Str.ofString "").length=0:=by decide +kernel
  simp[this]
 refine Dp (Z:=[some (st,.fz h.d)]) rfl ?_;show Em [some (st,.fz h.d)]=_;unfold Em;refine Hh ?_;simp only[on1,on2,on3,Hx,Io,B6,De,fzU,Gu,F8,LR,Ag,Option.bind_some,m1L,Ac,Ai,hc,Option.map_some,peeks,peek,KJ,e7,if_true,Dq,Ca,e2,e4,e3,Hs.text]
noncomputable def Row(h:Hs)(z:Str):Prop:=z.length<=1000/\∀c∈z.cps.toList,c∈h.ls.map (·.1)
noncomputable def Hs.hands(h:Hs)(c:Nat):List Int:=((h.ls.find? fun p=>p.1==c).map (·.2)).getD []
theorem Jg{h:Hs}(ok:h.Ok){c:Nat}(hc:c∈h.ls.map (·.1)):∃(j:Nat) (hj:j<h.ls.length),(h.ls[j]).1=c/\Txt.find h.text ⟨#[c]⟩=(j:Int)/\h.hands c=(h.ls[j]).2:=by
 obtain⟨p,hp,rfl⟩:=List.mem_map.mp hc;obtain⟨j,hj,rfl⟩:=List.mem_iff_getElem.mp hp;have nd:∀k (hk:k<j),(h.ls[k]'(by lia)).1≠(h.ls[j]).1:=fun k hk=>by
  have:=List.pairwise_iff_getElem.mp ok.ri k j (by simp; lia) (by simpa using hj) hk;simp at this;lia
 refine⟨j,hj,rfl,Qy (by simp[Hs.text,hj]) (fun k hk=>?_),?_⟩
 .have hk':k<h.ls.length:=by lia
  simp only[Hs.text];rw[List.getElem?_eq_getElem (by simpa using hk')];simp;exact nd k hk
 .have:h.ls.find? (fun p=>p.1==(h.ls[j]).1)=some h.ls[j]:=by
   rw[List.find?_eq_some_iff_getElem];refine⟨by simp,j,hj,rfl,fun k hk=>?_⟩;have:=nd k hk;simpa using this
  simp[Hs.hands,this]
theorem Hs.hands_len{h:Hs}(ok:h.Ok)(c:Nat):(h.hands c).length<=4:=by
 unfold Hs.hands;cases e:h.ls.find? (fun p=>p.1==c) with
 | none=>simp
 | some p=>simpa using ok.hl p (List.mem_of_find?_eq_some e)
theorem N4(s1 s2:Own)(h:Hs)(ok:h.Ok)(c:Nat)(hc:c∈h.ls.map (·.1)):E3 [(s1,.fz h.d),(s2,.fz (chD c))]=some (.fz (.lst (iL (h.hands c))),[.fz h.d,.fz (chD c)]):=by
 have e1:=HW .own h ok;have e5:=at1 (D.int h.n) (.lst (h.ls.map ld)) [];obtain⟨j,hj,e2,e3,e4⟩:=Jg ok hc;have e6:(0<=Txt.find h.text ⟨#[c]⟩)=True:=by rw[e3]; simp
 have e7:=B9 (xs:=h.ls.map ld) (i:=(j:Int)) (k:=j) rfl (by simpa using hj);have e8:ld (h.ls[j])=.tup [chD c,.lst (iL (h.hands c))]:=by rw[ld,e2,e4]
 simp only[List.getElem_map] at e7;rw[e8] at e7;have e9:=at1 (chD c) (.lst (iL (h.hands c))) [];rw[<- e3] at e7;clear e2 e3 e4 e8 hc;refine Dp (Z:=[some (s1,.fz h.d),some (s2,.fz (chD c))]) rfl ?_;show FQ [some (s1,.fz h.d),some (s2,.fz (chD c))]=_;simp only[FQ,Hs.d,chD] at e1 |-;simp only[chD] at e7 e9;walk_at "eo"
noncomputable def Bag(n:Nat)(as:List A):Prop:=∃x y:Int,as=[.fz (.int x),.fz (.int y)]/\0<=y/\y<=n
theorem Bag.mono{n m:Nat}{as:List A}(h:Bag n as)(hm:n<=m):Bag m as:=by
 obtain⟨x,y,e,h1,h2⟩:=h;exact⟨x,y,e,h1,by lia⟩
theorem U0(st:Own)(x:Int):∃as a1,Bag 1 as/\DE [(st,.fz (.int x))]=some (.lst as,[a1]):=by
 have p1:decide ((0:Int)<=18/\(18:Int)<=1000000/\Int.natAbs 10<2 ^ 64)=true:=by decide
 have l2:((2:Nat)<=LIM)=True:=by simp[LIM,sizeLine]
 have p2:decide ((0:Int)<2147483647)=true:=by decide
 by_cases h:(10:Int) ^ (18:Int).toNat<=(if x<0 then -x else x)
 .refine⟨_,_,⟨(if x<0 then -x else x),0,rfl,by lia,by lia⟩,Dp (Z:=[some (st,.fz (.int x))]) rfl ?_⟩
  show CU [some (st,.fz (.int x))]=_;unfold CU;have h':=decide_eq_true h;clear h;walk_at "eo"
 .refine⟨_,_,⟨x % 2147483647,1,rfl,by lia,by lia⟩,Dp (Z:=[some (st,.fz (.int x))]) rfl ?_⟩
  show CU [some (st,.fz (.int x))]=_;unfold CU;have h':=decide_eq_false h;clear h;walk_at "eo"
theorem EH{n:Nat}{as:List A}(hb:Bag n as)(hn:n<=1000000)(m:Int)(hm:0<m)(hm2:m<1099511627776):∃(d:Int) (as':List A),0<=d/\d<m/\Bag (n+1) as'/\Ah [(.lent,.lst as),(.own,.fz (.int m))]=some (.fz (.int d),[.lst as',.fz (.int m)]):=by
 obtain⟨x,y,rfl,h1,h2⟩:=hb;have m1:decide (0<m)=true:=decide_eq_true hm;have m2:decide (0<m/\m<1099511627776)=true:=decide_eq_true ⟨hm,hm2⟩;have i0:ixN 2 0=some 0:=by rfl
 have i1:ixN 2 1=some 1:=by rfl
 by_cases hy:y=0
 .subst hy
  refine⟨x % m,[.fz (.int (x / m)),.fz (.int 0)],Int.emod_nonneg _ (by lia),Int.emod_lt_of_pos _ hm,⟨_,_,rfl,by lia,by lia⟩,Dp (Z:=[some (.lent,.lst [.fz (.int (x / m)),.fz (.int 0)]),some (.own,.fz (.int m)),some (.own,.fz (.int (x % m)))]) rfl ?_⟩;show Cz [some (.lent,.lst [.fz (.int x),.fz (.int 0)]),some (.own,.fz (.int m)),none]=_;unfold Cz;have a0:=at0 (D.int x) [D.int 0];have a1:=at1 (D.int x) (D.int 0) [];clear hm hm2 h1 h2 hn;walk_at "eo"
 .let x':=(x*48271+7919*y*y+17) % 2147483647
  have e1:eqD (.int y) (.int 0)=false:=by simp[IB,Je,KG,IC,Hy,hy]
  have c1:(-(2 ^ 64)<x/\x<2 ^ 64 \/ -(2 ^ 64)<(48271:Int)/\(48271:Int)<2 ^ 64)=True:=by simp
  have c2:(-(2 ^ 64)<(7919:Int)/\(7919:Int)<2 ^ 64 \/ -(2 ^ 64)<y/\y<2 ^ 64)=True:=by simp
  have c3:(-(2 ^ 64)<7919*y/\7919*y<2 ^ 64 \/ -(2 ^ 64)<y/\y<2 ^ 64)=True:=by simp; lia
  have c4:(-(2 ^ 64)<x'/\x'<2 ^ 64 \/ -(2 ^ 64)<(69621:Int)/\(69621:Int)<2 ^ 64)=True:=by simp
  have d1:decide ((0:Int)<2147483647)=true:=by decide
  have d2:decide ((0:Int)<2147483629)=true:=by decide
  have d3:decide ((0:Int)<5/\(5:Int)<1099511627776)=true:=by decide
  have hx:(x*48271+7919*y*y+17) % 2147483647=x':=rfl;refine⟨x'*69621 % 2147483629 / 5 % m,[.fz (.int x'),.fz (.int (y+1))],Int.emod_nonneg _ (by lia),Int.emod_lt_of_pos _ hm,⟨_,_,rfl,by lia,by lia⟩,Dp (Z:=[some (.lent,.lst [.fz (.int x'),.fz (.int (y+1))]),some (.own,.fz (.int m)),none]) rfl ?_⟩;show Cz [some (.lent,.lst [.fz (.int x),.fz (.int y)]),some (.own,.fz (.int m)),none]=_;unfold Cz;have a0:=at0 (D.int x) [D.int y];have a1:=at1 (D.int x) (D.int y) [];have a2:=at1 (D.int x') (D.int y) [];have a3:=at0 (D.int x') [D.int (y+1)];rw[A8 (Z1:=[some (.lent,.lst [.fz (.int x),.fz (.int y)]),some (.own,.fz (.int m)),none]) (by
   simp only[IB,Je,KG,IC,Hy] at e1;clear hm hm2 h1 h2 hn c1 c2 c3 c4 hx hy;walk_at "eo"),A8 (Z1:=[some (.lent,.lst [.fz (.int x'),.fz (.int y)]),some (.own,.fz (.int m)),none]) (by
   clear hm hm2 h1 h2 hn c4 hy e1;walk_at "eo"),A8 (Z1:=[some (.lent,.lst [.fz (.int x'),.fz (.int (y+1))]),some (.own,.fz (.int m)),none]) (by
   clear hm hm2 h1 h2 hn c4 hy e1 c1 c2 c3 hx;walk_at "eo")]
  refine Hh ?_;clear hm hm2 h1 h2 hn hy e1 c1 c2 c3 hx;walk_at "eo"
noncomputable def KC(b:Int)(i:Nat):Bool:=eqD (.int (Builtin.bitAnd (b / 2 ^ i) 1)) (.int 1)
noncomputable def Gj(n:Nat)(b:Int):List Int:=((List.range n).filter (KC b)).map fun(i:Nat)=>(i:Int)
theorem O6(n:Nat)(b:Int):(Gj n b).Pairwise (· < ·):=by
 unfold Gj;rw[List.pairwise_map];have:((List.range n).filter (KC b)).Pairwise (· < ·):=List.Pairwise.filter _ List.pairwise_lt_range;exact this.imp fun h=>by lia
theorem Sz{n:Nat}{b:Int}:∀x∈Gj n b,0<=x/\x<n:=by
 intro x hx;simp only[Gj,List.mem_map,List.mem_filter,List.mem_range] at hx;obtain⟨i,⟨hi,_⟩,rfl⟩:=hx;lia
theorem L7:∀n∈[2,3,4],∀b∈List.range 16,1<=b->b<2 ^ n->Gj n (b:Int)≠[]:=by decide +kernel
theorem Wc:∀n∈[2,3,4],∀a∈List.range n,∀b∈List.range n,1<=Builtin.bitOr (1*2 ^ a) (1*2 ^ b)/\Builtin.bitOr (1*2 ^ a) (1*2 ^ b)<2 ^ n:=by decide +kernel
theorem SA{n:Nat}{b:Int}(hn:n=2\/n=3\/n=4)(h1:1<=b)(h2:b<2 ^ n):Gj n b≠[]:=by
 obtain⟨k,rfl⟩:∃k:Nat,b=k:=⟨b.toNat,by lia⟩;have h16:(2:Int) ^ n<=16:=by rcases hn with rfl|rfl|rfl<;>decide
 refine L7 n (by rcases hn with rfl|rfl|rfl<;>simp) k (by simp; lia) (by lia) ?_;have:((k:Nat):Int)<((2 ^ n:Nat):Int):=by simpa using h2
 lia
theorem cons_of{m:ME}{ms:MA}{Z Z1 Z2:Ro}{r:R}{rs:List R}(h1:m Z=some (r,Z1))(h2:ms Z1=some (rs,Z2)):Ac m ms Z=some (r::rs,Z2):=by simp[Ac,h1,h2]
theorem HR{m:ME}{Z Z1 Z2:Ro}{r:R}{d:D}(h1:m Z=some (r,Z1))(h2:share Z1 r=some (d,Z2)):AK m Z=some (.val (.fz d),Z2):=by simp[AK,h1,h2]
theorem O2{ms:MA}{Z Z1:Ro}{a b:D}(h:ms Z=some ([.val (.fz a),.val (.fz b)],Z1)):GJ ms Z=some (.val (.fz (.tup [a,b])),Z1):=by
 simp[GJ,h,moves,move,mkT,fzs,LIM,sizeLine]
theorem Vb{m:ME}{i:Nat}{Z:Ro}{st:Own}{as:List A}{a:A}(h0:C7 Z i=some (st,as))(h:m Z=some (.val a,Z))(hl:as.length<LIM):F6 i m Z=some (.next (Z.set i (some (st,.lst (as++[a]))))):=by
 simp only[F6,h0,Option.bind_some,h,keep,if_pos hl]
theorem GS(Z:Ro)(ds:List D):share Z (.val (.lst (ds.map A.fz)))=some (.lst ds,Z):=by
 simp[share,er,FR]
theorem Sw:∀k∈List.range 26,atI (Str.ofString "abcdefghijklmnopqrstuvwxyz").cps.toList (k:Int)=some (97+k):=by decide +kernel
theorem SD(n:Nat)(b:Int):(((Di 0 n).filter fun d=>KC b (nD d).toNat).map fun d=>d)=iL (Gj n b):=by
 have e1:(fun d=>KC b (nD d).toNat) ∘ (fun(k:Nat)=>D.int (0+(k:Int)))=KC b:=by
  funext k;simp
 have e2:D.int ∘ (fun(i:Nat)=>(i:Int))=fun(k:Nat)=>D.int (0+(k:Int)):=by
  funext k;simp
 rw[List.map_id',Di,List.filter_map,e1,iL,Gj,List.map_map,e2]
structure HI (n:Int) (M j:Nat) (ls:List (Nat×List Int)) (a:Int):Prop where
 len:ls.length=j
 a0:0<=a
 a1:a<=26-M+j
 ch:∀p∈ls,97<=p.1/\(p.1:Int)<97+a
 ri:(ls.map (·.1)).Pairwise (· < ·)
 hs:∀p∈ls,p.2≠[]/\p.2.Pairwise (· < ·)/\∀x∈p.2,0<=x/\x<n
theorem HI.step{n:Int}{M j:Nat}{ls:List (Nat×List Int)}{a d:Int}{hl:List Int}(h:HI n M j ls a)(d0:0<=d)(d1:d<27-M+(0+(j:Int))-a)(hl0:hl≠[])(hl1:hl.Pairwise (· < ·))(hl2:∀x∈hl,0<=x/\x<n):HI n M (j+1) (ls++[(97+(a+d).toNat,hl)]) (a+d+1):=by
 have a0:=h.a0;refine⟨by simp[h.len],by lia,by lia,?_,?_,?_⟩
 .intro p hp
  rcases List.mem_append.mp hp with hp|hp
  .have:=h.ch p hp; lia
  .simp only[List.mem_singleton] at hp; subst hp; simp only; lia
 .rw[List.map_append,List.pairwise_append]
  refine⟨h.ri,by simp,?_⟩;intro x hx y hy;obtain⟨p,hp,rfl⟩:=List.mem_map.mp hx;simp only[List.map_cons,List.map_nil,List.mem_singleton] at hy;subst hy;have:=(h.ch p hp).2;lia
 .intro p hp
  rcases List.mem_append.mp hp with hp|hp
  .exact h.hs p hp
  .simp only[List.mem_singleton] at hp; subst hp; exact⟨hl0,hl1,hl2⟩
noncomputable abbrev eK(as:List A)(n M S:Int)(ls:List (Nat×List Int))(a:Int)(x6 x7:Slot):Ro:=[some (.own,.lst as),oI n,oI M,oI S,some (.own,.lst (ls.map fun p=>A.fz (ld p))),oI a,x6,x7]
noncomputable def cH:MS:=(Ao (AH 5 (opM Bv (m2L (Aa 5) (Am Ah (Ac (Aa 0) (Ac (opM EI (m2L (opM Bv (m2L (opM EI (m2L (Ag (.int 27)) (Aa 2))) (Aa 6))) (Aa 5))) Ai)))))) (Ao (AH 7 (opM Bv (m2L (Ag (.int 1)) (Am Ah (Ac (Aa 0) (Ac (opM EI (m2L (opM FC (m2L (Ag (.int 1)) (Aa 1))) (Ag (.int 1)))) Ai)))))) (Ao (ifS (AF (opM eqA (m2L (Aa 3) (Ag (.int 1))))) (AH 7 (opM Nr (m2L (opM FC (m2L (Ag (.int 1)) (Am Ah (Ac (Aa 0) (Ac (Aa 1) Ai))))) (opM FC (m2L (Ag (.int 1)) (Am Ah (Ac (Aa 0) (Ac (Aa 1) Ai)))))))) AS) (Ao (F6 4 (GJ (Ac (AK (opM ixA (m2L (Ag (.str (Str.ofString "abcdefghijklmnopqrstuvwxyz"))) (Aa 5)))) (Ac (AK (AG (A9 (Aa 1)) 0 (AF (opM eqA (m2L (opM Ht (m2L (opM IM (m2L (Aa 8) (Aa 0))) (Ag (.int 1)))) (Ag (.int 1))))) (Aa 0))) Ai)))) (AH 5 (opM Bv (m2L (Aa 5) (Ag (.int 1)))))))))
theorem LM{n M S a:Int}{Mn j N:Nat}{as:List A}{ls:List (Nat×List Int)}{x7:Slot}(hM:M=Mn)(hM2:Mn<=6)(hj:j<Mn)(hn:n=2\/n=3\/n=4)(hb:Bag N as)(hN:N<=100000)(hi:HI n Mn j ls a)(hx7:pN x7):
  ∃as' ls' a' b,cH (eK as n M S ls a (oI (0+(j:Int))) x7)=some (.next (eK as' n M S ls' a' (oI (0+(j:Int))) (oI b)))/\Bag (N+4) as'/\HI n Mn (j+1) ls' a':=by
 have a0:=hi.a0;have a1:=hi.a1;have hp:(1:Int)*2 ^ n.toNat-1<=15/\0<(1:Int)*2 ^ n.toNat-1:=by rcases hn with rfl|rfl|rfl<;>decide
 have sh:decide (0<=n/\n<=1000000/\Int.natAbs 1<2 ^ 64)=true:=by rcases hn with rfl|rfl|rfl<;>decide
 obtain⟨d1,as1,g1,g2,b1,t1⟩:=EH hb (by lia) (27-M+(0+(j:Int))-a) (by lia) (by lia);obtain⟨d2,as2,g3,g4,b2,t2⟩:=EH b1 (by lia) ((1:Int)*2 ^ n.toNat-1) (by lia) (by lia);have v1:(Am Ah (Ac (Aa 0) (Ac (opM EI (m2L (opM Bv (m2L (opM EI (m2L (Ag (.int 27)) (Aa 2))) (Aa 6))) (Aa 5))) Ai))) (eK as n M S ls a (oI (0+(j:Int))) x7)=some (.val (.fz (.int d1)),(eK as1 n M S ls a (oI (0+(j:Int))) x7)):=call_of rfl rfl rfl t1 rfl;have v1':(opM Bv (m2L (Aa 5) (Am Ah (Ac (Aa 0) (Ac (opM EI (m2L (opM Bv (m2L (opM EI (m2L (Ag (.int 27)) (Aa 2))) (Aa 6))) (Aa 5))) Ai))))) (eK as n M S ls a (oI (0+(j:Int))) x7)=some (.val (.fz (.int (a+d1))),(eK as1 n M S ls a (oI (0+(j:Int))) x7)):=E7 (GA (r1:=.val (.fz (.int a))) rfl v1) rfl rfl;have st1:AH 5 (opM Bv (m2L (Aa 5) (Am Ah (Ac (Aa 0) (Ac (opM EI (m2L (opM Bv (m2L (opM EI (m2L (Ag (.int 27)) (Aa 2))) (Aa 6))) (Aa 5))) Ai))))) (eK as n M S ls a (oI (0+(j:Int))) x7)=some (.next (eK as1 n M S ls (a+d1) (oI (0+(j:Int))) x7)):=Ia v1' rfl;have w2:(opM FC (m2L (Ag (.int 1)) (Aa 1))) (eK as1 n M S ls (a+d1) (oI (0+(j:Int))) x7)=some (.val (.fz (.int (1*2 ^ n.toNat))),(eK as1 n M S ls (a+d1) (oI (0+(j:Int))) x7)):=E7 rfl rfl (N8 sh);have w2':(opM EI (m2L (opM FC (m2L (Ag (.int 1)) (Aa 1))) (Ag (.int 1)))) (eK as1 n M S ls (a+d1) (oI (0+(j:Int))) x7)=some (.val (.fz (.int (1*2 ^ n.toNat-1))),(eK as1 n M S ls (a+d1) (oI (0+(j:Int))) x7)):=E7 (GA (r2:=.val (.fz (.int 1))) w2 rfl) rfl rfl;have v2:(Am Ah (Ac (Aa 0) (Ac (opM EI (m2L (opM FC (m2L (Ag (.int 1)) (Aa 1))) (Ag (.int 1)))) Ai))) (eK as1 n M S ls (a+d1) (oI (0+(j:Int))) x7)=some (.val (.fz (.int d2)),(eK as2 n M S ls (a+d1) (oI (0+(j:Int))) x7)):=call_of (cons_of (r:=.ref 0) rfl (cons_of w2' rfl)) rfl rfl t2 rfl
 have v2':(opM Bv (m2L (Ag (.int 1)) (Am Ah (Ac (Aa 0) (Ac (opM EI (m2L (opM FC (m2L (Ag (.int 1)) (Aa 1))) (Ag (.int 1)))) Ai))))) (eK as1 n M S ls (a+d1) (oI (0+(j:Int))) x7)=some (.val (.fz (.int (1+d2))),(eK as2 n M S ls (a+d1) (oI (0+(j:Int))) x7)):=E7 (GA (r1:=.val (.fz (.int 1))) rfl v2) rfl rfl;have st2:AH 7 (opM Bv (m2L (Ag (.int 1)) (Am Ah (Ac (Aa 0) (Ac (opM EI (m2L (opM FC (m2L (Ag (.int 1)) (Aa 1))) (Ag (.int 1)))) Ai))))) (eK as1 n M S ls (a+d1) (oI (0+(j:Int))) x7)=some (.next (eK as2 n M S ls (a+d1) (oI (0+(j:Int))) (oI (1+d2)))):=by
  rcases hx7 with rfl|⟨d,rfl⟩<;>exact Ia v2' rfl
 have ct:(AF (opM eqA (m2L (Aa 3) (Ag (.int 1))))) (eK as2 n M S ls (a+d1) (oI (0+(j:Int))) (oI (1+d2)))=some (eqD (.int S) (.int 1),(eK as2 n M S ls (a+d1) (oI (0+(j:Int))) (oI (1+d2)))):=rfl;have st3:∃as3 b,Bag (N+4) as3/\1<=b/\b<2 ^ n.toNat/\(ifS (AF (opM eqA (m2L (Aa 3) (Ag (.int 1))))) (AH 7 (opM Nr (m2L (opM FC (m2L (Ag (.int 1)) (Am Ah (Ac (Aa 0) (Ac (Aa 1) Ai))))) (opM FC (m2L (Ag (.int 1)) (Am Ah (Ac (Aa 0) (Ac (Aa 1) Ai)))))))) AS) (eK as2 n M S ls (a+d1) (oI (0+(j:Int))) (oI (1+d2)))=some (.next (eK as3 n M S ls (a+d1) (oI (0+(j:Int))) (oI b))):=by
  by_cases hS:S=1
  .obtain⟨d3,as3,g5,g6,b3,t3⟩:=EH b2 (by lia) n (by lia) (by lia)
   obtain⟨d4,as4,g7,g8,b4,t4⟩:=EH b3 (by lia) n (by lia) (by lia);have ho:=Wc n.toNat (by rcases hn with rfl|rfl|rfl<;>simp) d3.toNat (by simp; lia) d4.toNat (by simp; lia);have sh3:decide (0<=d3/\d3<=1000000/\Int.natAbs 1<2 ^ 64)=true:=by simp; lia
   have sh4:decide (0<=d4/\d4<=1000000/\Int.natAbs 1<2 ^ 64)=true:=by simp; lia
   refine⟨as4,_,b4.mono (by lia),ho.1,ho.2,?_⟩;have e1:eqD (.int S) (.int 1)=true:=by rw[hS]; exact BC _
   rw[e1] at ct;have u1:(Am Ah (Ac (Aa 0) (Ac (Aa 1) Ai))) (eK as2 n M S ls (a+d1) (oI (0+(j:Int))) (oI (1+d2)))=some (.val (.fz (.int d3)),(eK as3 n M S ls (a+d1) (oI (0+(j:Int))) (oI (1+d2)))):=call_of rfl rfl rfl t3 rfl;have u2:(Am Ah (Ac (Aa 0) (Ac (Aa 1) Ai))) (eK as3 n M S ls (a+d1) (oI (0+(j:Int))) (oI (1+d2)))=some (.val (.fz (.int d4)),(eK as4 n M S ls (a+d1) (oI (0+(j:Int))) (oI (1+d2)))):=call_of rfl rfl rfl t4 rfl;have u3:(opM Nr (m2L (opM FC (m2L (Ag (.int 1)) (Am Ah (Ac (Aa 0) (Ac (Aa 1) Ai))))) (opM FC (m2L (Ag (.int 1)) (Am Ah (Ac (Aa 0) (Ac (Aa 1) Ai))))))) (eK as2 n M S ls (a+d1) (oI (0+(j:Int))) (oI (1+d2)))=some (.val (.fz (.int (Builtin.bitOr (1*2 ^ d3.toNat) (1*2 ^ d4.toNat)))),(eK as4 n M S ls (a+d1) (oI (0+(j:Int))) (oI (1+d2)))):=E7 (GA (E7 (GA (r1:=.val (.fz (.int 1))) rfl u1) rfl (N8 sh3)) (E7 (GA (r1:=.val (.fz (.int 1))) rfl u2) rfl (N8 sh4))) rfl rfl;exact(YH ct).trans (Ia u3 rfl)
  .refine⟨as2,_,b2.mono (by lia),(by lia:1<=1+d2),by lia,?_⟩
   have e1:eqD (.int S) (.int 1)=false:=by simp[IB,Je,KG,IC,Hy,hS]
   rw[e1] at ct;exact(Vq ct).trans rfl
 obtain⟨as3,b,b3,c1,c2,st3⟩:=st3;have hc:(AG (A9 (Aa 1)) 0 (AF (opM eqA (m2L (opM Ht (m2L (opM IM (m2L (Aa 8) (Aa 0))) (Ag (.int 1)))) (Ag (.int 1))))) (Aa 0)) (eK as3 n M S ls (a+d1) (oI (0+(j:Int))) (oI b))=some (.val (.lst ((iL (Gj n.toNat b)).map A.fz)),(eK as3 n M S ls (a+d1) (oI (0+(j:Int))) (oI b))):=by
  have hlim:1000<=LIM:=by decide
  have rg:A9 (Aa 1) (eK as3 n M S ls (a+d1) (oI (0+(j:Int))) (oI b))=some (Di 0 n.toNat,none,(eK as3 n M S ls (a+d1) (oI (0+(j:Int))) (oI b))):=M5 rfl (by lia) (by lia);have:=Md (g:=fun d=>KC b (nD d).toNat) (f:=fun d=>d) (c:=(AF (opM eqA (m2L (opM Ht (m2L (opM IM (m2L (Aa 8) (Aa 0))) (Ag (.int 1)))) (Ag (.int 1)))))) (e:=Aa 0) rg (by rw[J4]; lia) (fun d hd=>by
   obtain⟨i,hi⟩:=List.mem_iff_getElem?.mp hd;obtain⟨rfl,hi⟩:=Iv hi;have e0:decide (0<=(0:Int)+(i:Int))=true:=by simp
   have r1:(opM IM (m2L (Aa 8) (Aa 0))) (own (.int (0+(i:Int)))::(eK as3 n M S ls (a+d1) (oI (0+(j:Int))) (oI b)))=some (.val (.fz (.int (b / 2 ^ (0+(i:Int)).toNat))),own (.int (0+(i:Int)))::(eK as3 n M S ls (a+d1) (oI (0+(j:Int))) (oI b))):=E7 rfl rfl (WZ e0);have r2:(opM Ht (m2L (opM IM (m2L (Aa 8) (Aa 0))) (Ag (.int 1)))) (own (.int (0+(i:Int)))::(eK as3 n M S ls (a+d1) (oI (0+(j:Int))) (oI b)))=some (.val (.fz (.int (Builtin.bitAnd (b / 2 ^ (0+(i:Int)).toNat) 1))),own (.int (0+(i:Int)))::(eK as3 n M S ls (a+d1) (oI (0+(j:Int))) (oI b))):=E7 (GA (r2:=.val (.fz (.int 1))) r1 rfl) rfl rfl;exact LV (E7 (GA (r2:=.val (.fz (.int 1))) r2 rfl) rfl rfl)) (fun d hd _=>⟨.val (.fz d),rfl,rfl⟩)
  rw[this,SD]
 have ha:=Sw (a+d1).toNat (by simp; lia);have hcx:atI (Str.ofString "abcdefghijklmnopqrstuvwxyz").cps.toList (a+d1)=some (97+(a+d1).toNat):=by
  have:(((a+d1).toNat:Nat):Int)=a+d1:=by lia
  rw[this] at ha; exact ha
 have hix:(opM ixA (m2L (Ag (.str (Str.ofString "abcdefghijklmnopqrstuvwxyz"))) (Aa 5))) (eK as3 n M S ls (a+d1) (oI (0+(j:Int))) (oI b))=some (.val (.fz (chD (97+(a+d1).toNat))),(eK as3 n M S ls (a+d1) (oI (0+(j:Int))) (oI b))):=E7 rfl rfl (ixS hcx);have hlsl:(ls.map fun p=>A.fz (ld p)).length<LIM:=by
  have hlim:1000<=LIM:=by decide
  have:=hi.len;simp only[List.length_map]; lia
 have st4:(F6 4 (GJ (Ac (AK (opM ixA (m2L (Ag (.str (Str.ofString "abcdefghijklmnopqrstuvwxyz"))) (Aa 5)))) (Ac (AK (AG (A9 (Aa 1)) 0 (AF (opM eqA (m2L (opM Ht (m2L (opM IM (m2L (Aa 8) (Aa 0))) (Ag (.int 1)))) (Ag (.int 1))))) (Aa 0))) Ai)))) (eK as3 n M S ls (a+d1) (oI (0+(j:Int))) (oI b))=some (.next (eK as3 n M S (ls++[((97+(a+d1).toNat),Gj n.toNat b)]) (a+d1) (oI (0+(j:Int))) (oI b))):=by
  rw[Vb (st:=.own) (as:=ls.map fun p=>A.fz (ld p)) rfl (O2 (cons_of (HR hix rfl) (cons_of (HR hc (GS _ _)) rfl))) hlsl];simp[ld,eK]
 have hbits:=SA (n:=n.toNat) (b:=b) (by lia) c1 c2;refine⟨as3,(ls++[((97+(a+d1).toNat),Gj n.toNat b)]),a+d1+1,b,?_,b3,hi.step g1 (by lia) hbits (O6 _ _) (fun x hx=>by have:=Sz x hx; lia)⟩;exact(A8 st1).trans ((A8 st2).trans ((A8 st3).trans ((A8 st4).trans rfl)))
theorem TQ{N:Nat}{as:List A}(hb:Bag N as)(hN:N<=1000):∃h:Hs,∃as',h.Ok/\Bag (N+30) as'/\Du [(.own,.lst as)]=some (.fz h.d,[.lst as']):=by
 obtain⟨d1,as1,g1,g2,b1,t1⟩:=EH hb (by lia) 3 (by lia) (by lia);obtain⟨d2,as2,g3,g4,b2,t2⟩:=EH b1 (by lia) 6 (by lia) (by lia);obtain⟨d3,as3,g5,g6,b3,t3⟩:=EH b2 (by lia) 2 (by lia) (by lia);have rg:A9 (Aa 2) (eK as3 (2+d1) (1+d2) d3 [] 0 none none)=some (Di 0 (1+d2).toNat,none,(eK as3 (2+d1) (1+d2) d3 [] 0 none none)):=M5 rfl (by lia) (by lia);obtain⟨Z',f1,f2⟩:=Ml (is:=[6]) (one:=true) (b:=cH)
  (fun j Z=>∃as' ls' a' x6 x7,pN x6/\pN x7/\Bag (N+3+4*j) as'/\HI (2+d1) (1+d2).toNat j ls' a'/\Z=(eK as' (2+d1) (1+d2) d3 ls' a' x6 x7)) rg ⟨as3,[],0,none,none,.inl rfl,.inl rfl,b3,⟨rfl,by lia,by lia,by simp,by simp,by simp⟩,rfl⟩ (fun j d Z hd hI=>by
   obtain⟨as',ls',a',x6,x7,hx6,hx7,hb',hi,rfl⟩:=hI;obtain⟨rfl,hj⟩:=Iv hd;obtain⟨as'',ls'',a'',b,s1,s2,s3⟩:=LM (n:=2+d1) (M:=1+d2) (S:=d3) (Mn:=(1+d2).toNat) (j:=j) (by lia) (by lia) hj (by lia) hb' (by lia) hi hx7;refine⟨_,_,?_,.inl s1,as'',ls'',a'',_,_,.inr ⟨_,rfl⟩,.inr ⟨_,rfl⟩,s2.mono (by lia),s3,rfl⟩;rcases hx6 with rfl|⟨d,rfl⟩<;>rfl)
 rw[J4] at f2;obtain⟨as',ls',a',x6,x7,_,_,hb',hi,rfl⟩:=f2;have hn2:2+d1<=4:=by lia
 have ha1:=hi.a1;have hlen:=hi.len;have ok:Hs.Ok ⟨2+d1,ls'⟩:=⟨by simp only; lia,hn2,by simp only; lia,by simp only; lia,fun p hp=>by have:=hi.ch p hp; lia,hi.ri,hi.hs⟩;refine⟨⟨2+d1,ls'⟩,as',ok,hb'.mono (by lia),Dp (Z:=[some (.own,.lst as'),some (.own,.fz (.int (2+d1))),some (.own,.fz (.int (1+d2))),some (.own,.fz (.int d3)),some (.own,.fz (.lst (ls'.map ld))),some (.own,.fz (.int a')),x6,x7]) rfl ?_⟩;show Ef [some (.own,.lst as),none,none,none,none,none,none,none]=_;unfold Ef;have y1:(Am Ah (Ac (Aa 0) (Ac (Ag (.int 3)) Ai))) [some (.own,.lst as),none,none,none,none,none,none,none]=some (.val (.fz (.int d1)),[some (.own,.lst as1),none,none,none,none,none,none,none]):=call_of rfl rfl rfl t1 rfl;have y2:(opM Bv (m2L (Ag (.int 2)) (Am Ah (Ac (Aa 0) (Ac (Ag (.int 3)) Ai))))) [some (.own,.lst as),none,none,none,none,none,none,none]=some (.val (.fz (.int (2+d1))),[some (.own,.lst as1),none,none,none,none,none,none,none]):=E7 (GA (r1:=.val (.fz (.int 2))) rfl y1) rfl rfl;have z1:AH 1 (opM Bv (m2L (Ag (.int 2)) (Am Ah (Ac (Aa 0) (Ac (Ag (.int 3)) Ai))))) [some (.own,.lst as),none,none,none,none,none,none,none]=some (.next [some (.own,.lst as1),oI (2+d1),none,none,none,none,none,none]):=Ia y2 rfl;have y3:(Am Ah (Ac (Aa 0) (Ac (Ag (.int 6)) Ai))) [some (.own,.lst as1),oI (2+d1),none,none,none,none,none,none]=some (.val (.fz (.int d2)),[some (.own,.lst as2),oI (2+d1),none,none,none,none,none,none]):=call_of rfl rfl rfl t2 rfl;have y4:(opM Bv (m2L (Ag (.int 1)) (Am Ah (Ac (Aa 0) (Ac (Ag (.int 6)) Ai))))) [some (.own,.lst as1),oI (2+d1),none,none,none,none,none,none]=some (.val (.fz (.int (1+d2))),[some (.own,.lst as2),oI (2+d1),none,none,none,none,none,none]):=E7 (GA (r1:=.val (.fz (.int 1))) rfl y3) rfl rfl
 have z2:AH 2 (opM Bv (m2L (Ag (.int 1)) (Am Ah (Ac (Aa 0) (Ac (Ag (.int 6)) Ai))))) [some (.own,.lst as1),oI (2+d1),none,none,none,none,none,none]=some (.next [some (.own,.lst as2),oI (2+d1),oI (1+d2),none,none,none,none,none]):=Ia y4 rfl;have y5:(Am Ah (Ac (Aa 0) (Ac (Ag (.int 2)) Ai))) [some (.own,.lst as2),oI (2+d1),oI (1+d2),none,none,none,none,none]=some (.val (.fz (.int d3)),[some (.own,.lst as3),oI (2+d1),oI (1+d2),none,none,none,none,none]):=call_of rfl rfl rfl t3 rfl;have z3:AH 3 (Am Ah (Ac (Aa 0) (Ac (Ag (.int 2)) Ai))) [some (.own,.lst as2),oI (2+d1),oI (1+d2),none,none,none,none,none]=some (.next [some (.own,.lst as3),oI (2+d1),oI (1+d2),oI d3,none,none,none,none]):=Ia y5 rfl;refine(A8 z1).trans ((A8 z2).trans ((A8 z3).trans ((A8 (Z1:=[some (.own,.lst as3),oI (2+d1),oI (1+d2),oI d3,some (.own,.lst []),none,none,none]) rfl).trans ((A8 (Z1:=(eK as3 (2+d1) (1+d2) d3 [] 0 none none)) rfl).trans ((A8 f1).trans ?_)))));refine Hh ?_;refine O2 (cons_of (HR rfl rfl) (cons_of (HR (r:=.ref 4) rfl ?_) rfl));have:=FR (ls'.map ld);rw[List.map_map] at this;simp only[unlock,share,List.getElem?_cons_zero,List.getElem?_cons_succ,er];rw[show(ls'.map fun p=>A.fz (ld p))=ls'.map (A.fz ∘ ld) from rfl,this];rfl
theorem app_list(z:Str)(c:Nat):(z++(⟨#[c]⟩:Str)).cps.toList=z.cps.toList++[c]:=by
 show(z.cps ++ #[c]).toList=_;simp
theorem Ol(z:Str)(c:Nat):(z++(⟨#[c]⟩:Str)).length=z.length+1:=by
 show(z.cps ++ #[c]).size=z.cps.size+1;simp
theorem len_one(c:Nat):Str.length ⟨#[c]⟩=1:=rfl
theorem N7{N j:Nat}{as:List A}{h:Hs}(ok:h.Ok){z:Str}{most size:Int}(hb:Bag N as)(hN:N<=100000)(hz:Row h z)(hl:z.length<=100):∃as' c,Bag (N+1) as'/\c∈h.ls.map (·.1)/\(AH 4 (opM Bv (m2L (Aa 4) (opM ixA (m2L (opM ixA (m2L (opM ixA (m2L (Aa 1) (Ag (.int 1)))) (Am Ah (Ac (Aa 0) (Ac (opM CM (Ac (opM ixA (m2L (Aa 1) (Ag (.int 1)))) Ai)) Ai))))) (Ag (.int 0))))))) [some (.own,.lst as),some (.own,.fz h.d),some (.own,.fz (.int most)),some (.own,.fz (.int size)),some (.own,.fz (.str z)),some (.own,.fz (.int (0+(j:Int))))]=some (.next [some (.own,.lst as'),some (.own,.fz h.d),some (.own,.fz (.int most)),some (.own,.fz (.int size)),some (.own,.fz (.str (z++(⟨#[c]⟩:Str)))),some (.own,.fz (.int (0+(j:Int))))]):=by
 have l1:=ok.l1;have l2:=ok.l2;obtain⟨d,as',g1,g2,b1,t1⟩:=EH hb (by lia) (h.ls.length:Int) (by lia) (by lia);have e5:=at1 (D.int h.n) (.lst (h.ls.map ld)) [];have hd:d.toNat<h.ls.length:=by lia
 have e7:=B9 (xs:=h.ls.map ld) (i:=d) (k:=d.toNat) (by lia) (by simpa using hd);simp only[List.getElem_map] at e7;have e8:ld (h.ls[d.toNat])=.tup [.str ⟨#[(h.ls[d.toNat]).1]⟩,.lst (iL (h.ls[d.toNat]).2)]:=rfl;rw[e8] at e7;have e9:=at0 (D.str ⟨#[(h.ls[d.toNat]).1]⟩) [.lst (iL (h.ls[d.toNat]).2)];have hlim:1000<=LIM:=by decide
 have e10:(z.length+1<=LIM)=True:=by simp only[eq_iff_iff,iff_true]; lia
 have e11:=len_one (h.ls[d.toNat]).1;refine⟨as',(h.ls[d.toNat]).1,b1,List.mem_map.mpr ⟨_,List.getElem_mem hd,rfl⟩,?_⟩;simp only[Hs.d];clear hlim e8 b1 g1 g2 l1 l2 hb hN hz hl ok;walk_at "eo"
theorem s_row{N:Nat}{as:List A}{h:Hs}(ok:h.Ok)(hb:Bag N as)(hN:N<=1000)(most:Int)(hm:0<=most)(hm2:most<=40):∃z as' a2 a3,Row h z/\z.length<=40/\Bag (N+50) as'/\E1 [(.own,.lst as),(.own,.fz h.d),(.own,.fz (.int most))]=some (.fz (.str z),[.lst as',a2,a3]):=by
 obtain⟨d1,as1,g1,g2,b1,t1⟩:=EH hb (by lia) (most+1) (by lia) (by lia);obtain⟨d2,as2,g3,g4,b2,t2⟩:=EH b1 (by lia) 8 (by lia) (by lia);have st1:AH 3 (Am Ah (Ac (Aa 0) (Ac (opM Bv (m2L (Aa 2) (Ag (.int 1)))) Ai))) [some (.own,.lst as),some (.own,.fz h.d),some (.own,.fz (.int most)),none,none,none]=some (.next [some (.own,.lst as1),some (.own,.fz h.d),some (.own,.fz (.int most)),some (.own,.fz (.int d1)),none,none]):=by
  clear t2 b2 b1 g1 g2 g3 g4 hN hb hm hm2 ok;walk_at "eo"
 have st2:∃as3 size,Bag (N+3) as3/\0<=size/\size<=40/\ifS (AF (opM eqA (m2L (Am Ah (Ac (Aa 0) (Ac (Ag (.int 8)) Ai))) (Ag (.int 1))))) (AH 3 (Am Ah (Ac (Aa 0) (Ac (Ag (.int 41)) Ai)))) AS [some (.own,.lst as1),some (.own,.fz h.d),some (.own,.fz (.int most)),some (.own,.fz (.int d1)),none,none]=some (.next [some (.own,.lst as3),some (.own,.fz h.d),some (.own,.fz (.int most)),some (.own,.fz (.int size)),none,none]):=by
  obtain⟨d3,as3,g5,g6,b3,t3⟩:=EH b2 (by lia) 41 (by lia) (by lia);by_cases h1:d2=1
  .refine⟨as3,d3,b3.mono (by lia),g5,by lia,?_⟩
   have e1:(d2==1)=true:=by simpa using h1
   clear b2 b1 g1 g2 g3 g4 hN hb hm hm2 ok b3 g5 g6 h1 st1 t1;walk_at "eo"
  .refine⟨as2,d1,b2.mono (by lia),g1,by lia,?_⟩
   have e1:(d2==1)=false:=by simpa using h1
   clear b2 b1 g1 g2 g3 g4 hN hb hm hm2 ok b3 g5 g6 h1 st1 t1;walk_at "eo"
 obtain⟨as3,size,b3,z1,z2,st2⟩:=st2;have rg:A9 (Aa 3) [some (.own,.lst as3),some (.own,.fz h.d),some (.own,.fz (.int most)),some (.own,.fz (.int size)),some (.own,.fz (.str (Str.ofString ""))),none]=some (Di 0 size.toNat,none,[some (.own,.lst as3),some (.own,.fz h.d),some (.own,.fz (.int most)),some (.own,.fz (.int size)),some (.own,.fz (.str (Str.ofString ""))),none]):=by
  have e0:(-(2 ^ 62)<=size/\size<2 ^ 62)=True:=by simp; lia
  clear t1 t2 b1 b2 b3 g1 g2 g3 g4 hb hN st1 st2 z1 z2 hm hm2 ok;walk_at "eo"
 have em:(Str.ofString "").cps.toList=[]:=by decide +kernel
 have em2:(Str.ofString "").length=0:=by decide +kernel
 obtain⟨Z',f1,f2⟩:=Ml (is:=[5]) (one:=true) (b:=(AH 4 (opM Bv (m2L (Aa 4) (opM ixA (m2L (opM ixA (m2L (opM ixA (m2L (Aa 1) (Ag (.int 1)))) (Am Ah (Ac (Aa 0) (Ac (opM CM (Ac (opM ixA (m2L (Aa 1) (Ag (.int 1)))) Ai)) Ai))))) (Ag (.int 0))))))))
  (fun j Z=>∃as' z x5,(pN x5)/\Bag (N+3+j) as'/\Row h z/\z.length=j/\Z=[some (.own,.lst as'),some (.own,.fz h.d),some (.own,.fz (.int most)),some (.own,.fz (.int size)),some (.own,.fz (.str z)),x5]) rg ⟨as3,Str.ofString "",none,.inl rfl,b3,⟨by rw[em2]; lia,by rw[em]; simp⟩,em2,rfl⟩ (fun j d Z hd hI=>by
   obtain⟨as',z,x5,hx5,hb',hz,hzl,rfl⟩:=hI;obtain⟨rfl,hj⟩:=Iv hd;obtain⟨as'',c,s1,s2,s3⟩:=N7 (j:=j) (most:=most) (size:=size) ok hb' (by lia) hz (by lia);refine⟨_,_,?_,.inl s3,as'',_,_,.inr ⟨_,rfl⟩,s1,⟨?_,?_⟩,?_,rfl⟩
   .rcases hx5 with rfl|⟨d,rfl⟩<;>simp[Gi,free,J.own]
   .rw[Ol]; lia
   .rw[app_list]
    intro x hx;rcases List.mem_append.mp hx with hx|hx
    .exact hz.2 x hx
    .simp only[List.mem_singleton] at hx; subst hx; exact s2
   .rw[Ol,hzl])
 rw[J4] at f2;obtain⟨as',z,x5,_,hb',hz,hzl,rfl⟩:=f2;refine⟨z,as',_,_,hz,by lia,hb'.mono (by lia),Dp (Z:=[some (.own,.lst as'),some (.own,.fz h.d),some (.own,.fz (.int most)),some (.own,.fz (.int size)),some (.own,.fz (.str z)),x5]) rfl ?_⟩;show FO [some (.own,.lst as),some (.own,.fz h.d),some (.own,.fz (.int most)),none,none,none]=_;unfold FO;rw[A8 st1,A8 st2,A8 (Z1:=[some (.own,.lst as3),some (.own,.fz h.d),some (.own,.fz (.int most)),some (.own,.fz (.int size)),some (.own,.fz (.str (Str.ofString ""))),none]) (by rfl),A8 f1];exact Hh rfl
theorem LX{n j:Nat}{d:D}(h:(Di 0 n)[j]? = some d):d=.int j/\j<n:=by
 obtain⟨h1,h2⟩:=Iv h;rw[Int.zero_add] at h1;exact⟨h1,h2⟩
theorem RU(ns:List Int)(k:Nat):∃c a2,CZ [(.ro,.scr ns),(.own,.fz (.int k))]=some (.fz (.int c),[.scr ns,a2]):=by
 by_cases h:k<ns.length
 .obtain⟨c,e2⟩:∃c,atI (ns.map D.int) (k:Int)=some (.int c):=⟨ns[k],by
   have e2:=B9 (xs:=ns.map D.int) (i:=(k:Int)) (k:=k) rfl (by simpa using h);simpa using e2⟩
  refine⟨c,_,Dp (Z:=[some (.ro,.scr ns),some (.own,.fz (.int k))]) rfl ?_⟩;show Cw [some (.ro,.scr ns),some (.own,.fz (.int k))]=_;unfold Cw;have e1:decide ((k:Int)<(ns.length:Int))=true:=by simpa using h
  clear h;walk_at "eo"
 .refine⟨0,_,Dp (Z:=[some (.ro,.scr ns),some (.own,.fz (.int k))]) rfl ?_⟩
  show Cw [some (.ro,.scr ns),some (.own,.fz (.int k))]=_;unfold Cw;have e1:decide ((k:Int)<(ns.length:Int))=false:=by simpa using h
  clear h;walk_at "eo"
theorem QE{h:Hs}(ok:h.Ok){p:Nat×List Int}(hp:p∈h.ls):h.hands p.1=p.2:=by
 obtain⟨j,hj,e1,_,e3⟩:=Jg ok (List.mem_map.mpr ⟨p,hp,rfl⟩);obtain⟨k,hk,rfl⟩:=List.mem_iff_getElem.mp hp;have:j=k:=by
  rcases Nat.lt_trichotomy j k with q|q|q
  .have:=List.pairwise_iff_getElem.mp ok.ri j k (by simpa using hj) (by simpa using hk) q
   simp at this;lia
  .exact q
  .have:=List.pairwise_iff_getElem.mp ok.ri k j (by simpa using hk) (by simpa using hj) q
   simp at this;lia
 subst this;exact e3
theorem Fq{ms:MA}{Z Z1:Ro}{rs:List R}{as:List A}(h1:ms Z=some (rs,Z1))(h2:vals rs=some as)(h3:decide (as.length<=LIM)=true):lstM ms Z=some (.val (.lst as),Z1):=by
 simp only[lstM,h1,h2,Option.bind_some,if_pos (of_decide_eq_true h3)]
theorem Su{xs ys:List D}(h:decide (xs.length+ys.length<=LIM)=true):Bv [.lst (xs.map A.fz),.lst (ys.map A.fz)]=some (.lst ((xs++ys).map A.fz)):=by
 have h:=of_decide_eq_true h;simp only[Bv,on2,B6,Gu,De,F8,fzU,Dq,Ca,Option.bind_none,Option.none_or,Option.bind_some,if_pos h]
theorem QL(h:Hs)(c:Nat):(!(Builtin.Str.occurrences h.text ⟨#[c]⟩ 0 h.text.length 1).isEmpty)=decide (c∈h.ls.map (·.1)):=by
 rw[StrLaws.found_one];exact decide_eq_decide.mpr Iff.rfl
theorem Uz{a b:ME}{Z Z1:Ro}{r:Option (R×Ro)}(h1:a Z=some (.val (.fz (.bl true)),Z1))(h2:b Z1=r):J.andM a b Z=r:=by
 rw[<- h2];simp only[J.andM,LV h1,Option.bind_some,if_true]
theorem Vs(h:Hs)(c:Nat):inA false [.fz (.str ⟨#[c]⟩),.fz (.str h.text)]=some (.fz (.bl (decide (c∈h.ls.map (·.1))))):=by
 rw[<- QL h c];simp only[inA,on2,De,F8,fzU,Option.bind_some,Option.map_some];rfl
theorem M6(s1 s2:Own)(h:Hs)(ok:h.Ok)(c:Nat):C4 [(s1,.fz h.d),(s2,.fz (.str ⟨#[c]⟩))]=some (.fz (.bl (decide (c∈h.ls.map (·.1)))),[.fz h.d,.fz (.str ⟨#[c]⟩)]):=by
 have e2:=HW .own h ok;refine Dp (Z:=[some (s1,.fz h.d),some (s2,.fz (.str ⟨#[c]⟩))]) rfl ?_;show Fo [some (s1,.fz h.d),some (s2,.fz (.str ⟨#[c]⟩))]=_;unfold Fo;have v1:Am BH (Ac (Aa 0) Ai) [some (s1,.fz h.d),some (s2,.fz (.str ⟨#[c]⟩))]=some (.val (.fz (.str h.text)),[some (s1,.fz h.d),some (s2,.fz (.str ⟨#[c]⟩))]):=call_of rfl rfl rfl e2 rfl;exact Hh (Uz rfl (Uz rfl (E7 (GA (r1:=.val (.fz (.str ⟨#[c]⟩))) rfl v1) rfl (Vs h c))))
theorem Ks(s1 s2:Own)(h:Hs)(ok:h.Ok)(c:Nat)(hc:c∈h.ls.map (·.1)):C5 [(s1,.fz h.d),(s2,.fz (.str ⟨#[c]⟩))]=some (.fz .non,[.fz h.d,.fz (.str ⟨#[c]⟩)]):=by
 have e:=M6 .own .own h ok c;rw[decide_eq_true hc] at e;have c1:(AF (Am C4 (Ac (Aa 0) (Ac (Aa 1) Ai)))) [some (s1,.fz h.d),some (s2,.fz (.str ⟨#[c]⟩))]=some (true,[some (s1,.fz h.d),some (s2,.fz (.str ⟨#[c]⟩))]):=LV (call_of rfl rfl rfl e rfl);refine SN (Z:=[some (s1,.fz h.d),some (s2,.fz (.str ⟨#[c]⟩))]) rfl ?_;show DO [some (s1,.fz h.d),some (s2,.fz (.str ⟨#[c]⟩))]=_;unfold DO;exact(Vq (not_of c1)).trans rfl
theorem MW:∀(ls:List (Nat×List Int)),Hf (ls.map ld)=some (ls.map fun p=>((Sum.inr (⟨#[p.1]⟩:Str):Key),D.lst (iL p.2)))
 | []=>rfl
 | p::ls=>by
  have ih:=MW ls;simp only[List.map_cons,ld,chD,Hf,Lo,Option.bind_some];rw[ih];rfl
theorem Xu{h:Hs}{c:Nat}(hc:c∈h.ls.map (·.1)):Qd (h.ls.map fun p=>((Sum.inr (⟨#[p.1]⟩:Str):Key),D.lst (iL p.2))) (Sum.inr (⟨#[c]⟩:Str))=some (.lst (iL (h.hands c))):=by
 unfold Qd Hs.hands;rw[List.find?_map];have e1:((fun(kv:Key×D)=>decide (kv.1=Sum.inr (⟨#[c]⟩:Str))) ∘ fun(p:Nat×List Int)=>((Sum.inr (⟨#[p.1]⟩:Str):Key),D.lst (iL p.2)))=fun p=>p.1==c:=by
  funext p;rw[Bool.eq_iff_iff];simp
 rw[e1];cases hf:h.ls.find? (fun p=>p.1==c) with
 | none =>
  obtain⟨p,hp,rfl⟩:=List.mem_map.mp hc;have:=List.find?_eq_none.mp hf p hp;simp at this
 | some p=>rfl
theorem keys_nodup{h:Hs}(ok:h.Ok):((h.ls.map fun p=>((Sum.inr (⟨#[p.1]⟩:Str):Key),D.lst (iL p.2))).map (·.1)).Nodup:=by
 rw[List.map_map];have:=ok.ri;rw[List.pairwise_map] at this;unfold List.Nodup;rw[List.pairwise_map];refine this.imp fun {a b} hab e=>?_;simp at e;lia
theorem Mm(z:Str)(j:Nat):z.cps.getD j 0=z.cps.toList.getD j 0:=by rw[Array.getD_eq_getD_getElem?]; simp[List.getD]
theorem OI{z:Str}{j:Nat}{d:D}(h:(F5 z)[j]? = some d):d=.tup [.int j,.str ⟨#[z.cps.getD j 0]⟩]/\j<z.length:=by
 have hj:j<z.cps.size:=by have:=As h; simpa[F5] using this
 simp only[F5,List.getElem?_map,List.getElem?_range hj,Option.map_some,Option.some.injEq] at h;exact⟨h.symm,hj⟩
noncomputable abbrev oF(d:D):Slot:=some (.own,.fz d)
local macro_rules | `(tactic| walk_at "wp1")=>`(tactic| first
 | (with_reducible refine A5 ?_)|(with_reducible refine Aq ?_)|(with_reducible refine EC ?_)|(with_reducible refine B8 ?_)|(with_reducible refine EM ?_)|(with_reducible refine EK ?_)|(with_reducible refine GH ?_)|(with_reducible refine Dg ?_)|(with_reducible refine EN ?_)|(with_reducible refine EL ?_)|(with_reducible refine EJ ?_)|(with_reducible refine CY ?_)|(with_reducible refine Cf ?_)
 | (with_reducible refine Gq ?_)|(with_reducible refine CV ?_)|(with_reducible refine Ce ?_)|(with_reducible refine DS ?_)|(with_reducible refine En ?_)|(with_reducible refine Gr ?_)|(with_reducible refine Ep ?_)|(with_reducible refine Eo ?_)|(with_reducible refine CW ?_)|(with_reducible refine Er ?_)
 | (with_reducible refine Jc ?_)|(with_reducible refine IH ?_)|(with_reducible refine Cr ?_)|(with_reducible refine CJ ?_)
 | (with_reducible refine Dh ?_)|(with_reducible refine ES ?_)|(with_reducible refine ER ?_)|(with_reducible refine GK ?_)|(with_reducible refine EO ?_)
 | (with_reducible refine Cb ?_)|(with_reducible refine C8 ?_)|(with_reducible refine Ew ?_)|(with_reducible refine Dd ?_)
 | ((with_reducible apply BD); · rfl)
 | ((with_reducible refine Exists.intro _ (And.intro (BR ?_) ?_)); · rfl)
 | ((with_reducible apply ex1); · rfl)|((with_reducible apply ex2); · rfl)|((with_reducible apply ex3); · rfl)|((with_reducible apply ex0); · rfl)|((with_reducible refine And.intro ?_ ?_); · rfl)|((with_reducible refine Gv ?_ ?_); · rfl)|((with_reducible refine E5 ?_ ?_); · rfl))
local macro_rules | `(tactic| walk_at "wp")=>`(tactic| repeat walk_at "wp1")
open Nw
noncomputable def nmD:Nm->D
 | none=>.non
 | some p=>.tup [chD p.1,.int p.2]
theorem VV{x y:Nm}(h:nmD x=nmD y):x=y:=by
 cases x with
 | none=>cases y with
  | none=>rfl
  | some q=>cases h
 | some p=>cases y with
  | none=>cases h
  | some q =>
   obtain⟨a,b⟩:=p;obtain⟨c,d⟩:=q;simp only[nmD,chD,D.tup.injEq,List.cons.injEq,D.str.injEq,Str.mk.injEq,D.int.injEq,and_true] at h;obtain⟨h1,h2⟩:=h;have:[a]=[c]:=congrArg Array.toList h1;cases this;have:b=d:=by lia
   rw[this]
theorem UP(x y:Nm):eqD (nmD x) (nmD y)=decide (x=y):=by
 cases x with
 | none=>cases y<;>rfl
 | some p=>cases y with
  | none=>rfl
  | some q =>
   obtain⟨a,b⟩:=p;obtain⟨c,d⟩:=q;have e:eqD (nmD (some (a,b))) (nmD (some (c,d)))=(((⟨#[a]⟩:Str)==⟨#[c]⟩)&&(((b:Int)==(d:Int))&&true)):=rfl;rw[e,Bool.eq_iff_iff];simp only[Bool.and_true,Bool.and_eq_true,beq_iff_eq,Str.mk.injEq,decide_eq_true_eq,Option.some.injEq,Prod.mk.injEq];refine⟨fun h=>⟨?_,by lia⟩,fun h=>⟨by rw[h.1],by lia⟩⟩;have:[a]=[c]:=congrArg Array.toList h.1;cases this; rfl
theorem Ri(k:Nat)(x:Nm):shB (k+1) (nmD x)=true:=by
 cases x<;>rfl
@[irreducible] def rgD(n:Nat)(g:Nat->D):D:=.tup ((List.range n).map g)
noncomputable def nwD(n:Nat)(f:N3):D:=rgD n fun i=>rgD n fun j=>rgD n fun k=>nmD (f i j k)
theorem G1(n:Nat)(g:Nat->D):rgD n g=.tup ((List.range n).map g):=by unfold rgD; rfl
theorem ixT{T:List D}{i:Int}{d:D}(h:atI T i=some d):ixA [.fz (.tup T),.fz (.int i)]=some (.fz d):=by
 simp only[on2,ixA,B6,fzU,Gu,AW,De,F8,h,Option.bind_some,Option.map_some,Option.none_or,Option.bind_none]
theorem Gh{n:Nat}{g:Nat->D}{i:Nat}(h:i<n):atI ((List.range n).map g) (i:Int)=some (g i):=by
 rw[B9 rfl (by simpa using h)]; simp
theorem Ms{n:Nat}{g:Nat->D}{i:Nat}(h:i<n):ixA [.fz (rgD n g),.fz (.int (i:Int))]=some (.fz (g i)):=by
 rw[G1]; exact ixT (Gh h)
theorem QR{n:Nat}{f:N3}{i:Nat}(h:i<n):ixA [.fz (nwD n f),.fz (.int (i:Int))]=some (.fz (rgD n fun j=>rgD n fun k=>nmD (f i j k))):=Ms h
theorem Q6{n:Nat}{f:N3}:CM [.fz (nwD n f)]=some (.fz (.int n)):=by
 unfold nwD;rw[G1];simp[CM,on1,AW,De,F8,fzU]
theorem RX{n k:Nat}{g:Nat->D}(h:∀i,shB k (g i)=true):shB (k+1) (rgD n g)=true:=by
 rw[G1];show Kt k _=true;induction List.range n with
 | nil=>cases k<;>rfl
 | cons x l ih=>show(shB k (g x)&&_)=true; rw[h,ih]; rfl
theorem U1(n k:Nat)(f:N3):shB (k+4) (nwD n f)=true:=RX fun _=>RX fun _=>RX fun _=>Ri k _
theorem Rg(x y:Nm):eqA [.fz (nmD x),.fz (nmD y)]=some (.fz (.bl (decide (x=y)))):=by
 simp only[eqA,on2,J.er,Option.bind_some,Ri 15 x,if_true,UP]
theorem Rh(x:Nm):Ex (.fz (nmD x))=decide (x=none):=by
 cases x<;>rfl
theorem Vr(x:Nm)(l:List Nat)(p:Nat->Nm):inD (nmD x) (l.map fun k=>nmD (p k))=decide (x∈l.map p):=by
 induction l with
 | nil=>rfl
 | cons y l ih =>
  have e:inD (nmD x) ((y::l).map fun k=>nmD (p k))=(eqD (nmD (p y)) (nmD x) || inD (nmD x) (l.map fun k=>nmD (p k))):=rfl;rw[e,ih,UP,Bool.eq_iff_iff];simp only[Bool.or_eq_true,decide_eq_true_eq,List.map_cons,List.mem_cons];exact⟨fun h=>h.imp Eq.symm id,fun h=>h.imp Eq.symm id⟩
theorem VQ(x:Nm)(n:Nat)(p:Nat->Nm):Q7 false [.fz (nmD x),.lst (((List.range n).map fun k=>nmD (p k)).map A.fz)]=some (.fz (.bl (decide (x∈(List.range n).map p)))):=by
 have hs:((List.range n).map fun k=>nmD (p k)).all (shB 8)=true:=by
  rw[List.all_eq_true];intro d hd;obtain⟨k,_,rfl⟩:=List.mem_map.mp hd;exact Ri 7 _
 simp only[Q7,on2,J.er,Dq,Ca,Option.bind_some,hs,if_true,Bool.false_eq_true,if_false,Vr]
theorem GR{n:Nat}{f:N3}{i:Nat}(h:i<n):FV AZ [(.own,.fz (nwD n f)),(.own,.fz (.int (i:Int)))] fun a _=>a=.fz (nmD (fi f i)):=by
 refine BO rfl rfl ?_;show SV El [some (.own,.fz (nwD n f)),some (.own,.fz (.int (i:Int)))] _;unfold El;walk_at "wp";refine⟨_,QR h,?_⟩;walk_at "wp";refine⟨_,Ms h,?_⟩;walk_at "wp";refine⟨_,Ms h,?_⟩;walk_at "wp";rfl
theorem M7{n:Nat}{f:N3}{i:Nat}(h:i<n):FV BN [(.own,.fz (nwD n f)),(.own,.fz (.int (i:Int)))] fun a _=>a=.fz (rgD n fun k=>nmD (f i i k)):=by
 refine BO rfl rfl ?_;show SV DQ [some (.own,.fz (nwD n f)),some (.own,.fz (.int (i:Int)))] _;unfold DQ;walk_at "wp";refine⟨_,QR h,?_⟩;walk_at "wp";refine⟨_,Ms h,?_⟩;walk_at "wp";rfl
theorem Va(n:Nat)(p:Nat->Bool):O5 [.lst (((List.range n).map fun k=>D.bl (p k)).map A.fz)]=some (.fz (.bl ((List.range n).any p))):=by
 have e:Dl ((List.range n).map fun k=>D.bl (p k))=some ((List.range n).map p):=Fw _ p;simp only[O5,on1,Dq,Ca,Option.bind_some,e,Option.map_some];congr 3;simp[List.any_map]
theorem TR{n:Nat}(hn:n<=4){other one:N3}{hand:Nat}(hh:hand<n):FV C3 [(.own,.fz (nwD n other)),(.own,.fz (nwD n one)),(.own,.fz (.int (hand:Int)))] fun a _=>a=.fz (.bl (knw n other one hand)):=by
 refine BO rfl rfl ?_;show SV DN [some (.own,.fz (nwD n other)),some (.own,.fz (nwD n one)),some (.own,.fz (.int (hand:Int))),none,none] _;unfold DN;walk_at "wp";refine Az (GR hh) fun a _ e=>?_;subst e;walk_at "wp";refine D2 n (fun k=>nmD (fi other k)) ?_;walk_at "wp";refine⟨_,Q6,rfl,by lia,fun k hk=>?_,?_⟩
 .walk_at "wp"
  refine Az (GR hk) fun a _ e=>?_;subst e;exact⟨_,rfl,rfl,rfl⟩
 walk_at "wp";show EV _ [some (.own,.fz (nwD n other)),some (.own,.fz (nwD n one)),some (.own,.fz (.int (hand:Int))),some (.own,.fz (nmD (fi one hand))),some (.own,.lst (((List.range n).map fun k=>nmD (fi other k)).map A.fz))] _;refine D2 n (fun v=>D.bl (decide (fi one v∈(List.range n).map (fi other))&&decide (one v v hand=fi one hand))) ?_;walk_at "wp";refine⟨_,Q6,rfl,by lia,fun k hk=>?_,?_⟩
 .walk_at "wp"
  refine Az (GR hk) fun a _ e=>?_;subst e;walk_at "wp";refine⟨_,VQ _ _ _,?_⟩;walk_at "wp";refine Ey (fun e=>?_) fun e=>?_
  .walk_at "wp"
   refine Az (M7 hk) fun a _ e=>?_;subst e;walk_at "wp";refine⟨_,Ms hh,?_⟩;walk_at "wp";refine⟨_,Rg _ _,?_⟩;exact⟨_,rfl,rfl,by rw[e,Bool.true_and]⟩
  .exact⟨_,rfl,rfl,by rw[e,Bool.false_and]⟩
 walk_at "wp";refine⟨_,Va n _,?_⟩;walk_at "wp";rfl
theorem N2{n:Nat}(hn:n<=4){one other:N3}{hand:Nat}(hh:hand<n):FV E2 [(.own,.fz (nwD n one)),(.own,.fz (nwD n other)),(.own,.fz (.int (hand:Int)))] fun a _=>a=.fz (.int (cmp n one other hand)):=by
 refine BO rfl rfl ?_;show SV FP [some (.own,.fz (nwD n one)),some (.own,.fz (nwD n other)),some (.own,.fz (.int (hand:Int))),none] _;unfold FP;walk_at "wp";refine Az (GR hh) fun a _ e=>?_;subst e;walk_at "wp";refine Az (GR hh) fun a _ e=>?_;subst e;walk_at "wp";refine⟨_,Rg _ _,?_⟩;walk_at "wp";refine Ey (fun e=>?_) fun e=>?_
 .walk_at "wp"
  have e:=of_decide_eq_true e;show _=_;rw[cmp,if_pos e]
 have e:=of_decide_eq_false e;walk_at "wp";refine Ey (fun e2=>?_) fun e2=>?_
 .walk_at "wp"
  rw[Rh] at e2;have e2:=of_decide_eq_true e2;show _=_;rw[cmp,if_neg e,if_pos (.inl e2)]
 rw[Rh] at e2;have e2:=of_decide_eq_false e2;walk_at "wp";refine Az (TR hn hh) fun a _ e=>?_;subst e;walk_at "wp";refine Ey (fun e3=>?_) fun e3=>?_
 .walk_at "wp"
  show _=_;rw[cmp,if_neg e,if_pos (.inr e3)]
 .walk_at "wp"
  show _=_;rw[cmp,if_neg e,if_neg (fun z=>z.elim e2 fun z=>by rw[e3] at z; cases z)]
local macro_rules | `(tactic| walk_at "wp1")=>`(tactic| first
 | (with_reducible refine A5 ?_)|(with_reducible refine Aq ?_)|(with_reducible refine EC ?_)|(with_reducible refine B8 ?_)|(with_reducible refine EM ?_)|(with_reducible refine EK ?_)|(with_reducible refine GH ?_)|(with_reducible refine Dg ?_)|(with_reducible refine EN ?_)|(with_reducible refine EL ?_)|(with_reducible refine EJ ?_)|(with_reducible refine CY ?_)|(with_reducible refine Cf ?_)
 | (with_reducible refine Gq ?_)|(with_reducible refine CV ?_)|(with_reducible refine Ce ?_)|(with_reducible refine DS ?_)|(with_reducible refine En ?_)|(with_reducible refine Gr ?_)|(with_reducible refine Ep ?_)|(with_reducible refine Eo ?_)|(with_reducible refine CW ?_)|(with_reducible refine Er ?_)
 | (with_reducible refine Jc ?_)|(with_reducible refine IH ?_)|(with_reducible refine Cr ?_)|(with_reducible refine CJ ?_)
 | (with_reducible refine Dh ?_)|(with_reducible refine ES ?_)|(with_reducible refine ER ?_)|(with_reducible refine GK ?_)|(with_reducible refine EO ?_)
 | (with_reducible refine Cb ?_)|(with_reducible refine C8 ?_)|(with_reducible refine Ew ?_)|(with_reducible refine Dd ?_)
 | ((with_reducible apply BD); · rfl)
 | ((with_reducible refine Exists.intro _ (And.intro (BR ?_) ?_)); · rfl)
 | ((with_reducible apply ex1); · rfl)|((with_reducible apply ex2); · rfl)|((with_reducible apply ex3); · rfl)|((with_reducible apply ex0); · rfl)|((with_reducible refine And.intro ?_ ?_); · rfl)|((with_reducible refine Gv ?_ ?_); · rfl)|((with_reducible refine E5 ?_ ?_); · rfl))
local macro_rules | `(tactic| walk_at "wp")=>`(tactic| repeat walk_at "wp1")
open Nw
noncomputable abbrev nL(n:Nat)(fs:List N3):D:=.lst (fs.map (nwD n))
theorem Pz{n hand:Nat}{a f:N3}{fs:List N3}{j:Nat}(h:fs[j]? = some f):DH n hand a (fs.take (j+1))=if 0<cmp n f (DH n hand a (fs.take j)) hand then f else DH n hand a (fs.take j):=by
 unfold DH;rw[List.take_succ,h,List.foldl_append];rfl
noncomputable abbrev Kv:=List (D×D)
noncomputable def adN(g:Kv)(ds:List D):Kv:=ds.foldl (fun g d=>HU g d (.bl true)) g
theorem Uu(g:Kv)(k v e:D):(Iw (HU g k v) e).isSome=(decide (e=k) || (Iw g e).isSome):=by
 have isS:∀(g:Kv) (e:D),(Iw g e).isSome=g.any fun kv=>decide (kv.1=e):=fun g e=>by
  rw[Bool.eq_iff_iff];simp[Iw,List.find?_isSome]
 rw[isS,isS];unfold HU;split
 .rename_i h
  have:((g.map fun kv=>if kv.1=k then (kv.1,v) else kv).any fun kv=>decide (kv.1=e))=g.any fun kv=>decide (kv.1=e):=by
   rw[List.any_map];congr 1;funext kv;simp only[Function.comp];split<;>rfl
  rw[this];by_cases he:e=k
  .subst he; rw[h]; simp
  .simp[he]
 .rw[List.any_append]
  by_cases he:e=k
  .simp[he]
  .have:¬k=e:=fun z=>he z.symm
   simp[he,this]
theorem S4(g:Kv)(k v:D):(HU g k v).length<=g.length+1:=by
 unfold HU;split
 .rw[List.length_map]; lia
 .rw[List.length_append,List.length_singleton]; exact Nat.le_refl _
theorem Xt(ds:List D)(e:D):∀g:Kv,(Iw (adN g ds) e).isSome=(decide (e∈ds) || (Iw g e).isSome):=by
 induction ds with
 | nil=>intro g; simp[adN]
 | cons d ds ih =>
  intro g;show(Iw (adN (HU g d (.bl true)) ds) e).isSome=_;rw[ih,Uu];by_cases h1:e=d<;>by_cases h2:e∈ds<;>simp[h1,h2]
theorem Lp(ds:List D):∀g:Kv,(adN g ds).length<=g.length+ds.length:=by
 induction ds with
 | nil=>intro g; exact Nat.le_refl _
 | cons d ds ih =>
  intro g;have h1:=ih (HU g d (.bl true));have h2:=S4 g d (.bl true);show(adN (HU g d (.bl true)) ds).length<=_;rw[List.length_cons]; lia
theorem FN(g:Kv)(a b:List D):adN g (a++b)=adN (adN g a) b:=List.foldl_append
theorem XX(x:Nm):gk (nmD x)=true:=by
 cases x<;>rfl
theorem QQ{n:Nat}{g:Nat->D}:AW (.fz (rgD n g))=some ((List.range n).map g):=by rw[G1]; rfl
noncomputable def FY(n:Nat)(f:N3)(i j:Nat):List D:=(List.range n).map fun k=>nmD (f i j k)
noncomputable def MD(n:Nat)(f:N3)(i:Nat):List D:=(List.range n).flatMap fun j=>FY n f i j
noncomputable def MF(n:Nat)(f:N3):List D:=(List.range n).flatMap fun i=>MD n f i
theorem GN{α β:Type}{l:List α}{j:Nat}{x:α}(g:α -> List β)(h:l[j]? = some x):(l.take (j+1)).flatMap g=(l.take j).flatMap g++g x:=by
 rw[List.take_succ,h]; simp
theorem Rl(n:Nat)(fs:List N3):fs.flatMap (MF n)=(used n fs).map nmD:=by
 simp only[used,List.map_flatMap,List.map_map,Function.comp_def];rfl
theorem Rj(n:Nat)(f:N3)(i:Nat):(MD n f i).length=n*n:=by
 have:∀l:List Nat,(l.flatMap fun j=>FY n f i j).length=l.length*n:=fun l=>by
  induction l with
  | nil=>simp
  | cons x l ih=>rw[List.flatMap_cons,List.length_append,ih,List.length_cons,Nat.add_mul,Nat.one_mul,Nat.add_comm]; simp[FY]
 rw[MD,this,List.length_range]
local macro_rules | `(tactic| walk_at "wp1")=>`(tactic| first
 | (with_reducible refine A5 ?_)|(with_reducible refine Aq ?_)|(with_reducible refine EC ?_)|(with_reducible refine B8 ?_)|(with_reducible refine EM ?_)|(with_reducible refine EK ?_)|(with_reducible refine GH ?_)|(with_reducible refine Dg ?_)|(with_reducible refine EN ?_)|(with_reducible refine EL ?_)|(with_reducible refine EJ ?_)|(with_reducible refine CY ?_)|(with_reducible refine Cf ?_)
 | (with_reducible refine Gq ?_)|(with_reducible refine CV ?_)|(with_reducible refine Ce ?_)|(with_reducible refine DS ?_)|(with_reducible refine En ?_)|(with_reducible refine Gr ?_)|(with_reducible refine Ep ?_)|(with_reducible refine Eo ?_)|(with_reducible refine CW ?_)|(with_reducible refine Er ?_)
 | (with_reducible refine Jc ?_)|(with_reducible refine IH ?_)|(with_reducible refine Cr ?_)|(with_reducible refine CJ ?_)
 | (with_reducible refine Dh ?_)|(with_reducible refine ES ?_)|(with_reducible refine ER ?_)|(with_reducible refine GK ?_)|(with_reducible refine EO ?_)
 | (with_reducible refine Cb ?_)|(with_reducible refine C8 ?_)|(with_reducible refine Ew ?_)|(with_reducible refine Dd ?_)
 | ((with_reducible apply BD); · rfl)
 | ((with_reducible refine Exists.intro _ (And.intro (BR ?_) ?_)); · rfl)
 | ((with_reducible apply ex1); · rfl)|((with_reducible apply ex2); · rfl)|((with_reducible apply ex3); · rfl)|((with_reducible apply ex0); · rfl)|((with_reducible refine And.intro ?_ ?_); · rfl)|((with_reducible refine Gv ?_ ?_); · rfl)|((with_reducible refine E5 ?_ ?_); · rfl))
local macro_rules | `(tactic| walk_at "wp")=>`(tactic| repeat walk_at "wp1")
open Nw
section
variable{n:Nat}{c nw:D}{g:Kv}{f:N3}{x3 x4 x5 x6 x7:Slot}{QS:Fl->Prop}
theorem KP(l:List Nat):(l.flatMap fun i=>MD n f i).length=l.length*(n*n):=by
 induction l with
 | nil=>simp
 | cons x l ih=>rw[List.flatMap_cons,List.length_append,ih,List.length_cons,Nat.add_mul,Nat.one_mul,Nat.add_comm,Rj]
theorem Rk:(MF n f).length=n*(n*n):=by rw[MF,KP,List.length_range]
end
theorem Py(n:Nat)(l:List N3):(l.flatMap (MF n)).length=l.length*(n*(n*n)):=by
 induction l with
 | nil=>simp
 | cons x l ih=>rw[List.flatMap_cons,List.length_append,ih,List.length_cons,Nat.add_mul,Nat.one_mul,Nat.add_comm,Rk]
theorem n3{n:Nat}(hn:n<=4):n*(n*n)<=64:=by
 have h1:=Nat.mul_le_mul hn hn;have h2:=Nat.mul_le_mul hn h1;exact h2
local macro_rules | `(tactic| walk_at "wp1")=>`(tactic| first
 | (with_reducible refine A5 ?_)|(with_reducible refine Aq ?_)|(with_reducible refine EC ?_)|(with_reducible refine B8 ?_)|(with_reducible refine EM ?_)|(with_reducible refine EK ?_)|(with_reducible refine GH ?_)|(with_reducible refine Dg ?_)|(with_reducible refine EN ?_)|(with_reducible refine EL ?_)|(with_reducible refine EJ ?_)|(with_reducible refine CY ?_)|(with_reducible refine Cf ?_)
 | (with_reducible refine Gq ?_)|(with_reducible refine CV ?_)|(with_reducible refine Ce ?_)|(with_reducible refine DS ?_)|(with_reducible refine En ?_)|(with_reducible refine Gr ?_)|(with_reducible refine Ep ?_)|(with_reducible refine Eo ?_)|(with_reducible refine CW ?_)|(with_reducible refine Er ?_)
 | (with_reducible refine Jc ?_)|(with_reducible refine IH ?_)|(with_reducible refine Cr ?_)|(with_reducible refine CJ ?_)
 | (with_reducible refine Dh ?_)|(with_reducible refine ES ?_)|(with_reducible refine ER ?_)|(with_reducible refine GK ?_)|(with_reducible refine EO ?_)
 | (with_reducible refine Cb ?_)|(with_reducible refine C8 ?_)|(with_reducible refine Ew ?_)|(with_reducible refine Dd ?_)
 | ((with_reducible apply BD); · rfl)
 | ((with_reducible refine Exists.intro _ (And.intro (BR ?_) ?_)); · rfl)
 | ((with_reducible apply ex1); · rfl)|((with_reducible apply ex2); · rfl)|((with_reducible apply ex3); · rfl)|((with_reducible apply ex0); · rfl)|((with_reducible refine And.intro ?_ ?_); · rfl)|((with_reducible refine Gv ?_ ?_); · rfl)|((with_reducible refine E5 ?_ ?_); · rfl))
local macro_rules | `(tactic| walk_at "wp")=>`(tactic| repeat walk_at "wp1")
open Nw
theorem Ur{n:Nat}{hs:List Int}{nm:Nm}{f0:N3}{fs:List N3}:nwD n (told n hs nm (f0::fs))=rgD n fun i=>if (i:Int)∈hs then (rgD n fun j=>if (j:Int)∈hs then (rgD n fun k=>nmD (if (k:Int)∈hs then nm else fi (DH n k f0 (f0::fs)) k)) else rgD n fun k=>nmD (DH n j f0 (f0::fs) j j k)) else rgD n fun j=>rgD n fun k=>nmD (DH n i f0 (f0::fs) i j k):=by
 unfold nwD;congr 1;funext i;by_cases hi:(i:Int)∈hs
 .rw[if_pos hi]
  congr 1;funext j;by_cases hj:(j:Int)∈hs
  .rw[if_pos hj]
   congr 1;funext k;simp only[told,hi,hj,if_true,List.headD_cons]
  .rw[if_neg hj]
   congr 1;funext k;simp only[told,hi,hj,if_true,if_false,List.headD_cons]
 .rw[if_neg hi]
  congr 1;funext j;congr 1;funext k;simp only[told,hi,if_false,List.headD_cons]
theorem Oc(n:Nat)(hn:n<=4)(g:Nat->D):GI [.lst (((List.range n).map g).map A.fz)]=some (.fz (rgD n g)):=by
 have hL:100000<=LIM:=by decide
 have:((List.range n).map g).length<=LIM:=by rw[List.length_map,List.length_range]; lia
 simp only[GI,on1,Dq,Ca,Option.bind_some,this,if_true,G1]
theorem Pm(xs:List D):AW (.lst (xs.map A.fz))=some xs:=by simp[AW,Ca]
theorem G7{n k:Nat}{g:Nat->D}{d:D}(h:((List.range n).map g)[k]? = some d):d=g k:=by
 rw[List.getElem?_map,map_eq_some_iff] at h;obtain⟨j,h,rfl⟩:=h;have:=(List.getElem?_eq_some_iff.mp h);obtain⟨h1,h2⟩:=this;simp at h2;rw[h2]
local macro_rules | `(tactic| walk_at "wp1")=>`(tactic| first
 | (with_reducible refine A5 ?_)|(with_reducible refine Aq ?_)|(with_reducible refine EC ?_)|(with_reducible refine B8 ?_)|(with_reducible refine EM ?_)|(with_reducible refine EK ?_)|(with_reducible refine GH ?_)|(with_reducible refine Dg ?_)|(with_reducible refine EN ?_)|(with_reducible refine EL ?_)|(with_reducible refine EJ ?_)|(with_reducible refine CY ?_)|(with_reducible refine Cf ?_)
 | (with_reducible refine Gq ?_)|(with_reducible refine CV ?_)|(with_reducible refine Ce ?_)|(with_reducible refine DS ?_)|(with_reducible refine En ?_)|(with_reducible refine Gr ?_)|(with_reducible refine Ep ?_)|(with_reducible refine Eo ?_)|(with_reducible refine CW ?_)|(with_reducible refine Er ?_)
 | (with_reducible refine Jc ?_)|(with_reducible refine IH ?_)|(with_reducible refine Cr ?_)|(with_reducible refine CJ ?_)
 | (with_reducible refine Dh ?_)|(with_reducible refine ES ?_)|(with_reducible refine ER ?_)|(with_reducible refine GK ?_)|(with_reducible refine EO ?_)
 | (with_reducible refine Cb ?_)|(with_reducible refine C8 ?_)|(with_reducible refine Ew ?_)|(with_reducible refine Dd ?_)
 | ((with_reducible apply BD); · rfl)
 | ((with_reducible refine Exists.intro _ (And.intro (BR ?_) ?_)); · rfl)
 | ((with_reducible apply ex1); · rfl)|((with_reducible apply ex2); · rfl)|((with_reducible apply ex3); · rfl)|((with_reducible apply ex0); · rfl)|((with_reducible refine And.intro ?_ ?_); · rfl)|((with_reducible refine Gv ?_ ?_); · rfl)|((with_reducible refine E5 ?_ ?_); · rfl))
local macro_rules | `(tactic| walk_at "wp")=>`(tactic| repeat walk_at "wp1")
open Nw
noncomputable abbrev LH(n:Nat)(fs:List N3):A:=.lst ((fs.map (nwD n)).map A.fz)
theorem PZ{n:Nat}(hn:n<=4){f0:N3}{fs:List N3}{hand:Nat}(hh:hand<n):FV CH [(.lent,LH n (f0::fs)),(.own,.fz (.int (hand:Int)))] fun a os=>a=.fz (nwD n (DH n hand f0 (f0::fs)))/\os=[LH n (f0::fs),.fz (.int (hand:Int))]:=by
 refine BO rfl rfl ?_;show SV Dm [some (.lent,LH n (f0::fs)),some (.own,.fz (.int (hand:Int))),none,none] _;unfold Dm;walk_at "wp";refine⟨_,ixL (at0 _ _),?_⟩;walk_at "wp";show SV _ [some (.lent,LH n (f0::fs)),some (.own,.fz (.int (hand:Int))),some (.own,.fz (nwD n f0)),none] _;refine BL (Ck ?_);walk_at "wp";refine⟨_,Pm _,fun j Z=>∃x3,Fr x3/\Z=[some (.ro,LH n (f0::fs)),some (.own,.fz (.int (hand:Int))),some (.own,.fz (nwD n (DH n hand f0 ((f0::fs).take j)))),x3],⟨none,rfl,rfl⟩,fun j d Z hd hI=>?_,fun Z hI=>?_⟩
 .obtain⟨x3,h3,rfl⟩:=hI
  rw[List.getElem?_map,map_eq_some_iff] at hd;obtain⟨f,hd,rfl⟩:=hd;refine⟨_,B4 h3,?_⟩;have ee:=Pz (n:=n) (hand:=hand) (a:=f0) hd;walk_at "wp";refine Az (N2 hn hh) fun a _ e=>?_;subst e;walk_at "wp";refine Ey (fun e=>?_) fun e=>?_
  .rw[if_pos (of_decide_eq_true e)] at ee
   walk_at "wp";exact A3 ⟨_,rfl,by rw[ee]; rfl⟩
  .rw[if_neg (of_decide_eq_false e)] at ee
   walk_at "wp";exact A3 ⟨_,rfl,by rw[ee]; rfl⟩
 .obtain⟨x3,h3,rfl⟩:=hI
  rw[List.length_map,List.take_length];walk_at "wp";rfl
noncomputable abbrev eUH(c:D)(st:Own)(nw:A)(g:Kv)(x3 x4 x5 x6 x7:Slot):Ro:=[some (.own,.fz c),some (st,nw),some (.own,.dct g),x3,x4,x5,x6,x7]
section
variable{n:Nat}{c:D}{st:Own}{nw:A}{g:Kv}{f:N3}{x3 x4 x5 x6 x7:Slot}{QS:Fl->Prop}
noncomputable abbrev YM:MS:=Bw [6] true (Bi (Aa 5)) (HB 2 (Aa 6) (Ag (.bl true)))
noncomputable abbrev YL:MS:=Bw [5] true (Bi (Aa 4)) (Bw [6] true (Bi (Aa 5)) (HB 2 (Aa 6) (Ag (.bl true))))
noncomputable abbrev YK:MS:=Bw [4] true (Bi (Aa 3)) (Bw [5] true (Bi (Aa 4)) (Bw [6] true (Bi (Aa 5)) (HB 2 (Aa 6) (Ag (.bl true)))))
theorem WT{i j:Nat}(hg:g.length+n<=1000)(h6:Fr x6)(q:∀y6,Fr y6->QS (.next (eUH c st nw (adN g (FY n f i j)) x3 x4 (oF (rgD n fun k=>nmD (f i j k))) y6 x7))):SV YM (eUH c st nw g x3 x4 (oF (rgD n fun k=>nmD (f i j k))) x6 x7) QS:=by
 have hL:100000<=LIM:=by decide
 refine BL (Ck ?_);walk_at "wp";refine⟨_,QQ,fun t Z=>∃y6,Fr y6/\Z=eUH c st nw (adN g ((FY n f i j).take t)) x3 x4 (oF (rgD n fun k=>nmD (f i j k))) y6 x7,⟨x6,h6,rfl⟩,fun t d Z hd hI=>?_,fun Z hI=>?_⟩
 .obtain⟨y6,g6,rfl⟩:=hI
  have hd:(FY n f i j)[t]? = some d:=hd;have e:adN g ((FY n f i j).take (t+1))=HU (adN g ((FY n f i j).take t)) d (.bl true):=by rw[List.take_succ,hd,FN]; rfl
  have hl:=Lp ((FY n f i j).take t) g;have hl2:((FY n f i j).take t).length<=n:=by simp[FY]; lia
  have hk:gk d=true:=by
   have hm:=List.mem_of_getElem? hd;simp only[FY,List.mem_map] at hm;obtain⟨k,_,rfl⟩:=hm;exact XX _
  refine⟨_,B4 g6,Ud ?_⟩;walk_at "wp";refine⟨⟨_,rfl⟩,?_⟩;walk_at "wp";refine⟨hk,by lia,?_⟩;refine A3 ⟨oF d,rfl,?_⟩;rw[e]; rfl
 .obtain⟨y6,g6,rfl⟩:=hI
  have e:((List.range n).map fun k=>nmD (f i j k)).length=(FY n f i j).length:=rfl;rw[e,List.take_length];exact q y6 g6
theorem WS{i:Nat}(hn:n<=4)(hg:g.length+n*n<=1000)(h5:Fr x5)(h6:Fr x6)(q:∀y5 y6,Fr y5->Fr y6->QS (.next (eUH c st nw (adN g (MD n f i)) x3 (oF (rgD n fun j=>rgD n fun k=>nmD (f i j k))) y5 y6 x7))):SV YL (eUH c st nw g x3 (oF (rgD n fun j=>rgD n fun k=>nmD (f i j k))) x5 x6 x7) QS:=by
 refine BL (Ck ?_);walk_at "wp";refine⟨_,QQ,fun t Z=>∃y5 y6,Fr y5/\Fr y6/\Z=eUH c st nw (adN g (((List.range n).take t).flatMap fun j=>FY n f i j)) x3 (oF (rgD n fun j=>rgD n fun k=>nmD (f i j k))) y5 y6 x7,⟨x5,x6,h5,h6,rfl⟩,fun t d Z hd hI=>?_,fun Z hI=>?_⟩
 .obtain⟨y5,y6,g5,g6,rfl⟩:=hI
  rw[List.getElem?_map,map_eq_some_iff] at hd;obtain⟨j,hd,rfl⟩:=hd;have ht:t<n:=by have:=(List.getElem?_eq_some_iff.mp hd).1; simpa using this
  have e:=GN (fun j=>FY n f i j) hd;have hl:=Lp (((List.range n).take t).flatMap fun j=>FY n f i j) g;have hl2:(((List.range n).take t).flatMap fun j=>FY n f i j).length<=t*n:=by
   have:∀l:List Nat,(l.flatMap fun j=>FY n f i j).length=l.length*n:=fun l=>by
    induction l with
    | nil=>simp
    | cons x l ih=>rw[List.flatMap_cons,List.length_append,ih,List.length_cons,Nat.add_mul,Nat.one_mul,Nat.add_comm]; simp[FY]
   rw[this];exact Nat.mul_le_mul_right _ (by simp; lia)
  have hl3:(t+1)*n<=n*n:=Nat.mul_le_mul_right _ ht;rw[Nat.add_mul,Nat.one_mul] at hl3;refine⟨_,B4 g5,?_⟩;refine WT (i:=i) (j:=j) (by lia) g6 fun z6 f6=>?_;refine A3 ⟨oF (rgD n fun k=>nmD (f i j k)),z6,rfl,f6,?_⟩;rw[e,FN]
 .obtain⟨y5,y6,g5,g6,rfl⟩:=hI
  have e:((List.range n).map fun j=>rgD n fun k=>nmD (f i j k)).length=(List.range n).length:=by rw[List.length_map]
  rw[e,List.take_length];exact q y5 y6 g5 g6
theorem WR(hn:n<=4)(hg:g.length+n*(n*n)<=1000)(h4:Fr x4)(h5:Fr x5)(h6:Fr x6)(q:∀y4 y5 y6,Fr y4->Fr y5->Fr y6->QS (.next (eUH c st nw (adN g (MF n f)) (oF (nwD n f)) y4 y5 y6 x7))):SV YK (eUH c st nw g (oF (nwD n f)) x4 x5 x6 x7) QS:=by
 refine BL (Ck ?_);walk_at "wp";refine⟨_,QQ,fun t Z=>∃y4 y5 y6,Fr y4/\Fr y5/\Fr y6/\Z=eUH c st nw (adN g (((List.range n).take t).flatMap fun i=>MD n f i)) (oF (nwD n f)) y4 y5 y6 x7,⟨x4,x5,x6,h4,h5,h6,rfl⟩,fun t d Z hd hI=>?_,fun Z hI=>?_⟩
 .obtain⟨y4,y5,y6,g4,g5,g6,rfl⟩:=hI
  rw[List.getElem?_map,map_eq_some_iff] at hd;obtain⟨i,hd,rfl⟩:=hd;have ht:t<n:=by have:=(List.getElem?_eq_some_iff.mp hd).1; simpa using this
  have e:=GN (fun i=>MD n f i) hd;have hl:=Lp (((List.range n).take t).flatMap fun i=>MD n f i) g;rw[KP] at hl;have hl2:((List.range n).take t).length<=t:=by simp; lia
  have hl4:=Nat.mul_le_mul_right (n*n) hl2;have hl3:(t+1)*(n*n)<=n*(n*n):=Nat.mul_le_mul_right _ ht;rw[Nat.add_mul,Nat.one_mul] at hl3;refine⟨_,B4 g4,?_⟩;refine WS (i:=i) hn (by lia) g5 g6 fun z5 z6 f5 f6=>?_;refine A3 ⟨oF (rgD n fun j=>rgD n fun k=>nmD (f i j k)),z5,z6,rfl,f5,f6,?_⟩;rw[e,FN]
 .obtain⟨y4,y5,y6,g4,g5,g6,rfl⟩:=hI
  have e:((List.range n).map fun i=>rgD n fun j=>rgD n fun k=>nmD (f i j k)).length=(List.range n).length:=by rw[List.length_map]
  rw[e,List.take_length];exact q y4 y5 y6 g4 g5 g6
end
theorem P0{n:Nat}(hn:n<=4){c:Nat}{fs:List N3}(hf:fs.length<=4):FV C6 [(.own,.fz (chD c)),(.lent,LH n fs)] fun a os=>a=.fz (nmD (some (c,num (used n fs) c)))/\os=[.fz (chD c),LH n fs]:=by
 refine BO rfl rfl ?_;show SV DR [some (.own,.fz (chD c)),some (.lent,LH n fs),none,none,none,none,none,none] _;unfold DR;have hn3:=n3 hn;refine A5 (B8 ⟨_,_,rfl,_,_,rfl,rfl,Aq ?_⟩);show SV _ (eUH (chD c) .lent (LH n fs) [] none none none none none) _;refine A5 (BL (Ck ?_));walk_at "wp";refine⟨_,Pm _,fun t Z=>∃y3 y4 y5 y6,Fr y3/\Fr y4/\Fr y5/\Fr y6/\Z=eUH (chD c) .ro (LH n fs) (adN [] ((fs.take t).flatMap (MF n))) y3 y4 y5 y6 none,⟨none,none,none,none,rfl,rfl,rfl,rfl,rfl⟩,fun t d Z hd hI=>?_,fun Z hI=>?_⟩
 .obtain⟨y3,y4,y5,y6,g3,g4,g5,g6,rfl⟩:=hI
  rw[List.getElem?_map,map_eq_some_iff] at hd;obtain⟨f,hd,rfl⟩:=hd;have ht:t<fs.length:=(List.getElem?_eq_some_iff.mp hd).1;have e:=GN (MF n) hd;have hl:=Lp ((fs.take t).flatMap (MF n)) [];rw[Py,List.length_take_of_le (by lia),List.length_nil] at hl;have hl2:t*(n*(n*n))<=4*64:=Nat.mul_le_mul (by lia) hn3;refine⟨_,B4 g3,?_⟩;refine WR hn (by lia) g4 g5 g6 fun z4 z5 z6 f4 f5 f6=>?_;refine A3 ⟨oF (nwD n f),z4,z5,z6,rfl,f4,f5,f6,?_⟩;rw[e,FN]
 obtain⟨y3,y4,y5,y6,g3,g4,g5,g6,rfl⟩:=hI;rw[List.length_map,List.take_length,Rl];have us:∀x:Nm,(Iw (adN [] ((used n fs).map nmD)) (nmD x)).isSome=decide (x∈used n fs):=fun x=>by
  rw[Xt];have:(Iw ([]:Kv) (nmD x)).isSome=false:=rfl;rw[this,Bool.or_false,Bool.eq_iff_iff];simp only[decide_eq_true_eq,List.mem_map];exact⟨fun⟨y,hy,e⟩=>VV e ▸ hy,fun h=>⟨x,h,rfl⟩⟩
 have hu:(used n fs).length<=256:=by rw[Mw]; exact Nat.mul_le_mul hf hn3
 obtain⟨⟨s1,s2⟩,s3⟩:=HK (used n fs) c;generalize num (used n fs) c=N at s1 s2 s3;generalize adN [] ((used n fs).map nmD)=g at us;refine Aq (A5 (B8 ⟨_,_,rfl,_,_,rfl,rfl,Aq ?_⟩));show SV _ (eUH (chD c) .lent (LH n fs) g y3 y4 y5 y6 (oF (.int ((0:Nat):Int)))) _;refine A5 (Na (fun m Z=>m<=N/\Z=eUH (chD c) .lent (LH n fs) g y3 y4 y5 y6 (oF (.int ((N-m:Nat):Int)))) ⟨N,by lia,Nat.le_refl _,by rw[Nat.sub_self]⟩ fun m Z hI=>?_);obtain⟨hm,rfl⟩:=hI;walk_at "wp";have ee:((Iw g (nmD (some (c,N-m)))).isSome != false)=decide (some (c,N-m)∈used n fs):=by rw[us,Bool.bne_false]
 refine Ey (fun e=>?_) fun e=>?_
 .have e:=of_decide_eq_true (ee.symm.trans e)
  have hm0:m≠0:=fun z=>by subst z; exact s2 e
  walk_at "wp";refine A3 ⟨m-1,by lia,by lia,?_⟩;show eUH _ _ _ _ _ _ _ _ (oF (.int (((N-m:Nat):Int)+1)))=_;rw[show((N-m:Nat):Int)+1=((N-(m-1):Nat):Int) by lia]
 .have e:=of_decide_eq_false (ee.symm.trans e)
  have hm0:m=0:=by
   rcases Nat.eq_zero_or_pos m with z|z
   .exact z
   .exact absurd (s1 (N-m) (by lia)) e
  subst hm0;walk_at "wp";rfl
noncomputable abbrev eBH(h:Hs)(c:Nat)(nw:A)(x3 x4 x5 x6 x7 x8:Slot):Ro:=[some (.own,.fz h.d),some (.own,.fz (chD c)),some (.lent,nw),x3,x4,x5,x6,x7,x8]
theorem JP{h:Hs}(ok:h.Ok){c:Nat}(hc:c∈h.ls.map (·.1)){f0:N3}{fs:List N3}(hf:(f0::fs).length<=4):FV Cj [(.own,.fz h.d),(.own,.fz (chD c)),(.lent,LH h.n.toNat (f0::fs))] fun a os=>os=[.fz h.d,.fz (chD c),LH h.n.toNat (f0::fs)]/\a=.fz (.tup [nmD (some (c,num (used h.n.toNat (f0::fs)) c)),nwD h.n.toNat (told h.n.toNat (h.hands c) (some (c,num (used h.n.toNat (f0::fs)) c)) (f0::fs))]):=by
 have n1:=ok.n1;have n2:=ok.n2;have e1:=HX .own h ok;have e2:=Ks .own .own h ok c hc;have e3:=N4 .own .own h ok c hc;obtain⟨n,hn⟩:∃n:Nat,h.n=n:=⟨h.n.toNat,by lia⟩;have hn4:n<=4:=by lia
 rw[hn,Int.toNat_natCast];refine BO rfl rfl ?_;rw[Ur];have e4:=P0 hn4 (c:=c) hf;generalize num (used n (f0::fs)) c=N at e4 |-;generalize h.hands c=hs at e3 |-;show SV DP (eBH h c (LH n (f0::fs)) none none none none none none) _;unfold DP;walk_at "wp";refine G0 e1 ?_;walk_at "wp";refine G0 e2 ?_;walk_at "wp";refine G0 e3 ?_;refine⟨_,_,rfl,rfl,Aq ?_⟩;show SV _ (eBH h c (LH n (f0::fs)) (oF (.lst (iL hs))) none none none none none) _;walk_at "wp";refine Az e4 fun a _ e=>?_;obtain⟨rfl,rfl⟩:=e;refine⟨_,_,rfl,rfl,Aq ?_⟩;show SV _ (eBH h c (LH n (f0::fs)) (oF (.lst (iL hs))) (oF (nmD (some (c,N)))) none none none none) _;walk_at "wp";refine D2 n (fun i=>nwD n (DH n i f0 (f0::fs))) ?_;walk_at "wp";refine⟨by rw[hn],by lia,fun k hk=>?_,?_⟩
 .walk_at "wp"
  refine Az (PZ hn4 hk) fun a _ e=>?_;obtain⟨rfl,rfl⟩:=e;exact⟨_,rfl,rfl,rfl⟩
 refine⟨_,_,rfl,rfl,Aq ?_⟩;show SV _ (eBH h c (LH n (f0::fs)) (oF (.lst (iL hs))) (oF (nmD (some (c,N)))) (some (.own,.lst (((List.range n).map fun i=>nwD n (DH n i f0 (f0::fs))).map A.fz))) none none none) _;walk_at "wp";refine Ld (n:=n) ((List.range n).map fun i=>nwD n (DH n i f0 (f0::fs))) (fun k=>nmD (if (k:Int)∈hs then some (c,N) else fi (DH n k f0 (f0::fs)) k)) (by simp) ?_;refine BD rfl ⟨_,rfl,rfl,Pm _,by lia,fun k d hk hd=>?_,?_⟩
 .cases G7 hd
  walk_at "wp";refine⟨_,Lh _ _,?_⟩;walk_at "wp";refine Ey (fun e=>?_) fun e=>?_
  .walk_at "wp"
   rw[if_pos (of_decide_eq_true e)]
  .walk_at "wp"
   refine Az (GR hk) fun a _ e=>?_;subst e;exact⟨_,rfl,rfl,by rw[if_neg (of_decide_eq_false e)]⟩
 walk_at "wp";refine⟨_,Oc n hn4 _,?_⟩;refine⟨_,_,rfl,rfl,Aq ?_⟩;generalize hF:(rgD n fun k=>nmD (if (k:Int)∈hs then some (c,N) else fi (DH n k f0 (f0::fs)) k))=F;show SV _ (eBH h c (LH n (f0::fs)) (oF (.lst (iL hs))) (oF (nmD (some (c,N)))) (some (.own,.lst (((List.range n).map fun i=>nwD n (DH n i f0 (f0::fs))).map A.fz))) (oF F) none none) _;walk_at "wp";refine Ld (n:=n) ((List.range n).map fun i=>nwD n (DH n i f0 (f0::fs))) (fun j=>if (j:Int)∈hs then F else rgD n fun k=>nmD (DH n j f0 (f0::fs) j j k)) (by simp) ?_;refine BD rfl ⟨_,rfl,rfl,Pm _,by lia,fun k d hk hd=>?_,?_⟩
 .cases G7 hd
  walk_at "wp";refine⟨_,Lh _ _,?_⟩;walk_at "wp";refine Ey (fun e=>?_) fun e=>?_
  .walk_at "wp"
   rw[if_pos (of_decide_eq_true e)]
  .walk_at "wp"
   refine Az (M7 hk) fun a _ e=>?_;subst e;exact⟨_,rfl,rfl,by rw[if_neg (of_decide_eq_false e)]⟩
 walk_at "wp";refine⟨_,Oc n hn4 _,?_⟩;refine⟨_,_,rfl,rfl,Aq ?_⟩;generalize hS:(rgD n fun j=>if (j:Int)∈hs then F else rgD n fun k=>nmD (DH n j f0 (f0::fs) j j k))=S;show SV _ (eBH h c (LH n (f0::fs)) (oF (.lst (iL hs))) (oF (nmD (some (c,N)))) (some (.own,.lst (((List.range n).map fun i=>nwD n (DH n i f0 (f0::fs))).map A.fz))) (oF F) (oF S) none) _;walk_at "wp";refine Ld (n:=n) ((List.range n).map fun i=>nwD n (DH n i f0 (f0::fs))) (fun i=>if (i:Int)∈hs then S else rgD n fun j=>rgD n fun k=>nmD (DH n i f0 (f0::fs) i j k)) (by simp) ?_;refine BD rfl ⟨_,rfl,rfl,Pm _,by lia,fun k d hk hd=>?_,?_⟩
 .cases G7 hd
  walk_at "wp";refine⟨_,Lh _ _,?_⟩;walk_at "wp";refine Ey (fun e=>?_) fun e=>?_
  .walk_at "wp"
   rw[if_pos (of_decide_eq_true e)]
  .walk_at "wp"
   refine⟨_,QR hk,?_⟩;exact⟨_,rfl,rfl,by rw[if_neg (of_decide_eq_false e)]⟩
 walk_at "wp";refine⟨_,Oc n hn4 _,?_⟩;walk_at "wp";rw[<- hS,<- hF];rfl
local macro_rules | `(tactic| walk_at "wp1")=>`(tactic| first
 | (with_reducible refine A5 ?_)|(with_reducible refine Aq ?_)|(with_reducible refine EC ?_)|(with_reducible refine B8 ?_)|(with_reducible refine EM ?_)|(with_reducible refine EK ?_)|(with_reducible refine GH ?_)|(with_reducible refine Dg ?_)|(with_reducible refine EN ?_)|(with_reducible refine EL ?_)|(with_reducible refine EJ ?_)|(with_reducible refine CY ?_)|(with_reducible refine Cf ?_)
 | (with_reducible refine Gq ?_)|(with_reducible refine CV ?_)|(with_reducible refine Ce ?_)|(with_reducible refine DS ?_)|(with_reducible refine En ?_)|(with_reducible refine Gr ?_)|(with_reducible refine Ep ?_)|(with_reducible refine Eo ?_)|(with_reducible refine CW ?_)|(with_reducible refine Er ?_)
 | (with_reducible refine Jc ?_)|(with_reducible refine IH ?_)|(with_reducible refine Cr ?_)|(with_reducible refine CJ ?_)
 | (with_reducible refine Dh ?_)|(with_reducible refine ES ?_)|(with_reducible refine ER ?_)|(with_reducible refine GK ?_)|(with_reducible refine EO ?_)
 | (with_reducible refine Cb ?_)|(with_reducible refine C8 ?_)|(with_reducible refine Ew ?_)|(with_reducible refine Dd ?_)
 | ((with_reducible apply BD); · rfl)
 | ((with_reducible refine Exists.intro _ (And.intro (BR ?_) ?_)); · rfl)
 | ((with_reducible apply ex1); · rfl)|((with_reducible apply ex2); · rfl)|((with_reducible apply ex3); · rfl)|((with_reducible apply ex0); · rfl)|((with_reducible refine And.intro ?_ ?_); · rfl)|((with_reducible refine Gv ?_ ?_); · rfl)|((with_reducible refine E5 ?_ ?_); · rfl))
local macro_rules | `(tactic| walk_at "wp")=>`(tactic| repeat walk_at "wp1")
open Nw
noncomputable abbrev Lets(h:Hs)(l:List Nat):Prop:=∀c∈l,c∈h.ls.map (·.1)
noncomputable abbrev dK(h:Hs):List (Key×D):=h.ls.map fun p=>((Sum.inr (⟨#[p.1]⟩:Str):Key),D.lst (iL p.2))
theorem SI{h:Hs}(ok:h.Ok):Mg [.fz (.lst (h.ls.map ld))]=some (.dic (dK h)):=by
 simp only[Mg,on1,Dq,Option.bind_some,MW,if_pos (keys_nodup ok)]
theorem Vh{h:Hs}{c:Nat}(hc:c∈h.ls.map (·.1)):Pc [.dic (dK h),.fz (chD c)]=some (.fz (.lst (iL (h.hands c)))):=by
 simp only[Pc,on2,Hx,fzU,Option.bind_some,chD,Lo,Xu hc,Option.map_some]
theorem DG{h:Hs}(ok:h.Ok){c:Nat}(hc:c∈h.ls.map (·.1)):h.hands c≠[]/\∀x∈h.hands c,0<=x/\x<h.n:=by
 obtain⟨p,hp,rfl⟩:=List.mem_map.mp hc;rw[QE ok hp];obtain⟨q1,_,q3⟩:=ok.hs p hp;exact⟨q1,q3⟩
theorem good{h:Hs}(ok:h.Ok){l:List Nat}(hl:Lets h l):Good h.n.toNat h.hands l:=by
 have n1:=ok.n1;refine⟨by lia,fun c hc=>(DG ok (hl c hc)).1,fun c hc x hx=>?_⟩;have:=(DG ok (hl c hc)).2 x hx;lia
theorem VT(l:List Nat)(x:Nat):mx (l++[x])=max (mx l) x:=by
 induction l with
 | nil=>simp[mx]
 | cons y l ih =>
  have e1:mx (y::l++[x])=max y (mx (l++[x])):=rfl;have e2:mx (y::l)=max y (mx l):=rfl;rw[e1,e2,ih,Nat.max_assoc]
section
variable(h:Hs)(l:List Nat)
noncomputable abbrev oW:Nat->List Nat:=owL h.hands l
noncomputable abbrev wI(d q:Nat):Int:=((W (oW h l) d q:Nat):Int)-1
noncomputable abbrev lI(k p:Nat):Int:=((L (oW h l) k p:Nat):Int)-1
noncomputable abbrev owD:D:=.lst (l.map fun c=>.lst (iL (h.hands c)))
noncomputable abbrev wL(d:Nat):D:=.lst ((List.range h.n.toNat).map fun q=>.int (wI h l d q))
noncomputable abbrev wT(k:Nat):List D:=(List.range k).map fun j=>wL h l (j+1)
noncomputable abbrev lT(k:Nat):List D:=(List.range h.n.toNat).map fun p=>.int (lI h l k p)
noncomputable abbrev mI(k:Nat)(os:List Int)(q:Nat):Nat:=mx (os.map fun x=>W (oW h l) (L (oW h l) k x.toNat) q)
noncomputable abbrev mT(k:Nat)(os:List Int):List D:=(List.range h.n.toNat).map fun q=>.int ((mI h l k os q:Int)-1)
end
theorem WX{h:Hs}(ok:h.Ok){z:Str}{l:List Nat}(hz:z.cps.toList=l)(hl:Lets h l)(hll:l.length<=100):FV D4 [(.own,.fz h.d),(.own,.fz (.str z))] fun a _=>a=.lst ((l.map fun c=>D.lst (iL (h.hands c))).map A.fz):=by
 subst hz;have e1:=SI ok;have hL:100000<=LIM:=by decide
 have zl:z.length=z.cps.toList.length:=by simp; rfl
 refine BO rfl rfl ?_;show SV Fm [oF h.d,oF (.str z),none] _;unfold Fm;walk_at "wp";refine⟨_,e1,?_⟩;walk_at "wp";refine Jf (fun d=>match d with | .str y=>some (.lst (iL (h.hands (y.cps.toList.headD 0))))|_=>none) (z.cps.toList.map fun c=>D.lst (iL (h.hands c))) (Vw (BD rfl ⟨z,rfl,decide_eq_true (by lia),by rw[Hi,List.length_map]; lia,?_,fun d hd=>?_,?_⟩))
 .rw[Hi,List.filterMap_map,<- List.filterMap_eq_map]; rfl
 .obtain⟨c,hc,rfl⟩:=List.mem_map.mp hd
  refine⟨[chD c],rfl,?_⟩;walk_at "wp";refine⟨_,Vh (hl c hc),?_⟩;walk_at "wp";rfl
 walk_at "wp";rfl
noncomputable abbrev eN(h:Hs)(l:List Nat)(nw la:List D)(x4 x5 x6 x7:Slot):Ro:=[oF (.int h.n),oF (owD h l),some (.own,.lst (nw.map A.fz)),some (.own,.lst (la.map A.fz)),x4,x5,x6,x7]
noncomputable abbrev ln1:MS:=Bw [7] true (Bi (Aa 5)) (ifS (AF (opM geA (m2L (opM ixA (m2L (Aa 3) (Aa 7))) (Ag (.int 0))))) (AH 6 (AG (Ng (AK (Aa 6)) (AK (opM ixA (m2L (Aa 2) (opM ixA (m2L (Aa 3) (Aa 7))))))) 2 BA (opM S5 (Ac (Aa 0) (Ac (Aa 1) Ai))))) AS)
noncomputable abbrev ln2:MS:=Bw [7] true (Bi (Aa 5)) (Ao (F7 6 (Aa 7) (Aa 4)) (F7 3 (Aa 7) (Aa 4)))
section
variable{h:Hs}{l:List Nat}{k c:Nat}{x4 x7:Slot}{QS:Fl->Prop}
theorem Yh(ok:h.Ok)(hc:c∈h.ls.map (·.1))(hk:k<=l.length)(h7:Fr x7)(q:∀y7,Fr y7->QS (.next (eN h l (wT h l k) (lT h l k) x4 (oF (.lst (iL (h.hands c)))) (some (.own,.lst ((mT h l k (h.hands c)).map A.fz))) y7))):
  SV ln1 (eN h l (wT h l k) (lT h l k) x4 (oF (.lst (iL (h.hands c)))) (some (.own,.lst ((mT h l k []).map A.fz))) x7) QS:=by
 have n1:=ok.n1;have n2:=ok.n2;refine BL (Ck (BD rfl ⟨_,rfl,_,rfl,fun i Z=>∃y7,Fr y7/\Z=eN h l (wT h l k) (lT h l k) x4 (oF (.lst (iL (h.hands c)))) (some (.own,.lst ((mT h l k ((h.hands c).take i)).map A.fz))) y7,⟨x7,h7,rfl⟩,fun i d Z hd hI=>?_,fun Z hI=>?_⟩))
 .obtain⟨y7,g7,rfl⟩:=hI
  rw[iL,List.getElem?_map,map_eq_some_iff] at hd;obtain⟨x,hx,rfl⟩:=hd;obtain⟨q0,q1⟩:=(DG ok hc).2 x (List.mem_of_getElem? hx);obtain⟨p,rfl⟩:∃p:Nat,x=p:=⟨x.toNat,by lia⟩;have em:∀q,mI h l k ((h.hands c).take (i+1)) q=max (mI h l k ((h.hands c).take i) q) (W (oW h l) (L (oW h l) k p) q):=fun q=>by
   show mx _=_;rw[List.take_succ,hx,Option.toList,List.map_append];exact VT _ _
  have ep:ixA [.lst ((lT h l k).map A.fz),.fz (.int (p:Int))]=some (.fz (.int (lI h l k p))):=ixL (Gh (by lia));refine⟨_,B4 g7,?_⟩;walk_at "wp";refine⟨_,ep,?_⟩;walk_at "wp";refine Ey (fun e=>?_) fun e=>?_
  .have e:lI h l k p ≥ 0:=of_decide_eq_true e
   have hLk:=Hn (ow:=oW h l) k p;have e5:ixA [.lst ((wT h l k).map A.fz),.fz (.int (lI h l k p))]=some (.fz (wL h l (L (oW h l) k p))):=by
    obtain⟨d,hd⟩:∃d,L (oW h l) k p=d+1:=⟨L (oW h l) k p-1,by lia⟩;have:lI h l k p=(d:Int):=by show((L (oW h l) k p:Nat):Int)-1=_; lia
    rw[this,hd];exact ixL (Gh (by lia))
   refine B8 ?_;refine SK h.n.toNat (fun q=>.int ((mI h l k ((h.hands c).take i) q:Int)-1)) (fun q=>.int (wI h l (L (oW h l) k p) q)) (fun q=>.int ((mI h l k ((h.hands c).take (i+1)) q:Int)-1)) (by lia) ?_;walk_at "wp";refine⟨_,_,Ea rfl,rfl,?_⟩;walk_at "wp";refine⟨_,ep,?_⟩;walk_at "wp";refine⟨_,e5,?_⟩;walk_at "wp";refine⟨fun q hq=>?_,?_⟩
   .walk_at "wp"
    rw[em q];congr 1;show(if _ > _ then _ else _)=_;split<;>lia
   walk_at "wp";exact A3 ⟨oF (.int (p:Int)),rfl,rfl⟩
  .have e:¬lI h l k p ≥ 0:=of_decide_eq_false e
   have e0:L (oW h l) k p=0:=by
    have:¬((L (oW h l) k p:Nat):Int)-1 ≥ 0:=e;lia
   have e6:mT h l k ((h.hands c).take (i+1))=mT h l k ((h.hands c).take i):=CG fun q _=>by rw[em q,e0,Qh,Nat.max_zero]
   walk_at "wp";refine A3 ⟨oF (.int (p:Int)),rfl,?_⟩;rw[e6]; rfl
 .obtain⟨y7,g7,rfl⟩:=hI
  have hlen:(iL (h.hands c)).length=(h.hands c).length:=BP _;rw[hlen,List.take_length];exact q y7 g7
noncomputable abbrev sT(h:Hs)(k:Nat)(os:List Int)(f:Nat->Int):List D:=(List.range h.n.toNat).map fun(q:Nat)=>D.int (if (q:Int)∈os then (k:Int) else f q)
theorem LP{f:Nat->Int}{i p:Nat}(hx:(h.hands c)[i]? = some (p:Int)):((sT h k ((h.hands c).take i) f).map A.fz).set p (.fz (.int (k:Int)))=(sT h k ((h.hands c).take (i+1)) f).map A.fz:=by
 rw[WY];congr 1;refine CG fun q hq=>?_;rw[List.take_succ,hx];by_cases z1:q=p
 .subst z1
  rw[if_pos rfl,if_pos (by simp)]
 .rw[if_neg z1]
  have z2:¬((q:Int)=(p:Int)):=fun z=>z1 (by lia);by_cases z3:(q:Int)∈(h.hands c).take i
  .rw[if_pos z3,if_pos (by simp[z3])]
  .rw[if_neg z3,if_neg (by simp[z3,z2])]
theorem Yi{nw:List D}{f g:Nat->Int}(ok:h.Ok)(hc:c∈h.ls.map (·.1))(h7:Fr x7)(q:∀y7,Fr y7->QS (.next (eN h l nw (sT h k (h.hands c) f) (oF (.int (k:Int))) (oF (.lst (iL (h.hands c)))) (some (.own,.lst ((sT h k (h.hands c) g).map A.fz))) y7))):
  SV ln2 (eN h l nw (sT h k [] f) (oF (.int (k:Int))) (oF (.lst (iL (h.hands c)))) (some (.own,.lst ((sT h k [] g).map A.fz))) x7) QS:=by
 have n1:=ok.n1;have n2:=ok.n2;refine BL (Ck (BD rfl ⟨_,rfl,_,rfl,fun i Z=>∃y7,Fr y7/\Z=eN h l nw (sT h k ((h.hands c).take i) f) (oF (.int (k:Int))) (oF (.lst (iL (h.hands c)))) (some (.own,.lst ((sT h k ((h.hands c).take i) g).map A.fz))) y7,⟨x7,h7,rfl⟩,fun i d Z hd hI=>?_,fun Z hI=>?_⟩))
 .obtain⟨y7,g7,rfl⟩:=hI
  rw[iL,List.getElem?_map,map_eq_some_iff] at hd;obtain⟨x,hx,rfl⟩:=hd;obtain⟨q0,q1⟩:=(DG ok hc).2 x (List.mem_of_getElem? hx);obtain⟨p,rfl⟩:∃p:Nat,x=p:=⟨x.toNat,by lia⟩;refine⟨_,B4 g7,A5 (JY ?_)⟩;walk_at "wp";refine⟨⟨_,rfl⟩,?_⟩;walk_at "wp";refine⟨p,by rw[List.length_map,List.length_map,List.length_range]; exact Jl (by lia),Aq (JY ?_)⟩;walk_at "wp";refine⟨⟨_,rfl⟩,?_⟩;walk_at "wp";refine⟨p,by rw[List.length_map,List.length_map,List.length_range]; exact Jl (by lia),?_⟩;refine A3 ⟨oF (.int (p:Int)),rfl,?_⟩;have s1:=LP (h:=h) (k:=k) (f:=f) hx;have s2:=LP (h:=h) (k:=k) (f:=g) hx;unfold eN;rw[<- s1,<- s2];rfl
 .obtain⟨y7,g7,rfl⟩:=hI
  have hlen:(iL (h.hands c)).length=(h.hands c).length:=BP _;rw[hlen,List.take_length];exact q y7 g7
end
theorem Uv{h:Hs}(ok:h.Ok){l:List Nat}(hl:Lets h l){k c:Nat}(hc:l[k]? = some c)(q:Nat):(if (q:Int)∈h.hands c then (k:Int) else (mI h l k (h.hands c) q:Int)-1)=wI h l (k+1) q:=by
 have g:=good ok hl;show _=((W (oW h l) (k+1) q:Nat):Int)-1;rw[H0];by_cases hq:(q:Int)∈h.hands c
 .rw[if_pos hq,if_pos ((DA g hc q).mp hq)]; lia
 .rw[if_neg hq,if_neg (fun z=>hq ((DA g hc q).mpr z)),show oW h l (k+1)=(h.hands c).map Int.toNat from F2 hc,List.map_map]; rfl
theorem OG{h:Hs}(ok:h.Ok){l:List Nat}(hl:Lets h l){k c:Nat}(hc:l[k]? = some c)(q:Nat):(if (q:Int)∈h.hands c then (k:Int) else lI h l k q)=lI h l (k+1) q:=by
 have g:=good ok hl;show _=((L (oW h l) (k+1) q:Nat):Int)-1;rw[L];by_cases hq:(q:Int)∈h.hands c
 .rw[if_pos hq,if_pos ((DA g hc q).mp hq)]; lia
 .rw[if_neg hq,if_neg (fun z=>hq ((DA g hc q).mpr z))]
theorem WV{h:Hs}(ok:h.Ok){l:List Nat}(hl:Lets h l)(hll:l.length<=100):FV C1 [(.own,.fz (.int h.n)),(.own,.fz (owD h l))] fun a _=>a=.lst ((wT h l l.length).map A.fz):=by
 have n1:=ok.n1;have n2:=ok.n2;have hL:100000<=LIM:=by decide
 have hnn:((h.n.toNat:Nat):Int)=h.n:=Int.toNat_of_nonneg (by lia);refine BO rfl rfl ?_;show SV DL [oF (.int h.n),oF (owD h l),none,none,none,none,none,none] _;unfold DL;walk_at "wp";refine D2 h.n.toNat (fun p=>D.int (lI h l 0 p)) ?_;walk_at "wp";refine⟨by rw[hnn],by lia,fun k hk=>?_,?_⟩
 .walk_at "wp"
  rfl
 refine⟨_,_,rfl,rfl,Aq ?_⟩;show SV _ (eN h l (wT h l 0) (lT h l 0) none none none none) _;refine A5 (BL (Mr (BD rfl ⟨_,rfl,rfl,_,rfl,fun k Z=>∃x4 x5 x6 x7,Fr x4/\Fr x5/\Fr x6/\Fr x7/\Z=eN h l (wT h l k) (lT h l k) x4 x5 x6 x7,⟨none,none,none,none,rfl,rfl,rfl,rfl,rfl⟩,fun k d Z hd hI=>?_,fun Z hI=>?_⟩)))
 .obtain⟨x4,x5,x6,x7,h4,h5,h6,h7,rfl⟩:=hI
  obtain⟨e,he,rfl⟩:=Rq hd;rw[List.getElem?_map,map_eq_some_iff] at he;obtain⟨c,hc0,rfl⟩:=he;have hk:k<l.length:=(List.getElem?_eq_some_iff.mp hc0).1;have hc:c∈h.ls.map (·.1):=hl c (List.mem_of_getElem? hc0);clear hd;refine⟨_,Nq h4 h5,?_⟩;show SV _ (eN h l (wT h l k) (lT h l k) (oF (.int (k:Int))) (oF (.lst (iL (h.hands c)))) x6 x7) _;walk_at "wp";refine D2 h.n.toNat (fun q=>D.int ((mI h l k [] q:Int)-1)) ?_;walk_at "wp";refine⟨by rw[hnn],by lia,fun k hk=>?_,?_⟩
  .walk_at "wp"
   rfl
  refine⟨_,_,rfl,h6,Aq ?_⟩;show SV _ (eN h l (wT h l k) (lT h l k) (oF (.int (k:Int))) (oF (.lst (iL (h.hands c)))) (some (.own,.lst ((mT h l k []).map A.fz))) x7) _;refine A5 (Yh ok hc (by lia) h7 fun y7 g7=>Aq ?_);have e1:lT h l k=sT h k [] (lI h l k):=CG fun q _=>by rw[if_neg (by simp)]
  have e2:mT h l k (h.hands c)=sT h k [] fun q=>(mI h l k (h.hands c) q:Int)-1:=CG fun q _=>by rw[if_neg (by simp)]
  rw[e1,e2];refine A5 (Yi ok hc g7 fun z7 f7=>Aq ?_);have e3:sT h k (h.hands c) (lI h l k)=lT h l (k+1):=CG fun q _=>by rw[OG ok hl hc0]
  have e4:sT h k (h.hands c) (fun q=>(mI h l k (h.hands c) q:Int)-1)=(List.range h.n.toNat).map fun q=>D.int (wI h l (k+1) q):=CG fun q _=>by rw[Uv ok hl hc0]
  rw[e3,e4];refine Ir ⟨_,rfl⟩ ?_;walk_at "wp";refine⟨_,_,Mv rfl,?_⟩;walk_at "wp";refine⟨by rw[List.length_map,List.length_map,List.length_range]; lia,?_⟩;refine A3 ⟨oF (.int (k:Int)),oF (.lst (iL (h.hands c))),oF (wL h l (k+1)),z7,rfl,rfl,rfl,f7,?_⟩;have e5:(wT h l k).map A.fz++[.fz (wL h l (k+1))]=(wT h l (k+1)).map A.fz:=by
   rw[wT,wT,List.range_succ,List.map_append,List.map_append]; rfl
  unfold eN;rw[<- e5];rfl
 obtain⟨x4,x5,x6,x7,h4,h5,h6,h7,rfl⟩:=hI;have e6:(IK (l.map fun c=>D.lst (iL (h.hands c)))).length=l.length:=by simp[IK]
 rw[e6];walk_at "wp";rfl
local macro_rules | `(tactic| walk_at "wp1")=>`(tactic| first
 | (with_reducible refine A5 ?_)|(with_reducible refine Aq ?_)|(with_reducible refine EC ?_)|(with_reducible refine B8 ?_)|(with_reducible refine EM ?_)|(with_reducible refine EK ?_)|(with_reducible refine GH ?_)|(with_reducible refine Dg ?_)|(with_reducible refine EN ?_)|(with_reducible refine EL ?_)|(with_reducible refine EJ ?_)|(with_reducible refine CY ?_)|(with_reducible refine Cf ?_)
 | (with_reducible refine Gq ?_)|(with_reducible refine CV ?_)|(with_reducible refine Ce ?_)|(with_reducible refine DS ?_)|(with_reducible refine En ?_)|(with_reducible refine Gr ?_)|(with_reducible refine Ep ?_)|(with_reducible refine Eo ?_)|(with_reducible refine CW ?_)|(with_reducible refine Er ?_)
 | (with_reducible refine Jc ?_)|(with_reducible refine IH ?_)|(with_reducible refine Cr ?_)|(with_reducible refine CJ ?_)
 | (with_reducible refine Dh ?_)|(with_reducible refine ES ?_)|(with_reducible refine ER ?_)|(with_reducible refine GK ?_)|(with_reducible refine EO ?_)
 | (with_reducible refine Cb ?_)|(with_reducible refine C8 ?_)|(with_reducible refine Ew ?_)|(with_reducible refine Dd ?_)
 | ((with_reducible apply BD); · rfl)
 | ((with_reducible refine Exists.intro _ (And.intro (BR ?_) ?_)); · rfl)
 | ((with_reducible apply ex1); · rfl)|((with_reducible apply ex2); · rfl)|((with_reducible apply ex3); · rfl)|((with_reducible apply ex0); · rfl)|((with_reducible refine And.intro ?_ ?_); · rfl)|((with_reducible refine Gv ?_ ?_); · rfl)|((with_reducible refine E5 ?_ ?_); · rfl))
local macro_rules | `(tactic| walk_at "wp")=>`(tactic| repeat walk_at "wp1")
open Nw
theorem WW{h:Hs}{l:List Nat}{d q:Nat}(hd:d<=l.length)(hq:q<h.n.toNat):FV Dn [(.own,.fz (.lst (wT h l l.length))),(.own,.fz (.int ((d:Int)-1))),(.own,.fz (.int (q:Int)))] fun a _=>a=.fz (.int (wI h l d q)):=by
 refine BO rfl rfl ?_;show SV Gk [oF (.lst (wT h l l.length)),oF (.int ((d:Int)-1)),oF (.int (q:Int))] _;unfold Gk;walk_at "wp";refine Ey (fun e=>?_) fun e=>?_
 .have e:(d:Int)-1<0:=of_decide_eq_true e
  have:d=0:=by lia
  subst this;walk_at "wp";rfl
 .have e:¬(d:Int)-1<0:=of_decide_eq_false e
  obtain⟨k,rfl⟩:∃k,d=k+1:=⟨d-1,by lia⟩;have ek:((k+1:Nat):Int)-1=(k:Int):=by lia
  walk_at "wp";rw[ek];refine⟨_,ixF (Gh (by lia)),?_⟩;walk_at "wp";refine⟨_,ixF (Gh hq),?_⟩;walk_at "wp";rfl
noncomputable abbrev t1(h:Hs)(l:List Nat)(d q r:Nat):D:=.lst ((List.range h.n.toNat).map fun s=>.int (wI h l (W (oW h l) (W (oW h l) d q) r) s))
noncomputable abbrev t2(h:Hs)(l:List Nat)(d q:Nat):D:=.lst ((List.range h.n.toNat).map fun r=>t1 h l d q r)
noncomputable abbrev t3(h:Hs)(l:List Nat)(d:Nat):List D:=(List.range h.n.toNat).map fun q=>t2 h l d q
noncomputable abbrev eT(h:Hs)(l:List Nat)(d:Nat)(fd:List D)(x4 x5 x6 x7 x8:Slot):Ro:=[oF (.int h.n),oF (.lst (wT h l l.length)),oF (.int ((d:Int)-1)),some (.own,.lst (fd.map A.fz)),x4,x5,x6,x7,x8]
theorem Ho{ow:Nat->List Nat}{d m q:Nat}(h:d<=m):W ow d q<=m:=Nat.le_trans (Nj d q) h
theorem HV(f:Nat->D)(k:Nat):((List.range k).map f).map A.fz++[.fz (f k)]=((List.range (k+1)).map f).map A.fz:=by
 rw[List.range_succ,List.map_append,List.map_append]; rfl
theorem LO{h:Hs}(ok:h.Ok){l:List Nat}{d:Nat}(hd:d<=l.length):FV Bd [(.own,.fz (.int h.n)),(.own,.fz (.lst (wT h l l.length))),(.own,.fz (.int ((d:Int)-1)))] fun a _=>a=.lst ((t3 h l d).map A.fz):=by
 have n1:=ok.n1;have n2:=ok.n2;have hL:100000<=LIM:=by decide
 have hnn:((h.n.toNat:Nat):Int)=h.n:=Int.toNat_of_nonneg (by lia);refine BO rfl rfl ?_;show SV Ej [oF (.int h.n),oF (.lst (wT h l l.length)),oF (.int ((d:Int)-1)),none,none,none,none,none,none] _;unfold Ej;walk_at "wp";show SV _ (eT h l d [] none none none none none) _;refine BL (Lj (BD rfl ⟨h.n,rfl,⟨by lia,by lia⟩,fun q Z=>∃x4 x5 x6 x7 x8,Fr x4/\Fr x5/\Fr x6/\Fr x7/\Fr x8/\Z=eT h l d ((List.range q).map fun q=>t2 h l d q) x4 x5 x6 x7 x8,⟨none,none,none,none,none,rfl,rfl,rfl,rfl,rfl,rfl⟩,fun q dd Z hdd hI=>?_,fun Z hI=>?_⟩))
 .obtain⟨x4,x5,x6,x7,x8,h4,h5,h6,h7,h8,rfl⟩:=hI
  obtain⟨rfl,hq⟩:=LX hdd;clear hdd;refine⟨_,B4 h4,?_⟩;refine A5 (B8 (CW (CJ ⟨[],rfl,rfl,_,_,rfl,h5,Aq ?_⟩)));show SV _ (eT h l d ((List.range q).map fun q=>t2 h l d q) (oF (.int (q:Int))) (some (.own,.lst [])) x6 x7 x8) _;walk_at "wp";refine Az (WW hd hq) fun a _ e=>?_;subst e;refine⟨_,_,rfl,h6,Aq ?_⟩;show SV _ (eT h l d ((List.range q).map fun q=>t2 h l d q) (oF (.int (q:Int))) (some (.own,.lst ((([]:List D)).map A.fz))) (oF (.int (wI h l d q))) x7 x8) _;refine A5 (BL (Lj (BD rfl ⟨h.n,rfl,⟨by lia,by lia⟩,fun r Z=>∃x7 x8,Fr x7/\Fr x8/\Z=eT h l d ((List.range q).map fun q=>t2 h l d q) (oF (.int (q:Int))) (some (.own,.lst ((((List.range r).map fun r=>t1 h l d q r)).map A.fz))) (oF (.int (wI h l d q))) x7 x8,⟨x7,x8,h7,h8,rfl⟩,fun r dd Z hdd hI=>?_,fun Z hI=>?_⟩)))
  .obtain⟨y7,y8,g7,g8,rfl⟩:=hI
   obtain⟨rfl,hr⟩:=LX hdd;clear hdd;refine⟨_,B4 g7,?_⟩;walk_at "wp";refine Az (WW (Ho hd) hr) fun a _ e=>?_;subst e;refine⟨_,_,rfl,g8,Aq ?_⟩;show SV _ (eT h l d ((List.range q).map fun q=>t2 h l d q) (oF (.int (q:Int))) (some (.own,.lst ((((List.range r).map fun r=>t1 h l d q r)).map A.fz))) (oF (.int (wI h l d q))) (oF (.int (r:Int))) (oF (.int (wI h l (W (oW h l) d q) r)))) _;refine Ir ⟨_,rfl⟩ ?_;walk_at "wp";refine D2 h.n.toNat (fun s=>.int (wI h l (W (oW h l) (W (oW h l) d q) r) s)) ?_;walk_at "wp";refine⟨by rw[hnn],by lia,fun s hs=>?_,?_⟩
   .walk_at "wp"
    refine Az (WW (Ho (Ho hd)) hs) fun a _ e=>?_;subst e;exact⟨_,rfl,rfl,rfl⟩
   refine⟨_,_,GS _ _,?_⟩;walk_at "wp";refine⟨by rw[List.length_map,List.length_map,List.length_range]; lia,?_⟩;refine A3 ⟨oF (.int (r:Int)),oF (.int (wI h l (W (oW h l) d q) r)),rfl,rfl,?_⟩;unfold eT;rw[<- HV];rfl
  obtain⟨y7,y8,g7,g8,rfl⟩:=hI;have e1:(Di 0 h.n.toNat).length=h.n.toNat:=by simp[Di]
  rw[e1];refine Aq ?_;show SV _ (eT h l d ((List.range q).map fun q=>t2 h l d q) (oF (.int (q:Int))) (some (.own,.lst ((((List.range h.n.toNat).map fun r=>t1 h l d q r)).map A.fz))) (oF (.int (wI h l d q))) y7 y8) _;refine Ir ⟨_,rfl⟩ ?_;walk_at "wp";refine⟨_,_,Mv rfl,?_⟩;walk_at "wp";refine⟨by rw[List.length_map,List.length_map,List.length_range]; lia,?_⟩;refine A3 ⟨oF (.int (q:Int)),oF (t2 h l d q),oF (.int (wI h l d q)),y7,y8,rfl,rfl,rfl,g7,g8,?_⟩;unfold eT;rw[<- HV];rfl
 obtain⟨x4,x5,x6,x7,x8,h4,h5,h6,h7,h8,rfl⟩:=hI;have e1:(Di 0 h.n.toNat).length=h.n.toNat:=by simp[Di]
 rw[e1];walk_at "wp";rfl
local macro_rules | `(tactic| walk_at "wp1")=>`(tactic| first
 | (with_reducible refine A5 ?_)|(with_reducible refine Aq ?_)|(with_reducible refine EC ?_)|(with_reducible refine B8 ?_)|(with_reducible refine EM ?_)|(with_reducible refine EK ?_)|(with_reducible refine GH ?_)|(with_reducible refine Dg ?_)|(with_reducible refine EN ?_)|(with_reducible refine EL ?_)|(with_reducible refine EJ ?_)|(with_reducible refine CY ?_)|(with_reducible refine Cf ?_)
 | (with_reducible refine Gq ?_)|(with_reducible refine CV ?_)|(with_reducible refine Ce ?_)|(with_reducible refine DS ?_)|(with_reducible refine En ?_)|(with_reducible refine Gr ?_)|(with_reducible refine Ep ?_)|(with_reducible refine Eo ?_)|(with_reducible refine CW ?_)|(with_reducible refine Er ?_)
 | (with_reducible refine Jc ?_)|(with_reducible refine IH ?_)|(with_reducible refine Cr ?_)|(with_reducible refine CJ ?_)
 | (with_reducible refine Dh ?_)|(with_reducible refine ES ?_)|(with_reducible refine ER ?_)|(with_reducible refine GK ?_)|(with_reducible refine EO ?_)
 | (with_reducible refine Cb ?_)|(with_reducible refine C8 ?_)|(with_reducible refine Ew ?_)|(with_reducible refine Dd ?_)
 | ((with_reducible apply BD); · rfl)
 | ((with_reducible refine Exists.intro _ (And.intro (BR ?_) ?_)); · rfl)
 | ((with_reducible apply ex1); · rfl)|((with_reducible apply ex2); · rfl)|((with_reducible apply ex3); · rfl)|((with_reducible apply ex0); · rfl)|((with_reducible refine And.intro ?_ ?_); · rfl)|((with_reducible refine Gv ?_ ?_); · rfl)|((with_reducible refine E5 ?_ ?_); · rfl))
local macro_rules | `(tactic| walk_at "wp")=>`(tactic| repeat walk_at "wp1")
open Nw
noncomputable abbrev eZ(h:Hs)(l:List Nat)(m:Nat)(la:List D)(x4 x5:Slot):Ro:=[oF (.int h.n),oF (owD h l),oF (.int (m:Int)),some (.own,.lst (la.map A.fz)),x4,x5]
theorem KS{h:Hs}{l:List Nat}{k c:Nat}(hc:l[k]? = some c):ixA [.fz (owD h l),.fz (.int (k:Int))]=some (.fz (.lst (iL (h.hands c)))):=by
 obtain⟨h1,h2⟩:=List.getElem?_eq_some_iff.mp hc;refine ixF ?_;rw[B9 rfl (by rw[List.length_map]; exact h1),List.getElem_map,h2]
theorem UL{h:Hs}{l:List Nat}(k:Nat):lT h l k=sT h k [] (lI h l k):=CG fun q _=>by rw[if_neg (by simp)]
theorem UZ{h:Hs}(ok:h.Ok){l:List Nat}(hl:Lets h l){k c:Nat}(hc:l[k]? = some c):sT h k (h.hands c) (lI h l k)=lT h l (k+1):=CG fun q _=>by rw[OG ok hl hc]
theorem WQ{h:Hs}(ok:h.Ok){l:List Nat}(hl:Lets h l)(hll:l.length<=100):FV C0 [(.own,.fz (.int h.n)),(.own,.fz (owD h l)),(.own,.fz (.int (l.length:Int)))] fun a _=>a=.lst ((lT h l l.length).map A.fz):=by
 have n1:=ok.n1;have n2:=ok.n2;have hnn:((h.n.toNat:Nat):Int)=h.n:=Int.toNat_of_nonneg (by lia);refine BO rfl rfl ?_;show SV Fj [oF (.int h.n),oF (owD h l),oF (.int (l.length:Int)),none,none,none] _;unfold Fj;walk_at "wp";refine D2 h.n.toNat (fun p=>D.int (lI h l 0 p)) ?_;walk_at "wp";refine⟨by rw[hnn],by lia,fun k hk=>?_,?_⟩
 .walk_at "wp"
  rfl
 refine⟨_,_,rfl,rfl,Aq ?_⟩;show SV _ (eZ h l l.length (lT h l 0) none none) _;refine A5 (BL (Lj (BD rfl ⟨(l.length:Int),rfl,⟨by lia,by lia⟩,fun k Z=>∃x4 x5,Fr x4/\Fr x5/\Z=eZ h l l.length (lT h l k) x4 x5,⟨none,none,rfl,rfl,rfl⟩,fun k d Z hd hI=>?_,fun Z hI=>?_⟩)))
 .obtain⟨x4,x5,h4,h5,rfl⟩:=hI
  obtain⟨rfl,hk⟩:=LX hd;have hk:k<l.length:=by simpa using hk
  have hc0:l[k]? = some l[k]:=List.getElem?_eq_getElem hk;have hc:l[k]∈h.ls.map (·.1):=hl _ (List.getElem_mem hk);generalize l[k]=c at hc0 hc;clear hd;refine⟨_,B4 h4,?_⟩;rw[UL];refine BL (Ck ?_);walk_at "wp";refine⟨_,KS hc0,?_⟩;walk_at "wp";refine⟨fun i Z=>∃y5,Fr y5/\Z=eZ h l l.length (sT h k ((h.hands c).take i) (lI h l k)) (oF (.int (k:Int))) y5,⟨x5,h5,rfl⟩,fun i d Z hd hI=>?_,fun Z hI=>?_⟩
  .obtain⟨y5,g5,rfl⟩:=hI
   rw[iL,List.getElem?_map,map_eq_some_iff] at hd;obtain⟨x,hx,rfl⟩:=hd;obtain⟨q0,q1⟩:=(DG ok hc).2 x (List.mem_of_getElem? hx);obtain⟨p,rfl⟩:∃p:Nat,x=p:=⟨x.toNat,by lia⟩;refine⟨_,B4 g5,JY ?_⟩;walk_at "wp";refine⟨⟨_,rfl⟩,?_⟩;walk_at "wp";refine⟨p,by rw[List.length_map,List.length_map,List.length_range]; exact Jl (by lia),?_⟩;refine A3 ⟨oF (.int (p:Int)),rfl,?_⟩;have s1:=LP (h:=h) (k:=k) (f:=lI h l k) hx;unfold eZ;rw[<- s1];rfl
  .obtain⟨y5,g5,rfl⟩:=hI
   have hlen:(iL (h.hands c)).length=(h.hands c).length:=BP _;rw[hlen,List.take_length,UZ ok hl hc0];exact A3 ⟨oF (.int (k:Int)),y5,rfl,g5,rfl⟩
 obtain⟨x4,x5,h4,h5,rfl⟩:=hI;have e1:(Di 0 ((l.length:Int)).toNat).length=l.length:=by simp[Di]
 rw[e1];walk_at "wp";rfl
noncomputable abbrev nmK(h:Hs)(l:List Nat)(d:Nat):Nm:=nmL h.n.toNat h.hands l d
noncomputable abbrev nmT(h:Hs)(l:List Nat)(k:Nat):List D:=(List.range k).map fun j=>nmD (nmK h l (j+1))
noncomputable abbrev Nk(h:Hs)(l:List Nat)(d:Nat):N3:=Nws (oW h l) (nmK h l) d
noncomputable abbrev eD(h:Hs)(l:List Nat)(d:Nat)(fd:List D)(x3 x4 x5:Slot):Ro:=[oF (.lst (t3 h l d)),oF (.lst (nmT h l l.length)),some (.own,.lst (fd.map A.fz)),x3,x4,x5]
theorem LW(n:Nat)(hn:n<=1000)(g:Nat->D):GI [.lst (((List.range n).map g).map A.fz)]=some (.fz (rgD n g)):=by
 have hL:100000<=LIM:=by decide
 have:((List.range n).map g).length<=LIM:=by rw[List.length_map,List.length_range]; lia
 simp only[GI,on1,Dq,Ca,Option.bind_some,this,if_true,G1]
theorem OV{h:Hs}(ok:h.Ok){l:List Nat}{d:Nat}(hd:d<=l.length):FV CB [(.own,.fz (.lst (t3 h l d))),(.own,.fz (.lst (nmT h l l.length)))] fun a _=>a=.fz (nwD h.n.toNat (Nk h l d)):=by
 have n1:=ok.n1;have n2:=ok.n2;have hL:100000<=LIM:=by decide
 refine BO rfl rfl ?_;show SV Eg [oF (.lst (t3 h l d)),oF (.lst (nmT h l l.length)),none,none,none,none] _;unfold Eg;walk_at "wp";show SV _ (eD h l d [] none none none) _;refine BL (Ck (BD rfl ⟨_,rfl,_,rfl,fun q Z=>∃x3 x4 x5,Fr x3/\Fr x4/\Fr x5/\Z=eD h l d ((List.range q).map fun q=>rgD h.n.toNat fun r=>rgD h.n.toNat fun s=>nmD (Nk h l d q r s)) x3 x4 x5,⟨none,none,none,rfl,rfl,rfl,rfl⟩,fun q dd Z hdd hI=>?_,fun Z hI=>?_⟩))
 .obtain⟨x3,x4,x5,h3,h4,h5,rfl⟩:=hI
  have hq:q<h.n.toNat:=by have:=(List.getElem?_eq_some_iff.mp hdd).1; simpa using this
  cases G7 hdd;clear hdd;refine⟨_,B4 h3,?_⟩;refine A5 (B8 (CW (CJ ⟨[],rfl,rfl,_,_,rfl,h4,Aq ?_⟩)));show SV _ (eD h l d ((List.range q).map fun q=>rgD h.n.toNat fun r=>rgD h.n.toNat fun s=>nmD (Nk h l d q r s)) (oF (t2 h l d q)) (some (.own,.lst (([]:List D).map A.fz))) x5) _
  refine A5 (BL (Ck (BD rfl ⟨_,rfl,_,rfl,fun r Z=>∃y5,Fr y5/\Z=eD h l d ((List.range q).map fun q=>rgD h.n.toNat fun r=>rgD h.n.toNat fun s=>nmD (Nk h l d q r s)) (oF (t2 h l d q)) (some (.own,.lst (((List.range r).map fun r=>rgD h.n.toNat fun s=>nmD (Nk h l d q r s)).map A.fz))) y5,⟨x5,h5,rfl⟩,fun r dd Z hdd hI=>?_,fun Z hI=>?_⟩)))
  .obtain⟨y5,g5,rfl⟩:=hI
   have hr:r<h.n.toNat:=by have:=(List.getElem?_eq_some_iff.mp hdd).1; simpa using this
   cases G7 hdd;clear hdd;refine⟨_,B4 g5,Ir ⟨_,rfl⟩ ?_⟩;walk_at "wp";refine IS ((List.range h.n.toNat).map fun s=>.int (wI h l (W (oW h l) (W (oW h l) d q) r) s)) (fun e=>nmD (nmK h l (nD e+1).toNat)) (BD rfl ⟨_,rfl,rfl,by rw[List.length_map,List.length_range]; lia,fun e he=>?_,?_⟩)
   .obtain⟨s,hs,rfl⟩:=List.mem_map.mp he
    obtain⟨w,hw,hW⟩:∃w:Nat,wI h l (W (oW h l) (W (oW h l) d q) r) s=(w:Int)-1/\w<=l.length:=⟨_,rfl,Ho (Ho (Ho hd))⟩;rw[hw];have ew:(nD (D.int ((w:Int)-1))+1).toNat=w:=by show((w:Int)-1+1).toNat=w; lia
    rw[ew];walk_at "wp";refine Ey (fun e=>?_) fun e=>?_
    .have e:((w:Int)-1) ≥ 0:=of_decide_eq_true e
     obtain⟨k,rfl⟩:∃k,w=k+1:=⟨w-1,by lia⟩;have ek:((k+1:Nat):Int)-1=(k:Int):=by lia
     walk_at "wp";refine⟨_,ixF (by rw[ek]; exact Gh (by lia)),?_⟩;exact⟨_,rfl,rfl,rfl⟩
    .have e:¬((w:Int)-1) ≥ 0:=of_decide_eq_false e
     have:w=0:=by lia
     subst this;walk_at "wp";rfl
   have em:((List.range h.n.toNat).map fun s=>D.int (wI h l (W (oW h l) (W (oW h l) d q) r) s)).map (fun e=>nmD (nmK h l (nD e+1).toNat))=(List.range h.n.toNat).map fun s=>nmD (Nk h l d q r s):=by
    rw[List.map_map];refine CG fun s _=>?_;show nmD (nmK h l _)=nmD (nmK h l _);congr 2;show(((W (oW h l) (W (oW h l) (W (oW h l) d q) r) s:Nat):Int)-1+1).toNat=_;lia
   rw[em];walk_at "wp";refine⟨_,LW _ (by lia) _,?_⟩;walk_at "wp";refine⟨by rw[List.length_map,List.length_map,List.length_range]; lia,?_⟩;refine A3 ⟨oF (t1 h l d q r),rfl,?_⟩;unfold eD;rw[<- HV (fun r=>rgD h.n.toNat fun s=>nmD (Nk h l d q r s))];rfl
  obtain⟨y5,g5,rfl⟩:=hI;have e1:((List.range h.n.toNat).map fun r=>t1 h l d q r).length=h.n.toNat:=by simp
  rw[e1];refine Aq (Ir ⟨_,rfl⟩ ?_);walk_at "wp";refine⟨_,LW _ (by lia) _,?_⟩;walk_at "wp";refine⟨by rw[List.length_map,List.length_map,List.length_range]; lia,?_⟩;refine A3 ⟨oF (t2 h l d q),some (.own,.lst (((List.range h.n.toNat).map fun r=>rgD h.n.toNat fun s=>nmD (Nk h l d q r s)).map A.fz)),y5,rfl,rfl,g5,?_⟩;unfold eD;rw[<- HV (fun q=>rgD h.n.toNat fun r=>rgD h.n.toNat fun s=>nmD (Nk h l d q r s))];rfl
 obtain⟨x3,x4,x5,h3,h4,h5,rfl⟩:=hI;have e1:(t3 h l d).length=h.n.toNat:=by simp
 rw[e1];walk_at "wp";refine⟨_,LW _ (by lia) _,?_⟩;walk_at "wp";rfl
theorem OX(i:Int):FV AY [(.own,.fz (.int i))] fun a _=>a=.fz (.bl true):=by
 refine BO rfl rfl ?_;show SV Ek [oF (.int i)] _;unfold Ek;walk_at "wp";rfl
local macro_rules | `(tactic| walk_at "wp1")=>`(tactic| first
 | (with_reducible refine A5 ?_)|(with_reducible refine Aq ?_)|(with_reducible refine EC ?_)|(with_reducible refine B8 ?_)|(with_reducible refine EM ?_)|(with_reducible refine EK ?_)|(with_reducible refine GH ?_)|(with_reducible refine Dg ?_)|(with_reducible refine EN ?_)|(with_reducible refine EL ?_)|(with_reducible refine EJ ?_)|(with_reducible refine CY ?_)|(with_reducible refine Cf ?_)
 | (with_reducible refine Gq ?_)|(with_reducible refine CV ?_)|(with_reducible refine Ce ?_)|(with_reducible refine DS ?_)|(with_reducible refine En ?_)|(with_reducible refine Gr ?_)|(with_reducible refine Ep ?_)|(with_reducible refine Eo ?_)|(with_reducible refine CW ?_)|(with_reducible refine Er ?_)
 | (with_reducible refine Jc ?_)|(with_reducible refine IH ?_)|(with_reducible refine Cr ?_)|(with_reducible refine CJ ?_)
 | (with_reducible refine Dh ?_)|(with_reducible refine ES ?_)|(with_reducible refine ER ?_)|(with_reducible refine GK ?_)|(with_reducible refine EO ?_)
 | (with_reducible refine Cb ?_)|(with_reducible refine C8 ?_)|(with_reducible refine Ew ?_)|(with_reducible refine Dd ?_)
 | ((with_reducible apply BD); · rfl)
 | ((with_reducible refine Exists.intro _ (And.intro (BR ?_) ?_)); · rfl)
 | ((with_reducible apply ex1); · rfl)|((with_reducible apply ex2); · rfl)|((with_reducible apply ex3); · rfl)|((with_reducible apply ex0); · rfl)|((with_reducible refine And.intro ?_ ?_); · rfl)|((with_reducible refine Gv ?_ ?_); · rfl)|((with_reducible refine E5 ?_ ?_); · rfl))
local macro_rules | `(tactic| walk_at "wp")=>`(tactic| repeat walk_at "wp1")
open Nw
theorem UB(a b:Nat):eqD (chD a) (chD b)=(a==b):=by
 have e:eqD (chD a) (chD b)=((⟨#[a]⟩:Str)==⟨#[b]⟩):=rfl;rw[e,Bool.eq_iff_iff];simp only[beq_iff_eq,Str.mk.injEq];refine⟨fun h=>?_,fun h=>by rw[h]⟩;have:[a]=[b]:=congrArg Array.toList h;cases this; rfl
theorem Pe{α β:Type}(p:α -> Bool)(g:α -> β)(l:List α):l.filterMap (fun x=>if p x then some (g x) else none)=(l.filter p).map g:=by
 induction l with
 | nil=>rfl
 | cons x l ih =>
  rw[List.filterMap_cons,List.filter_cons];cases e:p x with
  | true=>simp[e,ih]
  | false=>simp[e,ih]
noncomputable abbrev tkH(h:Hs)(l:List Nat)(c:Nat)(ds:List Nat):List Int:=tk h.n.toNat h.hands l c ds
noncomputable abbrev d1(h:Hs)(l:List Nat)(d q r:Nat):List Nat:=dd1 (oW h l) h.n.toNat d q r
noncomputable abbrev d2(h:Hs)(l:List Nat)(d q:Nat):List Nat:=dd2 (oW h l) h.n.toNat d q
noncomputable abbrev d3(h:Hs)(l:List Nat)(d:Nat):List Nat:=dd3 (oW h l) h.n.toNat d
noncomputable abbrev eM(h:Hs)(l:List Nat)(z:Str)(la nms:List D)(x7 x8:Slot)(tks:List Int)(x10 x11 x12 x13:Slot):Ro:=[oF h.d,oF (.str z),oF (owD h l),oF (.lst (wT h l l.length)),oF (.int h.n),some (.own,.lst (la.map A.fz)),some (.own,.lst (nms.map A.fz)),x7,x8,some (.own,.lst ((iL tks).map A.fz)),x10,x11,x12,x13]
theorem LS(h:Hs)(l:List Nat)(c:Nat)(a b:List Nat):tkH h l c (a++b)=tkH h l c a++tkH h l c b:=Xq c a b
theorem LU(h:Hs)(l:List Nat)(c:Nat)(ds:List Nat):(tkH h l c ds).length<=ds.length:=by
 show((ds.filter _).map _).length<=_;rw[List.length_map]; exact List.length_filter_le _ _
theorem Jh{α β:Type}(g:α -> List β)(m:Nat)(hg:∀x,(g x).length=m)(l:List α):(l.flatMap g).length=l.length*m:=by
 induction l with
 | nil=>simp
 | cons x l ih=>rw[List.flatMap_cons,List.length_append,ih,hg,List.length_cons,Nat.add_mul,Nat.one_mul,Nat.add_comm]
theorem Nv(h:Hs)(l:List Nat)(d q r:Nat):(d1 h l d q r).length=h.n.toNat:=by simp[dd1]
theorem Qq(h:Hs)(l:List Nat)(d q:Nat):(d2 h l d q).length=h.n.toNat*h.n.toNat:=by
 show((List.range _).flatMap _).length=_;rw[Jh _ h.n.toNat (fun r=>Nv h l d q r),List.length_range]
theorem Vg(h:Hs)(l:List Nat)(d:Nat):(d3 h l d).length=h.n.toNat*(h.n.toNat*h.n.toNat):=by
 show((List.range _).flatMap _).length=_;rw[Jh _ (h.n.toNat*h.n.toNat) (fun q=>Qq h l d q),List.length_range]
theorem Qk{xs ys:List Int}(h:xs.length+ys.length<=100000):Bv [.lst ((iL xs).map A.fz),.lst ((iL ys).map A.fz)]=some (.lst ((iL (xs++ys)).map A.fz)):=by
 have hL:100000<=LIM:=by decide
 have e:iL (xs++ys)=iL xs++iL ys:=by simp[iL]
 rw[e];exact Su (decide_eq_true (by rw[BP,BP]; lia))
theorem QK(i:Int)(xs:List Int):inA false [.fz (.int i),.lst ((iL xs).map A.fz)]=some (.fz (.bl (decide (i∈xs)))):=by
 have hf:(iL xs).all Cg=true:=by simp[iL,Cg,List.all_eq_true]
 simp only[inA,on2,De,F8,Option.bind_none,Option.none_or,fzU,AW,Ca,Option.bind_some,Cg,hf,Bool.and_true,Lg,if_true,Bool.false_eq_true,if_false]
theorem YQ(h:Hs)(l:List Nat)(c w:Nat):(if decide (0<=((w:Nat):Int)-1/\ltL l (((w:Nat):Int)-1+1).toNat=c)=true then some (D.int (nuL h.n.toNat h.hands l (((w:Nat):Int)-1+1).toNat:Int)) else none)=if decide (1<=w/\ltL l w=c)=true then some (D.int (nuL h.n.toNat h.hands l w:Int)) else none:=by
 have ew:(((w:Nat):Int)-1+1).toNat=w:=by lia
 rw[ew];by_cases hw:1<=w/\ltL l w=c
 .rw[if_pos (decide_eq_true ⟨by lia,hw.2⟩),if_pos (decide_eq_true hw)]
 .rw[if_neg (by rw[decide_eq_true_eq]; exact fun z=>hw ⟨by lia,z.2⟩),if_neg (by rw[decide_eq_true_eq]; exact hw)]
section
variable{h:Hs}{l:List Nat}{z:Str}{c k:Nat}{la:List D}{x10 x11 x12 x13:Slot}{QS:Fl->Prop}{d q r:Nat}{tks:List Int}
noncomputable abbrev np:MS:=Bw [12] true (Bi (Aa 11)) (AH 9 (opM Bv (m2L (Aa 9) (AG (Bi (Aa 12)) 0 (IG (AF (opM geA (m2L (Aa 0) (Ag (.int 0))))) (AF (opM eqA (m2L (opM ixA (m2L (Aa 2) (Aa 0))) (Aa 9))))) (opM ixA (m2L (opM ixA (m2L (Aa 7) (Aa 0))) (Ag (.int 1))))))))
noncomputable abbrev nq:MS:=Bw [11] true (Bi (Am Bd (Ac (Aa 4) (Ac (Aa 3) (Ac (opM ixA (m2L (Aa 5) (Aa 10))) Ai))))) (Bw [12] true (Bi (Aa 11)) (AH 9 (opM Bv (m2L (Aa 9) (AG (Bi (Aa 12)) 0 (IG (AF (opM geA (m2L (Aa 0) (Ag (.int 0))))) (AF (opM eqA (m2L (opM ixA (m2L (Aa 2) (Aa 0))) (Aa 9))))) (opM ixA (m2L (opM ixA (m2L (Aa 7) (Aa 0))) (Ag (.int 1)))))))))
noncomputable abbrev nr:MS:=Bw [10] true (Bi (opM ixA (m2L (Aa 2) (Aa 7)))) (Bw [11] true (Bi (Am Bd (Ac (Aa 4) (Ac (Aa 3) (Ac (opM ixA (m2L (Aa 5) (Aa 10))) Ai))))) (Bw [12] true (Bi (Aa 11)) (AH 9 (opM Bv (m2L (Aa 9) (AG (Bi (Aa 12)) 0 (IG (AF (opM geA (m2L (Aa 0) (Ag (.int 0))))) (AF (opM eqA (m2L (opM ixA (m2L (Aa 2) (Aa 0))) (Aa 9))))) (opM ixA (m2L (opM ixA (m2L (Aa 7) (Aa 0))) (Ag (.int 1))))))))))
theorem YU(ok:h.Ok)(hz:z.cps.toList=l)(hkl:k<=l.length)(hd:d<=k)(hq:q<h.n.toNat)(ht:tks.length<=1000)(h12:Fr x12)(qq:∀y12,Fr y12->QS (.next (eM h l z la (nmT h l k) (oF (.int (k:Int))) (oF (chD c)) (tks++tkH h l c (d2 h l d q)) x10 (oF (t2 h l d q)) y12 x13))):
  SV np (eM h l z la (nmT h l k) (oF (.int (k:Int))) (oF (chD c)) tks x10 (oF (t2 h l d q)) x12 x13) QS:=by
 have n1:=ok.n1;have n2:=ok.n2;have hn4:h.n.toNat<=4:=by lia
 refine BL (Ck (BD rfl ⟨_,rfl,_,rfl,fun r Z=>∃y12,Fr y12/\Z=eM h l z la (nmT h l k) (oF (.int (k:Int))) (oF (chD c)) (tks++tkH h l c (((List.range h.n.toNat).take r).flatMap fun r=>d1 h l d q r)) x10 (oF (t2 h l d q)) y12 x13,⟨x12,h12,by simp[tk]; rfl⟩,fun r dd Z hdd hI=>?_,fun Z hI=>?_⟩))
 .obtain⟨y12,g12,rfl⟩:=hI
  have hr:r<h.n.toNat:=by have:=(List.getElem?_eq_some_iff.mp hdd).1; simpa using this
  cases G7 hdd;clear hdd;have er:(List.range h.n.toNat)[r]? = some r:=List.getElem?_range hr;have e0:=GN (fun r=>d1 h l d q r) er
  have hl0:=LU h l c (((List.range h.n.toNat).take r).flatMap fun r=>d1 h l d q r);rw[Jh _ h.n.toNat (fun r=>Nv h l d q r),List.length_take_of_le (by rw[List.length_range]; lia)] at hl0;have hl1:r*h.n.toNat<=4*4:=Nat.mul_le_mul (by lia) hn4;have hl2:=LU h l c (d1 h l d q r);rw[Nv] at hl2;refine⟨_,B4 g12,?_⟩;walk_at "wp";refine Jf (fun e=>match e with | .int i=>if decide (0<=i/\ltL l (i+1).toNat=c) then some (.int (nuL h.n.toNat h.hands l (i+1).toNat:Int)) else none|_=>none) (iL (tkH h l c (d1 h l d q r))) (Ck (BD rfl ⟨_,rfl,_,rfl,by rw[List.length_map,List.length_range]; lia,?_,fun e he=>?_,?_⟩))
  .rw[List.filterMap_map]
   have e1:iL (tkH h l c (d1 h l d q r))=(d1 h l d q r).filterMap fun d=>if decide (1<=d/\ltL l d=c) then some (.int (nuL h.n.toNat h.hands l d:Int)) else none:=by
    rw[iL,tkH,tk,List.map_map];exact(Pe (fun d=>decide (1<=d/\ltL l d=c)) (fun d=>D.int (nuL h.n.toNat h.hands l d:Int)) (d1 h l d q r)).symm
   rw[e1,d1,dd1,List.filterMap_map];refine congrArg (fun g=>List.filterMap g (List.range h.n.toNat)) (funext fun s=>?_);exact YQ h l c _
  .obtain⟨s,hs,rfl⟩:=List.mem_map.mp he
   obtain⟨w,hw,hW⟩:∃w:Nat,wI h l (W (oW h l) (W (oW h l) d q) r) s=(w:Int)-1/\w<=k:=⟨_,rfl,Ho (Ho (Ho hd))⟩;rw[hw];have ew:(((w:Nat):Int)-1+1).toNat=w:=by lia
   refine⟨[.int (((w:Nat):Int)-1)],rfl,?_⟩;walk_at "wp";refine Ey (fun e=>?_) fun e=>?_
   .have e:((w:Int)-1) ≥ 0:=of_decide_eq_true e
    obtain⟨j,rfl⟩:∃j,w=j+1:=⟨w-1,by lia⟩;have hj:j<l.length:=by lia
    have ek:((j+1:Nat):Int)-1=(j:Int):=by lia
    have hlj:ltL l (j+1)=l[j]:=UN (List.getElem?_eq_getElem hj);have ech:ixA [.fz (.str z),.fz (.int (((j+1:Nat):Int)-1))]=some (.fz (chD l[j])):=by
     rw[ek];refine ixS ?_;rw[B9 (k:=j) rfl (by rw[hz]; exact hj)];simp only[hz]
    walk_at "wp";refine⟨_,ech,?_⟩;walk_at "wp";refine Ey (fun e2=>?_) fun e2=>?_
    .have e2:l[j]=c:=by
      have:(l[j]==c)=true:=(UB _ _).symm.trans e2;simpa using this
     have enm:atI (nmT h l k) (((j+1:Nat):Int)-1)=some (nmD (nmK h l (j+1))):=by rw[ek]; exact Gh (by lia)
     have en2:nmD (nmK h l (j+1))=.tup [chD (ltL l (j+1)),.int (nuL h.n.toNat h.hands l (j+1):Int)]:=by
      show nmD (nmL _ _ _ _)=_;rw[nmL,if_neg (by lia)]; rfl
     rw[en2] at enm;walk_at "wp";refine⟨_,ixL enm,?_⟩;walk_at "wp";show(if decide (0<=((j+1:Nat):Int)-1/\ltL l (((j+1:Nat):Int)-1+1).toNat=c)=true then some (D.int (nuL h.n.toNat h.hands l (((j+1:Nat):Int)-1+1).toNat:Int)) else none)=_;rw[ew,if_pos (decide_eq_true ⟨by lia,by rw[hlj,e2]⟩)]
    .have e2:¬l[j]=c:=by
      have:(l[j]==c)=false:=(UB _ _).symm.trans e2;simpa using this
     walk_at "wp";show(if decide (0<=((j+1:Nat):Int)-1/\ltL l (((j+1:Nat):Int)-1+1).toNat=c)=true then some (D.int (nuL h.n.toNat h.hands l (((j+1:Nat):Int)-1+1).toNat:Int)) else none)=_;rw[ew,if_neg (by rw[decide_eq_true_eq]; exact fun z=>e2 (by rw[<- hlj]; exact z.2))]
   .have e:¬((w:Int)-1) ≥ 0:=of_decide_eq_false e
    walk_at "wp";show(if decide (0<=((w:Nat):Int)-1/\ltL l (((w:Nat):Int)-1+1).toNat=c)=true then some (D.int (nuL h.n.toNat h.hands l (((w:Nat):Int)-1+1).toNat:Int)) else none)=_;rw[if_neg (by rw[decide_eq_true_eq]; exact fun z=>e z.1)]
  walk_at "wp";refine⟨_,Qk (by rw[List.length_append]; lia),?_⟩;walk_at "wp";refine A3 ⟨oF (t1 h l d q r),rfl,?_⟩;rw[e0,LS,<- List.append_assoc];rfl
 .obtain⟨y12,g12,rfl⟩:=hI
  have e1:((List.range h.n.toNat).map fun r=>t1 h l d q r).length=(List.range h.n.toNat).length:=by simp
  rw[e1,List.take_length];exact qq y12 g12
theorem YV(ok:h.Ok)(hz:z.cps.toList=l)(hkl:k<=l.length){p:Nat}(hp:p<h.n.toNat)(ht:tks.length<=900)(h11:Fr x11)(h12:Fr x12)(qq:∀y11 y12,Fr y11->Fr y12->QS (.next (eM h l z (lT h l k) (nmT h l k) (oF (.int (k:Int))) (oF (chD c)) (tks++tkH h l c (d3 h l (L (oW h l) k p))) (oF (.int (p:Int))) y11 y12 x13))):
  SV nq (eM h l z (lT h l k) (nmT h l k) (oF (.int (k:Int))) (oF (chD c)) tks (oF (.int (p:Int))) x11 x12 x13) QS:=by
 have n1:=ok.n1;have n2:=ok.n2;have hn4:h.n.toNat<=4:=by lia
 have hLk:=Hn (ow:=oW h l) k p;have hd:L (oW h l) k p<=k:=hLk;have ep:ixA [.lst ((lT h l k).map A.fz),.fz (.int (p:Int))]=some (.fz (.int (lI h l k p))):=ixL (Gh hp);refine BL (Ck ?_);walk_at "wp";refine⟨_,ep,?_⟩;walk_at "wp";refine Az (LO ok (d:=L (oW h l) k p) (by lia)) fun a _ e=>?_;subst e;generalize L (oW h l) k p=d at *;refine⟨_,rfl,_,Pm _,fun q Z=>∃y11 y12,Fr y11/\Fr y12/\Z=eM h l z (lT h l k) (nmT h l k) (oF (.int (k:Int))) (oF (chD c)) (tks++tkH h l c (((List.range h.n.toNat).take q).flatMap fun q=>d2 h l d q)) (oF (.int (p:Int))) y11 y12 x13,⟨x11,x12,h11,h12,by simp[tk]; rfl⟩,fun q dd Z hdd hI=>?_,fun Z hI=>?_⟩
 .obtain⟨y11,y12,g11,g12,rfl⟩:=hI
  have hq:q<h.n.toNat:=by have:=(List.getElem?_eq_some_iff.mp hdd).1; simpa using this
  cases G7 hdd;clear hdd;have er:(List.range h.n.toNat)[q]? = some q:=List.getElem?_range hq;have e0:=GN (fun q=>d2 h l d q) er
  have hl0:=LU h l c (((List.range h.n.toNat).take q).flatMap fun q=>d2 h l d q);rw[Jh _ (h.n.toNat*h.n.toNat) (fun q=>Qq h l d q),List.length_take_of_le (by rw[List.length_range]; lia)] at hl0;have hl1:q*(h.n.toNat*h.n.toNat)<=4*(4*4):=Nat.mul_le_mul (by lia) (Nat.mul_le_mul hn4 hn4);refine⟨_,B4 g11,?_⟩;refine YU ok hz hkl hd hq (by rw[List.length_append]; lia) g12 fun z12 f12=>?_;refine A3 ⟨oF (t2 h l d q),z12,rfl,f12,?_⟩;rw[e0,LS,<- List.append_assoc]
 .obtain⟨y11,y12,g11,g12,rfl⟩:=hI
  have e1:(t3 h l d).length=(List.range h.n.toNat).length:=by simp
  rw[e1,List.take_length];exact qq y11 y12 g11 g12
noncomputable abbrev Mf(h:Hs)(l:List Nat)(k:Nat)(os:List Int):List Nat:=os.flatMap fun x=>d3 h l (L (oW h l) k x.toNat)
theorem YW(ok:h.Ok)(hz:z.cps.toList=l)(hl:Lets h l)(hc0:l[k]? = some c)(h10:Fr x10)(h11:Fr x11)(h12:Fr x12)(qq:∀y10 y11 y12,Fr y10->Fr y11->Fr y12->QS (.next (eM h l z (lT h l k) (nmT h l k) (oF (.int (k:Int))) (oF (chD c)) (tkH h l c (Mf h l k (h.hands c))) y10 y11 y12 x13))):
  SV nr (eM h l z (lT h l k) (nmT h l k) (oF (.int (k:Int))) (oF (chD c)) [] x10 x11 x12 x13) QS:=by
 have n1:=ok.n1;have n2:=ok.n2;have hn4:h.n.toNat<=4:=by lia
 have hk:k<l.length:=(List.getElem?_eq_some_iff.mp hc0).1;have hc:c∈h.ls.map (·.1):=hl c (List.mem_of_getElem? hc0);have hhl:=h.hands_len ok c;refine BL (Ck ?_);walk_at "wp";refine⟨_,KS hc0,?_⟩;walk_at "wp";refine⟨fun i Z=>∃y10 y11 y12,Fr y10/\Fr y11/\Fr y12/\Z=eM h l z (lT h l k) (nmT h l k) (oF (.int (k:Int))) (oF (chD c)) (tkH h l c (Mf h l k ((h.hands c).take i))) y10 y11 y12 x13,⟨x10,x11,x12,h10,h11,h12,rfl⟩,fun i dd Z hdd hI=>?_,fun Z hI=>?_⟩
 .obtain⟨y10,y11,y12,g10,g11,g12,rfl⟩:=hI
  rw[iL,List.getElem?_map,map_eq_some_iff] at hdd;obtain⟨x,hx,rfl⟩:=hdd;have hi:i<(h.hands c).length:=(List.getElem?_eq_some_iff.mp hx).1;obtain⟨q0,q1⟩:=(DG ok hc).2 x (List.mem_of_getElem? hx);have e0:=GN (fun x=>d3 h l (L (oW h l) k x.toNat)) hx;obtain⟨p,rfl⟩:∃p:Nat,x=p:=⟨x.toNat,by lia⟩;have hl0:=LU h l c (Mf h l k ((h.hands c).take i));rw[Mf,Jh _ (h.n.toNat*(h.n.toNat*h.n.toNat)) (fun x=>Vg h l _),List.length_take_of_le (by lia)] at hl0;have hl1:i*(h.n.toNat*(h.n.toNat*h.n.toNat))<=4*(4*(4*4)):=Nat.mul_le_mul (by lia) (Nat.mul_le_mul hn4 (Nat.mul_le_mul hn4 hn4));refine⟨_,B4 g10,?_⟩;refine YV ok hz (by lia) (show p<h.n.toNat by lia) (by lia) g11 g12 fun z11 z12 f11 f12=>?_;refine A3 ⟨oF (.int (p:Int)),z11,z12,rfl,f11,f12,?_⟩;have e0':Mf h l k ((h.hands c).take (i+1))=Mf h l k ((h.hands c).take i)++d3 h l (L (oW h l) k p):=e0;rw[e0',LS]
 .obtain⟨y10,y11,y12,g10,g11,g12,rfl⟩:=hI
  have hlen:(iL (h.hands c)).length=(h.hands c).length:=BP _;rw[hlen,List.take_length];exact qq y10 y11 y12 g10 g11 g12
end
theorem TX{h:Hs}(ok:h.Ok){z:Str}{l:List Nat}(hz:z.cps.toList=l)(hl:Lets h l)(hll:l.length<=100):FV Dv [(.own,.fz h.d),(.own,.fz (.str z)),(.own,.fz (owD h l)),(.own,.fz (.lst (wT h l l.length)))] fun a _=>a=.lst ((nmT h l l.length).map A.fz):=by
 have n1:=ok.n1;have n2:=ok.n2;have g:=good ok hl;have hn4:h.n.toNat<=4:=by lia
 have hL:100000<=LIM:=by decide
 have hnn:((h.n.toNat:Nat):Int)=h.n:=Int.toNat_of_nonneg (by lia);have zl:z.length=l.length:=by rw[<- hz]; simp; rfl
 refine BO rfl rfl ?_;show SV Eh [oF h.d,oF (.str z),oF (owD h l),oF (.lst (wT h l l.length)),none,none,none,none,none,none,none,none,none,none] _;unfold Eh;walk_at "wp";refine D2 h.n.toNat (fun p=>D.int (lI h l 0 p)) ?_;walk_at "wp";refine⟨by rw[hnn],by lia,fun k hk=>?_,?_⟩
 .walk_at "wp"
  rfl
 refine⟨_,_,rfl,rfl,Aq ?_⟩;walk_at "wp";refine BL (Oz (BD rfl ⟨z,rfl,by lia,fun k Z=>∃x7 x8 x9 x10 x11 x12 x13,Fr x7/\Fr x8/\Fr x9/\Fr x10/\Fr x11/\Fr x12/\Fr x13/\Z=[oF h.d,oF (.str z),oF (owD h l),oF (.lst (wT h l l.length)),oF (.int h.n),some (.own,.lst ((lT h l k).map A.fz)),some (.own,.lst ((nmT h l k).map A.fz)),x7,x8,x9,x10,x11,x12,x13],⟨none,none,none,none,none,none,none,rfl,rfl,rfl,rfl,rfl,rfl,rfl,rfl⟩,fun k d Z hd hI=>?_,fun Z hI=>?_⟩))
 .obtain⟨x7,x8,x9,x10,x11,x12,x13,h7,h8,h9,h10,h11,h12,h13,rfl⟩:=hI
  obtain⟨rfl,hk⟩:=OI hd;rw[zl] at hk;have hc0:l[k]? = some l[k]:=List.getElem?_eq_getElem hk;have ec:z.cps.getD k 0=l[k]:=by rw[Mm,hz,List.getD_eq_getElem?_getD,hc0]; rfl
  rw[ec];have hc:l[k]∈h.ls.map (·.1):=hl _ (List.getElem_mem hk);have hnu:=XZ (n:=h.n.toNat) (hd:=h.hands) hc0;have hem:=KO (n:=h.n.toNat) (hd:=h.hands) hc0;have hno:=NQ (n:=h.n.toNat) (hd:=h.hands) hc0;have hti:=Xr g hc0;obtain⟨⟨s1,s2⟩,_⟩:=HK (used h.n.toNat (EW h.hands (EG h.n.toNat h.hands F0' (l.take k)) l[k])) l[k];have hhl:=h.hands_len ok l[k];rw[<- hno] at hem;have hno2:num (used h.n.toNat (EW h.hands (EG h.n.toNat h.hands F0' (l.take k)) l[k])) l[k]=nuL h.n.toNat h.hands l (k+1):=hno.symm;rw[hno2] at s1 s2;generalize l[k]=c at *;have hN:nuL h.n.toNat h.hands l (k+1)<=4*(4*(4*4)):=Nat.le_trans hnu (Nat.mul_le_mul hhl (Nat.mul_le_mul hn4 (Nat.mul_le_mul hn4 hn4)));clear hd ec hnu;refine⟨_,Nq h7 h8,?_⟩;refine A5 (B8 (CW (CJ ⟨[],rfl,rfl,_,_,rfl,h9,Aq ?_⟩)));show SV _ (eM h l z (lT h l k) (nmT h l k) (oF (.int (k:Int))) (oF (chD c)) [] x10 x11 x12 x13) _;refine A5 (YW ok hz hl hc0 h10 h11 h12 fun y10 y11 y12 g10 g11 g12=>Aq ?_);have hti:∀j:Nat,(j:Int)∈tkH h l c (Mf h l k (h.hands c))↔some (c,j)∈used h.n.toNat (EW h.hands (EG h.n.toNat h.hands F0' (l.take k)) c):=hti;generalize tkH h l c (Mf h l k (h.hands c))=tks at hti;generalize hNd:nuL h.n.toNat h.hands l (k+1)=N at *;refine A5 (B8 (DS ⟨_,_,rfl,h13,Aq ?_⟩));show SV _ (eM h l z (lT h l k) (nmT h l k) (oF (.int (k:Int))) (oF (chD c)) tks y10 y11 y12 (oF (.int ((0:Nat):Int)))) _;refine A5 (Na (fun m Z=>m<=N/\Z=eM h l z (lT h l k) (nmT h l k) (oF (.int (k:Int))) (oF (chD c)) tks y10 y11 y12 (oF (.int ((N-m:Nat):Int)))) ⟨N,by lia,Nat.le_refl _,by rw[Nat.sub_self]⟩ fun m Z hI=>?_)
  obtain⟨hm,rfl⟩:=hI;walk_at "wp";refine⟨_,QK _ _,?_⟩;walk_at "wp";refine Ey (fun e=>?_) fun e=>?_
  .have e:=(hti _).mp (of_decide_eq_true e)
   have hm0:m≠0:=fun z=>by subst z; exact s2 e
   walk_at "wp";refine A3 ⟨m-1,by lia,by lia,?_⟩;show eM _ _ _ _ _ _ _ _ _ _ _ (oF (.int (((N-m:Nat):Int)+1)))=_;rw[show((N-m:Nat):Int)+1=((N-(m-1):Nat):Int) by lia]
  have e:¬some (c,N-m)∈_:=fun z=>of_decide_eq_false e ((hti _).mpr z);have hm0:m=0:=by
   rcases Nat.eq_zero_or_pos m with z|z
   .exact z
   .exact absurd (s1 (N-m) (by lia)) e
  subst hm0;refine Aq ?_;rw[Nat.sub_zero];show SV _ (eM h l z (lT h l k) (nmT h l k) (oF (.int (k:Int))) (oF (chD c)) tks y10 y11 y12 (oF (.int (N:Int)))) _;refine A5 (Ir ⟨_,rfl⟩ ?_);walk_at "wp";refine⟨by rw[List.length_map,List.length_map,List.length_range]; lia,Aq ?_⟩;have e5:(nmT h l k).map A.fz++[mkT [.fz (chD c),.fz (.int (N:Int))]]=(nmT h l (k+1)).map A.fz:=by
   rw[<- HV (fun j=>nmD (nmK h l (j+1))) k];show _=_++[A.fz (nmD (nmL h.n.toNat h.hands l (k+1)))];rw[hem]; rfl
  suffices hh:SV (Bw [10] true (Bi (opM ixA (m2L (Aa 2) (Aa 7)))) (F7 5 (Aa 10) (Aa 7))) (eM h l z (lT h l k) (nmT h l (k+1)) (oF (.int (k:Int))) (oF (chD c)) tks y10 y11 y12 (oF (.int (N:Int)))) _ by
   unfold eM at hh;rw[<- e5] at hh;exact hh
  rw[UL];refine BL (Ck ?_);walk_at "wp";refine⟨_,KS hc0,?_⟩;walk_at "wp";refine⟨fun i Z=>∃w10,Fr w10/\Z=eM h l z (sT h k ((h.hands c).take i) (lI h l k)) (nmT h l (k+1)) (oF (.int (k:Int))) (oF (chD c)) tks w10 y11 y12 (oF (.int (N:Int))),⟨y10,g10,rfl⟩,fun i d Z hd hI=>?_,fun Z hI=>?_⟩
  .obtain⟨w10,f10,rfl⟩:=hI
   rw[iL,List.getElem?_map,map_eq_some_iff] at hd;obtain⟨x,hx,rfl⟩:=hd;obtain⟨q0,q1⟩:=(DG ok hc).2 x (List.mem_of_getElem? hx);obtain⟨p,rfl⟩:∃p:Nat,x=p:=⟨x.toNat,by lia⟩;refine⟨_,B4 f10,JY ?_⟩;walk_at "wp";refine⟨⟨_,rfl⟩,?_⟩;walk_at "wp";refine⟨p,by rw[List.length_map,List.length_map,List.length_range]; exact Jl (by lia),?_⟩;refine A3 ⟨oF (.int (p:Int)),rfl,?_⟩;have s1:=LP (h:=h) (k:=k) (f:=lI h l k) hx;unfold eM;rw[<- s1];rfl
  .obtain⟨w10,f10,rfl⟩:=hI
   have hlen:(iL (h.hands c)).length=(h.hands c).length:=BP _;rw[hlen,List.take_length,UZ ok hl hc0];exact A3 ⟨oF (.int (k:Int)),oF (chD c),some (.own,.lst ((iL tks).map A.fz)),w10,y11,y12,oF (.int (N:Int)),rfl,rfl,rfl,f10,g11,g12,rfl,rfl⟩
 obtain⟨x7,x8,x9,x10,x11,x12,x13,h7,h8,h9,h10,h11,h12,h13,rfl⟩:=hI;have e6:(F5 z).length=l.length:=by simp[F5]; exact zl
 rw[e6];walk_at "wp";rfl
local macro_rules | `(tactic| walk_at "wp1")=>`(tactic| first
 | (with_reducible refine A5 ?_)|(with_reducible refine Aq ?_)|(with_reducible refine EC ?_)|(with_reducible refine B8 ?_)|(with_reducible refine EM ?_)|(with_reducible refine EK ?_)|(with_reducible refine GH ?_)|(with_reducible refine Dg ?_)|(with_reducible refine EN ?_)|(with_reducible refine EL ?_)|(with_reducible refine EJ ?_)|(with_reducible refine CY ?_)|(with_reducible refine Cf ?_)
 | (with_reducible refine Gq ?_)|(with_reducible refine CV ?_)|(with_reducible refine Ce ?_)|(with_reducible refine DS ?_)|(with_reducible refine En ?_)|(with_reducible refine Gr ?_)|(with_reducible refine Ep ?_)|(with_reducible refine Eo ?_)|(with_reducible refine CW ?_)|(with_reducible refine Er ?_)
 | (with_reducible refine Jc ?_)|(with_reducible refine IH ?_)|(with_reducible refine Cr ?_)|(with_reducible refine CJ ?_)
 | (with_reducible refine Dh ?_)|(with_reducible refine ES ?_)|(with_reducible refine ER ?_)|(with_reducible refine GK ?_)|(with_reducible refine EO ?_)
 | (with_reducible refine Cb ?_)|(with_reducible refine C8 ?_)|(with_reducible refine Ew ?_)|(with_reducible refine Dd ?_)
 | ((with_reducible apply BD); · rfl)
 | ((with_reducible refine Exists.intro _ (And.intro (BR ?_) ?_)); · rfl)
 | ((with_reducible apply ex1); · rfl)|((with_reducible apply ex2); · rfl)|((with_reducible apply ex3); · rfl)|((with_reducible apply ex0); · rfl)|((with_reducible refine And.intro ?_ ?_); · rfl)|((with_reducible refine Gv ?_ ?_); · rfl)|((with_reducible refine E5 ?_ ?_); · rfl))
local macro_rules | `(tactic| walk_at "wp")=>`(tactic| repeat walk_at "wp1")
open Nw
theorem Np(xs:List (D×D)):Gg [.lst ((xs.map fun _=>D.bl true).map A.fz)]=some (.fz (.bl true)):=by
 have e:Dl (xs.map fun _=>D.bl true)=some (xs.map fun _=>true):=Fw _ fun _=>true;simp only[Gg,on1,Dq,Ca,Option.bind_some,e,Option.map_some];congr 3;simp
theorem T6(c:Nat):FV CC [(.own,.fz (chD c)),(.own,.fz (chD c))] fun a _=>a=.fz (.bl true):=by
 refine BO rfl rfl ?_;show SV Cc [oF (chD c),oF (chD c)] _;unfold Cc;walk_at "wp";exact BC (chD c) ▸ rfl
theorem T3(i:Int):FV CC [(.own,.fz (.int i)),(.own,.fz (.int i))] fun a _=>a=.fz (.bl true):=by
 refine BO rfl rfl ?_;show SV Cc [oF (.int i),oF (.int i)] _;unfold Cc;walk_at "wp";refine Az (OX i) fun a _ e=>?_;subst e;walk_at "wp";exact BC (.int i) ▸ rfl
theorem T7(c:Nat):FV BG [(.own,.fz (chD c)),(.own,.fz (chD c))] fun a _=>a=.fz (.bl true):=by
 refine BO rfl rfl ?_;show SV Bq [oF (chD c),oF (chD c)] _;unfold Bq;walk_at "wp";exact BC (chD c) ▸ rfl
theorem T4(i:Int):FV BG [(.own,.fz (.int i)),(.own,.fz (.int i))] fun a _=>a=.fz (.bl true):=by
 refine BO rfl rfl ?_;show SV Bq [oF (.int i),oF (.int i)] _;unfold Bq;walk_at "wp";refine Az (OX i) fun a _ e=>?_;subst e;walk_at "wp";exact BC (.int i) ▸ rfl
theorem RY(p:Nat×Nat):FV B3 [(.own,.fz (nmD (some p))),(.own,.fz (nmD (some p)))] fun a _=>a=.fz (.bl true):=by
 refine BO rfl rfl ?_;show SV Cd [oF (.tup [chD p.1,.int (p.2:Int)]),oF (.tup [chD p.1,.int (p.2:Int)])] _;unfold Cd;walk_at "wp";refine Gp [(chD p.1,chD p.1),(.int (p.2:Int),.int (p.2:Int))] (fun _ _=>.bl true) (show 2<=1000 by decide) ?_;walk_at "wp";refine⟨fun q hq=>?_,?_⟩
 .rcases List.mem_cons.mp hq with rfl|hq
  .walk_at "wp"
   refine Az (T6 _) fun a _ e=>?_;subst e;exact⟨_,rfl,rfl,rfl⟩
  .rw[List.mem_singleton] at hq
   subst hq;walk_at "wp";refine Az (T3 _) fun a _ e=>?_;subst e;exact⟨_,rfl,rfl,rfl⟩
 walk_at "wp";rfl
theorem T5(p:Nat×Nat):FV Bn [(.own,.fz (nmD (some p))),(.own,.fz (nmD (some p)))] fun a _=>a=.fz (.bl true):=by
 refine BO rfl rfl ?_;show SV Cy [oF (.tup [chD p.1,.int (p.2:Int)]),oF (.tup [chD p.1,.int (p.2:Int)])] _;unfold Cy;walk_at "wp";refine Gp [(chD p.1,chD p.1),(.int (p.2:Int),.int (p.2:Int))] (fun _ _=>.bl true) (show 2<=1000 by decide) ?_;walk_at "wp";refine⟨fun q hq=>?_,?_⟩
 .rcases List.mem_cons.mp hq with rfl|hq
  .walk_at "wp"
   refine Az (T7 _) fun a _ e=>?_;subst e;exact⟨_,rfl,rfl,rfl⟩
  .rw[List.mem_singleton] at hq
   subst hq;walk_at "wp";refine Az (T4 _) fun a _ e=>?_;subst e;exact⟨_,rfl,rfl,rfl⟩
 walk_at "wp";rfl
theorem W0(x:Nm):FV B3 [(.own,.fz (nmD x)),(.own,.fz (nmD x))] fun a _=>a=.fz (.bl true):=by
 cases x with
 | some p=>exact RY p
 | none =>
  refine BO rfl rfl ?_;show SV Cd [oF .non,oF .non] _;unfold Cd;walk_at "wp";rfl
theorem W2{n:Nat}(hn:n<=100){g:Nat->D}(hg:∀k,FV B3 [(.own,.fz (g k)),(.own,.fz (g k))] fun a _=>a=.fz (.bl true)):FV CD [(.own,.fz (rgD n g)),(.own,.fz (rgD n g))] fun a _=>a=.fz (.bl true):=by
 rw[G1];refine BO rfl rfl ?_;show SV Ei [oF (.tup ((List.range n).map g)),oF (.tup ((List.range n).map g))] _;unfold Ei;walk_at "wp";refine E5 (show(!eqD (.int _) (.int _))=false by rw[BC]; rfl) ?_;walk_at "wp";refine Gp ((List.range n).map fun k=>(g k,g k)) (fun _ _=>.bl true) (by rw[List.length_map,List.length_range]; lia) ?_;have e1:((List.range n).map fun k=>(g k,g k)).map (·.1)=(List.range n).map g:=by rw[List.map_map]; rfl
 have e2:((List.range n).map fun k=>(g k,g k)).map (·.2)=(List.range n).map g:=by rw[List.map_map]; rfl
 rw[e1,e2];walk_at "wp";refine⟨fun q hq=>?_,?_⟩
 .obtain⟨k,_,rfl⟩:=List.mem_map.mp hq
  walk_at "wp";refine Az (hg k) fun a _ e=>?_;subst e;exact⟨_,rfl,rfl,rfl⟩
 walk_at "wp";refine⟨_,Np _,?_⟩;walk_at "wp";rfl
theorem W3{n:Nat}(hn:n<=100){g:Nat->D}(hg:∀k,FV CD [(.own,.fz (g k)),(.own,.fz (g k))] fun a _=>a=.fz (.bl true)):FV BG [(.own,.fz (rgD n g)),(.own,.fz (rgD n g))] fun a _=>a=.fz (.bl true):=by
 rw[G1];refine BO rfl rfl ?_;show SV Bq [oF (.tup ((List.range n).map g)),oF (.tup ((List.range n).map g))] _;unfold Bq;walk_at "wp";refine E5 (show(!eqD (.int _) (.int _))=false by rw[BC]; rfl) ?_;walk_at "wp";refine Gp ((List.range n).map fun k=>(g k,g k)) (fun _ _=>.bl true) (by rw[List.length_map,List.length_range]; lia) ?_;have e1:((List.range n).map fun k=>(g k,g k)).map (·.1)=(List.range n).map g:=by rw[List.map_map]; rfl
 have e2:((List.range n).map fun k=>(g k,g k)).map (·.2)=(List.range n).map g:=by rw[List.map_map]; rfl
 rw[e1,e2];walk_at "wp";refine⟨fun q hq=>?_,?_⟩
 .obtain⟨k,_,rfl⟩:=List.mem_map.mp hq
  walk_at "wp";refine Az (hg k) fun a _ e=>?_;subst e;exact⟨_,rfl,rfl,rfl⟩
 walk_at "wp";refine⟨_,Np _,?_⟩;walk_at "wp";rfl
theorem Yo{n:Nat}(hn:n<=100){g:Nat->D}(hg:∀k,FV BG [(.own,.fz (g k)),(.own,.fz (g k))] fun a _=>a=.fz (.bl true)):FV Bn [(.own,.fz (rgD n g)),(.own,.fz (rgD n g))] fun a _=>a=.fz (.bl true):=by
 rw[G1];refine BO rfl rfl ?_;show SV Cy [oF (.tup ((List.range n).map g)),oF (.tup ((List.range n).map g))] _;unfold Cy;walk_at "wp";refine E5 (show(!eqD (.int _) (.int _))=false by rw[BC]; rfl) ?_;walk_at "wp";refine Gp ((List.range n).map fun k=>(g k,g k)) (fun _ _=>.bl true) (by rw[List.length_map,List.length_range]; lia) ?_;have e1:((List.range n).map fun k=>(g k,g k)).map (·.1)=(List.range n).map g:=by rw[List.map_map]; rfl
 have e2:((List.range n).map fun k=>(g k,g k)).map (·.2)=(List.range n).map g:=by rw[List.map_map]; rfl
 rw[e1,e2];walk_at "wp";refine⟨fun q hq=>?_,?_⟩
 .obtain⟨k,_,rfl⟩:=List.mem_map.mp hq
  walk_at "wp";refine Az (hg k) fun a _ e=>?_;subst e;exact⟨_,rfl,rfl,rfl⟩
 walk_at "wp";refine⟨_,Np _,?_⟩;walk_at "wp";rfl
theorem s_same(p:Nat×Nat):FV Bn [(.own,.fz (nmD (some p))),(.own,.fz (nmD (some p)))] fun a _=>a=.fz (.bl true):=T5 p
theorem OW{n:Nat}(hn:n<=4)(f:N3):FV Bn [(.own,.fz (nwD n f)),(.own,.fz (nwD n f))] fun a _=>a=.fz (.bl true):=Yo (by lia) fun _=>W3 (by lia) fun _=>W2 (by lia) fun _=>W0 _
local macro_rules | `(tactic| walk_at "wp1")=>`(tactic| first
 | (with_reducible refine A5 ?_)|(with_reducible refine Aq ?_)|(with_reducible refine EC ?_)|(with_reducible refine B8 ?_)|(with_reducible refine EM ?_)|(with_reducible refine EK ?_)|(with_reducible refine GH ?_)|(with_reducible refine Dg ?_)|(with_reducible refine EN ?_)|(with_reducible refine EL ?_)|(with_reducible refine EJ ?_)|(with_reducible refine CY ?_)|(with_reducible refine Cf ?_)
 | (with_reducible refine Gq ?_)|(with_reducible refine CV ?_)|(with_reducible refine Ce ?_)|(with_reducible refine DS ?_)|(with_reducible refine En ?_)|(with_reducible refine Gr ?_)|(with_reducible refine Ep ?_)|(with_reducible refine Eo ?_)|(with_reducible refine CW ?_)|(with_reducible refine Er ?_)
 | (with_reducible refine Jc ?_)|(with_reducible refine IH ?_)|(with_reducible refine Cr ?_)|(with_reducible refine CJ ?_)
 | (with_reducible refine Dh ?_)|(with_reducible refine ES ?_)|(with_reducible refine ER ?_)|(with_reducible refine GK ?_)|(with_reducible refine EO ?_)
 | (with_reducible refine Cb ?_)|(with_reducible refine C8 ?_)|(with_reducible refine Ew ?_)|(with_reducible refine Dd ?_)
 | ((with_reducible apply BD); · rfl)
 | ((with_reducible refine Exists.intro _ (And.intro (BR ?_) ?_)); · rfl)
 | ((with_reducible apply ex1); · rfl)|((with_reducible apply ex2); · rfl)|((with_reducible apply ex3); · rfl)|((with_reducible apply ex0); · rfl)|((with_reducible refine And.intro ?_ ?_); · rfl)|((with_reducible refine Gv ?_ ?_); · rfl)|((with_reducible refine E5 ?_ ?_); · rfl))
local macro_rules | `(tactic| walk_at "wp")=>`(tactic| repeat walk_at "wp1")
open Nw
theorem three{n:Int}(h1:2<=n)(h2:n<=4):n=2\/n=3\/n=4:=by lia
noncomputable abbrev nn3(n:Nat):D:=.tup (List.replicate n (.tup (List.replicate n (.tup (List.replicate n .non)))))
theorem Rm(n:Nat):nn3 n=nwD n fun _ _ _=>none:=by
 have c:∀d:D,rgD n (fun _=>d)=.tup (List.replicate n d):=fun d=>by rw[G1,List.map_const',List.length_range]
 unfold nwD;rw[c,c,c];rfl
theorem KZ{h:Hs}(ok:h.Ok):FV Es [(.own,.fz h.d)] fun a _=>a=.fz (nwD h.n.toNat fun _ _ _=>none):=by
 rw[<- Rm];refine BO rfl rfl ?_;show SV Gn [some (.own,.fz h.d),none,none] _;unfold Gn;have e:=HX .own h ok;have hn:=three ok.n1 ok.n2;obtain⟨n,ls⟩:=h;clear ok;rcases hn with rfl|rfl|rfl
 all_goals
  walk_at "wp";refine G0 e ?_;walk_at "wp";rfl
noncomputable abbrev vD(n:Nat)(f:Nat->N3):List D:=(List.range n).map fun q=>nwD n (f q)
noncomputable def anD(h:Hs)(c:Nat)(fs:List N3):D:=.tup [nmD (some (c,num (used h.n.toNat fs) c)),nwD h.n.toNat (told h.n.toNat (h.hands c) (some (c,num (used h.n.toNat fs) c)) fs)]
theorem Vm(n:Nat)(hd:Nat->List Int)(f:Nat->N3)(c:Nat):(iL (hd c)).map (fun d=>nwD n (f (nD d).toNat))=(EW hd f c).map (nwD n):=by
 rw[EW,List.map_map,iL,List.map_map]; rfl
theorem Sk{n:Nat}{f g:Nat->N3}(h:∀q,q<n->f q=g q):vD n f=vD n g:=List.map_congr_left fun q hq=>by rw[h q (List.mem_range.mp hq)]
theorem Ym(n:Nat)(f:Nat->N3)(k:Nat)(T:N3):((vD n f).map A.fz).set k (.fz (nwD n T))=(vD n fun q=>if q=k then T else f q).map A.fz:=by
 rw[<- List.map_set];congr 1;refine List.ext_getElem? fun q=>?_;rw[List.getElem?_set];by_cases hk:k=q
 .subst hk
  rw[if_pos rfl];by_cases hq:k<n
  .simp[hq]
  .simp[hq]
 .rw[if_neg hk]
  have:¬q=k:=fun z=>hk z.symm;by_cases hq:q<n
  .simp[hq,this]
  .simp[hq]
noncomputable abbrev Fk(h:Hs)(l:List Nat)(k:Nat):Nat->N3:=fun p=>Nk h l (L (oW h l) k p)
theorem U6{h:Hs}(ok:h.Ok){l:List Nat}(hl:Lets h l){k:Nat}(hk:k<=l.length):Fk h l k=EG h.n.toNat h.hands F0' (l.take k):=funext fun p=>(Lu (good ok hl) k hk p).symm
theorem XF{h:Hs}(ok:h.Ok){l:List Nat}(hl:Lets h l){k c:Nat}(hc:l[k]? = some c):anD h c (EW h.hands (Fk h l k) c)=.tup [nmD (nmK h l (k+1)),nwD h.n.toNat (Nk h l (k+1))]:=by
 have g:=good ok hl;have hk:k<l.length:=(List.getElem?_eq_some_iff.mp hc).1;have e1:=KO (n:=h.n.toNat) (hd:=h.hands) hc;have e2:=O1 (NX g) (JH g) S7 S8 (SQ g (show k<=l.length by lia)) (DA g hc) (Hz hc fun p=>rfl);have e3:NP h.n.toNat h.hands (EG h.n.toNat h.hands F0' (l.take k)) c=num (used h.n.toNat (EW h.hands (Fk h l k) c)) c:=by rw[<- U6 ok hl (by lia)]; rfl
 rw[e3] at e1;unfold anD;rw[<- e1];show D.tup [_,nwD _ (told _ _ _ _)]=D.tup [_,nwD _ (Nws _ _ _)];rw[<- e2]
theorem Sq{h:Hs}(ok:h.Ok){l:List Nat}(hl:Lets h l){k c:Nat}(hc:l[k]? = some c):(fun(q:Nat)=>if (q:Int)∈h.hands c then Nk h l (k+1) else Fk h l k q)=Fk h l (k+1):=by
 have g:=good ok hl;funext q;show _=Nws _ _ (L (oW h l) (k+1) q);rw[L];by_cases hq:(q:Int)∈h.hands c
 .rw[if_pos hq,if_pos ((DA g hc q).mp hq)]
 .rw[if_neg hq,if_neg (fun z=>hq ((DA g hc q).mpr z))]
theorem Xp{h:Hs}{c i p:Nat}(hx:(h.hands c)[i]? = some (p:Int))(T:N3)(f:Nat->N3):((vD h.n.toNat fun(q:Nat)=>if (q:Int)∈(h.hands c).take i then T else f q).map A.fz).set p (.fz (nwD h.n.toNat T))=(vD h.n.toNat fun(q:Nat)=>if (q:Int)∈(h.hands c).take (i+1) then T else f q).map A.fz:=by
 rw[Ym];congr 1;refine Sk fun q hq=>?_;rw[List.take_succ,hx];by_cases z1:q=p
 .subst z1
  rw[if_pos rfl,if_pos (by simp)]
 .rw[if_neg z1]
  have z2:¬((q:Int)=(p:Int)):=fun z=>z1 (by lia);by_cases z3:(q:Int)∈(h.hands c).take i
  .rw[if_pos z3,if_pos (by simp[z3])]
  .rw[if_neg z3,if_neg (by simp[z3,z2])]
theorem RW{k:Nat}{ds:List D}(h:∀d∈ds,shB k d=true):Kt k ds=true:=by
 induction ds with
 | nil=>cases k<;>rfl
 | cons d ds ih=>show(shB k d&&Kt k ds)=true; rw[h d List.mem_cons_self,ih fun e he=>h e (List.mem_cons_of_mem _ he)]; rfl
theorem YX(n:Nat)(f:Nat->N3):shB 16 (.lst (vD n f))=true:=by
 refine RW (k:=15) fun d hd=>?_;obtain⟨q,_,rfl⟩:=List.mem_map.mp hd;exact U1 n 11 _
theorem Qw{ds:List D}(h:shB 16 (.lst ds)=true):eqA [.lst (ds.map A.fz),.lst (ds.map A.fz)]=some (.fz (.bl true)):=by
 simp only[eqA,on2,J.er,FR,Option.map_some,Option.bind_some,h,if_true,BC]
theorem Rf{h:Hs}{l:List Nat}{k c:Nat}(hc:l[k]? = some c):∃p,nmK h l (k+1)=some p:=⟨_,KO hc⟩
theorem PX{h:Hs}(ok:h.Ok){c:Nat}(hc:c∈h.ls.map (·.1)){fs:List N3}(h0:fs≠[])(hf:fs.length<=4):FV Cj [(.own,.fz h.d),(.own,.fz (chD c)),(.lent,LH h.n.toNat fs)] fun a os=>os=[.fz h.d,.fz (chD c),LH h.n.toNat fs]/\a=.fz (anD h c fs):=by
 cases fs with
 | nil=>exact absurd rfl h0
 | cons f0 fs=>exact JP ok hc hf
theorem WU{h:Hs}(ok:h.Ok):FV D3 [(.own,.fz (.int h.n))] fun a _=>a=.fz (nwD h.n.toNat fun _ _ _=>none):=by
 rw[<- Rm];have hn:=three ok.n1 ok.n2;obtain⟨n,ls⟩:=h;clear ok;rcases hn with rfl|rfl|rfl
 .exact⟨_,[.fz (.int 2)],by kernel_rfl,rfl⟩
 .exact⟨_,[.fz (.int 3)],by kernel_rfl,rfl⟩
 .exact⟨_,[.fz (.int 4)],by kernel_rfl,rfl⟩
theorem W5{i:Nat}{Z:Ro}{QS:Fl->Prop}{st:Own}{as:List A}(h:C7 Z i=some (st,as))(q:QS (.next (Z.set i (some (st,.lst []))))):SV (O9 i) Z QS:=⟨_,by simp only[O9,h,Option.bind_some,Option.map_some],q⟩
theorem Rc{ds:List D}(h:shB 16 (.lst ds)=true):neA [.lst (ds.map A.fz),.lst (ds.map A.fz)]=some (.fz (.bl false)):=by
 simp only[neA,on2,J.er,FR,Option.map_some,Option.bind_some,h,if_true,BC,Bool.not_true]
theorem Yn(n:Nat)(fs:List N3):shB 16 (.lst (fs.map (nwD n)))=true:=by
 refine RW (k:=15) fun d hd=>?_;obtain⟨q,_,rfl⟩:=List.mem_map.mp hd;exact U1 n 11 _
noncomputable abbrev eW(ns:List Int)(h:Hs)(l:List Nat)(z:Str)(f:Nat->N3)(x8 x9 x10 x11 x12 x13 x14:Slot):Ro:=[some (.ro,.scr ns),oF h.d,oF (.str z),oF (.int h.n),oF (owD h l),oF (.lst (wT h l l.length)),oF (.lst (nmT h l l.length)),some (.own,.lst ((vD h.n.toNat f).map A.fz)),x8,x9,x10,x11,x12,x13,x14,none]
theorem Q4(ns:List Int)(hl:ns.length<=63):∃as',Ih [(.ro,.scr ns)]=some (.fz (.bl true),as'):=by
 suffices hh:FV Ih [(.ro,.scr ns)] fun a _=>a=.fz (.bl true) by
  obtain⟨a,os,e,rfl⟩:=hh;exact⟨os,e⟩
 obtain⟨c,c2,t1⟩:=RU ns 0;obtain⟨as,q1,hb,t2⟩:=U0 .own c;obtain⟨h,as1,ok,hb1,t3⟩:=TQ hb (by lia);obtain⟨c',c2',t4⟩:=RU ns 1;obtain⟨bs,q2,hb2,t5⟩:=U0 .own c';obtain⟨z,bs1,o2,o3,hz,hzl,hb3,t6⟩:=s_row ok hb2 (by lia) 12 (by lia) (by lia);have n1:=ok.n1;have n2:=ok.n2;have hnn:((h.n.toNat:Nat):Int)=h.n:=Int.toNat_of_nonneg (by lia);refine BO rfl rfl ?_;show SV Lb [some (.ro,.scr ns),none,none,none,none,none,none,none,none,none,none,none,none,none,none,none] _;unfold Lb;walk_at "wp";refine G0 t1 ?_;walk_at "wp";refine G0 t2 ?_;walk_at "wp";refine G0 t3 ?_;refine⟨_,_,rfl,rfl,Aq ?_⟩;show SV _ [some (.ro,.scr ns),oF h.d,none,none,none,none,none,none,none,none,none,none,none,none,none,none] _;walk_at "wp";refine G0 t4 ?_;walk_at "wp";refine G0 t5 ?_;walk_at "wp";refine G0 t6 ?_;clear t1 t2 t3 t4 t5 t6;obtain⟨l,hzl2⟩:∃l,z.cps.toList=l:=⟨_,rfl⟩;have hl:Lets h l:=hzl2 ▸ hz.2;have zl:z.length=l.length:=by rw[<- hzl2]; simp; rfl
 have hll:l.length<=100:=by lia
 have g:=good ok hl;refine⟨_,_,rfl,rfl,Aq ?_⟩;show SV _ [some (.ro,.scr ns),oF h.d,oF (.str z),none,none,none,none,none,none,none,none,none,none,none,none,none] _;walk_at "wp";refine Az (WX ok hzl2 hl hll) fun a _ e=>?_;subst e;refine⟨_,_,rfl,rfl,Aq ?_⟩;walk_at "wp";refine⟨_,_,Ea rfl,Aq ?_⟩;show SV _ [some (.ro,.scr ns),oF h.d,oF (.str z),oF (.int h.n),oF (owD h l),none,none,none,none,none,none,none,none,none,none,none] _;walk_at "wp";refine Az (WV ok hl hll) fun a _ e=>?_;subst e;refine⟨_,_,rfl,rfl,Aq ?_⟩;walk_at "wp";refine⟨_,_,Ea rfl,Aq ?_⟩;show SV _ [some (.ro,.scr ns),oF h.d,oF (.str z),oF (.int h.n),oF (owD h l),oF (.lst (wT h l l.length)),none,none,none,none,none,none,none,none,none,none] _;walk_at "wp";refine Az (TX ok hzl2 hl hll) fun a _ e=>?_;subst e;refine⟨_,_,rfl,rfl,Aq ?_⟩;walk_at "wp";refine⟨_,_,Ea rfl,Aq ?_⟩;show SV _ [some (.ro,.scr ns),oF h.d,oF (.str z),oF (.int h.n),oF (owD h l),oF (.lst (wT h l l.length)),oF (.lst (nmT h l l.length)),none,none,none,none,none,none,none,none,none] _;walk_at "wp";refine Az (KZ ok) fun a _ e=>?_;subst e;walk_at "wp";refine Az (WU ok) fun a _ e=>?_;subst e;walk_at "wp";refine Az (OW (by lia) _) fun a _ e=>?_;subst e;walk_at "wp";refine D2 h.n.toNat (fun p=>nwD h.n.toNat (Fk h l 0 p)) ?_;walk_at "wp";refine⟨by rw[hnn],by lia,fun k hk=>?_,?_⟩
 .walk_at "wp"
  refine Az (KZ ok) fun a _ e=>?_;subst e;exact⟨_,rfl,rfl,rfl⟩
 refine⟨_,_,rfl,rfl,Aq ?_⟩;show SV _ (eW ns h l z (Fk h l 0) none none none none none none none) _;refine A5 (BL (Oz (BD rfl ⟨z,rfl,by lia,fun k Z=>∃x8 x9 x10 x11 x12 x13 x14,Fr x8/\Fr x9/\Fr x10/\Fr x11/\Fr x12/\Fr x13/\Fr x14/\Z=eW ns h l z (Fk h l k) x8 x9 x10 x11 x12 x13 x14,⟨none,none,none,none,none,none,none,rfl,rfl,rfl,rfl,rfl,rfl,rfl,rfl⟩,fun k d Z hd hI=>?_,fun Z hI=>?_⟩)))
 .obtain⟨x8,x9,x10,x11,x12,x13,x14,h8,h9,h10,h11,h12,h13,h14,rfl⟩:=hI
  obtain⟨rfl,hk⟩:=OI hd;rw[zl] at hk;have hc0:l[k]? = some l[k]:=List.getElem?_eq_getElem hk;have ec:z.cps.getD k 0=l[k]:=by rw[Mm,hzl2,List.getD_eq_getElem?_getD,hc0]; rfl
  rw[ec];have hc:l[k]∈h.ls.map (·.1):=hl _ (List.getElem_mem hk);generalize l[k]=c at *;clear hd ec;obtain⟨hh1,hh2⟩:=DG ok hc;have hhl:=h.hands_len ok c;have fm:=Vm h.n.toNat h.hands (Fk h l k) c;have f1:EW h.hands (Fk h l k) c≠[]:=fun e=>hh1 (List.map_eq_nil_iff.mp e);have f2:(EW h.hands (Fk h l k) c).length<=4:=by rw[EW,List.length_map]; exact hhl
  have e3:=PX ok hc f1 f2;rw[XF ok hl hc0] at e3;obtain⟨pn,hpn⟩:=Rf (h:=h) hc0;have e4:=LO ok (l:=l) (d:=k+1) (by lia);rw[show((k+1:Nat):Int)-1=(k:Int) by lia] at e4;have e5:=OV ok (l:=l) (d:=k+1) (by lia);have en:ixA [.fz (.lst (nmT h l l.length)),.fz (.int (k:Int))]=some (.fz (nmD (nmK h l (k+1)))):=ixF (Gh hk);have es:=s_same pn;rw[<- hpn] at es;refine⟨_,Nq h8 h9,?_⟩;show SV _ (eW ns h l z (Fk h l k) (oF (.int (k:Int))) (oF (chD c)) x10 x11 x12 x13 x14) _;walk_at "wp";refine IS (iL (h.hands c)) (fun d=>nwD h.n.toNat (Fk h l k (nD d).toNat)) ?_;walk_at "wp";refine⟨_,KS hc0,?_⟩;walk_at "wp";refine⟨by rw[BP]; lia,fun d hd=>?_,?_⟩
  .obtain⟨x,hx,rfl⟩:=NM.mp hd
   obtain⟨q0,q1⟩:=hh2 x hx;obtain⟨p,rfl⟩:∃p:Nat,x=p:=⟨x.toNat,by lia⟩;walk_at "wp";refine⟨_,ixL (Gh (by lia)),?_⟩;exact⟨_,rfl,rfl,rfl⟩
  rw[fm];refine⟨_,_,rfl,h10,Aq ?_⟩;show SV _ (eW ns h l z (Fk h l k) (oF (.int (k:Int))) (oF (chD c)) (some (.own,LH h.n.toNat (EW h.hands (Fk h l k) c))) x11 x12 x13 x14) _;walk_at "wp";refine Az e3 fun a _ e=>?_;obtain⟨rfl,rfl⟩:=e;refine⟨_,_,rfl,_,rfl,_,Yk h11 h12,Aq ?_⟩;show SV _ (eW ns h l z (Fk h l k) (oF (.int (k:Int))) (oF (chD c)) (some (.own,LH h.n.toNat (EW h.hands (Fk h l k) c))) (oF (nmD (nmK h l (k+1)))) (oF (nwD h.n.toNat (Nk h l (k+1)))) x13 x14) _;walk_at "wp";refine IS (iL (h.hands c)) (fun d=>nwD h.n.toNat (Fk h l k (nD d).toNat)) ?_;walk_at "wp";refine⟨_,KS hc0,?_⟩;walk_at "wp";refine⟨by rw[BP]; lia,fun d hd=>?_,?_⟩
  .obtain⟨x,hx,rfl⟩:=NM.mp hd
   obtain⟨q0,q1⟩:=hh2 x hx;obtain⟨p,rfl⟩:∃p:Nat,x=p:=⟨x.toNat,by lia⟩;walk_at "wp";refine⟨_,ixL (Gh (by lia)),?_⟩;exact⟨_,rfl,rfl,rfl⟩
  rw[fm];walk_at "wp";refine⟨_,Rc (Yn _ _),?_⟩;walk_at "wp";show SV _ (eW ns h l z (Fk h l k) (oF (.int (k:Int))) (oF (chD c)) (some (.own,LH h.n.toNat (EW h.hands (Fk h l k) c))) (oF (nmD (nmK h l (k+1)))) (oF (nwD h.n.toNat (Nk h l (k+1)))) x13 x14) _;refine W5 rfl (Aq ?_);show SV _ (eW ns h l z (Fk h l k) (oF (.int (k:Int))) (oF (chD c)) (some (.own,.lst [])) (oF (nmD (nmK h l (k+1)))) (oF (nwD h.n.toNat (Nk h l (k+1)))) x13 x14) _;walk_at "wp";refine Az e4 fun a _ e=>?_;subst e;walk_at "wp";refine⟨_,_,GS _ _,?_⟩;walk_at "wp";refine Az e5 fun a _ e=>?_;subst e;refine⟨_,_,rfl,h13,Aq ?_⟩;show SV _ (eW ns h l z (Fk h l k) (oF (.int (k:Int))) (oF (chD c)) (some (.own,.lst [])) (oF (nmD (nmK h l (k+1)))) (oF (nwD h.n.toNat (Nk h l (k+1)))) (oF (nwD h.n.toNat (Nk h l (k+1)))) x14) _;walk_at "wp";refine⟨_,en,?_⟩;walk_at "wp";refine Az es fun a _ e=>?_;subst e;walk_at "wp";refine Az (OW (by lia) _) fun a _ e=>?_;subst e;walk_at "wp";show SV _ (eW ns h l z (Fk h l k) (oF (.int (k:Int))) (oF (chD c)) (some (.own,.lst [])) (oF (nmD (nmK h l (k+1)))) (oF (nwD h.n.toNat (Nk h l (k+1)))) (oF (nwD h.n.toNat (Nk h l (k+1)))) x14) _;refine BL (Ck ?_);walk_at "wp";refine⟨_,KS hc0,?_⟩;walk_at "wp";refine⟨fun i Z=>∃y14,Fr y14/\Z=eW ns h l z (fun(q:Nat)=>if (q:Int)∈(h.hands c).take i then Nk h l (k+1) else Fk h l k q) (oF (.int (k:Int))) (oF (chD c)) (some (.own,.lst [])) (oF (nmD (nmK h l (k+1)))) (oF (nwD h.n.toNat (Nk h l (k+1)))) (oF (nwD h.n.toNat (Nk h l (k+1)))) y14,⟨x14,h14,rfl⟩,fun i d Z hd hI=>?_,fun Z hI=>?_⟩
  .obtain⟨y14,g14,rfl⟩:=hI
   rw[iL,List.getElem?_map,map_eq_some_iff] at hd;obtain⟨x,hx,rfl⟩:=hd;obtain⟨q0,q1⟩:=hh2 x (List.mem_of_getElem? hx);obtain⟨p,rfl⟩:∃p:Nat,x=p:=⟨x.toNat,by lia⟩;refine⟨_,B4 g14,JY ?_⟩;walk_at "wp";refine⟨⟨_,rfl⟩,?_⟩;walk_at "wp";refine⟨p,by rw[List.length_map,List.length_map,List.length_range]; exact Jl (by lia),?_⟩;refine A3 ⟨oF (.int (p:Int)),rfl,?_⟩;have e9:=Xp hx (Nk h l (k+1)) (Fk h l k);unfold eW;rw[<- e9];rfl
  .obtain⟨y14,g14,rfl⟩:=hI
   have hlen:(iL (h.hands c)).length=(h.hands c).length:=BP _;rw[hlen,List.take_length,Sq ok hl hc0];exact A3 ⟨oF (.int (k:Int)),oF (chD c),some (.own,.lst []),oF (nmD (nmK h l (k+1))),oF (nwD h.n.toNat (Nk h l (k+1))),oF (nwD h.n.toNat (Nk h l (k+1))),y14,rfl,rfl,rfl,rfl,rfl,rfl,g14,rfl⟩
 obtain⟨x8,x9,x10,x11,x12,x13,x14,h8,h9,h10,h11,h12,h13,h14,rfl⟩:=hI;have e6:(F5 z).length=l.length:=by simp[F5]; exact zl
 rw[e6];refine Aq ?_;show SV _ (eW ns h l z (Fk h l l.length) x8 x9 x10 x11 x12 x13 x14) _;walk_at "wp";have e8:FV C0 [(.own,.fz (.int h.n)),(.own,.fz (owD h l)),(.own,.fz (.int (z.length:Int)))] fun a _=>a=.lst ((lT h l l.length).map A.fz):=by rw[zl]; exact WQ ok hl hll
 refine Az e8 fun a _ e=>?_;subst e;refine⟨_,_,rfl,rfl,Aq ?_⟩;walk_at "wp";refine⟨_,_,Ea rfl,Aq ?_⟩;walk_at "wp";refine IS (lT h l l.length) (fun d=>nwD h.n.toNat (Nk h l (nD d+1).toNat)) (BD rfl ⟨_,rfl,rfl,by rw[List.length_map,List.length_range]; lia,fun d hd=>?_,?_⟩)
 .obtain⟨p,hp,rfl⟩:=List.mem_map.mp hd
  obtain⟨w,hw,hW⟩:∃w:Nat,lI h l l.length p=(w:Int)-1/\w<=l.length:=⟨_,rfl,Hn _ _⟩;rw[hw];have ew:(nD (D.int ((w:Int)-1))+1).toNat=w:=by show((w:Int)-1+1).toNat=w; lia
  rw[ew];walk_at "wp";refine Az (LO ok hW) fun a _ e=>?_;subst e;walk_at "wp";refine⟨_,_,GS _ _,?_⟩;walk_at "wp";refine Az (OV ok hW) fun a _ e=>?_;subst e;exact⟨_,rfl,rfl,rfl⟩
 have em:(lT h l l.length).map (fun d=>nwD h.n.toNat (Nk h l (nD d+1).toNat))=vD h.n.toNat (Fk h l l.length):=by
  rw[List.map_map];refine CG fun p _=>?_;show nwD _ (Nk h l _)=nwD _ (Nk h l _);congr 2;show(((L (oW h l) l.length p:Nat):Int)-1+1).toNat=_;lia
 rw[em];walk_at "wp";refine⟨_,Qw (YX _ _),?_⟩;walk_at "wp";rfl
end Gk28
end
section
namespace Gk28
open PySem PySem.Spec PyProof.Rows L2 J
noncomputable def Fe(K:Frag)(n:Str)(st:Stmt):Prop:=∃(f:Addr) (fd:FuncData),PySem.W.nsIn K mainGlobals n=some (some (.ref f))/\Fun K n n st f fd
theorem XN{K:Frag}{n:Str}{st:Stmt}{f:Addr}{oc:Value}{od an:Option Addr}{sl:Array (Option Value)}{kV dc pm cd ct:Value}(a:PySem.W.nsIn K mainGlobals n=some (some (.ref f)))(l:K.lookup f=some ⟨oc,od,.func (PySem.W.fnOf n n (EZ st) (CT st) (Bf st) .none kV dc pm an cd ct),sl⟩)(c:PySem.W.codeIn K cd n=true)(k:PySem.W.keepIn K (.ref f)=true):Fe K n st:=⟨f,_,a,Vn l c k⟩
theorem df(P:Program)(w:World){K:Frag}{h:Heap}{mg:Str->Option Value}{N:Nat}{n:Str}{st:Stmt}{ps:List Str}{sp:Sp}(X:K.In h)(G:h.Ns mainGlobals mg)(e:Fe K n st)(ok:∀{f fd},Fun K n n st f fd->∀base,FnOk P w K mg base CX0 N f fd ps sp)(hb:∀(kV doc pm:Value) (an:Option Addr) (cdv ct:Value) (us:List Value),us.length=ps.length->bindArgs (PySem.W.fnOf n n (EZ st) (CT st) (Bf st) .none kV doc pm an cdv ct) ⟨us,[]⟩=pure (ps.zip us)):∀base,Def P w K mg base CX0 N n ps sp:=by
 obtain⟨f,fd,a,F⟩:=e;exact fun base=>⟨f,fd,PySem.W.mg_of X G a,F.kp,F.binds hb,ok F base⟩
theorem dfL(P:Program)(w:World){K:Frag}{h:Heap}{mg:Str->Option Value}{N:Nat}{st:Stmt}{ps:List Str}{sp:Sp}(X:K.In h)(G:h.Ns mainGlobals mg)(e:Fe K Bh st)(ok:∀{f fd},PySem.W.nsIn K mainGlobals Bh=some (some (.ref f))->Fun K Bh Bh st f fd->∀base,FnOk P w K mg base CX0 N f fd ps sp)(hb:∀(kV doc pm:Value) (an:Option Addr) (cdv ct:Value) (us:List Value),us.length=ps.length->bindArgs (PySem.W.fnOf Bh Bh (EZ st) (CT st) (Bf st) .none kV doc pm an cdv ct) ⟨us,[]⟩=pure (ps.zip us)):∀base,Def P w K mg base CX0 N Bh ps sp:=by
 obtain⟨f,fd,a,F⟩:=e;exact fun base=>⟨f,fd,PySem.W.mg_of X G a,F.kp,F.binds hb,ok a F base⟩
theorem ar1{α:Type}{P:List α -> Prop}(h:∀a,P [a])(us:List α)(e:us.length=1):P us:=by
 obtain⟨a,rfl⟩:=VP e;exact h a
theorem ar2{α:Type}{P:List α -> Prop}(h:∀a b,P [a,b])(us:List α)(e:us.length=2):P us:=by
 obtain⟨a,b,rfl⟩:=Q5 e;exact h a b
theorem ar3{α:Type}{P:List α -> Prop}(h:∀a b c,P [a,b,c])(us:List α)(e:us.length=3):P us:=by
 cases us with
 | nil=>cases e
 | cons a t=>exact ar2 (P:=fun t=>P (a::t)) (h a) t (Nat.succ.inj e)
theorem ar4{α:Type}{P:List α -> Prop}(h:∀a b c d,P [a,b,c,d])(us:List α)(e:us.length=4):P us:=by
 cases us with
 | nil=>cases e
 | cons a t=>exact ar3 (P:=fun t=>P (a::t)) (h a) t (Nat.succ.inj e)
theorem all_mk{l:PySem.W.OpenLaw}{w:World}{K:Frag}{h:Heap}{mg:Str->Option Value}{fa:Addr}(X:K.In h)(G:h.Ns mainGlobals mg)(hfa:mg "law" = some (.ref fa))(e0:Fe K "_law_take" (top 37))(e1:Fe K "_law_house" (top 38))(e2:Fe K "_law_row" (top 39))(e3:Fe K "_law_owns" (top 40))(e4:Fe K "_law_newest" (top 41))(e5:Fe K "_law_of" (top 43))(e6:Fe K "_law_third" (top 44))(e7:Fe K "_law_names" (top 45))(e8:Fe K "_law_last" (top 42))(e9:Fe K "_law_bag" (top 36))(e10:Fe K "_law_whole" (top 47))(e11:Fe K "_law_same" (top 48))(e12:Fe K "is_pair" (top 3))(e13:Fe K "is_whole" (top 1))(e14:Fe K "is_count_of_hands" (top 16))(e15:Fe K "is_number_below" (top 2))(e16:Fe K "are_numbers_below" (top 5))(e17:Fe K "is_list_of_numbers_below" (top 4))(e18:Fe K "is_rising_list_below" (top 6))(e19:Fe K "is_small_letter" (top 19))(e20:Fe K "is_entry" (top 18))(e21:Fe K "are_entries" (top 17))(e22:Fe K "is_house" (top 15))(e23:Fe K "need_house" (top 20))(e24:Fe K "no_news" (top 26))(e25:Fe K "letters_of" (top 21))(e26:Fe K "is_letter" (top 22))(e27:Fe K "need_letter" (top 23))(e28:Fe K "hands_of" (top 24))(e29:Fe K "unused_name" (top 30))(e30:Fe K "first_hand" (top 27))(e31:Fe K "second_hand" (top 28))(e32:Fe K "is_known_to" (top 33))(e33:Fe K "compared" (top 32))(e34:Fe K "newest_about" (top 31))(e35:Fe K "news_behind" (top 29))(e36:Fe K "_law_named" (top 46))(e37:Fe K "_law_cell" (top 35))(e38:Fe K "_law_none" (top 49))(e39:Fe K "law" (top 50)){t_FEWEST_HANDS:Tok}(i_FEWEST_HANDS:PySem.W.nsIn K mainGlobals "FEWEST_HANDS" = some (some (.int 2 t_FEWEST_HANDS))){t_MOST_HANDS:Tok}(i_MOST_HANDS:PySem.W.nsIn K mainGlobals "MOST_HANDS" = some (some (.int 4 t_MOST_HANDS))){t_MOST_LETTERS:Tok}(i_MOST_LETTERS:PySem.W.nsIn K mainGlobals "MOST_LETTERS" = some (some (.int 6 t_MOST_LETTERS)))(z_isinstance:PySem.W.nsIn K mainGlobals "isinstance" = some none)(z_len:PySem.W.nsIn K mainGlobals "len" = some none)(z_all:PySem.W.nsIn K mainGlobals "all" = some none)(z_any:PySem.W.nsIn K mainGlobals "any" = some none)(z_range:PySem.W.nsIn K mainGlobals "range" = some none)(z_list:PySem.W.nsIn K mainGlobals "list" = some none)(z_int:PySem.W.nsIn K mainGlobals "int" = some none)(z_bool:PySem.W.nsIn K mainGlobals "bool" = some none)(z_tuple:PySem.W.nsIn K mainGlobals "tuple" = some none)(z_str:PySem.W.nsIn K mainGlobals "str" = some none)(z_abs:PySem.W.nsIn K mainGlobals "abs" = some none)(z_max:PySem.W.nsIn K mainGlobals "max" = some none)(z_min:PySem.W.nsIn K mainGlobals "min" = some none)(z_dict:PySem.W.nsIn K mainGlobals "dict" = some none)(z_sorted:PySem.W.nsIn K mainGlobals "sorted" = some none)(z_set:PySem.W.nsIn K mainGlobals "set" = some none)(z_enumerate:PySem.W.nsIn K mainGlobals "enumerate" = some none)(z_zip:PySem.W.nsIn K mainGlobals "zip" = some none)(z_reversed:PySem.W.nsIn K mainGlobals "reversed" = some none){c b:Addr}(ht:PySem.W.tabIn K Bh=some (c,b))(hh:PySem.W.codeHdIn K c b=true): ∃fd:FuncData,(∀(s:Shared) (v:Value),BindsTo s fd ⟨[v],[]⟩ [("_law_script",v)])/\∀base:Heap,K.In base->base.Ns mainGlobals mg->FnOk l.prog w K mg base CX0 11 fa fd ["_law_script"] (spJ K Ih 1):=by
 have z {n:Str} (e:PySem.W.nsIn K mainGlobals n=some none):=PySem.W.mg_none_of X G e;have B:Blt mg K:=⟨z z_isinstance,z z_len,z z_all,z z_any,z z_range,z z_list,z z_int,z z_bool,z z_tuple,z z_str,z z_abs,z z_max,z z_min,z z_dict⟩;have B2:Blt2 mg:=⟨z z_sorted,z z_set,z z_enumerate,z z_zip,z z_reversed⟩;have Et:GInt mg "FEWEST_HANDS" 2:=⟨⟨_,PySem.W.mg_of X G i_FEWEST_HANDS⟩⟩;have FU:GInt mg "MOST_HANDS" 4:=⟨⟨_,PySem.W.mg_of X G i_MOST_HANDS⟩⟩;have Eu:GInt mg "MOST_LETTERS" 6:=⟨⟨_,PySem.W.mg_of X G i_MOST_LETTERS⟩⟩;have AX:=df l.prog w X G e0 (fun F s=>LA F B B2) fun _ _ _ _ _ _=>ar2 fun _ _=>rfl;have FF:=df l.prog w X G e1 (fun F s=>Kc F B B2 (AX s)) fun _ _ _ _ _ _=>ar1 fun _=>rfl;have G2:=df l.prog w X G e2 (fun F s=>MJ F B B2 (AX s)) fun _ _ _ _ _ _=>ar3 fun _ _ _=>rfl;have Gb:=df l.prog w X G e3 (fun F s=>Ly F B B2) fun _ _ _ _ _ _=>ar2 fun _ _=>rfl;have Fb:=df l.prog w X G e4 (fun F s=>Jo F B B2) fun _ _ _ _ _ _=>ar2 fun _ _=>rfl;have Ft:=df l.prog w X G e5 (fun F s=>NR F B B2) fun _ _ _ _ _ _=>ar3 fun _ _ _=>rfl;have BW:=df l.prog w X G e6 (fun F s=>Km F B B2 (Ft s)) fun _ _ _ _ _ _=>ar3 fun _ _ _=>rfl;have FG:=df l.prog w X G e7 (fun F s=>Ke F B B2 (BW s)) fun _ _ _ _ _ _=>ar4 fun _ _ _ _=>rfl;have F9:=df l.prog w X G e8 (fun F s=>Lw F B B2) fun _ _ _ _ _ _=>ar3 fun _ _ _=>rfl;have FE:=df l.prog w X G e9 (fun F s=>MH F B B2) fun _ _ _ _ _ _=>ar1 fun _=>rfl;have AN:=df l.prog w X G e10 (fun F s=>Kn F B B2) fun _ _ _ _ _ _=>ar1 fun _=>rfl;have FH:=df l.prog w X G e11 (fun _ _=>Kg) fun _ _ _ _ _ _=>ar2 fun _ _=>rfl
 have FI:=df l.prog w X G e11 (fun F s=>Kh F B B2 (AN s) (FH s)) fun _ _ _ _ _ _=>ar2 fun _ _=>rfl;have FJ:=df l.prog w X G e11 (fun F s=>Ki F B B2 (AN s) (FI s)) fun _ _ _ _ _ _=>ar2 fun _ _=>rfl;have FK:=df l.prog w X G e11 (fun F s=>Kj F B B2 (AN s) (FJ s)) fun _ _ _ _ _ _=>ar2 fun _ _=>rfl;have FL:=df l.prog w X G e11 (fun F s=>Kl F B B2 (AN s) (FK s)) fun _ _ _ _ _ _=>ar2 fun _ _=>rfl;have DB:=df l.prog w X G e11 (fun F s=>Lz F B B2 (AN s) (FL s)) fun _ _ _ _ _ _=>ar2 fun _ _=>rfl;have D9:=df l.prog w X G e12 (fun F s=>NS F B B2) fun _ _ _ _ _ _=>ar1 fun _=>rfl;have Dk:=df l.prog w X G e13 (fun F s=>MQ F B B2) fun _ _ _ _ _ _=>ar1 fun _=>rfl;have Cu:=df l.prog w X G e14 (fun F s=>GC F B B2 (Dk s) Et FU) fun _ _ _ _ _ _=>ar1 fun _=>rfl;have CP:=df l.prog w X G e15 (fun F s=>Hc F B B2 (Dk s)) fun _ _ _ _ _ _=>ar2 fun _ _=>rfl;have Ct:=df l.prog w X G e16 (fun F s=>GB F B B2 (CP s)) fun _ _ _ _ _ _=>ar2 fun _ _=>rfl;have Bp:=df l.prog w X G e17 (fun F s=>D5 F B B2 (Ct s)) fun _ _ _ _ _ _=>ar2 fun _ _=>rfl;have BX:=df l.prog w X G e18 (fun F s=>FA F B B2 (Bp s)) fun _ _ _ _ _ _=>ar2 fun _ _=>rfl;have CQ:=df l.prog w X G e19 (fun F s=>Hd F B B2) fun _ _ _ _ _ _=>ar1 fun _=>rfl;have G5:=df l.prog w X G e20 (fun F s=>MO F B B2 (BX s) (D9 s) (CQ s)) fun _ _ _ _ _ _=>ar2 fun _ _=>rfl;have Fc:=df l.prog w X G e21 (fun F s=>Jp F B B2 (G5 s) Eu) fun _ _ _ _ _ _=>ar2 fun _ _=>rfl;have G6:=df l.prog w X G e22 (fun F s=>MP F B B2 (D9 s) (Cu s) (Fc s)) fun _ _ _ _ _ _=>ar1 fun _=>rfl;have Cq:=df l.prog w X G e23 (fun F s=>Kq F B B2 (G6 s)) fun _ _ _ _ _ _=>ar1 fun _=>rfl
 have GL:=df l.prog w X G e24 (fun F s=>NT F B B2 (Cq s)) fun _ _ _ _ _ _=>ar1 fun _=>rfl;have Cp:=df l.prog w X G e25 (fun F s=>Kp F B B2) fun _ _ _ _ _ _=>ar1 fun _=>rfl;have Gd:=df l.prog w X G e26 (fun F s=>LB F B B2 (Cp s)) fun _ _ _ _ _ _=>ar2 fun _ _=>rfl;have Ff:=df l.prog w X G e27 (fun F s=>Jt F B B2 (Gd s)) fun _ _ _ _ _ _=>ar2 fun _ _=>rfl;have G4:=df l.prog w X G e28 (fun F s=>ML F B B2 (Cp s)) fun _ _ _ _ _ _=>ar2 fun _ _=>rfl;have Fh:=df l.prog w X G e29 (fun F s=>Jx F B B2) fun _ _ _ _ _ _=>ar2 fun _ _=>rfl;have A2:=df l.prog w X G e30 (fun F s=>Ko F B B2) fun _ _ _ _ _ _=>ar2 fun _ _=>rfl;have B1:=df l.prog w X G e31 (fun F s=>Jv F B B2) fun _ _ _ _ _ _=>ar2 fun _ _=>rfl;have Fd:=df l.prog w X G e32 (fun F s=>Jq F B B2 (A2 s) (B1 s)) fun _ _ _ _ _ _=>ar3 fun _ _ _=>rfl;have G3:=df l.prog w X G e33 (fun F s=>MK F B B2 (A2 s) (Fd s)) fun _ _ _ _ _ _=>ar3 fun _ _ _=>rfl;have Eb:=df l.prog w X G e34 (fun F s=>IL F B B2 (G3 s)) fun _ _ _ _ _ _=>ar2 fun _ _=>rfl;have Fg:=df l.prog w X G e35 (fun F s=>Ju F B B2 (Cq s) (Ff s) (G4 s) (Fh s) (Eb s) (A2 s) (B1 s)) fun _ _ _ _ _ _=>ar3 fun _ _ _=>rfl;have D1:=df l.prog w X G e36 (fun F s=>Kd F B B2) fun _ _ _ _ _ _=>ar2 fun _ _=>rfl;have EX:=df l.prog w X G e37 (fun F s=>Lv F B B2) fun _ _ _ _ _ _=>ar2 fun _ _=>rfl;have Ga:=df l.prog w X G e38 (fun F s=>Lx F B B2) fun _ _ _ _ _ _=>ar1 fun _=>rfl;obtain⟨f,fd,a,F⟩:=e39;cases hfa.symm.trans (PySem.W.mg_of X G a);refine⟨fd,?_,fun s hK _=>V1 F a ht hh B B2 (FF s) (G2 s) (Gb s) (Fb s) (FG s) (F9 s) (FE s) (DB s) (GL s) (Fg s) (D1 s) (EX s) (Ga s) (BW s)⟩
 obtain⟨_,_,_,_,_,_,_,_,_,rfl,_,_⟩:=F.ex;exact fun s v=>.of_eq rfl
theorem walk{l:PySem.W.OpenLaw}{q:Program}{loose:List Str}{XP:(Str->Option Value)->Heap->Prop}{YP:World->Heap->Prop}{d:DefRec}{K:Params->Frag}(hn:l.most=some 63)(hdf:d.params.defaults=[])(hY:∀(w:World) (h:Heap),YP w h->(K w.params).In h)(F:∀(w:World) (mg:Str->Option Value) (fa:Addr) (h:Heap),(K w.params).In h->h.Ns mainGlobals mg->mg d.name=some (.ref fa) ->
   ∃fd:FuncData,(∀(s:Shared) (u:Value),BindsTo s fd ⟨[u],[]⟩ [("_law_script",u)])/\∀base:Heap,(K w.params).In base->base.Ns mainGlobals mg->FnOk l.prog w (K w.params) mg base CX0 11 fa fd ["_law_script"] (spJ (K w.params) Ih 1))(hT:∀(w:World) (c b:Addr),PySem.W.tabIn (K w.params) Bh=some (c,b)->(∃d2,(recsOf q).find? (fun e=>e.name==Bh)=some d2)/\(K w.params).lookup b=none):
  PySem.W.WalkO q loose XP YP l.row.toRowW d [] (fun f vs=>PySem.call f vs):=
 L2.Uw (n:=63) (k:=11) (x := "_law_script") (CX:=fun _=>CX0) (sp:=fun w=>spJ (K w.params) Ih 1) hn (by decide) hdf ⟨rfl,by decide,by decide⟩ hY F (fun _ H a ns hl hO hS=>let⟨_,e⟩:=Q4 ns hl; VO hl hO hS e) (fun _ _ _ _ _ z=>z) hT
noncomputable def fo(n:Str)(i:Nat)(m:Str)(t:Tok)(c:Addr):Obj:={ cls:=.type "function",data:=.func (PySem.W.fnOf n n (EZ (top i)) (CT (top i)) (Bf (top i)) .none .none .none (.str m t) none (.ref c) .none) }
noncomputable def co(n:Str)(t:Nat)(l k:Int)(r:Nat)(x y:Value)(q:Nat)(u:Int)(v:Nat):Obj:={ cls:=.type "code",data:=.fields #[.str n t,.str n (t+1),.str "/claim/cut.py" (t+2),.int l 0,.int k 0,.int 0 0,.int 0 0,.int 3 0,.ref r,.bool true,.int 181 0,.ref (r+1),.none,x,y,.ref q,.int u 0,.int l 0,.str "/claim/cut.py" v] }
noncomputable def en(P:Params)(n:Str)(t:Tok)(v:Value):DictEntry:=⟨PyData.keyHash P n,.str n t,v⟩
noncomputable def gE(P:Params):List DictEntry:=[en P "__name__" 165 (.str "law_handsapart_k28_news_told" 436),
 en P "__doc__" 166 .none,
 en P "__package__" 167 .none,
 en P "__loader__" 168 (.builtin "__main__.__loader__#opaque"),
 en P "__spec__" 169 .none,
 en P "__annotations__" 170 (.ref 6),
 en P "__builtins__" 171 (.ref 4),
 en P "__file__" 173 (.str "/claim/cut.py" 172),
 en P "__cached__" 174 .none,
 en P "is_whole" 195 (.ref 21),
 en P "is_number_below" 203 (.ref 28),
 en P "is_pair" 210 (.ref 35),
 en P "is_list_of_numbers_below" 218 (.ref 42),
 en P "are_numbers_below" 224 (.ref 47),
 en P "is_rising_list_below" 230 (.ref 52),
 en P "HandError" 250 (.ref 62),
 en P "NoHouse" 266 (.ref 75),
 en P "NoRow" 282 (.ref 87),
 en P "FEWEST_HANDS" 286 (.int 2 285),
 en P "MOST_HANDS" 288 (.int 4 287),
 en P "MOST_LETTERS" 290 (.int 6 289),
 en P "is_house" 297 (.ref 96),
 en P "is_count_of_hands" 304 (.ref 103),
 en P "are_entries" 310 (.ref 108),
 en P "is_entry" 318 (.ref 115),
 en P "is_small_letter" 325 (.ref 122),
 en P "need_house" 332 (.ref 129),
 en P "letters_of" 338 (.ref 134),
 en P "is_letter" 346 (.ref 141),
 en P "need_letter" 354 (.ref 148),
 en P "hands_of" 362 (.ref 155),
 en P "no_news" 373 (.ref 162),
 en P "first_hand" 381 (.ref 169),
 en P "second_hand" 389 (.ref 176),
 en P "news_behind" 395 (.ref 181),
 en P "unused_name" 409 (.ref 188),
 en P "newest_about" 419 (.ref 195),
 en P "compared" 429 (.ref 202),
 en P "is_known_to" 435 (.ref 207),
 en P "_law_cell" 445 (.ref 214),
 en P "_law_bag" 452 (.ref 221),
 en P "_law_take" 461 (.ref 228),
 en P "_law_house" 467 (.ref 233),
 en P "_law_row" 479 (.ref 240),
 en P "_law_owns" 485 (.ref 245),
 en P "_law_newest" 491 (.ref 250),
 en P "_law_last" 497 (.ref 255),
 en P "_law_of" 506 (.ref 262),
 en P "_law_third" 512 (.ref 267),
 en P "_law_names" 518 (.ref 272),
 en P "_law_named" 524 (.ref 277),
 en P "_law_whole" 531 (.ref 284),
 en P "_law_same" 537 (.ref 289),
 en P "_law_none" 543 (.ref 294),
 en P "law" 549 (.ref 299)]
noncomputable def gD(P:Params):Obj:={ cls:=.type "dict",data:=.dict (gE P).toArray 55 }
noncomputable def Kf:Params->Frag:=fun P=>(nat_lit 3,gD P) ::
 (nat_lit 20,co "is_whole" 189 2 1 15 (.ref 17) (.ref 18) 19 193 194) ::
 (nat_lit 21,fo "is_whole" 1 "handsapart.checks" 187 20) ::
 (nat_lit 27,co "is_number_below" 196 4 2 22 (.ref 24) (.ref 25) 26 201 202) ::
 (nat_lit 28,fo "is_number_below" 2 "handsapart.checks" 187 27) ::
 (nat_lit 34,co "is_pair" 204 6 1 29 (.ref 31) (.ref 32) 33 208 209) ::
 (nat_lit 35,fo "is_pair" 3 "handsapart.checks" 187 34) ::
 (nat_lit 41,co "is_list_of_numbers_below" 211 8 2 36 (.ref 38) (.ref 39) 40 216 217) ::
 (nat_lit 42,fo "is_list_of_numbers_below" 4 "handsapart.checks" 187 41) ::
 (nat_lit 46,co "are_numbers_below" 219 10 2 43 .none .none 45 222 223) ::
 (nat_lit 47,fo "are_numbers_below" 5 "handsapart.checks" 187 46) ::
 (nat_lit 51,co "is_rising_list_below" 225 12 2 48 .none .none 50 228 229) ::
 (nat_lit 52,fo "is_rising_list_below" 6 "handsapart.checks" 187 51) ::
 (nat_lit 95,co "is_house" 291 27 1 90 (.ref 92) (.ref 93) 94 295 296) ::
 (nat_lit 96,fo "is_house" 15 "handsapart.houses" 283 95) ::
 (nat_lit 102,co "is_count_of_hands" 298 31 1 97 (.ref 99) (.ref 100) 101 302 303) ::
 (nat_lit 103,fo "is_count_of_hands" 16 "handsapart.houses" 283 102) ::
 (nat_lit 107,co "are_entries" 305 33 2 104 .none .none 106 308 309) ::
 (nat_lit 108,fo "are_entries" 17 "handsapart.houses" 283 107) ::
 (nat_lit 114,co "is_entry" 311 39 2 109 (.ref 111) (.ref 112) 113 316 317) ::
 (nat_lit 115,fo "is_entry" 18 "handsapart.houses" 283 114) ::
 (nat_lit 121,co "is_small_letter" 319 43 1 116 (.ref 118) (.ref 119) 120 323 324) ::
 (nat_lit 122,fo "is_small_letter" 19 "handsapart.houses" 283 121) ::
 (nat_lit 128,co "need_house" 326 45 1 123 (.ref 125) (.ref 126) 127 330 331) ::
 (nat_lit 129,fo "need_house" 20 "handsapart.houses" 283 128) ::
 (nat_lit 133,co "letters_of" 333 48 1 130 .none .none 132 336 337) ::
 (nat_lit 134,fo "letters_of" 21 "handsapart.houses" 283 133) ::
 (nat_lit 140,co "is_letter" 339 50 2 135 (.ref 137) (.ref 138) 139 344 345) ::
 (nat_lit 141,fo "is_letter" 22 "handsapart.houses" 283 140) ::
 (nat_lit 147,co "need_letter" 347 52 2 142 (.ref 144) (.ref 145) 146 352 353) ::
 (nat_lit 148,fo "need_letter" 23 "handsapart.houses" 283 147) ::
 (nat_lit 154,co "hands_of" 355 55 2 149 (.ref 151) (.ref 152) 153 360 361) ::
 (nat_lit 155,fo "hands_of" 24 "handsapart.houses" 283 154) ::
 (nat_lit 161,co "no_news" 365 58 1 156 (.ref 158) (.ref 159) 160 371 372) ::
 (nat_lit 162,fo "no_news" 26 "handsapart.news" 363 161) ::
 (nat_lit 168,co "first_hand" 374 63 2 163 (.ref 165) (.ref 166) 167 379 380) ::
 (nat_lit 169,fo "first_hand" 27 "handsapart.news" 363 168) ::
 (nat_lit 175,co "second_hand" 382 65 2 170 (.ref 172) (.ref 173) 174 387 388) ::
 (nat_lit 176,fo "second_hand" 28 "handsapart.news" 363 175) ::
 (nat_lit 180,co "news_behind" 390 67 3 177 .none .none 179 393 394) ::
 (nat_lit 181,fo "news_behind" 29 "handsapart.news" 363 180) ::
 (nat_lit 187,co "unused_name" 396 77 2 182 (.ref 184) (.ref 185) 186 407 408) ::
 (nat_lit 188,fo "unused_name" 30 "handsapart.news" 363 187) ::
 (nat_lit 194,co "newest_about" 410 88 2 189 (.ref 191) (.ref 192) 193 417 418) ::
 (nat_lit 195,fo "newest_about" 31 "handsapart.news" 363 194) ::
 (nat_lit 201,co "compared" 420 94 3 196 (.ref 198) (.ref 199) 200 427 428) ::
 (nat_lit 202,fo "compared" 32 "handsapart.news" 363 201) ::
 (nat_lit 206,co "is_known_to" 430 101 3 203 .none .none 205 433 434) ::
 (nat_lit 207,fo "is_known_to" 33 "handsapart.news" 363 206) ::
 (nat_lit 213,co "_law_cell" 438 106 2 208 (.ref 210) (.ref 211) 212 443 444) ::
 (nat_lit 214,fo "_law_cell" 35 "law_handsapart_k28_news_told" 436 213) ::
 (nat_lit 220,co "_law_bag" 446 110 1 215 (.ref 217) (.ref 218) 219 450 451) ::
 (nat_lit 221,fo "_law_bag" 36 "law_handsapart_k28_news_told" 436 220) ::
 (nat_lit 227,co "_law_take" 453 114 2 222 (.ref 224) (.ref 225) 226 459 460) ::
 (nat_lit 228,fo "_law_take" 37 "law_handsapart_k28_news_told" 436 227) ::
 (nat_lit 232,co "_law_house" 462 122 1 229 .none .none 231 465 466) ::
 (nat_lit 233,fo "_law_house" 38 "law_handsapart_k28_news_told" 436 232) ::
 (nat_lit 239,co "_law_row" 468 136 3 234 (.ref 236) (.ref 237) 238 477 478) ::
 (nat_lit 240,fo "_law_row" 39 "law_handsapart_k28_news_told" 436 239) ::
 (nat_lit 244,co "_law_owns" 480 144 2 241 .none .none 243 483 484) ::
 (nat_lit 245,fo "_law_owns" 40 "law_handsapart_k28_news_told" 436 244) ::
 (nat_lit 249,co "_law_newest" 486 147 2 246 .none .none 248 489 490) ::
 (nat_lit 250,fo "_law_newest" 41 "law_handsapart_k28_news_told" 436 249) ::
 (nat_lit 254,co "_law_last" 492 160 3 251 .none .none 253 495 496) ::
 (nat_lit 255,fo "_law_last" 42 "law_handsapart_k28_news_told" 436 254) ::
 (nat_lit 261,co "_law_of" 498 166 3 256 (.ref 258) (.ref 259) 260 504 505) ::
 (nat_lit 262,fo "_law_of" 43 "law_handsapart_k28_news_told" 436 261) ::
 (nat_lit 266,co "_law_third" 507 170 3 263 .none .none 265 510 511) ::
 (nat_lit 267,fo "_law_third" 44 "law_handsapart_k28_news_told" 436 266) ::
 (nat_lit 271,co "_law_names" 513 180 4 268 .none .none 270 516 517) ::
 (nat_lit 272,fo "_law_names" 45 "law_handsapart_k28_news_told" 436 271) ::
 (nat_lit 276,co "_law_named" 519 197 2 273 .none .none 275 522 523) ::
 (nat_lit 277,fo "_law_named" 46 "law_handsapart_k28_news_told" 436 276) ::
 (nat_lit 283,co "_law_whole" 525 205 1 278 (.ref 280) (.ref 281) 282 529 530) ::
 (nat_lit 284,fo "_law_whole" 47 "law_handsapart_k28_news_told" 436 283) ::
 (nat_lit 288,co "_law_same" 532 207 2 285 .none .none 287 535 536) ::
 (nat_lit 289,fo "_law_same" 48 "law_handsapart_k28_news_told" 436 288) ::
 (nat_lit 293,co "_law_none" 538 217 1 290 .none .none 292 541 542) ::
 (nat_lit 294,fo "_law_none" 49 "law_handsapart_k28_news_told" 436 293) ::
 (nat_lit 298,co "law" 544 219 1 295 .none .none 297 547 548) ::
 (nat_lit 299,fo "law" 50 "law_handsapart_k28_news_told" 436 298)::[]
theorem R9(P:Params):PySem.W.tabIn (Kf P) Bh=some (nat_lit 298,nat_lit 296):=by kernel_rfl
theorem XR(P:Params):PySem.W.codeHdIn (Kf P) (nat_lit 298) (nat_lit 296)=true:=by kernel_rfl
theorem XY(P:Params):(Kf P).lookup (nat_lit 296)=none:=by kernel_rfl
end Gk28
def PySem.W.Fast.tw16338592538991438701:Nat:=0
def PySem.W.Fast.tw7181356292548592960:Nat:=0
def PySem.W.Fast.tw17771918356304646198:Nat:=0
def PySem.W.Fast.tw9190711715846190605:Nat:=0
def PySem.W.Fast.tw16908602127496513967:Nat:=0
def PySem.W.Fast.tw12928004691287282303:Nat:=0
def PySem.W.Fast.tw1201986819940709794:Nat:=0
def PySem.W.Fast.tw1923468439033937871:Nat:=0
def PySem.W.Fast.tw14169289750203353699:Nat:=0
open PySem PySem.W PyProof.Rows
set_option maxRecDepth 100000 in
set_option maxHeartbeats 0 in
theorem PySem.Challenge.cw_handsapart_k28_news_told_holds : PySem.Challenge.rw_handsapart_k28_news_told.Holds := by
 w_on; o_law; o_head (PySem.W.kHook Gk28.Kf (nat_lit 3 :: nat_lit 20 :: nat_lit 21 :: nat_lit 27 :: nat_lit 28 :: nat_lit 34 :: nat_lit 35 :: nat_lit 41 :: nat_lit 42 :: nat_lit 46 :: nat_lit 47 :: nat_lit 51 :: nat_lit 52 :: nat_lit 95 :: nat_lit 96 :: nat_lit 102 :: nat_lit 103 :: nat_lit 107 :: nat_lit 108 :: nat_lit 114 :: nat_lit 115 :: nat_lit 121 :: nat_lit 122 :: nat_lit 128 :: nat_lit 129 :: nat_lit 133 :: nat_lit 134 :: nat_lit 140 :: nat_lit 141 :: nat_lit 147 :: nat_lit 148 :: nat_lit 154 :: nat_lit 155 :: nat_lit 161 :: nat_lit 162 :: nat_lit 168 :: nat_lit 169 :: nat_lit 175 :: nat_lit 176 :: nat_lit 180 :: nat_lit 181 :: nat_lit 187 :: nat_lit 188 :: nat_lit 194 :: nat_lit 195 :: nat_lit 201 :: nat_lit 202 :: nat_lit 206 :: nat_lit 207 :: nat_lit 213 :: nat_lit 214 :: nat_lit 220 :: nat_lit 221 :: nat_lit 227 :: nat_lit 228 :: nat_lit 232 :: nat_lit 233 :: nat_lit 239 :: nat_lit 240 :: nat_lit 244 :: nat_lit 245 :: nat_lit 249 :: nat_lit 250 :: nat_lit 254 :: nat_lit 255 :: nat_lit 261 :: nat_lit 262 :: nat_lit 266 :: nat_lit 267 :: nat_lit 271 :: nat_lit 272 :: nat_lit 276 :: nat_lit 277 :: nat_lit 283 :: nat_lit 284 :: nat_lit 288 :: nat_lit 289 :: nat_lit 293 :: nat_lit 294 :: nat_lit 298 :: nat_lit 299 :: []) (fun _=>by kernel_rfl)); (case hw=>w_witness2)
 k_fill
 refine Gk28.walk (l:=PySem.Challenge.rw_handsapart_k28_news_told) rfl rfl (fun w h Y=>PySem.W.kIn_of Y) ?F (fun w c b e=>by
  rw [Gk28.R9 w.params] at e;cases e;exact ⟨Option.isSome_iff_exists.mp (by kernel_rfl),Gk28.XY w.params⟩)
 case F =>
  intro w mg fa h KX G hmg;refine' Gk28.all_mk KX G hmg ?_ ?_ ?_ ?_ ?_ ?_ ?_ ?_ ?_ ?_ ?_ ?_ ?_ ?_ ?_ ?_ ?_ ?_ ?_ ?_ ?_ ?_ ?_ ?_ ?_ ?_ ?_ ?_ ?_ ?_ ?_ ?_ ?_ ?_ ?_ ?_ ?_ ?_ ?_ ?_ ?_ ?_ ?_ ?_ ?_ ?_ ?_ ?_ ?_ ?_ ?_ ?_ ?_ ?_ ?_ ?_ ?_ ?_ ?_ ?_ ?_ ?_ (Gk28.R9 w.params) (Gk28.XR w.params);all_goals first | k_is | (refine' Gk28.XN ?a ?l ?c ?k; (case a=>k_is); (case l=>k_is); (case c=>k_is); (case k=>k_is)) | skip
end
