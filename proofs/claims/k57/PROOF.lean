import PyProof.Rows.All
import Wide.All
import OpenK.AllK
import PySem.Challenge.RW_handsapart_k57_unparted
open PySem.Heap (lt_size size_push)
open Nat (add_comm le_of_lt le_refl le_succ le_trans lt_irrefl lt_of_lt_of_le lt_trans mul_le_mul ne_of_gt ne_of_lt sub_self zero_add zero_le)
open List (all_cons all_eq_true all_map any_cons any_map append_assoc append_nil cons_append contains_cons exists_cons_of_ne_nil exists_mem_of_ne_nil filterMap_cons filter_append filter_congr filter_cons filter_eq_nil_iff filter_map flatMap_cons flatten_cons foldl_cons getElem_map getElem_mem length_append length_cons length_drop length_filter_le length_map length_nil length_pos_iff length_replicate length_set length_take lookup_cons lt_trans map_append map_congr_left map_cons map_id map_id' map_map map_nil mem_append mem_append_left mem_append_right mem_cons mem_cons_of_mem mem_cons_self mem_filter mem_filterMap mem_flatten mem_iff_getElem mem_map mem_range mem_singleton ne_nil_of_mem nil_append nodup_append nodup_cons nodup_nil not_lt not_mem_nil of_mem_zip pairwise_cons pairwise_iff_getElem pairwise_map replicate_succ replicate_zero set_cons_succ set_cons_zero size_toArray take_add_one take_length take_zero)
open Option (bind_none bind_some getD_none getD_some isSome_iff_exists map_some none_or or_eq_some_iff some_or)
open Bool (and_eq_true eq_false_iff false_eq_true not_eq_true' or_eq_true)
open PySem.Txt (slice_le)
open PySem.W (Frag)
open Option (bind_eq_some_iff map_eq_some_iff)
set_option Elab.async false
set_option linter.all false
set_option maxRecDepth 100000
set_option maxHeartbeats 4000000
theorem dK{p:Prop}(h:p:=by decide +kernel):p:=h
section
namespace L2
open PySem PySem.Spec PyProof.Rows
noncomputable abbrev Key:=Sum Int Str
noncomputable def JF:Key->Value->Bool
 | .inl k,v=>Value.isInt k v
 | .inr x,v=>Value.isStrOf x v
noncomputable def XB(w:World):Key->Int
 | .inl k=>hashInt k
 | .inr x=>hashStr w x
theorem BJ:∀{k:Key} {v:Value},JF k v=true->(∃i t,k=Sum.inl i/\v=Value.int i t)\/(∃x t,k=Sum.inr x/\v=Value.str x t)
 | .inl i,v,h=>by
  obtain⟨t,e⟩:=Value.isInt_shape (k:=i) (v:=v) h;exact .inl ⟨i,t,rfl,e⟩
 | .inr x,v,h=>by
  obtain⟨t,e⟩:=Value.isStrOf_shape (x:=x) (v:=v) h;exact .inr ⟨x,t,rfl,e⟩
theorem OJ(i:Int)(t:Tok):JF (.inl i) (.int i t)=true:=by simp[JF,Value.isInt]
theorem OK(x:Str)(t:Tok):JF (.inr x) (.str x t)=true:=by simp[JF,Value.isStrOf]
theorem UN(a b:Int):decide ((Sum.inl a:Key)=Sum.inl b)=(a==b):=by
 by_cases e:a=b
 .subst e; simp
 .have h:¬(Sum.inl a:Key)=Sum.inl b:=fun q=>e (Sum.inl.inj q)
  rw[decide_eq_false h];exact(beq_eq_false_iff_ne.mpr e).symm
theorem UQ(a b:Str):decide ((Sum.inr a:Key)=Sum.inr b)=decide (a=b):=by
 by_cases e:a=b
 .subst e; simp
 .have h:¬(Sum.inr a:Key)=Sum.inr b:=fun q=>e (Sum.inr.inj q)
  rw[decide_eq_false h,decide_eq_false e]
theorem UO(a:Int)(b:Str):decide ((Sum.inl a:Key)=Sum.inr b)=false:=decide_eq_false (fun q=>nomatch q)
theorem UP(a:Str)(b:Int):decide ((Sum.inr a:Key)=Sum.inl b)=false:=decide_eq_false (fun q=>nomatch q)
noncomputable def Cc(prog:Program)(w:World):PySem.KeyKind prog w Key where
 is:=JF
 hash:=XB w
 inj:=fun v a b ha hb=>by
  rcases BJ ha with ⟨i,t,rfl,rfl⟩|⟨x,t,rfl,rfl⟩
  .rcases BJ hb with ⟨j,u,rfl,e⟩|⟨y,u,rfl,e⟩
   .injection e with e1 _; rw[e1]
   .exact nomatch e
  .rcases BJ hb with ⟨j,u,rfl,e⟩|⟨y,u,rfl,e⟩
   .exact nomatch e
   .injection e with e1 _; rw[e1]
 byValue:=fun k v h=>by
  rcases BJ h with ⟨i,t,rfl,rfl⟩|⟨x,t,rfl,rfl⟩<;>rfl
 pyHash:=fun hv h=>by
  rcases BJ hv with ⟨i,t,rfl,rfl⟩|⟨x,t,rfl,rfl⟩
  .exact wpAny_pyHash_int h
  .exact wpAny_pyHash_str h
 eqBool:=fun hu hv h=>by
  rcases BJ hu with ⟨i,t,rfl,rfl⟩|⟨x,t,rfl,rfl⟩
  .rcases BJ hv with ⟨j,u,rfl,rfl⟩|⟨y,u,rfl,rfl⟩
   .rw[UN] at h; exact wpAny_eqBool_int h
   .rw[UO] at h; exact SeqAt.EqAt.int_str i t y u _ _ _ _ h
  .rcases BJ hv with ⟨j,u,rfl,rfl⟩|⟨y,u,rfl,rfl⟩
   .rw[UP] at h; exact SeqAt.EqAt.str_int x t j u _ _ _ _ h
   .rw[UQ] at h; exact wpAny_eqBool_str h
 «strs»:=fun k x t v h=>by
  rcases BJ h with ⟨i,u,rfl,e⟩|⟨y,u,rfl,e⟩
  .exact nomatch e
  .injection e with e1 _
   subst e1;cases v<;>rfl
theorem LD(prog:Program)(w:World)(i:Int)(t:Tok):(Cc prog w).is (.inl i) (.int i t)=true:=OJ i t
theorem LF(prog:Program)(w:World)(x:Str)(t:Tok):(Cc prog w).is (.inr x) (.str x t)=true:=OK x t
end L2
namespace L2
open PySem PySem.Spec PyProof.Rows
inductive V where
 | non|bl (b:Bool)|int (i:Int)|str (x:Str)|byt (b:Array UInt8)|flt (b:UInt64)|ref (a:Addr)|ty (n:String)
 deriving DecidableEq
noncomputable def RelV:V->Value->Prop
 | .non,u=>u=Value.none
 | .bl b,u=>u=Value.bool b
 | .int i,u=>∃t,u=Value.int i t
 | .str x,u=>∃t,u=Value.str x t
 | .byt b,u=>∃t,u=Value.bytes b t
 | .flt b,u=>∃t,u=Value.float b t
 | .ref a,u=>u=Value.ref a
 | .ty n,u=>u=Value.type n
noncomputable abbrev Vals:List V->List Value->Prop:=Paired RelV
theorem Vals.length{xs:List V}{us:List Value}(r:Vals xs us):xs.length=us.length:=Paired.length r
theorem Vals.get:∀{xs:List V} {us:List Value} {i:Nat} {x:V},Vals xs us->xs[i]? = some x->∃u,us[i]? = some u/\RelV x u
 | _,_,_,_,.nil,e=>by simp at e
 | _,_,0,_,.cons r _,e=>by simp at e; subst e; exact⟨_,rfl,r⟩
 | _,_,i+1,x,.cons _ t,e=>by
  obtain⟨u,h1,h2⟩:=Vals.get (i:=i) (x:=x) t (by simpa using e);exact⟨u,by simpa using h1,h2⟩
theorem Vals.set{x:V}{u:Value}(r:RelV x u):∀{xs:List V} {us:List Value} (i:Nat),Vals xs us->Vals (xs.set i x) (us.set i u)
 | _,_,_,.nil=>.nil
 | _,_,0,.cons _ t=>.cons r t
 | _,_,i+1,.cons q t=>.cons q (Vals.set r i t)
theorem Vals.append{xs ys:List V}{us ws:List Value}(h:Vals xs us)(s:Vals ys ws):Vals (xs++ys) (us++ws):=by
 induction h with
 | nil=>exact s
 | cons r t ih=>exact .cons r ih
theorem Vals.take:∀{xs:List V} {us:List Value} (n:Nat),Vals xs us->Vals (xs.take n) (us.take n)
 | _,_,0,_=>.nil
 | _,_,_+1,.nil=>.nil
 | _,_,n+1,.cons r t=>.cons r (Vals.take n t)
theorem Vals.drop:∀{xs:List V} {us:List Value} (n:Nat),Vals xs us->Vals (xs.drop n) (us.drop n)
 | _,_,0,r=>r
 | _,_,_+1,.nil=>.nil
 | _,_,n+1,.cons _ t=>Vals.drop n t
noncomputable def JQ:Option V->Option Value->Prop
 | some v,some u=>RelV v u
 | none,none=>True
 | _,_=>False
noncomputable def KV{κ:Type}:List (κ×V)->List (κ×Value)->Prop:=Paired fun(p : κ×V) (q : κ×Value)=>p.1=q.1/\RelV p.2 q.2
noncomputable def kV:Key->V
 | .inl i=>.int i
 | .inr x=>.str x
inductive HO where
 /-- a list -/
 | lst (xs:List V)
 /-- a tuple (never changes) -/
 | tup (xs:List V)
 /-- a dict whose keys are ints and texts; one whose keys are tuples of ints and texts (the empty one is both) -/
 | dK (kvs:List (Key×V))|dT (kvs:List (List Key×V))
 /-- a set of ints: its members,its size -/
 | set (S:Int->Bool) (n:Nat)
 /-- an instance of the class at C,its dict at dx,its attributes -/
 | ins (C dx:Addr) (fs:List (Str×V))
 /-- the dict of the instance at x -/
 | own (x:Addr)
 /-- the dict of an exception -/
 | xd (fs:List (Str×V))
 /-- a bound method,f of x -/
 | met (f x:Addr)
 /-- a range object lo,lo+1,.. below hi -/
 | rng (lo hi:Int)
 /-- a thing that is known to the object (the script; a dict while a loop walks it): read,never written while it is so -/
 | frz (o:Obj) (u:HO)
 /-- a code object's table -/
 | tbl (ps:Array Value)
 /-- any other thing,by what is true of its one object (a def of one's own: SetO a S n:=HO.ext fun h=>..) -/
 | ext (φ : Heap->Prop)
noncomputable abbrev Hp:=Addr->Option HO
noncomputable def upd(H:Hp)(a:Addr)(o:HO):Hp:=fun b=>if b=a then some o else H b
theorem AN{H:Hp}{a:Addr}{o:HO}:upd H a o a=some o:=by unfold upd; rw[if_pos rfl]
theorem Au{H:Hp}{a b:Addr}{o:HO}(h:b≠a):upd H a o b=H b:=by unfold upd; rw[if_neg h]
theorem Dl{H:Hp}{a b:Addr}{o:HO}(h:H a=some o)(h':H b=none):a≠b:=by
 intro e; subst e; rw[h] at h'; cases h'
noncomputable abbrev Be:Str := "place_of_first"
noncomputable abbrev BX:Str := "place_of_first.<locals>.<lambda>"
noncomputable def Wu(H:Hp)(h:Heap)(a:Addr)(ps:Array Value):Prop:=∃qs:Array Value,h.get? a=some { cls:=.none,data:=.fields qs }/\TriplesOk qs.toList /\
 ∀pos c,codeAmong pos qs.toList=some c->∃c' oc vs t q,c=.ref c'/\H c'=some (.own a)/\h.get? c'=some oc/\oc.data=.fields vs/\vs[1]? = some (.str q t)/\ps[0]? = some (.str q 0)
noncomputable def Oi(K:Frag)(H:Hp):Prop:=∀c P,PySem.W.tabIn K Be=some (c,P)->∃ps,H P=some (.tbl ps)/\ps[0]? = some (.str BX 0)
section
variable(P:Program)(w:World)
noncomputable def BN(H:Hp)(h:Heap)(a:Addr):HO->Prop
 | .lst xs=>xs.length<=sizeLine/\∃(its:List Value) (n:Nat),Vals xs its/\h.get? a=some { cls:=.type "list",data:=.seq its.toArray n }
 | .tup xs=>xs.length<=sizeLine/\∃its:List Value,Vals xs its/\IsTup h a its.toArray
 | .dK kvs=>kvs.length<=sizeLine/\(a==sysModules)=false/\∃vs,KV kvs vs/\h.DictOf (Cc P w) a vs
 | .dT kvs=>kvs.length<=sizeLine/\(a==sysModules)=false/\∃xs:List (List Key×Addr×Value),
   Paired (fun(p:List Key×V) (q:List Key×Addr×Value)=>p.1=q.1/\H q.2.1=some (.tup (p.1.map kV))/\RelV p.2 q.2.2) kvs xs /\
   ∃o es ep,h.get? a=some o/\o.ExactDict/\o.data=.dict es ep/\es.toList=xs.map (entryOfKey (tupleKind (Cc P w)))/\(xs.map (·.1)).Nodup
 | .set S n=>h.SetOf (intKind P w) a S n
 | .ins C dx fs=>H dx=some (.own a)/\fs.length<=1000/\dx≠a/\h.get? a=some (PySem.W.instObj C dx) /\
   ∃mA,h.Ns1 dx mA/\(∀f,JQ (fs.lookup f) (mA f))/\PySem.Within mA (fs.map (·.1))
 | .own _=>∃o,h.get? a=some o
 | .xd fs=>∃mA,h.Ns1 a mA/\∀f,JQ (fs.lookup f) (mA f)
 | .rng lo hi=>∃t u v,h.get? a=some { cls:=.type "range",data:=.fields #[.int lo t,.int hi u,.int 1 v] }
 | .frz o u=>h.get? a=some o/\BN H h a u
 | .tbl ps=>Wu H h a ps
 | .met f x=>h.get? a=some (PySem.W.methodObj (.ref f) (.ref x))
 | .ext φ=>φ h/\(∃o,h.get? a=some o)/\∀h1 h2:Heap,φ h1->(∀o,h1.get? a=some o->h2.get? a=some o) -> φ h2
noncomputable def HOk(H:Hp)(h:Heap):Prop:=∀a o,H a=some o->BN P w H h a o
end
section
variable{P:Program}{w:World}{H H':Hp}{h h':Heap}{a:Addr}{o:HO}
theorem BN.lt(x:BN P w H h a o):a<h.objs.size:=by
 cases o with
 | lst xs=>obtain⟨_,_,_,_,e⟩:=x; exact lt_size e
 | tup xs=>obtain⟨_,_,_,p⟩:=x; exact p.lt
 | dK kvs=>obtain⟨_,_,_,_,o,_,_,e,_⟩:=x; exact lt_size e
 | dT kvs=>obtain⟨_,_,_,_,o,_,_,e,_⟩:=x; exact lt_size e
 | set S n=>obtain⟨o,_,_,_,e,_⟩:=x; exact lt_size e
 | ins C dx fs=>obtain⟨_,_,_,e,_⟩:=x; exact lt_size e
 | own y=>obtain⟨_,e⟩:=x; exact lt_size e
 | xd fs=>obtain⟨_,⟨_,_,_,e,_⟩,_⟩:=x; exact lt_size e
 | rng lo hi=>obtain⟨_,_,_,e⟩:=x; exact lt_size e
 | frz ob u=>obtain⟨e,_⟩:=x; exact lt_size e
 | tbl ps=>obtain⟨_,e,_⟩:=x; exact lt_size e
 | met f y=>exact lt_size (show h.get? a=some _ from x)
 | ext φ=>obtain⟨_,⟨_,e⟩,_⟩:=x; exact lt_size e
theorem Paired.mapP{α β:Type}{F G:α -> β -> Prop}{l₁:List α}{l₂:List β}(h:Paired F l₁ l₂)(f:∀a b,F a b->G a b):Paired G l₁ l₂:=by
 induction h with
 | nil=>exact .nil
 | cons r t ih=>exact .cons (f _ _ r) ih
theorem BN.stay(x:BN P w H h a o)(k:∀b u,(b=a\/H b=some (.own a))->h.get? b=some u->h'.get? b=some u)(ho:∀b,H b=some (.own a)->H' b=some (.own a))(ht:∀b xs,H b=some (.tup xs)->H' b=some (.tup xs)):BN P w H' h' a o:=by
 induction o with
 | lst xs=>obtain⟨z,its,n,r,e⟩:=x; exact⟨z,its,n,r,k _ _ (.inl rfl) e⟩
 | tup xs=>obtain⟨z,its,r,ob,e,c⟩:=x; exact⟨z,its,r,ob,k _ _ (.inl rfl) e,c⟩
 | dK kvs=>obtain⟨z,y,vs,r,ob,es,ep,e,c⟩:=x; exact⟨z,y,vs,r,ob,es,ep,k _ _ (.inl rfl) e,c⟩
 | dT kvs =>
  obtain⟨z,y,xs,r,ob,es,ep,e,c⟩:=x;exact⟨z,y,xs,Paired.mapP r fun p q z=>⟨z.1,ht _ _ z.2.1,z.2.2⟩,ob,es,ep,k _ _ (.inl rfl) e,c⟩
 | set S n=>obtain⟨ob,es,ep,t,e,c⟩:=x; exact⟨ob,es,ep,t,k _ _ (.inl rfl) e,c⟩
 | ins C dx fs =>
  obtain⟨d,z,ne,e,mA,⟨od,es,ep,e2,c⟩,r⟩:=x;exact⟨ho _ d,z,ne,k _ _ (.inl rfl) e,mA,⟨od,es,ep,k _ _ (.inr d) e2,c⟩,r⟩
 | own y=>obtain⟨ob,e⟩:=x; exact⟨ob,k _ _ (.inl rfl) e⟩
 | xd fs=>obtain⟨mA,⟨od,es,ep,e,c⟩,r⟩:=x; exact⟨mA,⟨od,es,ep,k _ _ (.inl rfl) e,c⟩,r⟩
 | rng lo hi=>obtain⟨t,u,v,e⟩:=x; exact⟨t,u,v,k _ _ (.inl rfl) e⟩
 | frz ob u ih=>obtain⟨e,q⟩:=x; exact⟨k _ _ (.inl rfl) e,ih q⟩
 | tbl ps =>
  obtain⟨qs,e,tr,f⟩:=x;refine⟨qs,k _ _ (.inl rfl) e,tr,fun pos c hc=>?_⟩;obtain⟨c',oc,vs,t,q,e1,e2,e3,e4⟩:=f pos c hc;exact⟨c',oc,vs,t,q,e1,ho _ e2,k _ _ (.inr e2) e3,e4⟩
 | met f y =>
  have e:h.get? a=some (PySem.W.methodObj (.ref f) (.ref y)):=x;show h'.get? a=some (PySem.W.methodObj (.ref f) (.ref y));exact k a _ (.inl rfl) e
 | ext φ=>obtain⟨p,⟨o,e⟩,st⟩:=x; exact⟨st _ _ p fun o q=>k _ _ (.inl rfl) q,⟨o,k _ _ (.inl rfl) e⟩,st⟩
theorem HOk.lt(x:HOk P w H h)(e:H a=some o):a<h.objs.size:=(x a o e).lt
theorem HOk.fresh(x:HOk P w H h)(e:h.objs.size<=a):H a=none:=by
 cases q:H a with
 | none=>rfl
 | some u=>exact absurd (lt_of_lt_of_le (x.lt q) e) (lt_irrefl _)
theorem HOk.kept(x:HOk P w H h)(k:∀b u,h.get? b=some u->h'.get? b=some u):HOk P w H h':=fun a o e =>
 (x a o e).stay (fun b u _ q=>k b u q) (fun _ q=>q) fun _ _ q=>q
theorem HOk.laid(x:HOk P w H h)(k:∀b u,h.get? b=some u->h'.get? b=some u)(hp:h.objs.size<=a)(new:BN P w (upd H a o) h' a o):HOk P w (upd H a o) h':=fun b u e=>by
 have hn:=x.fresh hp;by_cases hb:b=a
 .subst hb; rw[AN] at e; cases e; exact new
 .rw[Au hb] at e
  exact(x b u e).stay (fun c v _ q=>k c v q) (fun c q=>by rw[Au (Dl q hn)]; exact q) fun c xs q=>by rw[Au (Dl q hn)]; exact q
end
noncomputable def Rd(H:Hp)(a:Addr)(u:HO):Prop:=H a=some u\/∃o,H a=some (.frz o u)
theorem Rd.ok{P:Program}{w:World}{H:Hp}{h:Heap}{a:Addr}{u:HO}(r:Rd H a u)(x:HOk P w H h):BN P w H h a u:=by
 rcases r with r|⟨o,r⟩
 .exact x a u r
 .obtain⟨_,q⟩:=x a _ r
  exact q
noncomputable def Mut:Option HO->Prop
 | some (.lst _)=>True
 | some (.dK _)=>True
 | some (.dT _)=>True
 | some (.set _ _)=>True
 | some (.ins _ _ _)=>True
 | some (.ext _)=>True
 | _=>False
section
variable{P:Program}{w:World}{H:Hp}{h h':Heap}{x e:Addr}{o':HO}
theorem HOk.write(ok:HOk P w H h)(mu:Mut (H x))(he:e=x\/H e=some (.own x))(k:∀b u,b≠e->h.get? b=some u->h'.get? b=some u)(heo:∃u,h'.get? e=some u)(new:BN P w (upd H x o') h' x o'):HOk P w (upd H x o') h':=fun b u q=>by
 have nown:∀c y,H c=some (.own y)->c≠x:=fun c y r z=>by subst z; rw[r] at mu; exact mu
 have ntup:∀c xs,H c=some (.tup xs)->c≠x:=fun c xs r z=>by subst z; rw[r] at mu; exact mu
 by_cases hb:b=x
 .subst hb; rw[AN] at q; cases q; exact new
 .rw[Au hb] at q
  by_cases hbe:b=e
  .have q':H b=some (.own x):=by
    rcases he with z|z
    .exact absurd (hbe.trans z) hb
    .rw[hbe]; exact z
   rw[q] at q'; cases q';obtain⟨v,hv⟩:=heo;exact⟨v,by rw[hbe]; exact hv⟩
  .refine(ok b u q).stay (fun c v hc r=>k c v ?_ r) (fun c r=>by rw[Au (nown c b r)]; exact r) fun c xs r=>by rw[Au (ntup c xs r)]; exact r
   rcases hc with rfl|hc
   .exact hbe
   .rintro rfl
    rcases he with z|z
    .exact nown c b hc z
    .rw[hc] at z; cases z; exact hb rfl
end
structure Un (fs ex:List Addr) (H H':Hp) (h h':Heap):Prop where
 keep:∀b o,h.get? b=some o->H b=none->b∉fs->b∉ex->h'.get? b=some o
 slot:∀b o,h.get? b=some o->H b=none->b∈fs->b∉ex->∃sl,h'.get? b=some { o with slots:=sl }
 free:∀b o,h.get? b=some o->H b=none->b∉ex->H' b=none
 there:∀b o,h.get? b=some o->b∉ex->∃o',h'.get? b=some o'
 tups:∀b xs,H b=some (.tup xs)->H' b=some (.tup xs)
 frzs:∀b o u,H b=some (.frz o u)->H' b=some (.frz o u)
 tbls:∀b ps,H b=some (.tbl ps)->∃more,H' b=some (.tbl (ps++more))
section
variable{fs fs' ex ex':List Addr}{H H1 H2:Hp}{h h1 h2 h':Heap}{a x e:Addr}{o:HO}
theorem Un.any(u:Un fs ex H H1 h h1){b:Addr}{ob:Obj}(q:h.get? b=some ob)(n:H b=none)(hx:b∉ex):∃sl,h1.get? b=some { ob with slots:=sl }:=by
 by_cases hb:b∈fs
 .exact u.slot b ob q n hb hx
 .exact⟨ob.slots,u.keep b ob q n hb hx⟩
theorem Un.kept(k:∀b u,h.get? b=some u->h'.get? b=some u):Un fs ex H H h h':=
 ⟨fun b ob q _ _ _=>k b ob q,fun b ob q _ _ _=>⟨ob.slots,k b ob q⟩,fun _ _ _ n _=>n,fun b ob q _=>⟨ob,k b ob q⟩,fun _ _ q=>q,fun _ _ _ q=>q,fun _ ps q=>⟨#[],by rw[q]; simp⟩⟩
theorem Un.refl:Un fs ex H H h h:=Un.kept fun _ _ q=>q
theorem Un.laid(k:∀b u,h.get? b=some u->h'.get? b=some u)(hp:h.objs.size<=a)(hn:H a=none):Un fs ex H (upd H a o) h h' where
 keep:=fun b u q _ _ _=>k b u q
 slot:=fun b u q _ _ _=>⟨u.slots,k b u q⟩
 free:=fun b u q n _=>by rw[Au (ne_of_lt (lt_of_lt_of_le (lt_size q) hp))]; exact n
 there:=fun b u q _=>⟨u,k b u q⟩
 tups:=fun b xs q=>by rw[Au (Dl q hn)]; exact q
 frzs:=fun b u xs q=>by rw[Au (Dl q hn)]; exact q
 tbls:=fun b ps q=>⟨#[],by rw[Au (Dl q hn),q]; simp⟩
theorem Un.write(mu:Mut (H x))(he:e=x\/H e=some (.own x))(k:∀b u,b≠e->h.get? b=some u->h'.get? b=some u)(heo:∃u,h'.get? e=some u):Un fs ex H (upd H x o) h h':=by
 have hx:∀b,H b=none->b≠x:=fun b n z=>by subst z; rw[n] at mu; exact mu
 have hb:∀b,H b=none->b≠e:=fun b n z=>by
  subst z;rcases he with r|r
  .exact hx b n r
  .rw[n] at r; cases r
 have hm:∀b u,H b=some u->¬Mut (some u)->b≠x:=fun b u q nm z=>by subst z; rw[q] at mu; exact nm mu
 refine⟨fun b u q n _ _=>k b u (hb b n) q,fun b u q n _ _=>⟨u.slots,k b u (hb b n) q⟩,fun b u q n _=>by rw[Au (hx b n)]; exact n,fun b u q _=>?_,
  fun b xs q=>by rw[Au (hm b _ q fun z=>z)]; exact q,fun b u xs q=>by rw[Au (hm b _ q fun z=>z)]; exact q,fun b ps q=>⟨#[],by rw[Au (hm b _ q fun z=>z),q]; simp⟩⟩
 by_cases hbe:b=e
 .subst hbe; exact heo
 .exact⟨u,k b u hbe q⟩
end
noncomputable def trk(h:Heap)(H:Hp):List Addr:=(List.range h.objs.size).filter fun a=>(H a).isSome
noncomputable def IZ(h:Heap)(H:Hp):Heap:=PySem.W.hideAll h (trk h H)
theorem OE(h:Heap)(H:Hp):(IZ h H).objs.size=h.objs.size:=PySem.W.hideAll_size _ _
theorem P6{h:Heap}{H:Hp}{b:Addr}{o:Obj}(e:h.get? b=some o)(n:H b=none):(IZ h H).get? b=some o:=
 PySem.W.hideAll_get _ e fun hm=>by
  have q:(H b).isSome=true:=(mem_filter.mp hm).2;rw[n] at q; simp at q
theorem Sj{h:Heap}{H:Hp}{b:Addr}{o:Obj}(e:(IZ h H).get? b=some o):h.get? b=some o/\H b=none:=by
 have e':h.get? b=some o:=PySem.W.of_hideAll (trk h H) e;refine⟨e',?_⟩;cases q:H b with
 | none=>rfl
 | some x =>
  have hm:b∈trk h H:=mem_filter.mpr ⟨mem_range.mpr (lt_size e'),by simp[q]⟩;have z:(IZ h H).get? b=none:=PySem.W.hideAll_none (trk h H) hm;rw[z] at e; cases e
noncomputable def RG(g h:Heap)(L:Addr):List (Addr×Obj):=(List.range h.objs.size).filterMap fun a=>if a=L\/(g.get? a).isSome=true then none else (h.get? a).map fun o=>(a,o)
noncomputable def rest(g h:Heap)(L d:Addr):List (Addr×Obj):=(RG g h L).filter fun p=>decide (p.1≠d)
end L2
namespace L2
open PySem PySem.Spec PyProof.Rows
structure Mod (K:Frag) (mg:Str->Option Value) (base:Heap):Prop where
 kin:K.In base
 glob:base.Ns mainGlobals mg
 blt:∃mb,base.Ns builtinsNs mb/\∀x:Str,x ≠ "__name__" -> mb x=bootBuiltins x
 nolimit:base.NoLimit
 bmain:∃bm ob,mg "__builtins__" = some (.ref bm)/\bm≠builtinsNs/\base.get? bm=some ob/\ob.cls=.type "module" /\ ob.dict=some builtinsNs/\ob.data=.plain
structure Cx where
 prog:Program
 w:World
 K:Frag
 mg:Str->Option Value
 base:Heap
 A:Around
 N:List Str
 s₀:Shared
 H₀:Hp
 env:Env
 outer:List Env
 stack:List Env
 ex:List Addr
 fn:Str->Bool
 calm:Bool
 pn:List (Addr×Obj)
 xe:Value->Shared->Prop
noncomputable def frs(l:List Env):List Addr:=l.filterMap (·.frame)
noncomputable abbrev Cx.fs(X:Cx):List Addr:=frs X.outer
noncomputable def Vis(sc:Scope)(x:Str):Prop:=sc.names.lookup x=some .local\/sc.names.lookup x=some .cell\/sc.names.lookup x=some .free
noncomputable def Loc(sc:Scope)(x:Str):Prop:=sc.names.lookup x=some .local\/sc.names.lookup x=some .cell
noncomputable def Look(env:Env)(h:Heap)(m:Str->Option Value)(x:Str)(u:Value):Prop:=
 (env.kindOf x=some .local/\m x=some u)\/((env.kindOf x=some .cell\/env.kindOf x=some .free)/\∃c,env.cells.lookup x=some c/\h.IsCell c (some u))
structure Cx.Ok (X:Cx):Prop where
 mod:Mod X.K X.mg X.base
 kind:X.env.scope.kind=.function
 glob:X.env.globals=mainGlobals
 blt:X.env.builtins=builtinsNs
 above:X.s₀.heap.objs.size<=X.env.locals
 inj:∀x y c,X.env.cells.lookup x=some c->X.env.cells.lookup y=some c->x=y
 has:∀x,(X.env.kindOf x=some .cell\/X.env.kindOf x=some .free)->∃c,X.env.cells.lookup x=some c
 cab:∀x c,X.fn x=true->X.env.cells.lookup x=some c->X.s₀.heap.objs.size<=c
 hd:X.calm=true->X.A.handled=none
 frames:X.A.frames=some X.stack
 stk:X.stack=X.outer\/(X.stack=X.env::X.outer/\X.env.frame=some X.env.locals)
 exf:∀b∈X.ex,b≠X.env.locals/\∀x c,X.env.cells.lookup x=some c->c≠b
 bs:∀b o,X.base.get? b=some o->X.s₀.heap.get? b=some o/\X.H₀ b=none
 bsz:X.base.objs.size<=X.s₀.heap.objs.size
 noex:∀b o,X.base.get? b=some o->b∉X.ex
 exfs:∀b∈X.ex,b∉X.fs
 funs:X.s₀.heap.FunFrames X.base X.outer
 frf:∀b∈X.fs,X.H₀ b=none
 tb:Oi X.K X.H₀
structure Inv (X:Cx) (pins:List (Addr×Obj)) (U:List (Option V)) (H:Hp) (s:Shared):Prop where
 ok:X.Ok
 os:s.os=X.s₀.os
 bare:AllBare s.gens
 base:Un X.fs X.ex X.H₀ H X.s₀.heap s.heap
 loc:∃m,s.heap.Ns X.env.locals m/\∀(i:Nat) (x:Str) (v:V),X.N[i]? = some x -> U[i]? = some (some v)->Vis X.env.scope x->∃u,RelV v u/\Look X.env s.heap m x u
 cell:∀x c,X.env.cells.lookup x=some c->∃v,s.heap.IsCell c v
 free:H X.env.locals=none
 freeC:∀x c,X.env.cells.lookup x=some c->H c=none
 pin:∀p∈X.pn++pins,s.heap.get? p.1=some p.2/\H p.1=none/\p.1≠X.env.locals/\p.1∉X.fs/\∀v,p.2.data≠.cell v
 hok:HOk X.prog X.w H s.heap
 len : U.length=X.N.length
section
variable{X:Cx}{pins:List (Addr×Obj)}{U:List (Option V)}{H H':Hp}{s:Shared}{h':Heap}
theorem Cx.Ok.nofr(ok:X.Ok){b:Addr}{o:Obj}(e:X.base.get? b=some o):b∉X.fs:=fun hb=>by
 have:=(ok.funs.mem hb).1;rw[e] at this; cases this
theorem Oi.grow{K:Frag}{H H':Hp}(x:Oi K H)(h:∀b ps,H b=some (.tbl ps)->∃more,H' b=some (.tbl (ps++more))):Oi K H':=fun c P e=>by
 obtain⟨ps,e1,e2⟩:=x c P e;obtain⟨more,e3⟩:=h P ps e1;refine⟨ps++more,e3,?_⟩;have hl:0<ps.size:=by
  cases hs:ps[0]? with
  | none=>rw[hs] at e2; cases e2
  | some v=>exact(Array.getElem?_eq_some_iff.mp hs).1
 rw[Array.getElem?_append_left hl];exact e2
theorem Inv.tabs(I:Inv X pins U H s):Oi X.K H:=I.ok.tb.grow I.base.tbls
theorem Inv.bs(I:Inv X pins U H s):∀b o,X.base.get? b=some o->s.heap.get? b=some o/\H b=none:=fun b o e =>
 ⟨I.base.keep b o (I.ok.bs b o e).1 (I.ok.bs b o e).2 (I.ok.nofr e) (I.ok.noex b o e),I.base.free b o (I.ok.bs b o e).1 (I.ok.bs b o e).2 (I.ok.noex b o e)⟩
theorem Inv.bk(I:Inv X pins U H s):∀b o,X.base.get? b=some o->s.heap.get? b=some o:=fun b o e=>(I.bs b o e).1
theorem Inv.mod(I:Inv X pins U H s):Mod X.K X.mg X.base:=I.ok.mod
theorem Inv.kIn(I:Inv X pins U H s):X.K.In s.heap:=I.ok.mod.kin.keeps I.bk
theorem Inv.nolimit(I:Inv X pins U H s):s.heap.NoLimit:=I.ok.mod.nolimit.keeps I.bk
theorem Inv.lt(I:Inv X pins U H s):X.env.locals<s.heap.objs.size:=let⟨_,hn,_⟩:=I.loc; hn.lt
theorem Inv.sz(I:Inv X pins U H s):X.s₀.heap.objs.size<=s.heap.objs.size:=le_trans I.ok.above (le_of_lt I.lt)
theorem Inv.nofs(I:Inv X pins U H s){a:Addr}(h:s.heap.objs.size<=a):a∉X.fs:=fun hb=>by
 obtain⟨_,o,ho,_⟩:=I.ok.funs.mem hb;exact absurd (lt_of_lt_of_le (lt_size ho) (le_trans I.sz h)) (lt_irrefl _)
theorem Inv.cne(I:Inv X pins U H s):∀x c,X.env.cells.lookup x=some c->c≠X.env.locals:=fun x c e z=>by
 obtain⟨v,o,ho,hd⟩:=I.cell x c e;obtain⟨m,⟨o',es,ep,ho',hd',_⟩,_⟩:=I.loc;rw[z,ho'] at ho; cases ho; rw[hd'] at hd; cases hd
theorem Inv.funs(I:Inv X pins U H s):s.heap.FunFrames X.base X.outer:=by
 have all:∀(l:List Env),(∀b∈frs l,b∈X.fs)->X.s₀.heap.FunFrames X.base l->s.heap.FunFrames X.base l:=by
  intro l;induction l with
  | nil=>intro _ _; trivial
  | cons env r ih =>
   intro hs hl;obtain⟨hk,⟨L,o,hf,hn,ho,hd⟩,hr⟩:=hl;have hL:L∈X.fs:=hs L (by unfold frs; rw[filterMap_cons,hf]; exact mem_cons_self);obtain⟨sl,e⟩:=I.base.slot L o ho (I.ok.frf L hL) hL fun z=>I.ok.exfs L z hL;exact⟨hk,⟨L,_,hf,hn,e,hd⟩,ih (fun b hb=>hs b (by unfold frs; rw[filterMap_cons,hf]; exact mem_cons_of_mem _ hb)) hr⟩
 exact all X.outer (fun _ hb=>hb) I.ok.funs
theorem Inv.stack(I:Inv X pins U H s):s.heap.FunFrames X.base X.stack:=by
 rcases I.ok.stk with e|⟨e,hf⟩
 .rw[e]; exact I.funs
 .rw[e]
  obtain⟨m,hn,_⟩:=I.loc;refine .cons (by rw[I.ok.kind]; decide) hf hn ?_ I.funs;exact Heap.get?_none_of_le (le_trans I.ok.bsz I.ok.above)
theorem Inv.stkSub(I:Inv X pins U H s):∀b∈frs X.stack,b∈X.env.locals::X.fs:=fun b hb=>by
 rcases I.ok.stk with e|⟨e,hf⟩
 .rw[e] at hb; exact mem_cons_of_mem _ hb
 .rw[e] at hb
  unfold frs at hb;rw[filterMap_cons,hf] at hb;exact hb
theorem Inv.stkFree(I:Inv X pins U H s):∀b∈frs X.stack,H b=none:=fun b hb=>by
 rcases mem_cons.mp (I.stkSub b hb) with e|hb
 .rw[e]; exact I.free
 .obtain⟨_,o,ho,_⟩:=I.ok.funs.mem hb
  exact I.base.free b o ho (I.ok.frf b hb) fun z=>I.ok.exfs b z hb
theorem Inv.step{g':Array GenState}{t':Nat}{d':Drawn}{ch:List Addr}(I:Inv X pins U H s)(hch:∀b∈ch,(b∈X.ex\/X.s₀.heap.objs.size<=b)/\b≠X.env.locals/\(∀x c,X.env.cells.lookup x=some c->c≠b)/\∀p∈X.pn++pins,p.1≠b)(keep:∀b o,b≠X.env.locals->b∉X.fs->b∉ch->s.heap.get? b=some o->H b=none->h'.get? b=some o)(slot:∀b o,b≠X.env.locals->b∈X.fs->b∉ch->s.heap.get? b=some o->H b=none->∃sl,h'.get? b=some { o with slots:=sl })(free:∀b o,b∉ch->s.heap.get? b=some o->H b=none->H' b=none)(there:∀b o,b∉ch->s.heap.get? b=some o->∃o',h'.get? b=some o')(tups:∀b xs,H b=some (.tup xs)->H' b=some (.tup xs))(frzs:∀b o u,H b=some (.frz o u)->H' b=some (.frz o u))(tbls:∀b ps,H b=some (.tbl ps)->∃more,H' b=some (.tbl (ps++more)))(ns:∀m,s.heap.Ns X.env.locals m->h'.Ns X.env.locals m)(hok:HOk X.prog X.w H' h')(hg:AllBare g'):
  Inv X pins U H' { s with heap:=h',gens:=g',drawn:=d',toks:=t' }:=by
 have neL:∀b o,X.s₀.heap.get? b=some o->b≠X.env.locals:=fun b o e=>ne_of_lt (lt_of_lt_of_le (lt_size e) I.ok.above);have neC:∀b o,X.s₀.heap.get? b=some o->b∉X.ex->b∉ch:=fun b o e hx hb=>by
  rcases(hch b hb).1 with z|z
  .exact hx z
  .exact absurd (lt_of_lt_of_le (lt_size e) z) (lt_irrefl _)
 have cellK:∀x c,X.env.cells.lookup x=some c->∀v,s.heap.IsCell c v->h'.IsCell c v:=fun x c e v ⟨o,ho,hd⟩=>by
  have nch:c∉ch:=fun z=>(hch c z).2.2.1 x c e rfl;by_cases hc:c∈X.fs
  .obtain⟨sl,q⟩:=slot c o (I.cne x c e) hc nch ho (I.freeC x c e)
   exact⟨_,q,hd⟩
  .exact⟨o,keep c o (I.cne x c e) hc nch ho (I.freeC x c e),hd⟩
 refine⟨I.ok,I.os,hg,⟨fun b o e n hb hx=>?_,fun b o e n hb hx=>?_,fun b o e n hx=>?_,fun b o e hx=>?_,fun b xs e=>tups b xs (I.base.tups b xs e),fun b o xs e=>frzs b o xs (I.base.frzs b o xs e),fun b ps e=>?_⟩,?_,fun x c e=>?_,?_,fun x c e=>?_,fun p hp=>?_,hok,I.len⟩
 .exact keep b o (neL b o e) hb (neC b o e hx) (I.base.keep b o e n hb hx) (I.base.free b o e n hx)
 .obtain⟨sl,e1⟩:=I.base.slot b o e n hb hx
  obtain⟨sl',e2⟩:=slot b _ (neL b o e) hb (neC b o e hx) e1 (I.base.free b o e n hx);exact⟨sl',e2⟩
 .obtain⟨o',e1⟩:=I.base.there b o e hx
  exact free b o' (neC b o e hx) e1 (I.base.free b o e n hx)
 .obtain⟨o',e1⟩:=I.base.there b o e hx
  exact there b o' (neC b o e hx) e1
 .obtain⟨m1,e1⟩:=I.base.tbls b ps e
  obtain⟨m2,e2⟩:=tbls b _ e1;exact⟨m1++m2,by rw[e2,Array.append_assoc]⟩
 .obtain⟨m,hn,hl⟩:=I.loc
  refine⟨m,ns m hn,fun i x v e1 e2 e3=>?_⟩;obtain⟨u,r,l⟩:=hl i x v e1 e2 e3;refine⟨u,r,?_⟩;rcases l with l|⟨k,c,e,z⟩
  .exact .inl l
  .exact .inr ⟨k,c,e,cellK x c e _ z⟩
 .obtain⟨v,z⟩:=I.cell x c e
  exact⟨v,cellK x c e v z⟩
 .obtain⟨m,⟨o,_,_,ho,_⟩,_⟩:=I.loc
  exact free _ o (fun z=>(hch _ z).2.1 rfl) ho I.free
 .obtain⟨v,o,ho,hd⟩:=I.cell x c e
  exact free c o (fun z=>(hch c z).2.2.1 x c e rfl) ho (I.freeC x c e)
 .obtain⟨e,n,ne,nf,d⟩:=I.pin p hp
  have nch:p.1∉ch:=fun z=>(hch p.1 z).2.2.2 p hp rfl;exact⟨keep p.1 p.2 ne nf nch e n,free p.1 p.2 nch e n,ne,nf,d⟩
theorem Inv.un{t':Nat}(I:Inv X pins U H s)(u:Un X.fs [] H H' s.heap h')(hok:HOk X.prog X.w H' h'):Inv X pins U H' { s with heap:=h',toks:=t' }:=by
 obtain⟨m,⟨o,es,ep,ho,r⟩,_⟩:=id I.loc;obtain⟨sl,hL⟩:=u.any ho I.free (by simp);exact I.step (g':=s.gens) (d':=s.drawn) (ch:=[]) (fun _ z=>nomatch z) (fun b o _ hb _ e n=>u.keep b o e n hb (by simp)) (fun b o _ hb _ e n=>u.slot b o e n hb (by simp)) (fun b o _ e n=>u.free b o e n (by simp)) (fun b o _ e=>u.there b o e (by simp)) u.tups u.frzs u.tbls (fun m' hm=>by
  obtain⟨o',es',ep',ho',r'⟩:=hm;rw[ho] at ho'; cases ho';exact⟨_,es',ep',hL,r'⟩) hok I.bare
theorem Inv.call{g':Array GenState}{t':Nat}{d':Drawn}{ch:List Addr}(I:Inv X pins U H s)(u:Un (frs X.stack) ch H H' s.heap h')(hok:HOk X.prog X.w H' h')(hg:AllBare g')(hch:∀b∈ch,(b∈X.ex\/X.s₀.heap.objs.size<=b)/\b≠X.env.locals/\(∀x c,X.env.cells.lookup x=some c->c≠b)/\∀p∈X.pn++pins,p.1≠b):
  Inv X pins U H' { s with heap:=h',gens:=g',drawn:=d',toks:=t' }:=by
 obtain⟨m,⟨o,es,ep,ho,r⟩,_⟩:=id I.loc;obtain⟨sl,hL⟩:=u.any ho I.free fun z=>(hch _ z).2.1 rfl;exact I.step (ch:=ch) hch (fun b o hL hb hc e n=>u.keep b o e n (fun z=>(mem_cons.mp (I.stkSub b z)).elim hL hb) hc) (fun b o _ _ hc e n=>u.any e n hc) (fun b o hc e n=>u.free b o e n hc) (fun b o hc e=>u.there b o e hc) u.tups u.frzs u.tbls (fun m' hm=>by
  obtain⟨o',es',ep',ho',r'⟩:=hm;rw[ho] at ho'; cases ho';exact⟨_,es',ep',hL,r'⟩) hok hg
theorem Inv.turned{t':Nat}{it:Addr}(I:Inv X pins U H s)(k:∀b o,b≠it->s.heap.get? b=some o->h'.get? b=some o)(hn:H it=none)(hL:it≠X.env.locals)(h1:it∈X.ex\/X.s₀.heap.objs.size<=it)(h2:∀x c,X.env.cells.lookup x=some c->c≠it)(h3:∀p∈X.pn++pins,p.1≠it):Inv X pins U H { s with heap:=h',toks:=t' }:=by
 have nit:∀b u,H b=some u->b≠it:=fun b u e z=>by rw[z,hn] at e; cases e
 refine I.step (g':=s.gens) (d':=s.drawn) (ch:=[it]) (fun b hb=>?_) (fun b o _ _ hc e _=>k b o (fun z=>hc (by simp[z])) e) (fun b o _ _ hc e _=>⟨o.slots,k b o (fun z=>hc (by simp[z])) e⟩) (fun _ _ _ _ n=>n)
  (fun b o hc e=>⟨o,k b o (fun z=>hc (by simp[z])) e⟩) (fun _ _ e=>e) (fun _ _ _ e=>e) (fun b ps e=>⟨#[],by rw[e]; simp⟩) (fun m hm=>?_) (fun b u e=>?_) I.bare
 .have e:b=it:=by simpa using hb
  subst e;exact⟨h1,hL,h2,h3⟩
 .obtain⟨o,es,ep,ho,r⟩:=hm
  exact⟨o,es,ep,k _ o (Ne.symm hL) ho,r⟩
 .refine(I.hok b u e).stay (fun c v hc q=>k c v ?_ q) (fun _ q=>q) fun _ _ q=>q
  rcases hc with z|z
  .rw[z]; exact nit b u e
  .exact nit c _ z
theorem Inv.tok(I:Inv X pins U H s)(t:Nat):Inv X pins U H { s with toks:=t }:=I.un (h':=s.heap) (t':=t) Un.refl I.hok
theorem Inv.kept{t':Nat}(I:Inv X pins U H s)(k:∀b u,s.heap.get? b=some u->h'.get? b=some u):Inv X pins U H { s with heap:=h',toks:=t' }:=I.un (Un.kept k) (I.hok.kept k)
theorem Inv.laid{a:Addr}{o:HO}{t':Nat}(I:Inv X pins U H s)(k:∀b u,s.heap.get? b=some u->h'.get? b=some u)(hp:s.heap.objs.size<=a)(new:BN X.prog X.w (upd H a o) h' a o):
  Inv X pins U (upd H a o) { s with heap:=h',toks:=t' }:=I.un (Un.laid k hp (I.hok.fresh hp)) (I.hok.laid k hp new)
theorem Inv.write{x e:Addr}{o:HO}{t':Nat}(I:Inv X pins U H s)(mu:Mut (H x))(he:e=x\/H e=some (.own x))(k:∀b u,b≠e->s.heap.get? b=some u->h'.get? b=some u)(heo:∃u,h'.get? e=some u)(new:BN X.prog X.w (upd H x o) h' x o):Inv X pins U (upd H x o) { s with heap:=h',toks:=t' }:=I.un (Un.write mu he k heo) (I.hok.write mu he k heo new)
theorem Inv.pins_of{pins':List (Addr×Obj)}(I:Inv X pins U H s)(h:∀p∈pins',s.heap.get? p.1=some p.2/\H p.1=none/\p.1≠X.env.locals/\p.1∉X.fs/\∀v,p.2.data≠.cell v):Inv X pins' U H s:=
 ⟨I.ok,I.os,I.bare,I.base,I.loc,I.cell,I.free,I.freeC,fun p hp=>(mem_append.mp hp).elim (fun z=>I.pin p (mem_append_left _ z)) (h p),I.hok,I.len⟩
theorem LG{N:List Str}(hN:N.Nodup){i j:Nat}{x:Str}(a:N[i]? = some x)(b:N[j]? = some x):i=j:=by
 obtain⟨h1,e1⟩:=List.getElem?_eq_some_iff.mp a;obtain⟨h2,e2⟩:=List.getElem?_eq_some_iff.mp b;exact(List.getElem_inj hN).mp (e1.trans e2.symm)
theorem Pk{M:Model}{A:Around}{E:Value->Shared->Prop}{i:Nat}{x:Str}{v:V}{u:Value}{Q:Unit->Shared->Prop}(I:Inv X pins U H s)(hN:X.N.Nodup)(hi:X.N[i]? = some x)(hx:Loc X.env.scope x)(r:RelV v u)(h:∀s',Inv X pins (U.set i (some v)) H s'->(∃a,Heap.SameBut a s.heap s'.heap/\(a=X.env.locals\/X.env.cells.lookup x=some a))->Q () s')(hf:X.fn x=true\/X.env.scope.names.lookup x=some .local:=by first|exact .inl rfl|exact .inr rfl|assumption):wpAny M A (storeName X.env x u) Q E s:=by
 obtain⟨m,hn,hl⟩:=id I.loc;have hcls:(X.env.scope.kind==.class || (X.env.scope.kind==.module&&X.env.locals != X.env.globals))=false:=by rw[I.ok.kind]; rfl
 have hiσ:i<U.length:=by rw[I.len]; exact(List.getElem?_eq_some_iff.mp hi).1
 have cne:=I.cne;have tracked:∀{a:Addr} {h':Heap},(∃o,s.heap.get? a=some o/\H a=none)->Heap.SameBut a s.heap h'->HOk X.prog X.w H h':=fun {a h'} ha hs b ob e=>by
  obtain⟨_,_,hfree⟩:=ha;refine(I.hok b ob e).stay (fun c w' hc q=>(hs.2 c ?_).trans q) (fun _ q=>q) fun _ _ q=>q;rintro rfl;rcases hc with rfl|hc
  .rw[hfree] at e; cases e
  .rw[hfree] at hc; cases hc
 rcases hx with hk|hk
 .refine wpAny_storeName_local hk hn (fun h' hn' hs=>?_) hcls
  obtain⟨oL,_,_,hoL,_⟩:=id hn;refine h _ ⟨I.ok,I.os,I.bare,⟨fun b o e n hb hx=>?_,fun b o e n hb hx=>?_,I.base.free,fun b o e hx=>?_,I.base.tups,I.base.frzs,I.base.tbls⟩,⟨_,hn',fun j y v' e1 e2 e3=>?_⟩,fun y c e=>?_,I.free,I.freeC,fun p hp=>?_,tracked ⟨oL,hoL,I.free⟩ hs,by simpa using I.len⟩ ⟨_,hs,.inl rfl⟩
  .exact(hs.2 b (ne_of_lt (lt_of_lt_of_le (lt_size e) I.ok.above))).trans (I.base.keep b o e n hb hx)
  .obtain⟨sl,e1⟩:=I.base.slot b o e n hb hx
   exact⟨sl,(hs.2 b (ne_of_lt (lt_of_lt_of_le (lt_size e) I.ok.above))).trans e1⟩
  .obtain⟨o',e1⟩:=I.base.there b o e hx
   exact⟨o',(hs.2 b (ne_of_lt (lt_of_lt_of_le (lt_size e) I.ok.above))).trans e1⟩
  .by_cases hj:j=i
   .subst hj
    rw[hi] at e1; cases e1;rw[List.getElem?_set_self hiσ] at e2;cases e2;exact⟨u,r,.inl ⟨hk,by simp⟩⟩
   .rw[List.getElem?_set_ne (Ne.symm hj)] at e2
    obtain⟨u',r',q⟩:=hl j y v' e1 e2 e3;refine⟨u',r',?_⟩;rcases q with ⟨k,e⟩|⟨k,c,e,z⟩
    .refine .inl ⟨k,?_⟩
     have:y≠x:=fun e=>hj (LG hN e1 (e ▸ hi));simp[this,e]
    .exact .inr ⟨k,c,e,z.sameBut hs (cne y c e)⟩
  .obtain⟨w',z⟩:=I.cell y c e
   exact⟨w',z.sameBut hs (cne y c e)⟩
  .obtain⟨e,n,ne,nf,d⟩:=I.pin p hp
   exact⟨(hs.2 p.1 ne).trans e,n,ne,nf,d⟩
 .have hfn:X.fn x=true:=by
   rcases hf with z|z
   .exact z
   .rw[z] at hk; cases hk
  obtain⟨c,hc⟩:=I.ok.has x (.inl hk);obtain⟨w',z⟩:=I.cell x c hc;refine wpAny_storeName_cell I.ok.kind hk hc z (fun h' hc' hs=>?_);obtain⟨oc,hoc,hocd⟩:=id z;refine h { s with heap:=h' } ⟨I.ok,I.os,I.bare,⟨fun b o e n hb hx=>?_,fun b o e n hb hx=>?_,I.base.free,fun b o e hx=>?_,I.base.tups,I.base.frzs,I.base.tbls⟩,⟨m,hn.sameBut hs (Ne.symm (cne x c hc)),fun j y v' e1 e2 e3=>?_⟩,fun y c' e=>?_,I.free,I.freeC,fun p hp=>?_,tracked ⟨oc,hoc,I.freeC x c hc⟩ hs,by simpa using I.len⟩ ⟨c,hs,.inr hc⟩
  .exact(hs.2 b (ne_of_lt (lt_of_lt_of_le (lt_size e) (I.ok.cab x c hfn hc)))).trans (I.base.keep b o e n hb hx)
  .obtain⟨sl,e1⟩:=I.base.slot b o e n hb hx
   exact⟨sl,(hs.2 b (ne_of_lt (lt_of_lt_of_le (lt_size e) (I.ok.cab x c hfn hc)))).trans e1⟩
  .obtain⟨o',e1⟩:=I.base.there b o e hx
   exact⟨o',(hs.2 b (ne_of_lt (lt_of_lt_of_le (lt_size e) (I.ok.cab x c hfn hc)))).trans e1⟩
  .by_cases hj:j=i
   .subst hj
    rw[hi] at e1; cases e1;rw[List.getElem?_set_self hiσ] at e2;cases e2;exact⟨u,r,.inr ⟨.inl hk,c,hc,hc'⟩⟩
   .rw[List.getElem?_set_ne (Ne.symm hj)] at e2
    obtain⟨u',r',q⟩:=hl j y v' e1 e2 e3;refine⟨u',r',?_⟩;rcases q with q|⟨k,c',e,z'⟩
    .exact .inl q
    .refine .inr ⟨k,c',e,z'.sameBut hs ?_⟩
     rintro rfl;exact hj (LG hN e1 (I.ok.inj _ _ _ e hc ▸ hi))
  .by_cases hcc:c'=c
   .subst hcc; exact⟨_,hc'⟩
   .obtain⟨w2,z2⟩:=I.cell y c' e
    exact⟨w2,z2.sameBut hs hcc⟩
  .obtain⟨e,n,ne,nf,d⟩:=I.pin p hp
   refine⟨(hs.2 p.1 ?_).trans e,n,ne,nf,d⟩;intro q;rw[q,hoc] at e;have q':oc=p.2:=Option.some.inj e;exact d w' (by rw[<- q']; exact hocd)
theorem ED{M:Model}{A:Around}{E:Value->Shared->Prop}{i:Nat}{x:Str}{v:V}{u:Value}{Q:Unit->Shared->Prop}(I:Inv X pins U H s)(hN:X.N.Nodup)(hi:X.N[i]? = some x)(hx:Loc X.env.scope x)(r:RelV v u)(h:∀s',Inv X pins (U.set i (some v)) H s'->Q () s')(hf:X.fn x=true\/X.env.scope.names.lookup x=some .local:=by first|exact .inl rfl|exact .inr rfl|assumption):wpAny M A (storeName X.env x u) Q E s:=
 Pk I hN hi hx r (fun s' I' _=>h s' I') hf
theorem Inv.call'{s':Shared}{ch:List Addr}(I:Inv X pins U H s)(ho:s'.os=s.os)(u:Un (frs X.stack) ch H H' s.heap s'.heap)(hok:HOk X.prog X.w H' s'.heap)(hg:AllBare s'.gens)(hch:∀b∈ch,(b∈X.ex\/X.s₀.heap.objs.size<=b)/\b≠X.env.locals/\(∀x c,X.env.cells.lookup x=some c->c≠b)/\∀p∈X.pn++pins,p.1≠b):Inv X pins U H' s':=by
 obtain⟨h',g',d',t',o'⟩:=s';have e:o'=s.os:=ho;subst e;exact I.call (g':=g') (t':=t') (d':=d') u hok hg hch
end
noncomputable abbrev XK:=Value->Option Addr->Hp->Prop
noncomputable abbrev St:=List (Option V)
noncomputable abbrev VK:=V->Hp->Prop
noncomputable abbrev TE:=St->Hp->VK->Prop
noncomputable abbrev TT:=St->Hp->(Bool->Hp->Prop)->Prop
noncomputable abbrev TA:=St->Hp->(List V->Hp->Prop)->Prop
structure Ends where
 nx:St->Hp->Prop
 rt:VK
 bk:St->Hp->Prop:=fun _ _=>False
 ct:St->Hp->Prop:=fun _ _=>False
noncomputable abbrev TS:=Ends->St->Hp->Prop
noncomputable def EP(X:Cx)(pins:List (Addr×Obj))(U:St)(Q:VK)(u:Value)(s':Shared):Prop:=∃v H',Inv X pins U H' s'/\RelV v u/\Q v H'
noncomputable def TP(X:Cx)(pins:List (Addr×Obj))(U:St)(Q:Bool->Hp->Prop)(b:Bool)(s':Shared):Prop:=∃H',Inv X pins U H' s'/\Q b H'
noncomputable def AP(X:Cx)(pins:List (Addr×Obj))(U:St)(Q:List V->Hp->Prop)(us:List Value)(s':Shared):Prop:=∃vs H',Inv X pins U H' s'/\Vals vs us/\Q vs H'
noncomputable def SP(X:Cx)(pins:List (Addr×Obj))(D:Ends)(f:Flow)(s':Shared):Prop:=
 match f with
 | .next=>∃σ' H',Inv X pins σ' H' s'/\D.nx σ' H'
 | .brk=>∃σ' H',Inv X pins σ' H' s'/\D.bk σ' H'
 | .cont=>∃σ' H',Inv X pins σ' H' s'/\D.ct σ' H'
 | .ret u=>∃v σ' H',Inv X pins σ' H' s'/\RelV v u/\D.rt v H'
noncomputable def PE(X:Cx)(e:Expr)(t:TE):Prop:=
 ∀(pins:List (Addr×Obj)) (s:Shared) (U:St) (H:Hp) (Q:VK),Inv X pins U H s->t U H Q->wpAny (model X.prog X.w) X.A (eval e X.env) (EP X pins U Q) X.xe s
noncomputable def PT(X:Cx)(e:Expr)(t:TT):Prop:=
 ∀(pins:List (Addr×Obj)) (s:Shared) (U:St) (H:Hp) (Q:Bool->Hp->Prop),Inv X pins U H s->t U H Q->wpAny (model X.prog X.w) X.A (isTrue e X.env (eval e X.env)) (TP X pins U Q) X.xe s
noncomputable def PW(X:Cx)(e:Expr)(t:TT):Prop:=
 ∀(whole:Sem Value) (pins:List (Addr×Obj)) (s:Shared) (U:St) (H:Hp) (Q:Bool->Hp->Prop),Inv X pins U H s->t U H Q->wpAny (model X.prog X.w) X.A (isTrue e X.env whole) (TP X pins U Q) X.xe s
theorem PW.pt{X:Cx}{e:Expr}{t:TT}(h:PW X e t):PT X e t:=h _
noncomputable def PA(X:Cx)(es:List Expr)(t:TA):Prop:=
 ∀(pos:Pos) (pins:List (Addr×Obj)) (s:Shared) (U:St) (H:Hp) (Q:List V->Hp->Prop),Inv X pins U H s->t U H Q->wpAny (model X.prog X.w) X.A (spliced (backTo pos (starEach es X.env))) (AP X pins U Q) X.xe s
noncomputable def PS(X:Cx)(st:Stmt)(t:TS):Prop:=
 ∀(pins:List (Addr×Obj)) (s:Shared) (U:St) (H:Hp) (D:Ends),Inv X pins U H s->t D U H->wpAny (model X.prog X.w) X.A (exec st X.env) (SP X pins D) X.xe s
noncomputable def PSs(X:Cx)(st:List Stmt)(t:TS):Prop:=
 ∀(pins:List (Addr×Obj)) (s:Shared) (U:St) (H:Hp) (D:Ends),Inv X pins U H s->t D U H->wpAny (model X.prog X.w) X.A (execs st X.env) (SP X pins D) X.xe s
theorem thn{α:Type}{t:Sem α}{Q Q':α -> Shared->Prop}{M:Model}{A:Around}{E:Value->Shared->Prop}{s:Shared}(h:wpAny M A t Q E s)(hQ:∀a s,Q a s->Q' a s):wpAny M A t Q' E s:=wpAny_mono h hQ fun _ _ x=>x
end L2
namespace L2
open PySem PySem.Spec PyProof.Rows
section
variable{X:Cx}
noncomputable def Pm(i:Nat):TE:=fun U H Q=>∃v,U[i]? = some (some v)/\Q v H
noncomputable def tC(v:V):TE:=fun _ H Q=>Q v H
theorem IC{i:Nat}{x:Str}{pos:Pos}(hN:X.N[i]? = some x)(hv:Vis X.env.scope x)(hd:(x==("__debug__" : Str))=false:=by decide)(hcd:(x==("__classdict__" : Str))=false:=by decide):PE X (.Name x pos) (Pm i):=by
 intro pins s U H Q I h;obtain⟨v,e,h⟩:=h;obtain⟨m,hn,hl⟩:=I.loc;obtain⟨u,r,l⟩:=hl i x v hN e hv;have fin:EP X pins U Q u s:=⟨v,H,I,r,h⟩;rcases l with ⟨hk,hm⟩|⟨hk,c,hc,hcell⟩
 .exact wpAny_Name (wpAny_loadName_local I.ok.kind hk hn hm fin) hd
 .rcases hk with hk|hk
  .exact wpAny_Name (wpAny_loadName_cell I.ok.kind hk hc hcell fin) hd
  .exact wpAny_Name (wpAny_loadName_free I.ok.kind hk hc hcell fin hcd) hd
theorem Vh{i j pos}:PE X (.Constant (.int i) j pos) (tC (.int i)):=fun _ _ _ H _ I h=>wpAny_Constant_int ⟨.int i,H,I.tok _,⟨_,rfl⟩,h⟩
theorem WU{b j pos}:PE X (.Constant (.bool b) j pos) (tC (.bl b)):=fun _ _ _ H _ I h=>Constant_bool ⟨.bl b,H,I,rfl,h⟩
theorem Vt{x j pos}:PE X (.Constant (.str x) j pos) (tC (.str x)):=fun _ _ _ H _ I h=>Calls.Constant_str ⟨.str x,H,I.tok _,⟨_,rfl⟩,h⟩
noncomputable def Gl(X:Cx)(x:Str):Prop:=X.env.kindOf x=some .globalImplicit
theorem GA{E:Value->Shared->Prop}{pins:List (Addr×Obj)}{s:Shared}{U:St}{H:Hp}{x:Str}{u:Value}{pos:Pos}{Q:Value->Shared->Prop}(I:Inv X pins U H s)(hg:Gl X x)(hm:X.mg x=some u)(h:Q u s)(hd:(x==("__debug__" : Str))=false:=by decide):wpAny (model X.prog X.w) X.A (eval (.Name x pos) X.env) Q E s:=
 Calls.Name_function_global I.ok.kind hg (Calls.loadGlobal_global (by rw[I.ok.glob]; exact I.mod.glob.keeps I.bk) hm h) hd
theorem F9{E:Value->Shared->Prop}{pins:List (Addr×Obj)}{s:Shared}{U:St}{H:Hp}{x:Str}{u:Value}{pos:Pos}{Q:Value->Shared->Prop}(I:Inv X pins U H s)(hg:Gl X x)(hm:X.mg x=none)(hv:bootBuiltins x=some u)(h:Q u s)(hn:x ≠ "__name__" := by decide)(hd:(x==("__debug__" : Str))=false:=by decide):wpAny (model X.prog X.w) X.A (eval (.Name x pos) X.env) Q E s:=by
 obtain⟨mb,h1,h2⟩:=I.mod.blt;exact Calls.Name_function_global I.ok.kind hg (Calls.loadGlobal_builtin (by rw[I.ok.glob]; exact I.mod.glob.keeps I.bk) hm (by rw[I.ok.blt]; exact h1.keeps I.bk) ((h2 x hn).trans hv) h) hd
theorem N1{x:Str}{v:V}{u:Value}{pos:Pos}(hg:Gl X x)(hm:X.mg x=some u)(r:RelV v u)(hd:(x==("__debug__" : Str))=false:=by decide):PE X (.Name x pos) (tC v):=
 fun _ _ _ H _ I h=>GA I hg hm ⟨v,H,I,r,h⟩ hd
theorem FA{x:Str}{v:V}{u:Value}{pos:Pos}(hg:Gl X x)(hm:X.mg x=none)(hv:bootBuiltins x=some u)(r:RelV v u)(hn:x ≠ "__name__" := by decide)(hd:(x==("__debug__" : Str))=false:=by decide):PE X (.Name x pos) (tC v):=
 fun _ _ _ H _ I h=>F9 I hg hm hv ⟨v,H,I,r,h⟩ hn hd
variable{a b:Expr}{ta tb:TE}{pos:Pos}
noncomputable def tB(t:TE):TT:=fun U H Q=>t U H fun x H1=>∃c,x=.bl c/\Q c H1
theorem VF{e:Expr}{t:TE}(h:PE X e t)(he:∀whole,isTrue e X.env whole=(do let v <- whole; standAt e.pos; holding [v] (truthy v)):=by intro _; rfl):PT X e (tB t):=by
 intro pins s U H Q I hw;refine isTrue_plain (thn (h pins s U H _ I hw) fun v s1 ⟨x,H1,I1,r1,q1⟩=>?_) (he _);obtain⟨d,rfl,q⟩:=q1;cases r1;exact wpAny_truthy_bool ⟨H1,I1,q⟩
variable{tA tB':TT}{rest:List Expr}
noncomputable def tOr(t u:TT):TT:=fun U H Q=>t U H fun c H1=>if c=true then Q true H1 else u U H1 Q
noncomputable def XN(t:TT):TT:=fun U H Q=>t U H fun c H1=>Q (!c) H1
theorem VG(ha:PT X a tA):PW X (.BoolOp .Or [a] pos) tA:=by
 intro wh pins s U H Q I h;refine isTrue_or (thn (ha pins s U H Q I h) fun c s1 e=>?_);cases c with
 | false=>exact isTrue_or_nil e
 | true=>exact e
theorem WY(ha:PT X a tA)(hb:PW X (.BoolOp .Or (b::rest) pos) tB'):PW X (.BoolOp .Or (a::b::rest) pos) (tOr tA tB'):=by
 intro wh pins s U H Q I h;refine isTrue_or (thn (ha pins s U H _ I h) fun c s1 yy=>?_);obtain⟨H1,I1,q1⟩:=yy;cases c with
 | true=>exact⟨H1,I1,q1⟩
 | false=>exact hb wh pins s1 U H1 Q I1 q1
theorem VE(ha:PT X a tA):PT X (.UnaryOp .Not a pos) (XN tA):=by
 intro pins s U H Q I h;exact isTrue_not (ha pins s U H (fun c H1=>Q (!c) H1) I h)
noncomputable def W9(ta tb:TE):TE:=fun U H Q=>ta U H fun x H1=>∃c,x=.bl c/\if c=true then tb U H1 Q else Q (.bl false) H1
noncomputable def Xe(ta:TE):TE:=fun U H Q=>ta U H fun x H1=>∃c,x=.bl c/\Q (.bl (!c)) H1
theorem Vs{op}{t:TE}(h:PE X a t):PE X (.BoolOp op [a] pos) t:=fun pins s U H Q I hw=>BoolOp_one (h pins s U H Q I hw)
theorem Ve(ha:PE X a ta)(hb:PE X (.BoolOp .And (b::rest) pos) tb):PE X (.BoolOp .And (a::b::rest) pos) (W9 ta tb):=by
 intro pins s U H Q I h;refine BoolOp_and (thn (ha pins s U H _ I h) fun v s1 yy=>?_);obtain⟨x,H1,I1,r1,q1⟩:=yy;obtain⟨c,rfl,q1⟩:=q1;cases r1;refine wpAny_truthy_bool ?_;cases c with
 | true=>exact hb pins s1 U H1 Q I1 q1
 | false=>exact⟨.bl false,H1,I1,rfl,q1⟩
theorem Vr(ha:PE X a ta):PE X (.UnaryOp .Not a pos) (Xe ta):=by
 intro pins s U H Q I h;refine UnaryOp_ (thn (ha pins s U H _ I h) fun v s1 yy=>?_);obtain⟨x,H1,I1,r1,q1⟩:=yy;obtain⟨c,rfl,q1⟩:=q1;cases r1;exact not_of (wpAny_truthy_bool ⟨.bl (!c),H1,I1,rfl,q1⟩)
end
end L2
namespace L2
open PySem PySem.Spec PyProof.Rows
noncomputable def SqL(K:Frag)(H:Hp)(a:Addr)(xs:List V):Prop:=
 Rd H a (.lst xs) \/
  ∃(o:Obj) (its:Array Value) (n:Nat),K.lookup a=some o/\o.cls=.type "list" /\ o.dict=none/\o.data=.seq its n/\its.size<=sizeLine/\Vals xs its.toList
noncomputable def SqT(K:Frag)(H:Hp)(a:Addr)(xs:List V):Prop:=
 Rd H a (.tup xs) \/
  ∃(o:Obj) (its:Array Value) (n:Nat),K.lookup a=some o/\o.cls=.type "tuple" /\ o.data=.seq its n/\its.size<=sizeLine/\Vals xs its.toList
noncomputable def Xx:Value->Option V
 | .none=>some .non
 | .bool b=>some (.bl b)
 | .int i _=>some (.int i)
 | .str x _=>some (.str x)
 | .bytes b _=>some (.byt b)
 | .float b _=>some (.flt b)
 | .ref a=>some (.ref a)
 | .type n=>some (.ty n)
 | _=>none
theorem RelV.abs{x:V}{u:Value}(r:RelV x u):Xx u=some x:=by
 cases x with
 | non=>cases r; rfl
 | bl _=>cases r; rfl
 | int _=>obtain⟨t,rfl⟩:=r; rfl
 | str _=>obtain⟨t,rfl⟩:=r; rfl
 | byt _=>obtain⟨t,rfl⟩:=r; rfl
 | flt _=>obtain⟨t,rfl⟩:=r; rfl
 | ref _=>cases r; rfl
 | ty _=>cases r; rfl
theorem RelV.inj{x y:V}{u:Value}(r:RelV x u)(q:RelV y u):x=y:=Option.some.inj (r.abs.symm.trans q.abs)
theorem Vals.inj{xs ys:List V}{us:List Value}(h:Vals xs us):Vals ys us->xs=ys:=by
 induction h generalizing ys with
 | nil=>intro q; cases q; rfl
 | cons r t ih =>
  intro q;cases q with
  | cons r' t'=>rw[r.inj r',ih t']
section
variable{X:Cx}{pins:List (Addr×Obj)}{U:St}{H:Hp}{s:Shared}{a:Addr}{xs ys:List V}
theorem Inv.list(I:Inv X pins U H s)(h:SqL X.K H a xs):∃its:List Value,Vals xs its/\PlainL s.heap a its.toArray/\xs.length<=sizeLine:=by
 rcases h with h|⟨o,its,n,hk,hc,hd,hs,hz,r⟩
 .obtain⟨z,its,n,r,e⟩:=h.ok I.hok
  exact⟨its,r,⟨_,n,e,rfl,rfl,rfl⟩,z⟩
 .refine⟨its.toList,r,⟨o,n,I.kIn a o hk,hc,hd,by simpa using hs⟩,?_⟩
  have e:=r.length;simp only[Array.length_toList] at e;lia
theorem Inv.tuple(I:Inv X pins U H s)(h:SqT X.K H a xs):∃its:List Value,Vals xs its/\IsTup s.heap a its.toArray/\xs.length<=sizeLine:=by
 rcases h with h|⟨o,its,n,hk,hc,hs,hz,r⟩
 .obtain⟨z,its,r,p⟩:=h.ok I.hok
  exact⟨its,r,p,z⟩
 .refine⟨its.toList,r,⟨o,I.kIn a o hk,hc,n,by simpa using hs⟩,?_⟩
  have e:=r.length;simp only[Array.length_toList] at e;lia
theorem Inv.list_inj(I:Inv X pins U H s)(h:SqL X.K H a xs)(h':SqL X.K H a ys):xs=ys:=by
 obtain⟨its,r,⟨o,n,e,_,_,d⟩,_⟩:=I.list h;obtain⟨its',r',⟨o',n',e',_,_,d'⟩,_⟩:=I.list h';rw[e] at e'; cases e';rw[d] at d';injection d' with d1 _;have:its=its':=by simpa using congrArg Array.toList d1
 subst this;exact r.inj r'
theorem Inv.tuple_inj(I:Inv X pins U H s)(h:SqT X.K H a xs)(h':SqT X.K H a ys):xs=ys:=by
 obtain⟨its,r,⟨o,e,_,n,d⟩,_⟩:=I.tuple h;obtain⟨its',r',⟨o',e',_,n',d'⟩,_⟩:=I.tuple h';rw[e] at e'; cases e';rw[d] at d';injection d' with d1 _;have:its=its':=by simpa using congrArg Array.toList d1
 subst this;exact r.inj r'
end
noncomputable abbrev Cx.wish(X:Cx)(E:Value->Shared->Prop):Cx:={ X with xe:=E }
noncomputable abbrev Cx.nox(X:Cx):Cx:=X.wish fun _ _=>False
theorem Cx.Ok.wish{X:Cx}(ok:X.Ok)(E:Value->Shared->Prop):(X.wish E).Ok:=
 ⟨ok.mod,ok.kind,ok.glob,ok.blt,ok.above,ok.inj,ok.has,ok.cab,ok.hd,ok.frames,ok.stk,ok.exf,ok.bs,ok.bsz,ok.noex,ok.exfs,ok.funs,ok.frf,ok.tb⟩
theorem Cx.Ok.unwish{X:Cx}{E:Value->Shared->Prop}(ok:(X.wish E).Ok):X.Ok:=
 ⟨ok.mod,ok.kind,ok.glob,ok.blt,ok.above,ok.inj,ok.has,ok.cab,ok.hd,ok.frames,ok.stk,ok.exf,ok.bs,ok.bsz,ok.noex,ok.exfs,ok.funs,ok.frf,ok.tb⟩
section
variable{X:Cx}{pins:List (Addr×Obj)}{U:St}{H:Hp}{s:Shared}{E:Value->Shared->Prop}
theorem Inv.wish(I:Inv X pins U H s)(E:Value->Shared->Prop):Inv (X.wish E) pins U H s:=⟨I.ok.wish E,I.os,I.bare,I.base,I.loc,I.cell,I.free,I.freeC,I.pin,I.hok,I.len⟩
theorem Inv.unwish(I:Inv (X.wish E) pins U H s):Inv X pins U H s:=⟨I.ok.unwish,I.os,I.bare,I.base,I.loc,I.cell,I.free,I.freeC,I.pin,I.hok,I.len⟩
theorem SP.unwish{D:Ends}{f:Flow}{s':Shared}(h:SP (X.wish E) pins D f s'):SP X pins D f s':=by
 cases f with
 | next=>obtain⟨σ',H',I,q⟩:=h; exact⟨σ',H',I.unwish,q⟩
 | brk=>obtain⟨σ',H',I,q⟩:=h; exact⟨σ',H',I.unwish,q⟩
 | cont=>obtain⟨σ',H',I,q⟩:=h; exact⟨σ',H',I.unwish,q⟩
 | ret u=>obtain⟨v,σ',H',I,r,q⟩:=h; exact⟨v,σ',H',I.unwish,r,q⟩
theorem PSs.nox{st:List Stmt}{t:TS}(h:PSs X.nox st t):PSs X st t:=fun pins s U H D I hw =>
 wpAny_mono (h pins s U H D (I.wish _) hw) (fun _ _ q=>q.unwish) fun _ _ z=>False.elim z
end
section
variable{X:Cx}{st:Stmt}{rest:List Stmt}{t u:TS}{e:Expr}{te:TE}{pos:Pos}
noncomputable def T6:TS:=fun D U H=>D.nx U H
noncomputable def We(t u:TS):TS:=fun D U H=>t { D with nx:=u D } U H
theorem SO:PSs X [] T6:=fun _ _ U H _ I h=>wpAny_execs_nil ⟨U,H,I,h⟩
theorem IE(h1:PS X st t)(h2:PSs X rest u):PSs X (st::rest) (We t u):=by
 intro pins s U H D I h;refine wpAny_execs_cons (thn (h1 pins s U H { D with nx:=u D } I h) fun f s1 q=>?_);cases f with
 | next =>
  obtain⟨σ',H',I',q⟩:=q;exact h2 pins s1 σ' H' D I' q
 | ret v=>exact q
 | brk=>exact q
 | cont=>exact q
theorem SQ(h1:PS X st t):PSs X [st] t:=by
 intro pins s U H D I h;refine wpAny_execs_cons (thn (h1 pins s U H D I h) fun f s1 q=>?_);cases f with
 | next=>exact wpAny_execs_nil q
 | ret v=>exact q
 | brk=>exact q
 | cont=>exact q
theorem Inv.quiet{pins:List (Addr×Obj)}{U:St}{H:Hp}{s:Shared}(I:Inv X pins U H s):interactive X.env=false:=by simp[interactive,I.ok.kind]
noncomputable def JO(te:TE):TS:=fun D U H=>te U H fun _ H1=>D.nx U H1
theorem HB(he:PE X e te)(hs:swapsWith e none pos.line X.env=pure false:=by rfl):PS X (.Expr e pos) (JO te):=by
 intro pins s U H D I h;exact wpAny_Expr_any (thn (he pins s U H _ I h) fun v s1 ⟨x,H1,I1,r1,q1⟩=>⟨U,H1,I1,q1⟩) I.quiet hs
noncomputable def Xh(te:TE):TS:=fun D U H=>te U H D.rt
theorem VC(he:PE X e te):PS X (.Return (some e) pos) (Xh te):=by
 intro pins s U H D I h;exact wpAny_Return_some (thn (he pins s U H _ I h) fun v s1 ⟨x,H1,I1,r1,q1⟩=>⟨x,U,H1,I1,r1,q1⟩)
noncomputable def V4(c:TT)(t u:TS):TS:=fun D U H=>c U H fun b H1=>if b=true then t D U H1 else u D U H1
theorem TY{c:Expr}{a b:List Stmt}{tc:TT}(hc:PT X c tc)(ha:PSs X a t)(hb:PSs X b u):PS X (.If c a b pos) (V4 tc t u):=by
 intro pins s U H D I h;refine wpAny_If (thn (hc pins s U H _ I h) fun d s1 yy=>?_);obtain⟨H1,I1,q1⟩:=yy;cases d with
 | true=>exact ha pins s1 U H1 D I1 q1
 | false=>exact hb pins s1 U H1 D I1 q1
end
noncomputable abbrev TG:=V->St->Hp->(St->Hp->Prop)->Prop
noncomputable abbrev TGs:=List V->St->Hp->(St->Hp->Prop)->Prop
noncomputable def PG(X:Cx)(target:Expr)(t:TG):Prop:=
 ∀(pins:List (Addr×Obj)) (s:Shared) (U:St) (H:Hp) (v:V) (u:Value) (Q:St->Hp->Prop),Inv X pins U H s->RelV v u->t v U H Q ->
  wpAny (model X.prog X.w) X.A (assign target X.env u) (fun _ s'=>∃σ' H',Inv X pins σ' H' s'/\Q σ' H') X.xe s
noncomputable def PGs(X:Cx)(ts:List Expr)(t:TGs):Prop:=
 ∀(pins:List (Addr×Obj)) (s:Shared) (U:St) (H:Hp) (vs:List V) (us:List Value) (Q:St->Hp->Prop),Inv X pins U H s->Vals vs us->t vs U H Q ->
  wpAny (model X.prog X.w) X.A (assignInOrder ((assignEach ts X.env).map (·.2)) us) (fun _ s'=>∃σ' H',Inv X pins σ' H' s'/\Q σ' H') X.xe s
noncomputable abbrev Uc:=V->V->V->Hp->(Hp->Prop)->Prop
noncomputable def Wq(X:Cx)(t:Uc):Prop:=
 ∀(pins:List (Addr×Obj)) (s:Shared) (U:St) (H:Hp) (o i v:V) (ov iv u:Value) (Q:Hp->Prop),Inv X pins U H s->RelV o ov->RelV i iv->RelV v u->t o i v H Q ->
  wpAny (model X.prog X.w) X.A (setItem ov iv u) (fun _ s'=>∃H',Inv X pins U H' s'/\Q H') X.xe s
section
variable{X:Cx}{pos:Pos}
noncomputable def HV(i:Nat):TG:=fun v U H Q=>Q (U.set i (some v)) H
theorem Hz{i:Nat}{x:Str}(hN:X.N.Nodup)(hi:X.N[i]? = some x)(hx:Loc X.env.scope x)(hf:X.fn x=true\/X.env.scope.names.lookup x=some .local:=by first|exact .inl rfl|exact .inr rfl|assumption):PG X (.Name x pos) (HV i):=by
 intro pins s U H v u Q I r h;exact wpAny_assign_Name (ED I hN hi hx r (fun s' I'=>⟨_,H,I',h⟩) hf)
noncomputable def WA:TGs:=fun vs U H Q=>vs=[]/\Q U H
noncomputable def TN(t:TG)(u:TGs):TGs:=fun vs U H Q=>∃v r,vs=v::r/\t v U H fun σ' H'=>u r σ' H' Q
theorem N2:PGs X [] WA:=by
 intro pins s U H vs us Q I r h;obtain⟨e,h⟩:=h;subst e;cases r;exact assignInOrder_nil ⟨U,H,I,h⟩
theorem ID{e:Expr}{es:List Expr}{t:TG}{u:TGs}(h1:PG X e t)(h2:PGs X es u)(hs:(assignEach (e::es) X.env).map (·.2)=assign e X.env::(assignEach es X.env).map (·.2):=by rfl):PGs X (e::es) (TN t u):=by
 intro pins s U H vs us Q I r h;obtain⟨v,vr,e1,h⟩:=h;subst e1;cases r with
 | cons r rr =>
  rw[hs];refine assignInOrder_cons (thn (h1 pins s U H _ _ _ I r h) fun _ s1 yy=>?_);obtain⟨σ1,H1,I1,q1⟩:=yy;exact h2 pins s1 σ1 H1 _ _ Q I1 rr q1
noncomputable def WC(K:Frag)(n:Nat)(t:TGs):TG:=fun v U H Q=>∃a xs,v=.ref a/\SqT K H a xs/\xs.length=n/\t xs U H Q
theorem QJ{es:List Expr}{k:Nat}{t:TGs}{n:Nat}(hc:X.calm=true)(h:PGs X es t)(hn:(assignEach es X.env).length=n:=by rfl)(hst:(assignEach es X.env).findIdx? (·.1)=none:=by rfl):PG X (.Tuple es k pos) (WC X.K n t):=by
 intro pins s U H v u Q I r hw;obtain⟨a,xs,e1,hq,hl,hw⟩:=hw;subst e1;cases r;obtain⟨its,rv,ht,hz⟩:=I.tuple hq;refine assign_Tuple_tuple (I.ok.hd hc) ht (by simp[hn,<- hl,rv.length]) hst fun h' hx=>?_;have I1:Inv X pins U H { s with heap:=h' }:=I.kept (t':=s.toks) fun b o e=>hx b o (ne_of_lt (lt_size e)) e;exact h pins _ U H xs _ Q I1 (by simpa using rv) hw
noncomputable def WB(to ti:TE)(t:Uc):TG:=fun v U H Q=>to U H fun o H1=>ti U H1 fun i H2=>t o i v H2 fun H3=>Q U H3
theorem Vv{o i:Expr}{to ti:TE}{t:Uc}(ho:PE X o to)(hi:PE X i ti)(hs:Wq X t)(ha:∀v,assign (.Subscript o i pos) X.env v=(do
   let ov <- holding [v] (eval o X.env)
   let iv <- holding [v,ov] (eval i X.env)
   standAt pos
   holding [v,ov,iv] (setItem ov iv v)
   release [v,ov,iv] []):=by intro _; rfl):PG X (.Subscript o i pos) (WB to ti t):=by
 intro pins s U H v u Q I r h;rw[ha];refine wpAny_bind (wpAny_holding (thn (ho pins s U H _ I h) fun ov s1 yy=>?_));obtain⟨x,H1,I1,r1,q1⟩:=yy;refine wpAny_bind (wpAny_holding (thn (hi pins s1 U H1 _ I1 q1) fun iv s2 yy=>?_));obtain⟨y,H2,I2,r2,q2⟩:=yy;refine wpAny_bind (wpAny_standAt (wpAny_bind (wpAny_holding (thn (hs pins s2 U H2 x y v ov iv u _ I2 r1 r2 r q2) fun _ s3 yy=>?_))));obtain⟨H3,I3,q3⟩:=yy;exact wpAny_release ⟨U,H3,I3,q3⟩
noncomputable def Rm(te:TE)(g:TG):TS:=fun D U H=>te U H fun x H1=>g x U H1 D.nx
theorem VA{tg e:Expr}{te:TE}{g:TG}(he:PE X e te)(hg:PG X tg g)(hs:swapsWithSole [tg] e pos.line X.env=pure false:=by rfl)(hw:swappedStores [tg] e X.env=pure none:=by rfl)(h1:(assignEach [tg] X.env).map (·.2)=[assign tg X.env]:=by rfl):PS X (.Assign [tg] e pos) (Rm te g):=by
 intro pins s U H D I h;refine wpAny_Assign_stores (thn (he pins s U H _ I h) fun v s1 yy=>?_) hs hw;obtain⟨x,H1,I1,r1,q1⟩:=yy;rw[h1];exact thn (hg pins s1 U H1 x v _ I1 r1 q1) fun _ s2 q=>q
theorem VD{i:Nat}{x:Str}{e:Expr}{te:TE}{pos':Pos}(hN:X.N.Nodup)(hi:X.N[i]? = some x)(hx:Loc X.env.scope x)(he:PE X e te)(hs:swapsWith e (some (.Name x pos')) pos.line X.env=pure false:=by rfl)(hf:X.fn x=true\/X.env.scope.names.lookup x=some .local:=by first|exact .inl rfl|exact .inr rfl|assumption):
  PS X (.Assign [.Name x pos'] e pos) (Rm te (HV i)):=by
 intro pins s U H D I h;refine wpAny_Assign_Name (thn (he pins s U H _ I h) fun v s1 yy=>?_) hs;obtain⟨y,H1,I1,r1,q1⟩:=yy;exact ED I1 hN hi hx r1 (fun s2 I2=>⟨_,H1,I2,q1⟩) hf
end
section
variable{X:Cx}{pos:Pos}
noncomputable def Rw(c:TT)(tb:TS):TS:=fun D U H=>∃W:Nat->St->Hp->Prop,(∃m,W m U H)/\∀m U H,W m U H ->
 c U H fun b H1=>if b=true then ∃N:St->Hp->Prop,(∀σ' H',N σ' H'->∃m',m'<m/\W m' σ' H')/\tb { D with nx:=N,ct:=N,bk:=D.nx } U H1 else D.nx U H1
theorem QU{c:Expr}{body:List Stmt}{tc:TT}{tb:TS}(hp:PassesOwn (model X.prog X.w) X.A X.env X.xe)(hc:PT X c tc)(hb:PSs X body tb):PS X (.While c body [] pos) (Rw tc tb):=by
 intro pins s U H D I h;obtain⟨W,⟨m0,w0⟩,turn⟩:=h;refine wpAny_While (codeAny_whileLoop (fun n s'=>∃σ' H',Inv X pins σ' H' s'/\W n σ' H') ?_ m0 ⟨U,H,I,w0⟩);rintro n s1 ⟨σ1,H1,I1,w1⟩;refine wpAny_passesOwn hp (thn (hc pins s1 σ1 H1 _ I1 (turn n σ1 H1 w1)) fun b s2 yy=>?_);obtain⟨H2,I2,q2⟩:=yy;cases b with
 | true =>
  obtain⟨N,hN,q2⟩:=q2;rw[if_pos rfl];refine wpAny_passesOwn hp (thn (hb pins s2 σ1 H2 _ I2 q2) fun f s3 q3=>?_);cases f with
  | next =>
   obtain⟨σ3,H3,I3,n3⟩:=q3;obtain⟨m',hm,w3⟩:=hN σ3 H3 n3;exact⟨m',hm,σ3,H3,I3,w3⟩
  | cont =>
   obtain⟨σ3,H3,I3,n3⟩:=q3;obtain⟨m',hm,w3⟩:=hN σ3 H3 n3;exact⟨m',hm,σ3,H3,I3,w3⟩
  | brk=>exact q3
  | ret v=>exact q3
 | false =>
  rw[if_neg Bool.false_ne_true];exact wpAny_execs_nil ⟨σ1,H2,I2,q2⟩
end
structure It where
 go:Nat->Hp->Prop
 yld:Nat->Hp->V->Hp->Prop
 stop:Nat->Hp->Prop
noncomputable def D9(X:Cx)(pins:List (Addr×Obj))(H:Hp)(b:Addr):Prop:=
 H b=none/\b≠X.env.locals/\b∉X.fs/\(b∈X.ex\/X.s₀.heap.objs.size<=b)/\(∀x c,X.env.cells.lookup x=some c->c≠b)/\∀p∈X.pn++pins,p.1≠b
theorem Inv.fpOk{X:Cx}{pins:List (Addr×Obj)}{U:St}{H H':Hp}{s:Shared}{b:Addr}(I:Inv X pins U H s)(hb:s.heap.objs.size<=b)(hn:H' b=none):D9 X pins H' b:=by
 refine⟨hn,ne_of_gt (lt_of_lt_of_le I.lt hb),I.nofs hb,.inr (le_trans I.sz hb),fun x c e z=>?_,fun p hp z=>?_⟩
 .obtain⟨v,q⟩:=I.cell x c e
  exact absurd (lt_of_lt_of_le q.lt (by rw[z]; exact hb)) (lt_irrefl _)
 .exact absurd (lt_of_lt_of_le (lt_size (I.pin p hp).1) (by rw[z]; exact hb)) (lt_irrefl _)
structure Turn (P:Program) (w:World) (K:Frag) (tg:Expr) (J:It) (fp:List Addr) (it:Addr) (tn:Nat->Heap->Prop):Prop where
 mem:it∈fp
 obj:∀i h,tn i h->∀b∈fp,∃o,h.get? b=some o/\∀v,o.data≠.cell v
 keep:∀i h h',tn i h->(∀b∈fp,∀o,h.get? b=some o->h'.get? b=some o)->tn i h'
 item:∀(X:Cx),X.prog=P->X.w=w->X.K=K->X.calm=true->∀(i:Nat) (pins:List (Addr×Obj)) (s:Shared) (U:St) (H:Hp) (E:Value->Shared->Prop),Inv X pins U H s->(∀b∈fp,D9 X pins H b)->tn i s.heap->J.go i H ->
  wpAny (model P w) X.A (pyNext (.ref it)) (fun r s1=>∃u,r=some u /\
   wpAny (model P w) X.A (letOwnedTupleGo tg (.ref it) u) (fun _ s2=>∃x H',Inv X pins U H' s2/\RelV x u/\J.yld i H x H'/\tn (i+1) s2.heap/\∀b∈fp,H' b=none) E s1) E s
 done:∀(X:Cx),X.prog=P->X.w=w->X.K=K->X.calm=true->∀(i:Nat) (pins:List (Addr×Obj)) (s:Shared) (U:St) (H:Hp) (E:Value->Shared->Prop),Inv X pins U H s->(∀b∈fp,D9 X pins H b)->tn i s.heap->J.stop i H ->
  wpAny (model P w) X.A (pyNext (.ref it)) (fun r s1=>r=none/\Inv X pins U H s1) E s
 self:∀(A:Around) (i:Nat) (s:Shared) (Q:Value->Shared->Prop) (E:Value->Shared->Prop),tn i s.heap->Q (.ref it) s->wpAny (model P w) A (pyIter (.ref it)) Q E s
noncomputable abbrev TI:=St->Hp->(It->Hp->Prop)->Prop
noncomputable def PIE(X:Cx)(pins:List (Addr×Obj))(U:St)(tg:Expr)(R:It->Hp->Prop)(itv:Value)(s2:Shared):Prop:=
 ∃(it:Addr) (fp:List Addr) (tn:Nat->Heap->Prop) (J:It) (H':Hp),itv=.ref it/\Inv X pins U H' s2/\Turn X.prog X.w X.K tg J fp it tn/\tn 0 s2.heap/\(∀b∈fp,D9 X pins H' b)/\R J H'
noncomputable def PI(X:Cx)(tg iter:Expr)(wi:TI):Prop:=
 ∀(pins:List (Addr×Obj)) (s:Shared) (U:St) (H:Hp) (R:It->Hp->Prop),Inv X pins U H s->wi U H R ->
  wpAny (model X.prog X.w) X.A (eval iter X.env) (fun v s1=>wpAny (model X.prog X.w) X.A (pyIter v) (PIE X pins U tg R) X.xe s1) X.xe s
theorem Lk{M:Model}{A:Around}{E:Value->Shared->Prop}{s:Shared}{tg:Expr}{it:Addr}{u:Value}{o:Obj}{n:String}{vs:Array Value}{Q:Unit->Shared->Prop}(ho:s.heap.get? it=some o)(hc:o.cls=.type n)(hd:o.data=.fields vs)(hn:["enumerate","zip","dict_itemiterator","dict_reverseitemiterator","odict_iterator","itertools.zip_longest","itertools.pairwise"].contains n=false)(hQ:Q () s):wpAny M A (letOwnedTupleGo tg (.ref it) u) Q E s:=by
 unfold letOwnedTupleGo;cases tg<;>first
  | exact wpAny_pure hQ
  | (cases u<;>first
    | exact wpAny_pure hQ
    | (refine wpAny_bind (wpAny_load ho ?_)
       rw[hc,hd];show wpAny M A (if (["enumerate","zip","dict_itemiterator","dict_reverseitemiterator","odict_iterator","itertools.zip_longest","itertools.pairwise"].contains n&&vs[0]? == some (rawInt _))=true then _ else _) Q E s;rw[if_neg (by intro h; rw[hn,Bool.false_and] at h; cases h)];exact wpAny_pure hQ))
noncomputable def Itl(K:Frag)(a:Addr):It:=
 ⟨fun i H=>∃xs x,SqL K H a xs/\xs[i]? = some x,fun i H x H'=>H'=H/\∀xs,SqL K H a xs->xs[i]? = some x,fun i H=>∃xs,SqL K H a xs/\xs.length<=i⟩
noncomputable def Itt(K:Frag)(a:Addr):It:=
 ⟨fun i H=>∃xs x,SqT K H a xs/\xs[i]? = some x,fun i H x H'=>H'=H/\∀xs,SqT K H a xs->xs[i]? = some x,fun i H=>∃xs,SqT K H a xs/\xs.length<=i⟩
noncomputable def Itr(lo:Int)(n:Nat):It:=⟨fun i _=>i<n,fun i H x H'=>H'=H/\x=.int (lo+i),fun i _=>n<=i⟩
theorem Po{P:Program}{w:World}{K:Frag}{tg:Expr}(a it:Addr):Turn P w K tg (Itl K a) [it] it (fun i h=>h.IsListIter it a i) where
 mem:=by simp
 obj:=fun i h st b hb=>by
  have e:b=it:=by simpa using hb
  subst e;obtain⟨o,e,c,d⟩:=st;exact⟨o,e,fun v z=>by rw[d] at z; cases z⟩
 keep:=fun i h h' st k=>st.at fun o e=>k it (by simp) o e
 item:=by
  intro X hP hw hK hc i pins s U H E I hf st hg;subst hP hw hK;obtain⟨xs,x,hq,hx⟩:=hg;obtain⟨its,rv,p,hz⟩:=I.list hq;obtain⟨u,hu,ru⟩:=rv.get hx;obtain⟨f0,f1,f2,f3,f4,f5⟩:=hf it (by simp);refine wpAny_pyNext_list_item st p.isList (x:=u) (by simpa using hu) fun h' st' sb=>?_;have I1:Inv X pins U H { s with heap:=h' }:=I.turned (t':=s.toks) (fun b o hb e=>(sb.2 b hb).trans e) f0 f1 f3 f4 f5;obtain⟨o,e,c,d⟩:=id st';exact⟨u,rfl,Lk (s:={ s with heap:=h' }) e c d (by decide) ⟨x,H,I1,ru,⟨rfl,fun ys hy=>by rw[I.list_inj hy hq]; exact hx⟩,st',fun b hb=>(hf b hb).1⟩⟩
 done:=by
  intro X hP hw hK hc i pins s U H E I hf st hg;subst hP hw hK;obtain⟨xs,hq,hx⟩:=hg;obtain⟨its,rv,p,hz⟩:=I.list hq;obtain⟨f0,f1,f2,f3,f4,f5⟩:=hf it (by simp);have hl:=rv.length;exact wpAny_pyNext_list_end (I.ok.hd hc) st p.isList (by simp; lia) fun h' eb=>⟨rfl,I.turned (t':=s.toks) (fun b o hb e=>eb b o hb e) f0 f1 f3 f4 f5⟩
 self:=fun _ _ _ _ _ st h=>wpAny_pyIter_listiter st h
theorem NA{P:Program}{w:World}{K:Frag}{tg:Expr}(a it:Addr):Turn P w K tg (Itt K a) [it] it (fun i h=>h.IsTupleIter it a i) where
 mem:=by simp
 obj:=fun i h st b hb=>by
  have e:b=it:=by simpa using hb
  subst e;obtain⟨o,e,c,d⟩:=st;exact⟨o,e,fun v z=>by rw[d] at z; cases z⟩
 keep:=fun i h h' st k=>st.at fun o e=>k it (by simp) o e
 item:=by
  intro X hP hw hK hc i pins s U H E I hf st hg;subst hP hw hK;obtain⟨xs,x,hq,hx⟩:=hg;obtain⟨its,rv,p,hz⟩:=I.tuple hq;obtain⟨u,hu,ru⟩:=rv.get hx;obtain⟨f0,f1,f2,f3,f4,f5⟩:=hf it (by simp);refine wpAny_pyNext_tuple_item st (show s.heap.IsTuple a its.toArray from p) (x:=u) (by simpa using hu) fun h' st' sb=>?_;have I1:Inv X pins U H { s with heap:=h' }:=I.turned (t':=s.toks) (fun b o hb e=>(sb.2 b hb).trans e) f0 f1 f3 f4 f5;obtain⟨o,e,c,d⟩:=id st';exact⟨u,rfl,Lk (s:={ s with heap:=h' }) e c d (by decide) ⟨x,H,I1,ru,⟨rfl,fun ys hy=>by rw[I.tuple_inj hy hq]; exact hx⟩,st',fun b hb=>(hf b hb).1⟩⟩
 done:=by
  intro X hP hw hK hc i pins s U H E I hf st hg;subst hP hw hK;obtain⟨xs,hq,hx⟩:=hg;obtain⟨its,rv,p,hz⟩:=I.tuple hq;obtain⟨f0,f1,f2,f3,f4,f5⟩:=hf it (by simp);have hl:=rv.length;exact wpAny_pyNext_tuple_end (I.ok.hd hc) st (show s.heap.IsTuple a its.toArray from p) (by simp; lia) fun h' eb=>⟨rfl,I.turned (t':=s.toks) (fun b o hb e=>eb b o hb e) f0 f1 f3 f4 f5⟩
 self:=fun _ _ _ _ _ st h=>wpAny_pyIter_tupleiter st h
theorem Nz{P:Program}{w:World}{K:Frag}{tg:Expr}(it:Addr)(lo:Int)(n:Nat):Turn P w K tg (Itr lo n) [it] it (fun i h=>IsRangeIter h it (lo+(i:Nat)*1) ((n:Int)-(i:Nat)) 1) where
 mem:=by simp
 obj:=fun i h st b hb=>by
  have e:b=it:=by simpa using hb
  subst e;exact⟨_,st,fun v z=>by
   have z':Data.fields _=Data.cell v:=z;cases z'⟩
 keep:=fun i h h' st k=>k it (by simp) _ st
 item:=by
  intro X hP hw hK hc i pins s U H E I hf st hg;subst hP hw hK;obtain⟨f0,f1,f2,f3,f4,f5⟩:=hf it (by simp);have W:=Walks.range (prog:=X.prog) (w:=X.w) (I.ok.hd hc) it lo 1 n;refine W.item i s _ _ hg st fun v h' tk hv st' kk=>?_;obtain⟨t,rfl⟩:=hv;have I1:Inv X pins U H { s with heap:=h',toks:=tk }:=I.turned (fun b o hb e=>kk b o (by simpa using hb) e) f0 f1 f3 f4 f5;refine⟨_,rfl,Lk (s:={ s with heap:=h',toks:=tk }) (n := "range_iterator") st' rfl rfl (by decide) ⟨.int (lo+i),H,I1,⟨t,?_⟩,⟨rfl,rfl⟩,st',fun b hb=>(hf b hb).1⟩⟩;rw[Int.mul_one]
 done:=by
  intro X hP hw hK hc i pins s U H E I hf st hg;subst hP hw hK;obtain⟨f0,f1,f2,f3,f4,f5⟩:=hf it (by simp);exact wpAny_pyNext_range_end (I.ok.hd hc) st (by have:n<=i:=hg; lia) fun h' eb=>⟨rfl,I.turned (t':=s.toks) (fun b o hb e=>eb b o hb e) f0 f1 f3 f4 f5⟩
 self:=fun _ _ _ _ _ st h=>wpAny_pyIter_rangeiter st h
end L2
namespace L2
open PySem PySem.Spec PyProof.Rows
section
variable{X:Cx}{tg:Expr}
theorem Q0{pins:List (Addr×Obj)}{U:St}{H:Hp}{s:Shared}{R:It->Hp->Prop}{E:Value->Shared->Prop}{lo hi:Int}{t u v:Tok}{tk:Nat}(I:Inv X pins U H s)(h1 : -(2 ^ 62)<=lo)(h2:lo<2 ^ 62)(h3 : -(2 ^ 62)<=hi)(h4:hi<2 ^ 62)(q:R (Itr lo (hi-lo).toNat) H):wpAny (model X.prog X.w) X.A (pyIter (.ref s.heap.objs.size)) (PIE X pins U tg R) E { s with heap:=s.heap.push { cls:=.type "range",data:=.fields #[.int lo t,.int hi u,.int 1 v] },toks:=tk }:=by
 refine wpAny_pyIter_range (IsRange.new ..) (small_one h1 h2 h3 h4) ?_;have I1:Inv X pins U H { s with heap:=s.heap.push { cls:=.type "range",data:=.fields #[.int lo t,.int hi u,.int 1 v] },toks:=tk }:=I.kept fun b o e=>Heap.get?_push_of_some _ e;refine⟨(s.heap.push { cls:=.type "range",data:=.fields #[.int lo t,.int hi u,.int 1 v] }).objs.size,[(s.heap.push { cls:=.type "range",data:=.fields #[.int lo t,.int hi u,.int 1 v] }).objs.size],_,_,H,rfl,
  I1.kept (t':=tk) fun b o e=>Heap.get?_push_of_some _ e,Nz _ lo (hi-lo).toNat,?_,fun b hb=>?_,q⟩
 .have e1:lo+((0:Nat):Int)*1=lo:=by simp
  have e2:(((hi-lo).toNat:Nat):Int)-((0:Nat):Int)=Builtin.Range.rangeSize lo hi 1:=by rw[rangeSize_one]; split<;>lia
  show IsRangeIter _ _ (lo+((0:Nat):Int)*1) ((((hi-lo).toNat:Nat):Int)-((0:Nat):Int)) 1;rw[e1,e2];exact Heap.get?_push_size _ rfl
 .have e:b=(s.heap.push { cls:=.type "range",data:=.fields #[.int lo t,.int hi u,.int 1 v] }).objs.size:=by simpa using hb
  subst e;exact I1.fpOk (le_refl _) (I1.hok.fresh (le_refl _))
noncomputable def P7(ta:TA):TI:=fun U H R=>ta U H fun vs H1=>∃j:Int,vs=[.int j]/\-(2 ^ 62)<=j/\j<2 ^ 62/\R (Itr 0 j.toNat) H1
theorem O2{a:Expr}{ta:TA}{p pos:Pos}(hg:Gl X "range")(hm:X.mg "range" = none)(ha:PA X [a] ta)(hs:starEach [a] X.env=[(false,eval a X.env)]:=by rfl):PI X tg (.Call (.Name "range" p) [a] [] pos) (P7 ta):=by
 intro pins s U H R I h;refine Call_ (F9 I hg hm boot_range (PyProof.Rows.callWith_type1 (thn (ha pos pins s U H _ I h) fun us s1 ⟨vs,H1,I1,r1,q1⟩=>?_) hs rfl));obtain⟨j,e,q1,q2,q⟩:=q1;subst e;cases r1 with
 | cons r rr =>
  cases rr;obtain⟨t,rfl⟩:=r;exact call_range_1 (Q0 I1 (by lia) (by lia) q1 q2 (by simpa using q))
noncomputable def Xc(wi:TI)(g:TG)(tb:TS):TS:=fun D U H=>wi U H fun J H1=>∃W:Nat->Nat->St->Hp->Prop,(∃m,W 0 m U H1)/\∀i m U H,W i m U H ->
 (J.stop i H/\D.nx U H)\/(J.go i H/\∃N:St->Hp->Prop,(∀σ' H',N σ' H'->∃m',m'<m/\W (i+1) m' σ' H')/\∀x H',J.yld i H x H'->g x U H' fun σ2 H2=>tb { D with nx:=N,ct:=N,bk:=D.nx } σ2 H2)
noncomputable def G8(fp:List Addr)(h:Heap):List (Addr×Obj):=fp.filterMap fun b=>(h.get? b).map fun o=>(b,o)
theorem Dk{fp:List Addr}{h:Heap}{b:Addr}{o:Obj}(hb:b∈fp)(e:h.get? b=some o):(b,o)∈G8 fp h:=mem_filterMap.mpr ⟨b,hb,by rw[e]; rfl⟩
theorem OS{fp:List Addr}{h:Heap}{p:Addr×Obj}(hp:p∈G8 fp h):p.1∈fp/\h.get? p.1=some p.2:=by
 obtain⟨b,hb,e⟩:=mem_filterMap.mp hp;cases q:h.get? b with
 | none=>rw[q] at e; cases e
 | some o =>
  rw[q] at e;have e':(b,o)=p:=Option.some.inj e;subst e';exact⟨hb,q⟩
theorem Inv.pinned{pins:List (Addr×Obj)}{U:St}{H:Hp}{s:Shared}{fp:List Addr}(I:Inv X pins U H s)(hf:∀b∈fp,D9 X pins H b)(ho:∀b∈fp,∃o,s.heap.get? b=some o/\∀v,o.data≠.cell v):Inv X (pins++G8 fp s.heap) U H s:=
 I.pins_of fun p hp=>(mem_append.mp hp).elim (fun z=>I.pin p (mem_append_right _ z)) fun z=>by
  obtain⟨hb,e⟩:=OS z;obtain⟨f0,f1,f2,_⟩:=hf p.1 hb;obtain⟨o,e',d⟩:=ho p.1 hb;rw[e] at e'; cases e';exact⟨e,f0,f1,f2,d⟩
theorem Inv.unpinned{pins pl:List (Addr×Obj)}{U:St}{H:Hp}{s:Shared}(I:Inv X (pins++pl) U H s):Inv X pins U H s:=I.pins_of fun p hp=>I.pin p (mem_append_right _ (mem_append_left _ hp))
theorem VB{iter:Expr}{body:List Stmt}{wi:TI}{g:TG}{tb:TS}{pos:Pos}(hp:PassesOwn (model X.prog X.w) X.A X.env X.xe)(hc:X.calm=true)(hi:PI X tg iter wi)(hg:PG X tg g)(hb:PSs X body tb)(hs:∀x,foldedSetIterable iter X.env x=pure x:=by intro _; rfl):PS X (.For tg iter body [] pos) (Xc wi g tb):=by
 intro pins s U H D I h;refine wpAny_For (thn (hi pins s U H _ I h) fun v s1 h1=>thn h1 fun itv s2 h2=>?_) hs;obtain⟨it,fp,tn,J,H2,e,I2,T,st2,f2,W,⟨m0,w0⟩,turn⟩:=h2;subst e
 -- what stays true of the iterator's objects through the loop
 have stat:∀{H':Hp},(∀b∈fp,H' b=none)->∀b∈fp,D9 X pins H' b:=fun hn b hb=>⟨hn b hb,(f2 b hb).2⟩;refine codeAny_forLoop_any (fun n s'=>∃i σ' H',Inv X pins σ' H' s'/\tn i s'.heap/\(∀b∈fp,H' b=none)/\W i n σ' H') ?_ m0 ⟨0,U,H2,I2,st2,fun b hb=>(f2 b hb).1,w0⟩;rintro n s3 ⟨i,σ3,H3,I3,st3,fr3,w3⟩;rcases turn i n σ3 H3 w3 with ⟨stop,qn⟩|⟨go,N,hN,step⟩
 .refine wpAny_passesOwn hp (thn (T.done X rfl rfl rfl hc i pins s3 σ3 H3 X.xe I3 (stat fr3) st3 stop) fun r s4 yy=>?_)
  obtain⟨hr,I4⟩:=yy;subst hr;exact wpAny_execs_nil ⟨σ3,H3,I4,qn⟩
 .refine wpAny_passesOwn hp (thn (T.item X rfl rfl rfl hc i pins s3 σ3 H3 X.xe I3 (stat fr3) st3 go) fun r s4 yy=>?_)
  obtain⟨u,hr,h4⟩:=yy;subst hr;refine wpAny_passesOwn hp (thn h4 fun _ s5 yy=>?_);obtain⟨x,H5,I5,r5,y5,st5,fr5⟩:=yy;have I5':=I5.pinned (stat fr5) (T.obj _ _ st5);refine wpAny_passesOwn hp (thn (hg _ s5 σ3 H5 x u _ I5' r5 (step x H5 y5)) fun _ s6 yy=>?_);obtain⟨σ6,H6,I6,q6⟩:=yy;refine wpAny_passesOwn hp (thn (hb _ s6 σ6 H6 _ I6 q6) fun f s7 q7=>?_);have again:∀{σ7:St} {H7:Hp},Inv X (pins++G8 fp s5.heap) σ7 H7 s7->N σ7 H7->∃m,m<n/\∃i σ' H',Inv X pins σ' H' s7/\tn i s7.heap/\(∀b∈fp,H' b=none)/\W i m σ' H':=fun {σ7 H7} I7 n7=>by
   obtain⟨m',hm,w7⟩:=hN σ7 H7 n7;refine⟨m',hm,i+1,σ7,H7,I7.unpinned,T.keep _ _ _ st5 fun b hb o e=>(I7.pin (b,o) (mem_append_right _ (mem_append_right _ (Dk hb e)))).1,fun b hb=>?_,w7⟩;obtain⟨o,e,d⟩:=T.obj _ _ st5 b hb;exact(I7.pin (b,o) (mem_append_right _ (mem_append_right _ (Dk hb e)))).2.1
  cases f with
  | next=>obtain⟨σ7,H7,I7,n7⟩:=q7; exact again I7 n7
  | cont=>obtain⟨σ7,H7,I7,n7⟩:=q7; exact again I7 n7
  | brk=>obtain⟨σ7,H7,I7,q7⟩:=q7; exact⟨σ7,H7,I7.unpinned,q7⟩
  | ret v=>obtain⟨x7,σ7,H7,I7,r7,q7⟩:=q7; exact⟨x7,σ7,H7,I7.unpinned,r7,q7⟩
end
end L2
namespace L2
open PySem PySem.Spec PyProof.Rows
noncomputable abbrev R2:=V->V->Hp->VK->Prop
noncomputable def OpR(X:Cx)(f:Value->Value->Sem Value)(r:R2):Prop:=
 ∀(pins:List (Addr×Obj)) (s:Shared) (U:St) (H:Hp) (x y:V) (v u:Value) (Q:VK),Inv X pins U H s->RelV x v->RelV y u->r x y H Q ->
  wpAny (model X.prog X.w) X.A (f v u) (EP X pins U Q) X.xe s
noncomputable def B9(X:Cx)(f:Value)(r:List V->Hp->VK->Prop):Prop:=
 ∀(pins:List (Addr×Obj)) (s:Shared) (U:St) (H:Hp) (xs:List V) (us:List Value) (Q:VK),Inv X pins U H s->Vals xs us->r xs H Q ->
  wpAny (model X.prog X.w) X.A (call f us) (EP X pins U Q) X.xe s
noncomputable def Xv(X:Cx)(r:V->Hp->(Bool->Hp->Prop)->Prop):Prop:=
 ∀(pins:List (Addr×Obj)) (s:Shared) (U:St) (H:Hp) (x:V) (v:Value) (Q:Bool->Hp->Prop),Inv X pins U H s->RelV x v->r x H Q ->
  wpAny (model X.prog X.w) X.A (truthy v) (TP X pins U Q) X.xe s
noncomputable def tOp(r:R2)(ta tb:TE):TE:=fun U H Q=>ta U H fun x H1=>tb U H1 fun y H2=>r x y H2 Q
noncomputable def tUn(r:V->Hp->VK->Prop)(ta:TE):TE:=fun U H Q=>ta U H fun x H1=>r x H1 Q
noncomputable def rI(C:Int->Int->Prop)(g:Int->Int->V):R2:=fun x y H Q=>∃i j,x=.int i/\y=.int j/\C i j/\Q (g i j) H
noncomputable def rI0(g:Int->Int->V):R2:=fun x y H Q=>∃i j,x=.int i/\y=.int j/\Q (g i j) H
section
variable{X:Cx}{a b c:Expr}{ta tb tc:TE}{pos:Pos}
theorem Ul(ha:PE X a ta)(hb:PE X b tb){pins:List (Addr×Obj)}{s:Shared}{U:St}{H:Hp}{R:V->V->Hp->Prop}(I:Inv X pins U H s)(h:ta U H fun x H1=>tb U H1 fun y H2=>R x y H2){Q:Value->Shared->Prop}{f:Value->Value->Sem Value}(hf:∀v u s2 x y H2,Inv X pins U H2 s2->RelV x v->RelV y u->R x y H2->wpAny (model X.prog X.w) X.A (f v u) Q X.xe s2):
  wpAny (model X.prog X.w) X.A (eval a X.env) (fun v s₁=>wpAny (model X.prog X.w) X.A (eval b X.env) (fun u s₂=>wpAny (model X.prog X.w) X.A (f v u) Q X.xe s₂) X.xe s₁) X.xe s:=by
 refine thn (ha pins s U H _ I h) fun v s1 yy=>?_;obtain⟨x,H1,I1,r1,q1⟩:=yy;refine thn (hb pins s1 U H1 _ I1 q1) fun u s2 yy=>?_;obtain⟨y,H2,I2,r2,q2⟩:=yy;exact hf v u s2 x y H2 I2 r1 r2 q2
theorem WW{op:Operator}{r:R2}(ho:OpR X (binaryOp op) r)(ha:PE X a ta)(hb:PE X b tb):PE X (.BinOp a op b pos) (tOp r ta tb):=by
 intro pins s U H Q I h;exact wpAny_BinOp (Ul ha hb I h fun v u s2 x y H2 I2 rx ry q=>ho pins s2 U H2 x y v u Q I2 rx ry q)
theorem opI{f:Value->Value->Sem Value}{C:Int->Int->Prop}{g:Int->Int->Int}(rule:∀(i j:Int) (t u:Tok) (s:Shared) (Q:Value->Shared->Prop) (E:Value->Shared->Prop),C i j->Q (.int (g i j) s.toks) { s with toks:=s.toks+1 }->wpAny (model X.prog X.w) X.A (f (.int i t) (.int j u)) Q E s):
  OpR X f (rI C fun i j=>.int (g i j)):=by
 intro pins s U H x y v u Q I rx ry h;obtain⟨i,j,rfl,rfl,hc,q⟩:=h;obtain⟨t,rfl⟩:=rx;obtain⟨t',rfl⟩:=ry;exact rule i j t t' s _ _ hc ⟨.int (g i j),H,I.tok _,⟨_,rfl⟩,q⟩
theorem Ss{f:Value->Value->Sem Value}{g:Int->Int->Int}(rule:∀(i j:Int) (t u:Tok) (s:Shared) (Q:Value->Shared->Prop) (E:Value->Shared->Prop),Q (.int (g i j) s.toks) { s with toks:=s.toks+1 }->wpAny (model X.prog X.w) X.A (f (.int i t) (.int j u)) Q E s):
  OpR X f (rI0 fun i j=>.int (g i j)):=by
 intro pins s U H x y v u Q I rx ry h;obtain⟨i,j,rfl,rfl,q⟩:=h;obtain⟨t,rfl⟩:=rx;obtain⟨t',rfl⟩:=ry;exact rule i j t t' s _ _ ⟨.int (g i j),H,I.tok _,⟨_,rfl⟩,q⟩
theorem Sr{f:Value->Value->Sem Value}{g:Int->Int->Bool}(rule:∀(i j:Int) (t u:Tok) (s:Shared) (Q:Value->Shared->Prop) (E:Value->Shared->Prop),Q (.bool (g i j)) s->wpAny (model X.prog X.w) X.A (f (.int i t) (.int j u)) Q E s):
  OpR X f (rI0 fun i j=>.bl (g i j)):=by
 intro pins s U H x y v u Q I rx ry h;obtain⟨i,j,rfl,rfl,q⟩:=h;obtain⟨t,rfl⟩:=rx;obtain⟨t',rfl⟩:=ry;exact rule i j t t' s _ _ ⟨.bl (g i j),H,I,rfl,q⟩
noncomputable def T9(i j:Int):Prop:=0<j/\j<1073741824
noncomputable def Oh(i j:Int):Prop:=0<=j/\j<=1000000/\i.natAbs<2 ^ 64
noncomputable def RD(i j:Int):Prop:=(-(2 ^ 64)<i/\i<2 ^ 64)\/(-(2 ^ 64)<j/\j<2 ^ 64)
theorem RD.ok{i j:Int}(h:RD i j):IntMulOk i j:=by
 rcases h with ⟨h1,h2⟩|⟨h1,h2⟩
 .exact .of_left (intBits_le_64 h1 h2)
 .exact .of_right (intBits_le_64 h1 h2)
theorem NB(k:Nat):(0:Int)<=2 ^ k:=by
 rw[two_pow_cast];exact Int.natCast_nonneg _
theorem U6:OpR X (binaryOp .Add) (rI0 fun i j=>.int (i+j)):=Ss fun _ _ _ _ _ _ _ q=>add_int q
theorem Ir:OpR X (binaryOp .Sub) (rI0 fun i j=>.int (i-j)):=Ss fun _ _ _ _ _ _ _ q=>sub_int q
theorem Iq:OpR X (binaryOp .Mult) (rI RD fun i j=>.int (i*j)):=opI fun _ _ _ _ _ _ _ hc q=>mul_int q hc.ok
theorem Kv:OpR X (binaryOp .FloorDiv) (rI T9 fun i j=>.int (i / j)):=opI fun i j _ _ _ _ _ hc q=>by
 have h1:(0:Int)<j:=hc.1;have h2:j<1073741824:=hc.2;exact floordiv_int (by lia) (by rw[Int.fdiv_eq_ediv_of_nonneg i (by lia)]; exact q) (.inl (PyProof.noPylong_small (by lia)))
theorem Ip:OpR X (binaryOp .Mod) (rI (fun _ j=>0<j) fun i j=>.int (i % j)):=opI fun i j _ _ _ _ _ hc q=>by
 have h1:(0:Int)<j:=hc;exact mod_int' (by lia) (by rw[Int.fmod_eq_emod_of_nonneg i (by lia)]; exact q)
theorem U9:OpR X (binaryOp .Pow) (rI Oh fun i j=>.int (i ^ j.toNat)):=opI fun _ _ _ _ _ _ _ hc q=>pow_int_small hc.1 hc.2.1 hc.2.2 q
theorem Nb:OpR X (binaryOp .LShift) (rI Oh fun i j=>.int (i*2 ^ j.toNat)):=opI fun _ _ _ _ _ _ _ hc q=>lshift_int_small hc.1 hc.2.1 hc.2.2 q
theorem Va:OpR X (binaryOp .RShift) (rI (fun _ j=>0<=j) fun i j=>.int (i / 2 ^ j.toNat)):=opI fun i j _ _ _ _ _ hc q =>
 rshift_int hc (by rw[Int.fdiv_eq_ediv_of_nonneg i (NB _)]; exact q)
theorem U7:OpR X (binaryOp .BitAnd) (rI0 fun i j=>.int (Builtin.bitAnd i j)):=Ss fun _ _ _ _ _ _ _ q=>and_int q
theorem WT:OpR X (binaryOp .BitOr) (rI0 fun i j=>.int (Builtin.bitOr i j)):=Ss fun _ _ _ _ _ _ _ q=>or_int q
end
section
variable{X:Cx}{a b c:Expr}{ta tb tc:TE}{pos:Pos}
theorem Mz{pins:List (Addr×Obj)}{U:St}{H:Hp}{s:Shared}{Q:VK}{k k':Bool}(I:Inv X pins U H s)(q:Q (.bl k) H)(e:k=k'):EP X pins U Q (.bool k') s:=by
 subst e;exact⟨.bl k,H,I,rfl,q⟩
theorem WS:OpR X (compareOp .Lt) (rI0 fun i j=>.bl (decide (i<j))):=Sr fun _ _ _ _ _ _ _ q=>lt_int q
theorem WR:OpR X (compareOp .LtE) (rI0 fun i j=>.bl (decide (i<=j))):=Sr fun _ _ _ _ _ _ _ q=>le_int q
theorem WQ:OpR X (compareOp .Gt) (rI0 fun i j=>.bl (decide (j<i))):=Sr fun _ _ _ _ _ _ _ q=>gt_int q
theorem WO:OpR X (compareOp .GtE) (rI0 fun i j=>.bl (decide (j<=i))):=Sr fun _ _ _ _ _ _ _ q=>ge_int q
theorem OX:OpR X (compareOp .Lt) (fun x y H Q=>∃i j,x=.str i/\y=.str j/\Q (.bl (decide (i.cps.toList<j.cps.toList))) H):=by
 intro pins s U H x y v u Q I rx ry h;obtain⟨i,j,rfl,rfl,q⟩:=h;obtain⟨t,rfl⟩:=rx;obtain⟨t',rfl⟩:=ry;exact lt_str (Mz I q rfl)
theorem OV:OpR X (compareOp .In) (fun x y H Q=>∃i j,x=.str i/\y=.str j/\Q (.bl (!(Builtin.Str.occurrences j i 0 j.length 1).isEmpty)) H):=by
 intro pins s U H x y v u Q I rx ry h;obtain⟨i,j,rfl,rfl,q⟩:=h;obtain⟨t,rfl⟩:=rx;obtain⟨t',rfl⟩:=ry;exact in_str (Mz I q rfl)
theorem OpR.or{f:Value->Value->Sem Value}{r r':R2}(h:OpR X f r)(h':OpR X f r'):OpR X f (fun x y H Q=>r x y H Q\/r' x y H Q):=by
 intro pins s U H x y v u Q I rx ry q;rcases q with q|q
 .exact h pins s U H x y v u Q I rx ry q
 .exact h' pins s U H x y v u Q I rx ry q
theorem BE(b:Expr){op:CmpOp}(h:op≠.In:=by decide)(h2:op≠.NotIn:=by decide):behindInMarks op b=false:=by
 have e1:(op==CmpOp.In)=false:=by cases op<;>first|rfl|exact absurd rfl h
 have e2:(op==CmpOp.NotIn)=false:=by cases op<;>first|rfl|exact absurd rfl h2
 cases b with
 | Set elts k pos =>
  show(k==0&&(op==.In || op==.NotIn)&&elts.all (constantsAlone 8))=false;rw[e1,e2,Bool.or_self,Bool.and_false,Bool.false_and]
 | _=>rfl
theorem SD{op:CmpOp}{r:R2}(ho:OpR X (compareOp op) r)(ha:PE X a ta)(hb:PE X b tb)(hm:behindInMarks op b=false):PE X (.Compare a [op] [b] pos) (tOp r ta tb):=by
 intro pins s U H Q I h;exact wpAny_Compare1 (Ul ha hb I h fun v u s2 x y H2 I2 rx ry q=>ho pins s2 U H2 x y v u Q I2 rx ry q) hm
noncomputable def T7(t:TE):TT:=fun U H Q=>t U H fun x H'=>∃k,x=.bl k/\Q k H'
theorem SR{op:CmpOp}{r:R2}(ho:OpR X (compareOp op) r)(ha:PE X a ta)(hb:PE X b tb)(hm:behindInMarks op b=false):PT X (.Compare a [op] [b] pos) (T7 (tOp r ta tb)):=by
 intro pins s U H Q I h;refine wpAny_isTrue_Compare1 (thn (ha pins s U H _ I h) fun v s1 yy=>?_) hm;obtain⟨x,H1,I1,r1,q1⟩:=yy;refine thn (hb pins s1 U H1 _ I1 q1) fun u s2 yy=>?_;obtain⟨y,H2,I2,r2,q2⟩:=yy;refine thn (ho pins s2 U H2 x y v u _ I2 r1 r2 q2) fun c s3 yy=>?_;obtain⟨z,H3,I3,r3,k,e,q3⟩:=yy;subst e;cases r3;exact wpAny_truthy_bool ⟨H3,I3,q3⟩
noncomputable def Nv(r r':R2)(ta tb tc:TE):TE:=fun U H Q=>ta U H fun x H1=>tb U H1 fun y H2=>r x y H2 fun z H3=>∃k,z=.bl k /\
 (if k=true then tc U H3 fun w' H4=>r' y w' H4 Q else Q (.bl false) H3)
theorem QH{op op':CmpOp}{r r':R2}(ho:OpR X (compareOp op) r)(ho':OpR X (compareOp op') r')(ha:PE X a ta)(hb:PE X b tb)(hc:PE X c tc)(hm:lastMarks [op,op'] [b,c]=false:=by with_unfolding_all rfl):PE X (.Compare a [op,op'] [b,c] pos) (Nv r r' ta tb tc):=by
 intro pins s U H Q I h;refine Compare_chain (thn (ha pins s U H _ I h) fun v s1 yy=>?_) hm;obtain⟨x,H1,I1,r1,q1⟩:=yy;refine chain_link (thn (hb pins s1 U H1 _ I1 q1) fun u s2 yy=>?_);obtain⟨y,H2,I2,r2,q2⟩:=yy;refine thn (ho pins s2 U H2 x y v u _ I2 r1 r2 q2) fun d s3 yy=>?_;obtain⟨z,H3,I3,r3,k,e,q3⟩:=yy;subst e;cases r3;refine wpAny_truthy_bool ?_;cases k with
 | false=>exact ite_ff ⟨.bl false,H3,I3,rfl,q3⟩
 | true=>exact ite_tt (chain_last (thn (hc pins s3 U H3 _ I3 q3) fun w' s4 ⟨z',H4,I4,r4,q4⟩=>ho' pins s4 U H4 y z' u w' Q I4 r2 r4 q4))
theorem QV{op op':CmpOp}{r r':R2}(ho:OpR X (compareOp op) r)(ho':OpR X (compareOp op') r')(ha:PE X a ta)(hb:PE X b tb)(hc:PE X c tc)(hm:lastMarks [op,op'] [b,c]=false:=by with_unfolding_all rfl):PT X (.Compare a [op,op'] [b,c] pos) (T7 (Nv r r' ta tb tc)):=by
 intro pins s U H Q I h;refine isTrue_chain (thn (ha pins s U H _ I h) fun v s1 yy=>?_) hm;obtain⟨x,H1,I1,r1,q1⟩:=yy;refine test_link (thn (hb pins s1 U H1 _ I1 q1) fun u s2 yy=>?_);obtain⟨y,H2,I2,r2,q2⟩:=yy;refine thn (ho pins s2 U H2 x y v u _ I2 r1 r2 q2) fun d s3 yy=>?_;obtain⟨z,H3,I3,r3,k,e,q3⟩:=yy;subst e;cases r3;refine wpAny_truthy_bool ?_;cases k with
 | false =>
  obtain⟨k',e',q'⟩:=q3;cases e';exact ite_ff ⟨H3,I3,q'⟩
 | true =>
  refine ite_tt (test_last (thn (hc pins s3 U H3 _ I3 q3) fun w' s4 ⟨z',H4,I4,r4,q4⟩=>thn (ho' pins s4 U H4 y z' u w' _ I4 r2 r4 q4) fun d' s5 yy=>?_));obtain⟨z2,H5,I5,r5,k2,e2,q5⟩:=yy;subst e2;cases r5;exact wpAny_truthy_bool ⟨H5,I5,q5⟩
noncomputable def Ud(K:Frag)(x:V)(H:Hp)(k:Bool):Prop:=
 match x with
 | .non=>k=false
 | .bl b=>k=b
 | .int i=>k=(i != 0)
 | .str y=>y.length<=sizeLine/\k=((y.length:Int) != 0)
 | .byt y=>y.size<=sizeLine/\k=((y.size:Int) != 0)
 | .ref p=>(∃xs,SqL K H p xs/\k = !xs.isEmpty)\/(∃xs,SqT K H p xs/\k = !xs.isEmpty)\/∃kvs,H p=some (.dK kvs)/\k = !kvs.isEmpty
 | _=>False
theorem MK{κ:Type}{kvs:List (κ×V)}{vs:List (κ×Value)}(r:KV kvs vs):(!vs.isEmpty) = !kvs.isEmpty:=by
 cases r<;>rfl
theorem HY{xs:List V}{its:List Value}(r:Vals xs its):(!its.toArray.isEmpty) = !xs.isEmpty:=by
 cases r<;>simp
theorem Fg:(sizeLine:Nat)<2 ^ 63:=by rw[sizeLine_eq]; decide
theorem Wg:Xv X (fun x H Q=>∃k,Ud X.K x H k/\Q k H):=by
 intro pins s U H x v Q I rx h;obtain⟨k,e,q⟩:=h;have hl:=Fg;have hs:sizeLine=16777216:=sizeLine_eq;cases x with
 | non =>
  cases rx;have e':k=false:=e;subst e';exact truthy_none ⟨H,I,q⟩
 | bl b =>
  cases rx;have e':k=b:=e;subst e';exact wpAny_truthy_bool ⟨H,I,q⟩
 | int i =>
  obtain⟨t,rfl⟩:=rx;have e':k=(i != 0):=e;subst e';exact PySem.P.truthy_int ⟨H,I,q⟩
 | str y =>
  obtain⟨t,rfl⟩:=rx;obtain⟨hy,e'⟩:y.length<=sizeLine/\k=((y.length:Int) != 0):=e;subst e';exact PySem.P.truthy_str (by lia) ⟨H,I.tok _,q⟩
 | byt y =>
  obtain⟨t,rfl⟩:=rx;obtain⟨hy,e'⟩:y.size<=sizeLine/\k=((y.size:Int) != 0):=e;subst e';exact PySem.W.truthy_bytes (by lia) ⟨H,I.tok _,q⟩
 | ref p =>
  cases rx;have e':(∃xs,SqL X.K H p xs/\k = !xs.isEmpty)\/(∃xs,SqT X.K H p xs/\k = !xs.isEmpty)\/∃kvs,H p=some (.dK kvs)/\k = !kvs.isEmpty:=e;rcases e' with ⟨xs,hx,e'⟩|⟨xs,hx,e'⟩|⟨kvs,hx,e'⟩
  .subst e'
   obtain⟨its,r,pl,hz⟩:=I.list hx;have hlen:=r.length;exact wpAny_truthy_list pl.isList (by simp only[size_toArray]; lia) ⟨H,I.tok _,by rw[HY r]; exact q⟩
  .subst e'
   obtain⟨its,r,pl,hz⟩:=I.tuple hx;have hlen:=r.length;exact truthy_tuple pl (by simp only[size_toArray]; lia) ⟨H,I.tok _,by rw[HY r]; exact q⟩
  .subst e'
   obtain⟨hz,hS,vs,r,m⟩:kvs.length<=sizeLine/\(p==sysModules)=false/\∃vs,KV kvs vs/\s.heap.DictOf (Cc X.prog X.w) p vs:=I.hok p _ hx;have hlen:kvs.length=vs.length:=Paired.length r;exact wpAny_truthy_dict hS m (by lia) ⟨H,I.tok _,by rw[MK r]; exact q⟩
 | _=>exact(show False from e).elim
theorem QW(ha:PE X a ta)(he:∀whole,isTrue a X.env whole=(do let v <- whole; standAt a.pos; holding [v] (truthy v))):
  PT X a (fun U H Q=>ta U H fun x H'=>∃k,Ud X.K x H' k/\Q k H'):=by
 intro pins s U H Q I h;exact isTrue_plain (thn (ha pins s U H _ I h) fun v s1 ⟨x,H1,I1,r1,q1⟩=>Wg pins s1 U H1 x v Q I1 r1 q1) (he _)
theorem Na:OpR X (binaryOp .Add) (fun x y H Q=>∃i j,x=.str i/\y=.str j/\i.length+j.length<=sizeLine/\Q (.str (i++j)) H):=by
 intro pins s U H x y v u Q I rx ry h;obtain⟨i,j,rfl,rfl,hz,q⟩:=h;obtain⟨t,rfl⟩:=rx;obtain⟨t',rfl⟩:=ry;exact add_str (fun t' tk=>⟨.str (i++j),H,I.tok _,⟨_,rfl⟩,q⟩) hz
theorem vals1{x:V}{us:List Value}(r:Vals [x] us):∃u,us=[u]/\RelV x u:=by
 cases r with
 | cons r1 r2=>cases r2; exact⟨_,rfl,r1⟩
theorem vals2{x y:V}{us:List Value}(r:Vals [x,y] us):∃u w',us=[u,w']/\RelV x u/\RelV y w':=by
 cases r with
 | cons r1 r2 =>
  cases r2 with
  | cons r3 r4=>cases r4; exact⟨_,_,rfl,r1,r3⟩
theorem K9:B9 X (.builtin "abs") (fun xs H Q=>∃i,xs=[.int i]/\Q (.int (if i<0 then -i else i)) H):=by
 intro pins s U H xs us Q I r h;obtain⟨i,rfl,q⟩:=h;obtain⟨u,rfl,t,rfl⟩:=vals1 r;exact call_abs_int fun u tk=>⟨.int (if i<0 then -i else i),H,I.tok _,⟨_,rfl⟩,q⟩
theorem Om(hc:X.calm=true):B9 X (.builtin "max") (fun xs H Q=>∃i j,xs=[.int i,.int j]/\Q (.int (if j > i then j else i)) H):=by
 intro pins s U H xs us Q I r h;obtain⟨i,j,rfl,q⟩:=h;obtain⟨u,w',rfl,⟨t,rfl⟩,⟨t',rfl⟩⟩:=vals2 r;refine max_two_ints (I.ok.hd hc) fun h' tk k=>⟨_,H,I.kept k,?_,q⟩;by_cases hj:j > i
 .rw[if_pos hj,if_pos hj]; exact⟨_,rfl⟩
 .rw[if_neg hj,if_neg hj]; exact⟨_,rfl⟩
theorem Oo(hc:X.calm=true):B9 X (.builtin "min") (fun xs H Q=>∃i j,xs=[.int i,.int j]/\Q (.int (if j<i then j else i)) H):=by
 intro pins s U H xs us Q I r h;obtain⟨i,j,rfl,q⟩:=h;obtain⟨u,w',rfl,⟨t,rfl⟩,⟨t',rfl⟩⟩:=vals2 r;refine min_two_ints (I.ok.hd hc) fun h' tk k=>⟨_,H,I.kept k,?_,q⟩;by_cases hj:j<i
 .rw[if_pos hj,if_pos hj]; exact⟨_,rfl⟩
 .rw[if_neg hj,if_neg hj]; exact⟨_,rfl⟩
end
end L2
namespace L2
open PySem PySem.Spec PyProof.Rows
structure ObjM (h:Heap) (x dx C:Addr) (mA:Str->Option Value):Prop where
 obj:h.get? x=some (PySem.W.instObj C dx)
 ns:h.Ns1 dx mA
 ne:dx≠x
theorem OO{h:Heap}{dx:Addr}{mA:Str->Option Value}(n:h.Ns1 dx mA):∃od,h.get? dx=some od/\∀name,PySem.W.lookIn name od=some (mA name):=by
 obtain⟨o,es,ep,ho,hd,hk,_,hm⟩:=n;refine⟨o,ho,fun name=>?_⟩;have e:=hm name;unfold nsFind findBy at e;rw[<- Array.find?_toList] at e;unfold PySem.W.lookIn;rw[hd];dsimp only;split
 .rename_i y q
  rw[q] at e;exact congrArg some e
 .rename_i q
  rw[q] at e;have a:es.toList.any (·.refKey)=false:=by
   rw[List.any_eq_false];intro y hy;obtain⟨z,t,hkey⟩:=hk y (Array.mem_toList_iff.mp hy);simp[DictEntry.refKey,hkey]
  have a':¬es.toList.any (·.refKey)=true:=by rw[a]; exact Bool.false_ne_true
  rw[if_neg a'];exact congrArg some e
theorem ObjM.look{h:Heap}{x dx C:Addr}{mA:Str->Option Value}(I:ObjM h x dx C mA):∃od,PySem.W.InstAt h x (PySem.W.instObj C dx) C (some od)/\∀name,PySem.W.lookIn name od=some (mA name):=
 let⟨od,ho,hl⟩:=OO I.ns
 ⟨od,⟨I.obj,rfl,rfl,ho⟩,hl⟩
section
variable{prog:Program}{w:World}{A:Around}{E:Value->Shared->Prop}{s:Shared}{K:Frag}{x dx C f:Addr}{mA:Str->Option Value}{name:Str}{v:Value}
end
theorem JQ.some_of{v:V}{o:Option Value}(r:JQ (some v) o):∃u,o=some u/\RelV v u:=by
 cases o with
 | none=>exact(show False from r).elim
 | some u=>exact⟨u,rfl,r⟩
section
variable{P:Program}{w:World}{H H':Hp}{h h':Heap}{a C dx:Addr}{fs fs':List (Str×V)}
theorem RW(hok:HOk P w H h)(e:H a=some (.ins C dx fs)):∃mA,ObjM h a dx C mA/\(∀f,JQ (fs.lookup f) (mA f))/\PySem.Within mA (fs.map (·.1))/\fs.length<=1000/\H dx=some (.own a):=by
 obtain⟨d,z,ne,ob,mA,n,r,q⟩:=(show BN P w H h a (.ins C dx fs) from hok a _ e);exact⟨mA,⟨ob,n,ne⟩,r,q,z,d⟩
end
structure Cls (K:Frag) (C:Addr):Prop where
 pg:PySem.W.plainGet K C Str.empty=true
 hd:PySem.W.hasDictIn K C=true
 po:PySem.W.plainOver K C=true
 sa:PySem.W.findIn K (.ref C) "__setattr__" = some (some (.builtin "object.__setattr__"))
theorem Cls.get{K:Frag}{C:Addr}(c:Cls K C)(f:Str):PySem.W.plainGet K C f=true:=c.pg
section
variable{X:Cx}{pins:List (Addr×Obj)}{U:St}{H:Hp}{s:Shared}{a C dx:Addr}{fs:List (Str×V)}{f:Str}{v:V}{A:Around}{E:Value->Shared->Prop}
end
section
variable{X:Cx}{o e value:Expr}{f:Str}{pos pos' tpos:Pos}{ta tv:TE}
end
section
variable{X:Cx}{pins:List (Addr×Obj)}{U:St}{H:Hp}{s:Shared}{A:Around}{E:Value->Shared->Prop}{Q:Value->Shared->Prop}{c:Value}{b:Bool}
inductive TyOf (K:Frag) (H:Hp):V->Value->Prop where
 | non:TyOf K H .non (.type "NoneType")
 | bl (x:Bool):TyOf K H (.bl x) (.type "bool")
 | int (i:Int):TyOf K H (.int i) (.type "int")
 | str (x:Str):TyOf K H (.str x) (.type "str")
 | flt (x:UInt64):TyOf K H (.flt x) (.type "float")
 | lst {a:Addr} {xs:List V} (e:H a=some (.lst xs)):TyOf K H (.ref a) (.type "list")
 | frz {a:Addr} {o:Obj} {xs:List V} (e:H a=some (.frz o (.lst xs))):TyOf K H (.ref a) (.type "list")
 | tup {a:Addr} {xs:List V} (e:H a=some (.tup xs)):TyOf K H (.ref a) (.type "tuple")
 | dK {a:Addr} {kvs:List (Key×V)} (e:H a=some (.dK kvs)):TyOf K H (.ref a) (.type "dict")
 | dT {a:Addr} {kvs:List (List Key×V)} (e:H a=some (.dT kvs)):TyOf K H (.ref a) (.type "dict")
 | ins {a C dx:Addr} {fs:List (Str×V)} (e:H a=some (.ins C dx fs)) (cl:Cls K C) (ha:PySem.W.findIn K (.ref C) "__class__" = some (some (.builtin "object.__class__")))
   (hn:PySem.W.specialIn K (.builtin "object.__class__") "__get__" = some (some (.builtin "getset_descriptor.__get__"))) (htk:PySem.W.takesIn K (.builtin "object.__class__")=some true)
   (hm:PySem.W.mroIn K C (.type "object")=some true):TyOf K H (.ref a) (.ref C)
theorem OG{x:V}{u t:Value}(I:Inv X pins U H s)(rx:RelV x u)(ty:TyOf X.K H x t)(e:PySem.W.kitOne X.K t c=some b)(h:∀tk,Q (.bool b) { s with toks:=tk }):
  wpAny (model X.prog X.w) A (call (.builtin "isinstance") [u,c]) Q E s:=by
 cases ty with
 | non=>cases (show u=Value.none from rx); exact PySem.W.kia_one PySem.W.kitx_none I.kIn True.intro e (fun z=>nomatch z) h
 | bl y=>cases (show u=Value.bool y from rx); exact PySem.W.kia_one PySem.W.kitx_bool I.kIn True.intro e (fun z=>nomatch z) h
 | int i=>obtain⟨t,q⟩:=(show ∃t,u=Value.int i t from rx); cases q; exact PySem.W.kia_one PySem.W.kitx_int I.kIn True.intro e (fun z=>nomatch z) h
 | str y=>obtain⟨t,q⟩:=(show ∃t,u=Value.str y t from rx); cases q; exact PySem.W.kia_one PySem.W.kitx_str I.kIn True.intro e (fun z=>nomatch z) h
 | flt y=>obtain⟨t,q⟩:=(show ∃t,u=Value.float y t from rx); cases q; exact PySem.W.kia_one PySem.W.kitx_float I.kIn True.intro e (fun z=>nomatch z) h
 | @lst a xs ea =>
  cases (show u=Value.ref a from rx);obtain⟨_,_,n,_,h1⟩:=(show BN X.prog X.w H s.heap a (.lst xs) from I.hok a _ ea);exact PySem.W.kia_one PySem.W.kitx_list I.kIn ⟨_,h1,rfl⟩ e (fun z=>nomatch z) h
 | @frz a ob xs ea =>
  cases (show u=Value.ref a from rx);obtain⟨_,_,_,n,_,h1⟩:=(show BN X.prog X.w H s.heap a (.frz ob (.lst xs)) from I.hok a _ ea);exact PySem.W.kia_one PySem.W.kitx_list I.kIn ⟨_,h1,rfl⟩ e (fun z=>nomatch z) h
 | @tup a xs ea =>
  cases (show u=Value.ref a from rx);obtain⟨_,_,_,p⟩:=(show BN X.prog X.w H s.heap a (.tup xs) from I.hok a _ ea);obtain⟨o,h1,h2,_⟩:=p;exact PySem.W.kia_one PySem.W.kitx_tuple I.kIn ⟨o,h1,h2⟩ e (fun z=>nomatch z) h
 | @dK a kvs ea =>
  cases (show u=Value.ref a from rx);obtain⟨_,_,vs,_,p⟩:=(show BN X.prog X.w H s.heap a (.dK kvs) from I.hok a _ ea);obtain⟨o,es,ep,h1,h2,_⟩:=p;exact PySem.W.kia_one PySem.W.kitx_dict I.kIn ⟨o,h1,h2.1⟩ e (fun z=>nomatch z) h
 | @dT a kvs ea =>
  cases (show u=Value.ref a from rx);obtain⟨_,_,xs,_,o,es,ep,h1,h2,_⟩:=(show BN X.prog X.w H s.heap a (.dT kvs) from I.hok a _ ea);exact PySem.W.kia_one PySem.W.kitx_dict I.kIn ⟨o,h1,h2.1⟩ e (fun z=>nomatch z) h
 | @ins a C dx fs ea cl ha hn htk hm =>
  cases (show u=Value.ref a from rx);obtain⟨mA,O,_⟩:=RW I.hok ea;obtain⟨od,J,_⟩:=O.look;exact PySem.W.kia_one (PySem.W.kitx_own (cl.get _) cl.hd ha hn htk hm) I.kIn J e (fun z=>nomatch z) h
end
end L2
namespace L2
open PySem PySem.Spec PyProof.Rows
structure Room (k:Nat) (A:Around):Prop where
 hd:A.handled=none
 dp:A.depth+3*k+5<recursionLimit
 un:A.units+16*k+200<cLine
theorem Room.mono{j k:Nat}{A:Around}(r:Room k A)(h:j<=k):Room j A:=⟨r.hd,by have:=r.dp; lia,by have:=r.un; lia⟩
theorem Room.deeper{k:Nat}{A:Around}(r:Room (k+1) A)(env:Env):Room k (A.deeper env):=
 ⟨r.hd,by have:=r.dp; show A.depth+1+3*k+5<_; lia,by have:=r.un; show A.units+3+16*k+200<_; lia⟩
theorem Room.depth{k:Nat}{A:Around}(r:Room k A):A.depth<recursionLimit:=by have:=r.dp; lia
theorem Room.units{k:Nat}{A:Around}(r:Room k A):A.units+64<cLine:=by have:=r.un; lia
noncomputable def FI:TA:=fun _ H Q=>Q [] H
noncomputable def Cd(ta:TE)(tr:TA):TA:=fun U H Q=>ta U H fun x H1=>tr U H1 fun xs H2=>Q (x::xs) H2
section
variable{X:Cx}{e:Expr}{es:List Expr}{te:TE}{t:TA}{pos:Pos}
theorem D4:PA X [] FI:=fun _ _ _ _ H Q I h=>Calls.spliced_nil ⟨[],H,I,.nil,h⟩
theorem Cu(ha:PE X e te)(hr:PA X es t)(hs:starEach (e::es) X.env=(false,eval e X.env)::starEach es X.env:=by rfl):PA X (e::es) (Cd te t):=by
 intro pos pins s U H Q I h;rw[hs];show wpAny _ _ (spliced ((false,eval e X.env)::backTo pos (starEach es X.env))) _ _ s;refine Calls.spliced_cons (thn (ha pins s U H _ I h) fun u s1 yy=>?_);obtain⟨x,H1,I1,r1,q1⟩:=yy;exact thn (hr pos pins s1 U H1 _ I1 q1) fun us s2 ⟨xs,H2,I2,r2,q2⟩=>⟨x::xs,H2,I2,.cons r1 r2,q2⟩
noncomputable def Xk(t:TA):TE:=fun U H Q=>t U H fun xs H1=>xs.length<=sizeLine/\∀p,H1 p=none->Q (.ref p) (upd H1 p (.tup xs))
noncomputable def Xd(t:TA):TE:=fun U H Q=>t U H fun xs H1=>xs.length<=sizeLine/\∀p,H1 p=none->Q (.ref p) (upd H1 p (.lst xs))
theorem Vu{x1}(h:PA X es t):PE X (.Tuple es x1 pos) (Xk t):=by
 intro pins s U H Q I hq;refine wpAny_Tuple_spliced (thn (h pos pins s U H _ I hq) fun us s1 ⟨xs,H1,I1,r,z,q⟩=>⟨by rw[<- r.length]; exact z,?_⟩);have hf:H1 s1.heap.objs.size=none:=I1.hok.fresh (le_refl _);refine⟨.ref s1.heap.objs.size,upd H1 s1.heap.objs.size (.tup xs),I1.laid (t':=s1.toks) (fun b u e=>Heap.get?_push_of_some _ e) (le_refl _) ?_,rfl,q _ hf⟩;exact⟨z,us,r,⟨_,Heap.get?_push_size _ rfl,rfl,_,rfl⟩⟩
theorem Vq(h:PA X es t):PE X (.List es pos) (Xd t):=by
 intro pins s U H Q I hq;refine wpAny_List_spliced (thn (h pos pins s U H _ I hq) fun us s1 ⟨xs,H1,I1,r,z,q⟩=>⟨by rw[<- r.length]; exact z,?_⟩);have hf:H1 s1.heap.objs.size=none:=I1.hok.fresh (le_refl _);refine⟨.ref s1.heap.objs.size,upd H1 s1.heap.objs.size (.lst xs),I1.laid (t':=s1.toks) (fun b u e=>Heap.get?_push_of_some _ e) (le_refl _) ?_,rfl,q _ hf⟩;exact⟨z,us,0,r,Heap.get?_push_size _ rfl⟩
end
noncomputable abbrev Sp:=List V->Hp->VK->XK->Prop
noncomputable abbrev CXT:=List Env->Hp->Shared->XK->Value->Shared->Prop
structure Env0 (P:Program) (w:World) (K:Frag) (mg:Str->Option Value) (base:Heap) (A:Around) (outer:List Env) (s:Shared) (H:Hp):Prop where
 frames:A.frames=some outer
 mod:Mod K mg base
 bs:∀b o,base.get? b=some o->s.heap.get? b=some o/\H b=none
 bsz:base.objs.size<=s.heap.objs.size
 funs:s.heap.FunFrames base outer
 frf:∀b∈frs outer,H b=none
 hok:HOk P w H s.heap
 bare:AllBare s.gens
 tb:Oi K H
noncomputable def CE(outer:List Env)(P:Program)(w:World)(H:Hp)(s:Shared)(Q:VK)(u:Value)(s':Shared):Prop:=
 ∃v H',s'.os=s.os/\AllBare s'.gens/\Un (frs outer) [] H H' s.heap s'.heap/\HOk P w H' s'.heap/\RelV v u/\Q v H'
noncomputable def CR(CX:CXT)(outer:List Env)(P:Program)(w:World)(H:Hp)(s:Shared)(Q:VK)(E:XK)(r:Result)(s':Shared):Prop:=
 match r with
 | .ok (.ret u)=>CE outer P w H s Q u s'
 | .ok _=>False
 | .error e=>CX outer H s E e s'
structure FnOk (P:Program) (w:World) (K:Frag) (mg:Str->Option Value) (base:Heap) (CX:CXT) (k:Nat) (f:Addr) (fd:FuncData) (ps:List Str) (sp:Sp):Prop where
 len:∀vs H Q E,sp vs H Q E->vs.length=ps.length
 run:∀(A:Around) (outer:List Env) (s:Shared) (H:Hp) (args:Args) (us:List Value) (vs:List V) (Q:VK) (E:XK),Room k A->Env0 P w K mg base A outer s H->BindsTo s fd args (ps.zip us)->Vals vs us->sp vs H Q E ->
  codeAny (model P w) A (.call (.ref f) args) (CR CX outer P w H s Q E) s
theorem FnOk.mono{P:Program}{w:World}{K:Frag}{mg:Str->Option Value}{base:Heap}{CX:CXT}{j k:Nat}{f:Addr}{fd:FuncData}{ps:List Str}{sp:Sp}(F:FnOk P w K mg base CX j f fd ps sp)(h:j<=k):
  FnOk P w K mg base CX k f fd ps sp:=⟨F.len,fun A outer s H args us vs Q E hr=>F.run A outer s H args us vs Q E (hr.mono h)⟩
section
variable{X:Cx}{pins:List (Addr×Obj)}{U:St}{H:Hp}{s s':Shared}
theorem Inv.env0(I:Inv X pins U H s):Env0 X.prog X.w X.K X.mg X.base X.A X.stack s H:=
 ⟨I.ok.frames,I.ok.mod,I.bs,le_trans I.ok.bsz I.sz,I.stack,I.stkFree,I.hok,I.bare,I.tabs⟩
theorem Inv.after{Q:VK}{u:Value}(I:Inv X pins U H s)(h:CE X.stack X.prog X.w H s Q u s'):EP X pins U Q u s':=by
 obtain⟨v,H',os,bare,un,hok,r,q⟩:=h;obtain⟨hh,g,d,t,os'⟩:=s';obtain rfl:os'=s.os:=os;exact⟨v,H',I.call (h':=hh) (g':=g) (d':=d) (t':=t) (ch:=[]) un hok bare (fun b z=>absurd z (by simp)),r,q⟩
end
noncomputable def Mg(sp:Sp)(dvs:List V)(E:XK)(t:TA):TE:=fun U H Q=>t U H fun vs H1=>sp (vs++dvs) H1 Q E
noncomputable def Binds(K:Frag)(fd:FuncData)(ps:List Str)(ds:List Value):Prop:=
 ∀(s:Shared) (us:List Value),K.In s.heap->(us++ds).length=ps.length->BindsTo s fd ⟨us,[]⟩ (ps.zip (us++ds))
theorem Binds.all{K:Frag}{fd:FuncData}{ps:List Str}(h:∀us:List Value,us.length=ps.length->bindArgs fd ⟨us,[]⟩=pure (ps.zip us)):Binds K fd ps []:=fun s us _ hl=>by
 rw[append_nil] at hl |-;exact .of_eq (h us hl)
noncomputable def Passes(CX:CXT)(X:Cx)(E:XK):Prop:=∀(pins:List (Addr×Obj)) (U:St) (H:Hp) (s:Shared) (e:Value) (s':Shared),Inv X pins U H s->CX X.stack H s E e s'->X.xe e s'
section
variable{X:Cx}{CX:CXT}{k:Nat}{f C:Addr}{fd:FuncData}{ps:List Str}{sp:Sp}{dvs:List V}{ds:List Value}{E:XK}{x m:Str}{p pos apos:Pos}{e o:Expr}{es:List Expr}{ta:TE}{t:TA}
theorem VM{pins:List (Addr×Obj)}{U:St}{H:Hp}{s:Shared}{Q:VK}{us:List Value}{vs:List V}(F:FnOk X.prog X.w X.K X.mg X.base CX k f fd ps sp)(hr:Room k X.A)(hb:Binds X.K fd ps ds)(hd:Vals dvs ds)(hx:Passes CX X E)(I:Inv X pins U H s)(r:Vals vs us)(h:sp (vs++dvs) H Q E):wpAny (model X.prog X.w) X.A (call (.ref f) us) (EP X pins U Q) X.xe s:=by
 have r2:Vals (vs++dvs) (us++ds):=r.append hd;have hl:(us++ds).length=ps.length:=by rw[<- r2.length]; exact F.len _ _ _ _ h
 refine wpAny_call (codeAny_mono (F.run X.A X.stack s H ⟨us,[]⟩ (us++ds) (vs++dvs) Q E hr I.env0 (hb s us I.kIn hl) r2 h) fun r s' hq=>?_);cases r with
 | error e=>exact hx pins U H s e s' I hq
 | ok fl =>
  cases fl with
  | ret u=>exact I.after hq
  | next=>exact False.elim hq
  | brk=>exact False.elim hq
  | cont=>exact False.elim hq
theorem SA(F:FnOk X.prog X.w X.K X.mg X.base CX k f fd ps sp)(hr:Room k X.A)(hg:Gl X x)(hm:X.mg x=some (.ref f))(hk:PySem.W.keepIn X.K (.ref f)=true)(hb:Binds X.K fd ps ds)(hd:Vals dvs ds)(hx:Passes CX X E)(ha:PA X (e::es) t)(hdb:(x==("__debug__" : Str))=false:=by decide)(he:starEach (e::es) X.env=(false,eval e X.env)::starEach es X.env:=by rfl)(hpl:(backTo pos (starEach es X.env)).any (·.1)=false:=by rfl):
  PE X (.Call (.Name x p) (e::es) [] pos) (Mg sp dvs E t):=by
 intro pins s U H Q I h;refine wpAny_Call_Name_kw (GA I hg hm ?_ hdb);refine PySem.W.callWith_K (h₀:=X.base) I.ok.mod.kin hk (thn (ha pos pins s U H _ I h) fun us s1 ⟨vs,H1,I1,r,q⟩=>⟨I1.kIn,?_⟩) he hpl;exact VM F hr hb hd hx I1 r q
end
section
variable{X:Cx}{CX:CXT}{k:Nat}{f C:Addr}{fd:FuncData}{ps ks:List Str}{sp:Sp}{E:XK}{x m:Str}{p pos apos kpos:Pos}{e o:Expr}{es:List Expr}{kws:List Keyword}{te ta:TE}{t tk:TA}{nm:Option Str}
variable{g:List Value->List Value->List Value}{gV:List V->List V->List V}
end
structure FnScope (N P:List Str) (sc:Scope):Prop where
 kind:sc.kind=.function
 co:sc.isCoroutine=false
 gen:sc.isGenerator=false
 nd:N.Nodup
 pre:N.take P.length=P
 par:∀x∈P,sc.names.lookup x=some .local\/sc.names.lookup x=some .cell
 nofree:∀y∈sc.names,y.2≠.free
theorem Jt{kindOf:Str->Option NameKind}{x:Str}:∀{binds:List (Str×Value)} {m:Str->Option Value},(∀v,(x,v)∉binds)->bindL kindOf binds m x=m x
 | [],_,_=>rfl
 | (n,v)::r,m,h=>by
  unfold bindL;rw[Jt fun w hw=>h w (mem_cons_of_mem _ hw)];split
  .have:x≠n:=by rintro rfl; exact h v mem_cons_self
   simp[this]
  .rfl
theorem Jr{kindOf:Str->Option NameKind}{x:Str}:∀{binds:List (Str×Value)} {m:Str->Option Value},(∀v,(x,v)∉binds)->bindC kindOf binds m x=m x
 | [],_,_=>rfl
 | (n,v)::r,m,h=>by
  unfold bindC;rw[Jr fun w hw=>h w (mem_cons_of_mem _ hw)];split
  .rfl
  .have:x≠n:=by rintro rfl; exact h v mem_cons_self
   simp[this]
theorem Js{kindOf:Str->Option NameKind}{x:Str}{v:Value}:∀{P:List Str} {vs:List Value} {i:Nat} {m:Str->Option Value},P.Nodup->P[i]? = some x->vs[i]? = some v->kindOf x=some .local ->
  bindL kindOf (P.zip vs) m x=some v
 | [],_,_,_,_,h,_,_=>by simp at h
 | _::_,[],_,_,_,_,h,_=>by simp at h
 | p::P,w::vs,0,m,nd,h1,h2,hk=>by
  simp at h1 h2; subst h1; subst h2;show bindL kindOf ((p,w)::P.zip vs) m p=_;unfold bindL;rw[Jt fun v hv=>(nodup_cons.mp nd).1 (of_mem_zip hv).1,if_pos hk];simp
 | p::P,w::vs,i+1,m,nd,h1,h2,hk=>by
  show bindL kindOf ((p,w)::P.zip vs) m x=_;unfold bindL;exact Js (i:=i) (nodup_cons.mp nd).2 (by simpa using h1) (by simpa using h2) hk
theorem Jq{kindOf:Str->Option NameKind}{x:Str}{v:Value}:∀{P:List Str} {vs:List Value} {i:Nat} {m:Str->Option Value},P.Nodup->P[i]? = some x->vs[i]? = some v->kindOf x≠some .local ->
  bindC kindOf (P.zip vs) m x=some v
 | [],_,_,_,_,h,_,_=>by simp at h
 | _::_,[],_,_,_,_,h,_=>by simp at h
 | p::P,w::vs,0,m,nd,h1,h2,hk=>by
  simp at h1 h2; subst h1; subst h2;show bindC kindOf ((p,w)::P.zip vs) m p=_;unfold bindC;rw[Jr fun v hv=>(nodup_cons.mp nd).1 (of_mem_zip hv).1,if_neg hk];simp
 | p::P,w::vs,i+1,m,nd,h1,h2,hk=>by
  show bindC kindOf ((p,w)::P.zip vs) m x=_;unfold bindC;exact Jq (i:=i) (nodup_cons.mp nd).2 (by simpa using h1) (by simpa using h2) hk
noncomputable def start(N:List Str)(vs:List V):St:=vs.map some++List.replicate (N.length-vs.length) none
noncomputable def Bx(CX:CXT)(P:Program)(w:World)(K:Frag)(mg:Str->Option Value)(base:Heap)(N:List Str)(qual:Str)(scope:Scope)(f:Addr)(cd:Value)(A:Around)(outer:List Env)(s:Shared)(H:Hp)(E:XK):Cx where
 prog:=P
 w:=w
 K:=K
 mg:=mg
 base:=base
 A:=A.deeper (envOfC qual scope s.heap.objs.size f cd)
 N:=N
 s₀:=s
 H₀:=H
 env:=envOfC qual scope s.heap.objs.size f cd
 outer:=outer
 stack:=envOfC qual scope s.heap.objs.size f cd::outer
 ex:=[]
 calm:=true
 fn:=fun _=>true
 pn:=[]
 xe:=fun e s'=>wpAny (model P w) (A.deeper (envOfC qual scope s.heap.objs.size f cd)) (leaving (envOfC qual scope s.heap.objs.size f cd) e) (fun _ s''=>CX outer H s E e s'') (fun e' s''=>CX outer H s E e' s'') s'
theorem La{sc:Scope}{n:Nat}{x:Str}(h:sc.names.lookup x=some .cell):∃c,(cellsFrom n sc.names []).lookup x=some c:=by
 have q:=PySem.W.cellsFrom_some sc.names n [] (.inl h);exact isSome_iff_exists.mp q
theorem GY{CX:CXT}{P:Program}{w:World}{K:Frag}{mg:Str->Option Value}{base:Heap}{N ps:List Str}{qual:Str}{scope:Scope}{f:Addr}{cd:Value}{A:Around}{outer:List Env}{s s1:Shared}{H:Hp}{E:XK}{us:List Value}{vs:List V}(S:FnScope N ps scope)(hd:A.handled=none)(e0:Env0 P w K mg base A outer s H)(hl:vs.length=ps.length)(r:Vals vs us)(x:InCallC s s.heap.objs.size (bindL (envOfC qual scope s.heap.objs.size f cd).kindOf (ps.zip us) fun _=>none) (cellsFrom (s.heap.objs.size+1) scope.names []) (bindC (envOfC qual scope s.heap.objs.size f cd).kindOf (ps.zip us) fun _=>none) s1):
  Inv (Bx CX P w K mg base N qual scope f cd A outer s H E) [] (start N vs) H s1:=by
 have hpl:ps.length<=N.length:=by have:=congrArg List.length S.pre; rw[length_take] at this; lia
 obtain⟨h1,tk,rfl,hk⟩:=x.done;have noA:∀b:Addr,b∉(Bx CX P w K mg base N qual scope f cd A outer s H E).ex:=fun b z=>absurd (show b∈([]:List Addr) from z) (by simp);refine⟨⟨e0.mod,S.kind,rfl,rfl,le_refl _,fun y z c h1 h2=>?_,fun y hy=>?_,fun y c _ h=>?_,fun _=>hd,Around.frames_deeper e0.frames,.inr ⟨rfl,rfl⟩,fun b z=>absurd z (noA b),e0.bs,e0.bsz,fun b _ _=>noA b,fun b z=>absurd z (noA b),e0.funs,e0.frf,e0.tb⟩,
  rfl,e0.bare,Un.kept hk,⟨_,x.toInCall.ns,fun i y v h1 h2 h3=>?_⟩,fun y c h=>⟨_,x.cell y c h⟩,e0.hok.fresh (le_refl _),fun y c h=>?_,fun p hp=>absurd (show p∈([]:List (Addr×Obj)) from hp) (by simp),e0.hok.kept hk,?_⟩
 .exact name_of_addr x.apart (PySem.mem_of_lookup h1) (PySem.mem_of_lookup h2)
 .have hy:scope.names.lookup y=some .cell\/scope.names.lookup y=some .free:=hy
  rcases hy with hy|hy
  .exact La hy
  .exact absurd rfl (S.nofree _ (PySem.mem_of_lookup hy))
 .exact le_of_lt (x.above y c (PySem.mem_of_lookup h))
 .have hi:i<vs.length:=by
   unfold start at h2;by_cases hi:i<vs.length
   .exact hi
   .rw[List.getElem?_append_right (by simpa using hi)] at h2
    rw[List.getElem?_replicate] at h2;split at h2<;>cases h2
  have ha:vs[i]? = some v:=by
   unfold start at h2;rw[List.getElem?_append_left (by simpa using hi),List.getElem?_map] at h2;cases e:vs[i]? with
   | none=>rw[e] at h2; cases h2
   | some a=>rw[e] at h2; cases h2; rfl
  obtain⟨u,hu,rv⟩:=r.get ha;have hp:ps[i]? = some y:=by
   rw[<- S.pre,List.getElem?_take_of_lt (by lia)]; exact h1
  have ndP:ps.Nodup:=by rw[<- S.pre]; exact S.nd.sublist (List.take_sublist _ _)
  refine⟨u,rv,?_⟩;rcases S.par y (List.mem_of_getElem? hp) with k|k
  .exact .inl ⟨k,Js ndP hp hu k⟩
  .obtain⟨c,e⟩:=La (n:=s.heap.objs.size+1) k
   refine .inr ⟨.inl k,c,e,?_⟩;have q:=x.cell y c e;rw[Jq ndP hp hu (by show scope.names.lookup y≠_; rw[k]; decide)] at q;exact q
 .exact e0.hok.fresh (le_of_lt (x.above y c (PySem.mem_of_lookup h)))
 .unfold start
  show _=N.length;rw[length_append,length_map,length_replicate];lia
theorem PU{CX:CXT}{P:Program}{w:World}{K:Frag}{mg:Str->Option Value}{base:Heap}{k:Nat}{f:Addr}{name qual:Str}{params:Arguments}{body:List Stmt}{scope:Scope}{dV kV doc pm cdv ct oc:Value}{an od:Option Addr}{osl:Array (Option Value)}{N ps:List Str}{sp:Sp}(lk:K.lookup f=some ⟨oc,od,.func (PySem.W.fnOf name qual params body scope dV kV doc pm an cdv ct),osl⟩)(hcd:PySem.W.codeIn K cdv qual=true)(S:FnScope N ps scope)(len:∀vs H Q E,sp vs H Q E->vs.length=ps.length)(hbody:∀(A:Around) (outer:List Env) (s:Shared) (H:Hp) (vs:List V) (Q:VK) (E:XK),Room k (A.deeper (envOfC qual scope s.heap.objs.size f cdv))->sp vs H Q E ->
   ∃t,PSs (Bx CX P w K mg base N qual scope f cdv A outer s H E) body t/\t { nx:=fun _ H'=>Q .non H',rt:=Q } (start N vs) H):
  FnOk P w K mg base CX (k+1) f (PySem.W.fnOf name qual params body scope dV kV doc pm an cdv ct) ps sp:=by
 refine⟨len,fun A outer s H args us vs Q E hr e0 hb r hsp=>?_⟩;have hl:=len _ _ _ _ hsp;have KX:K.In s.heap:=e0.mod.kin.keeps fun b o e=>(e0.bs b o e).1;have lim:s.heap.NoLimit:=e0.mod.nolimit.keeps fun b o e=>(e0.bs b o e).1;have hkind:∀y∈ps.zip us,scope.names.lookup y.1=some .local\/(scope.names.lookup y.1=some .cell/\((cellsFrom (s.heap.objs.size+1) scope.names []).lookup y.1).isSome=true):=fun⟨n,v⟩ hy=>by
  rcases S.par n (of_mem_zip hy).1 with q|q
  .exact .inl q
  .exact .inr ⟨q,PySem.W.cellsFrom_some _ _ _ (.inl q)⟩
 refine codeAny_call_function hr.depth (KX _ _ lk) rfl S.co S.gen rfl (PySem.W.codeRec_of KX hcd) (hb _ _ _ _ ?_);refine wpAny_newFunctionEnv_cells S.kind hkind fun env he s1 x=>?_;subst he;refine⟨lim.keeps x.toInCall.keep,codeAny_func ?_⟩;obtain⟨t,ht,hq⟩:=hbody A outer s H vs Q E (hr.deeper _) hsp;have I:Inv (Bx CX P w K mg base N qual scope f cdv A outer s H E) [] (start N vs) H s1:=GY S hr.hd e0 hl r x;refine wpAny_mono (ht [] s1 (start N vs) H _ I hq) (fun fl s' hs=>?_) fun e s' hs=>hs;have fin:∀{σ':St} {H':Hp} {v:V} {u:Value},Inv (Bx CX P w K mg base N qual scope f cdv A outer s H E) [] σ' H' s'->RelV v u->Q v H'->CE outer P w H s Q u s':=
  fun {σ' H' v u} J rv q=>⟨v,H',J.os,J.bare,J.base,J.hok,rv,q⟩
 cases fl with
 | ret u =>
  obtain⟨v,σ',H',J,rv,q⟩:=hs;exact fin J rv q
 | next =>
  obtain⟨σ',H',J,q⟩:=hs;exact fin (v:=V.non) (u:=Value.none) J rfl q
 | brk =>
  obtain⟨_,_,_,q⟩:=hs;exact False.elim q
 | cont =>
  obtain⟨_,_,_,q⟩:=hs;exact False.elim q
end L2
namespace L2
open PySem PySem.Spec PyProof.Rows
section
variable{X:Cx}{x:Str}{p pos:Pos}{e:Expr}{es:List Expr}{t:TA}{id T:String}{r:List V->Hp->VK->Prop}
noncomputable def tCB(r:List V->Hp->VK->Prop)(t:TA):TE:=fun U H Q=>t U H fun vs H1=>r vs H1 Q
theorem Iz(hc:B9 X (.builtin id) r)(hg:Gl X x)(hm:X.mg x=none)(hv:bootBuiltins x=some (.builtin id))(ha:PA X (e::es) t)(hn:x ≠ "__name__" := by decide)(hdb:(x==("__debug__" : Str))=false:=by decide)(he:starEach (e::es) X.env=(false,eval e X.env)::starEach es X.env:=by rfl)(hpl:(backTo pos (starEach es X.env)).any (·.1)=false:=by rfl):PE X (.Call (.Name x p) (e::es) [] pos) (tCB r t):=by
 intro pins s U H Q I h;refine wpAny_Call_Name_kw (F9 I hg hm hv ?_ hn hdb);exact PyProof.Rows.callWith_builtin1 (thn (ha pos pins s U H _ I h) fun us s1 ⟨vs,H1,I1,r1,q1⟩=>hc pins s1 U H1 vs us Q I1 r1 q1) he hpl
theorem O1(hc:B9 X (.type T) r)(hg:Gl X x)(hm:X.mg x=none)(hv:bootBuiltins x=some (.type T))(ha:PA X (e::es) t)(hn:x ≠ "__name__" := by decide)(hdb:(x==("__debug__" : Str))=false:=by decide)(he:starEach (e::es) X.env=(false,eval e X.env)::starEach es X.env:=by rfl)(hpl:(backTo pos (starEach es X.env)).any (·.1)=false:=by rfl):PE X (.Call (.Name x p) (e::es) [] pos) (tCB r t):=by
 intro pins s U H Q I h;refine wpAny_Call_Name_kw (F9 I hg hm hv ?_ hn hdb);exact PyProof.Rows.callWith_type1 (thn (ha pos pins s U H _ I h) fun us s1 ⟨vs,H1,I1,r1,q1⟩=>hc pins s1 U H1 vs us Q I1 r1 q1) he hpl
end
end L2
namespace HT
open PySem PyProof.Rows
section
open PySem.SeqAt
open PySem.AutoSeq1 (wpAny_loadPart')
open PySem.MeetsSeq PySem.MeetsSeq2 PySem.MeetsSeq3
end
section
variable{prog:Program}{w:World}{A:Around}{E:Value->Shared->Prop}{s:Shared}
noncomputable def sIx(n d:Nat):Option Int->Nat
 | none=>d
 | some v=>if v<0 then (v+(n:Int)).toNat else min v.toNat n
end
end HT
namespace L2
open PySem PySem.Spec PyProof.Rows
noncomputable abbrev TO:=St->Hp->(Option Int->Hp->Prop)->Prop
noncomputable def PO(X:Cx)(e:Option Expr)(t:TO):Prop:=
 ∀(pins:List (Addr×Obj)) (s:Shared) (U:St) (H:Hp) (Q:Option Int->Hp->Prop),Inv X pins U H s->t U H Q ->
  wpAny (model X.prog X.w) X.A (evalPart e X.env) (fun u s'=>∃o H',Inv X pins U H' s'/\IsPart u o/\Q o H') X.xe s
noncomputable def Tt:TO:=fun _ H Q=>Q none H
noncomputable def Xf(t:TE):TO:=fun U H Q=>t U H fun x H1=>∃i,x=.int i/\Q (some i) H1
section
variable{X:Cx}{e:Expr}{te:TE}{lo hi:Option Expr}{tl th:TO}{pos p2:Pos}
theorem KA:PO X none Tt:=by
 intro pins s U H Q I h;rw[evalPart_none];exact wpAny_pure ⟨none,H,I,.none,h⟩
theorem KC(h:PE X e te):PO X (some e) (Xf te):=by
 intro pins s U H Q I hw;rw[evalPart_some];refine thn (h pins s U H _ I hw) fun u s1 yy=>?_;obtain⟨x,H1,I1,r1,q1⟩:=yy;obtain⟨i,rfl,q⟩:=q1;obtain⟨t,rfl⟩:=r1;exact⟨some i,H1,I1,.int i t,q⟩
noncomputable def SlR(X:Cx)(r:V->Option Int->Option Int->Hp->VK->Prop):Prop:=
 ∀(pins:List (Addr×Obj)) (s:Shared) (U:St) (H:Hp) (x:V) (v vl vu:Value) (lo hi:Option Int) (sl:Addr) (Q:VK),Inv X pins U H s->RelV x v->s.heap.IsSliceOf sl vl vu .none->IsPart vl lo->IsPart vu hi->r x lo hi H Q ->
  ∃T id,typeLookup (.type T) "__getitem__" = pure (some (.builtin id))/\s.TypeIs v T/\wpAny (model X.prog X.w) X.A (getItem v (.ref sl)) (EP X pins U Q) X.xe s
noncomputable def tSl(r:V->Option Int->Option Int->Hp->VK->Prop)(te:TE)(tl th:TO):TE:=fun U H Q=>te U H fun x H1=>tl U H1 fun l H2=>th U H2 fun u H3=>r x l u H3 Q
theorem IB{r:V->Option Int->Option Int->Hp->VK->Prop}(hr:SlR X r)(he:PE X e te)(hl:PO X lo tl)(hu:PO X hi th):PE X (.Subscript e (.Slice lo hi none p2) pos) (tSl r te tl th):=by
 intro pins s U H Q I h;refine Subscript_ (thn (he pins s U H _ I h) fun v s1 yy=>?_);obtain⟨x,H1,I1,r1,q1⟩:=yy;refine wpAny_Slice (thn (hl pins s1 U H1 _ I1 q1) fun vl s2 ⟨l,H2,I2,pl,q2⟩=>thn (hu pins s2 U H2 _ I2 q2) fun vu s3 yy=>?_);obtain⟨u,H3,I3,pu,q3⟩:=yy;rw[evalPart_none];refine wpAny_pure ?_;have I4:Inv X pins U H3 { s3 with heap:=s3.heap.push { cls:=.type "slice",data:=.fields #[vl,vu,.none] } }:=I3.kept (t':=s3.toks) fun b ob q=>Heap.get?_push_of_some _ q;obtain⟨T,id,hT,ht,hg⟩:=hr pins { s3 with heap:=s3.heap.push { cls:=.type "slice",data:=.fields #[vl,vu,.none] } } U H3 x v vl vu l u s3.heap.objs.size Q I4 r1 (Heap.IsSliceOf.new ..) pl pu q3;show wpAny (model X.prog X.w) X.A (subscriptTail e (.Slice lo hi none p2) v (.ref s3.heap.objs.size)) (EP X pins U Q) X.xe { s3 with heap:=s3.heap.push { cls:=.type "slice",data:=.fields #[vl,vu,.none] } };exact tail_any (ops:=[.ref s3.heap.objs.size,v]) ht hT hg (by with_unfolding_all rfl)
noncomputable def Ov(xs:List V)(lo hi:Option Int):List V:=(xs.drop (HT.sIx xs.length 0 lo)).take (HT.sIx xs.length xs.length hi-HT.sIx xs.length 0 lo)
theorem Hd(xs:List V)(lo hi:Option Int):(Ov xs lo hi).length<=xs.length:=by
 unfold Ov;rw[length_take,length_drop];lia
end
end L2
namespace L2
open PySem PySem.Spec PyProof.Rows
noncomputable def ixN(n:Nat)(i:Int):Option Nat:=if 0<=i then (if i<n then some i.toNat else none) else if -(n:Int)<=i then some (i+n).toNat else none
noncomputable def atI{α:Type}(xs:List α)(i:Int):Option α:=(ixN xs.length i).bind fun j=>xs[j]?
theorem NS{n:Nat}{i:Int}{j:Nat}(h:ixN n i=some j):seqIndex? i n=some j/\j<n/\-(n:Int)<=i/\i<n:=by
 unfold ixN at h;by_cases h0:0<=i
 .rw[if_pos h0] at h
  by_cases h1:i<n
  .rw[if_pos h1] at h
   have e:i.toNat=j:=Option.some.inj h;exact⟨by rw[seqIndex_of h0 h1,e],by lia,by lia,h1⟩
  .rw[if_neg h1] at h; cases h
 .rw[if_neg h0] at h
  by_cases h1 : -(n:Int)<=i
  .rw[if_pos h1] at h
   have e:(i+n).toNat=j:=Option.some.inj h;exact⟨by rw[seqIndex_neg (by lia) h1,e],by lia,h1,by lia⟩
  .rw[if_neg h1] at h; cases h
theorem Ca{α:Type}{xs:List α}{i:Int}{v:α}(h:atI xs i=some v):∃j,seqIndex? i xs.length=some j/\xs[j]? = some v/\j<xs.length/\-(xs.length:Int)<=i/\i<xs.length:=by
 unfold atI at h;cases e:ixN xs.length i with
 | none=>rw[e] at h; cases h
 | some j =>
  rw[e] at h;obtain⟨h1,h2,h3,h4⟩:=NS e;exact⟨j,h1,h,h2,h3,h4⟩
noncomputable def NG(b:Expr):Prop:=∀o i,subscripted b false o i=operate [o,i] (getItem o i)
noncomputable def IxR(X:Cx)(r:R2):Prop:=
 ∀(value slice:Expr) (pins:List (Addr×Obj)) (s:Shared) (U:St) (H:Hp) (x y:V) (v u:Value) (Q:VK),Inv X pins U H s->RelV x v->RelV y u->r x y H Q ->
  subscripted slice false v u=operate [v,u] (getItem v u)->wpAny (model X.prog X.w) X.A (subscriptTail value slice v u) (EP X pins U Q) X.xe s
noncomputable def MtR(X:Cx)(id:String)(r:V->List V->Hp->VK->Prop):Prop:=
 ∀(pins:List (Addr×Obj)) (s:Shared) (U:St) (H:Hp) (x:V) (xs:List V) (v:Value) (us:List Value) (Q:VK),Inv X pins U H s->RelV x v->Vals xs us->r x xs H Q ->
  wpAny (model X.prog X.w) X.A (call (.builtin id) (v::us)) (EP X pins U Q) X.xe s
section
variable{X:Cx}{a b:Expr}{ta tb:TE}{pos:Pos}
theorem IxR.or{r r':R2}(h:IxR X r)(h':IxR X r'):IxR X (fun x y H Q=>r x y H Q\/r' x y H Q):=by
 intro value slice pins s U H x y v u Q I rx ry q hs;rcases q with q|q
 .exact h value slice pins s U H x y v u Q I rx ry q hs
 .exact h' value slice pins s U H x y v u Q I rx ry q hs
theorem WV{r:R2}(hr:IxR X r)(ha:PE X a ta)(hb:PE X b tb)(hs:NG b):PE X (.Subscript a b pos) (tOp r ta tb):=by
 intro pins s U H Q I h;exact Subscript_ (Ul ha hb I h fun v u s2 x y H2 I2 rx ry q=>hr a b pins s2 U H2 x y v u Q I2 rx ry q (hs _ _))
noncomputable def W0(K:Frag):R2:=fun x y H Q=>∃p xs i v,x=.ref p/\y=.int i/\SqL K H p xs/\atI xs i=some v/\Q v H
noncomputable def W3(K:Frag):R2:=fun x y H Q=>∃p xs i v,x=.ref p/\y=.int i/\SqT K H p xs/\atI xs i=some v/\Q v H
noncomputable def W2:R2:=fun x y H Q=>∃z i c,x=.str z/\y=.int i/\z.length<=sizeLine/\atI z.cps.toList i=some c/\Q (.str ⟨#[c]⟩) H
theorem R0:IxR X (W0 X.K):=by
 intro value slice pins s U H x y v u Q I rx ry h hs;obtain⟨p,xs,i,z,rfl,rfl,hq,he,q⟩:=h;cases rx;obtain⟨t,rfl⟩:=ry;obtain⟨its,r,pl,hz⟩:=I.list hq;obtain⟨j,h1,h2,h3,h4,h5⟩:=Ca he;obtain⟨w,ew,rw'⟩:=r.get h2;have hl:=r.length;have hn:=Fg;have fin:EP X pins U Q w s:=⟨z,H,I,rw',q⟩;by_cases h0:0<=i
 .have hj:i.toNat=j:=by
   rw[seqIndex_of h0 h5] at h1;exact Option.some.inj h1
  exact item_listR pl.isList h0 (by lia) (by rw[hj]; simpa using ew) fin hs
 .have hj:(i+(its.toArray.size:Int)).toNat=j:=by
   rw[seqIndex_neg (by lia) h4] at h1;rw[size_toArray,<- hl];exact Option.some.inj h1
  exact subscriptTail_builtinR (x:=w) pl.isList.typeIs slot_list_getitem.lookup
   (wpAny_getItem_list_neg (Q:=fun r s'=>r=w/\EP X pins U Q r s') pl.isList (by lia) (by rw[size_toArray]<;>lia) (by lia) (by rw[hj]; simpa using ew) ⟨rfl,fin⟩) hs
theorem UD:IxR X (W3 X.K):=by
 intro value slice pins s U H x y v u Q I rx ry h hs;obtain⟨p,xs,i,z,rfl,rfl,hq,he,q⟩:=h;cases rx;obtain⟨t,rfl⟩:=ry;obtain⟨its,r,pl,hz⟩:=I.tuple hq;obtain⟨j,h1,h2,h3,h4,h5⟩:=Ca he;obtain⟨w,ew,rw'⟩:=r.get h2;have hl:=r.length;have hn:=Fg;have fin:EP X pins U Q w s:=⟨z,H,I,rw',q⟩;exact subscriptTail_builtinR (x:=w) pl.typeIs slot_tuple_getitem.lookup
  (getItem_tuple (j:=j) (Q:=fun r s'=>r=w/\EP X pins U Q r s') pl (by lia) (by lia) (by rw[size_toArray,<- hl]; exact h1) (by simpa using ew) ⟨rfl,fin⟩) hs
theorem UC:IxR X W2:=by
 intro value slice pins s U H x y v u Q I rx ry h hs;obtain⟨z,i,c,rfl,rfl,hz,he,q⟩:=h;obtain⟨t,rfl⟩:=rx;obtain⟨t',rfl⟩:=ry;obtain⟨j,h1,h2,h3,h4,h5⟩:=Ca he;have hl:z.cps.toList.length=z.length:=by simp[Str.length]
 rw[hl] at h1 h4 h5;have hn:=Fg;exact tail_any (typeIs_str s z t) slot_str_getitem.lookup (getItem_str (c:=c) (by
  have e1:decide (i < -(2 ^ 63:Int))=false:=decide_eq_false (by lia);have e2:decide (i ≥ 2 ^ 63)=false:=decide_eq_false (by lia);rw[e1,e2,Bool.or_false]) (by rw[h1]; simpa using h2) ⟨.str ⟨#[c]⟩,H,I.tok _,⟨_,rfl⟩,q⟩) hs
noncomputable def rIx(K:Frag):R2:=fun x y H Q=>W0 K x y H Q\/W3 K x y H Q\/W2 x y H Q
theorem AH:IxR X (rIx X.K):=R0.or (UD.or UC)
theorem MX(its:List Value)(n j:Nat)(u:Value):Obj.mapSeq (·.setIfInBounds j u) { cls:=.type "list",data:=.seq its.toArray n }={ cls:=.type "list",data:=.seq (its.set j u).toArray n }:=by
 simp[Obj.mapSeq]
theorem Inv.lst{pins:List (Addr×Obj)}{U:St}{H:Hp}{s:Shared}{p:Addr}{xs:List V}(I:Inv X pins U H s)(h:H p=some (.lst xs)):
  ∃(its:List Value) (n:Nat),Vals xs its/\s.heap.get? p=some { cls:=.type "list",data:=.seq its.toArray n }/\xs.length<=sizeLine:=by
 obtain⟨z,its,n,r,e⟩:=I.hok p _ h;exact⟨its,n,r,e,z⟩
theorem Inv.lstUpd{pins:List (Addr×Obj)}{U:St}{H:Hp}{s:Shared}{p:Addr}{xs ys:List V}{its its':List Value}{n n':Nat}{f:Obj->Obj}(I:Inv X pins U H s)(h:H p=some (.lst xs))(ho:s.heap.get? p=some { cls:=.type "list",data:=.seq its.toArray n })(hf:f { cls:=.type "list",data:=.seq its.toArray n }={ cls:=.type "list",data:=.seq its'.toArray n' })(r:Vals ys its')(hz:ys.length<=sizeLine)(t:Nat):
  Inv X pins U (upd H p (.lst ys)) { s with heap:=s.heap.update p f,toks:=t }:=by
 have e:(s.heap.update p f).get? p=some { cls:=.type "list",data:=.seq its'.toArray n' }:=by
  rw[Heap.get?_update_self f ho (by rw[hf]<;>rfl),hf]
 refine I.write (x:=p) (e:=p) (by rw[h]; trivial) (.inl rfl) (fun b u hb q=>(Heap.get?_update_other _ _ (Ne.symm hb)).trans q) ⟨_,e⟩ ?_;exact⟨hz,its',n',r,e⟩
noncomputable def T3:V->V->V->Hp->(Hp->Prop)->Prop:=fun o i v H Q=>∃p xs k j,o=.ref p/\i=.int k/\H p=some (.lst xs)/\ixN xs.length k=some j/\Q (upd H p (.lst (xs.set j v)))
theorem set_list:Wq X T3:=by
 intro pins s U H o i v ov iv u Q I ro ri rv h;obtain⟨p,xs,k,j,rfl,rfl,hp,hj,q⟩:=h;cases ro;obtain⟨t,rfl⟩:=ri;obtain⟨its,n,r,ho,hz⟩:=I.lst hp;obtain⟨h1,h2,h3,h4⟩:=NS hj;have hl:=r.length;have hn:=Fg;have I':Inv X pins U (upd H p (.lst (xs.set j v))) { s with heap:=s.heap.update p (Obj.mapSeq (·.setIfInBounds j u)) }:=
  I.lstUpd hp ho (MX its n j u) (r.set rv j) (by rw[length_set]; exact hz) s.toks
 by_cases h0:0<=k
 .have hk:k.toNat=j:=by
   rw[seqIndex_of h0 h4] at h1;exact Option.some.inj h1
  exact PySem.W.ki_setAt ho h0 (by lia) (by rw[size_toArray,<- hl]; exact h4) (by rw[hk]; exact⟨_,I',q⟩)
 .have hk:(k+(its.toArray.size:Int)).toNat=j:=by
   rw[seqIndex_neg (by lia) h3] at h1;rw[size_toArray,<- hl];exact Option.some.inj h1
  exact PySem.W.ki_setBack ho (by lia) (by rw[size_toArray,<- hl]; exact h3) (by lia) (by rw[hk]; exact⟨_,I',q⟩)
theorem KS(lo hi:Option Int)(n:Nat):(sliceBounds lo hi none n).1=((HT.sIx n 0 lo:Nat):Int)/\(sliceBounds lo hi none n).2.1=((HT.sIx n n hi:Nat):Int)/\(sliceBounds lo hi none n).2.2=1:=by
 refine⟨?_,?_,rfl⟩
 .cases lo with
  | none=>simp[sliceBounds,HT.sIx]
  | some i =>
   simp only[sliceBounds,HT.sIx,getD_none,show(1:Int) > 0 by decide,if_true];by_cases h:i<0
   .simp only[h,if_true]<;>lia
   .simp only[h,if_false]<;>lia
 .cases hi with
  | none=>simp[sliceBounds,HT.sIx]
  | some i =>
   simp only[sliceBounds,HT.sIx,getD_none,show(1:Int) > 0 by decide,if_true];by_cases h:i<0
   .simp only[h,if_true]<;>lia
   .simp only[h,if_false]<;>lia
theorem Jn(its:List Value)(lo hi:Option Int):slicePick its.toArray lo hi none=((its.drop (HT.sIx its.length 0 lo)).take (HT.sIx its.length its.length hi-HT.sIx its.length 0 lo)).toArray:=by
 obtain⟨h1,h2,h3⟩:=KS lo hi its.toArray.size;unfold slicePick;rw[h1,h2,h3];simp only[sliceRange_one,pick_run,size_toArray]<;>rfl
noncomputable def W5(K:Frag):V->Option Int->Option Int->Hp->VK->Prop:=fun x lo hi H Q=>∃a xs,x=.ref a/\SqL K H a xs/\∀p,H p=none->Q (.ref p) (upd H p (.lst (Ov xs lo hi)))
theorem Tf:SlR X (W5 X.K):=by
 intro pins s U H x v vl vu lo hi sl Q I rx hs pl pu h;obtain⟨a,xs,rfl,hx,q⟩:=h;cases rx;obtain⟨its,r,ht,hz⟩:=I.list hx;have hlen:=r.length;refine⟨"list",_,slot_list_getitem.lookup,ht.isList.typeIs,?_⟩;refine wpAny_getItem_list_slice ht.isList hs pl pu .none (by simp) ?_ (by rw[size_toArray]<;>lia);rw[Jn,<- hlen];refine⟨.ref s.heap.objs.size,_,I.laid (t':=s.toks) (o:=.lst (Ov xs lo hi)) (fun b ob q=>Heap.get?_push_of_some _ q) (le_refl _) ?_,rfl,q _ (I.hok.fresh (le_refl _))⟩;exact⟨le_trans (Hd xs lo hi) hz,_,0,(r.drop (HT.sIx xs.length 0 lo)).take (HT.sIx xs.length xs.length hi-HT.sIx xs.length 0 lo),Heap.get?_push_size _ rfl⟩
noncomputable def FN:V->Bool
 | .non=>true
 | .bl _=>true
 | .int _=>true
 | .str _=>true
 | _=>false
noncomputable def eqV:V->V->Bool
 | .non,.non=>true
 | .bl a,.bl b=>a==b
 | .bl a,.int b=>(if a then 1 else 0)==b
 | .int a,.bl b=>a==(if b then 1 else 0)
 | .int a,.int b=>a==b
 | .str a,.str b=>a==b
 | _,_=>false
theorem Up{A:Around}{s:Shared}{y x:V}{u v:Value}(ry:RelV y u)(rx:RelV x v)(fy:FN y=true)(fx:FN x=true):SeqAt.EqAt A s u v (eqV y x):=by
 cases y with
 | non =>
  cases ry;cases x with
  | non=>cases rx; exact SeqAt.EqAt.same _
  | bl b=>cases rx; exact SeqAt.EqAt.none_bool b
  | int b=>obtain⟨t,rfl⟩:=rx; exact SeqAt.EqAt.none_int b t
  | str b=>obtain⟨t,rfl⟩:=rx; exact SeqAt.EqAt.none_str b t
  | _=>exact absurd (show false=true from fx) Bool.false_ne_true
 | bl a =>
  cases ry;cases x with
  | non=>cases rx; exact SeqAt.EqAt.bool_none a
  | bl b=>cases rx; exact SeqAt.EqAt.bool_bool a b
  | int b=>obtain⟨t,rfl⟩:=rx; exact SeqAt.EqAt.bool_int a b t
  | str b=>obtain⟨t,rfl⟩:=rx; exact SeqAt.EqAt.bool_str a b t
  | _=>exact absurd (show false=true from fx) Bool.false_ne_true
 | int a =>
  obtain⟨t',rfl⟩:=ry;cases x with
  | non=>cases rx; exact SeqAt.EqAt.int_none a t'
  | bl b=>cases rx; exact SeqAt.EqAt.int_bool a t' b
  | int b=>obtain⟨t,rfl⟩:=rx; exact SeqAt.EqAt.int_int a t' b t
  | str b=>obtain⟨t,rfl⟩:=rx; exact SeqAt.EqAt.int_str a t' b t
  | _=>exact absurd (show false=true from fx) Bool.false_ne_true
 | str a =>
  obtain⟨t',rfl⟩:=ry;cases x with
  | non=>cases rx; exact SeqAt.EqAt.str_none a t'
  | bl b=>cases rx; exact SeqAt.EqAt.str_bool a t' b
  | int b=>obtain⟨t,rfl⟩:=rx; exact SeqAt.EqAt.str_int a t' b t
  | str b=>obtain⟨t,rfl⟩:=rx; exact SeqAt.EqAt.str_str a t' b t
  | _=>exact absurd (show false=true from fx) Bool.false_ne_true
 | _=>exact absurd (show false=true from fy) Bool.false_ne_true
noncomputable def eqU(x:V)(u:Value):Bool:=match u with
 | .none=>eqV .non x
 | .bool b=>eqV (.bl b) x
 | .int i _=>eqV (.int i) x
 | .str z _=>eqV (.str z) x
 | _=>false
theorem PM{x y:V}{u:Value}(r:RelV y u)(f:FN y=true):eqU x u=eqV y x:=by
 cases y with
 | non=>cases r; rfl
 | bl b=>cases r; rfl
 | int i=>obtain⟨t,rfl⟩:=r; rfl
 | str z=>obtain⟨t,rfl⟩:=r; rfl
 | _=>exact absurd (show false=true from f) Bool.false_ne_true
theorem Hx{x:V}{xs:List V}{us:List Value}(h:Vals xs us):xs.all FN=true->us.any (eqU x)=xs.any fun y=>eqV y x:=by
 induction h with
 | nil=>exact fun _=>rfl
 | cons r t ih =>
  intro f;rw[all_cons,and_eq_true] at f;rw[any_cons,any_cons,PM r f.1,ih f.2]
theorem Fh{A:Around}{s:Shared}{x:V}{v:Value}(rx:RelV x v)(fx:FN x=true):∀{xs:List V} {us:List Value},Vals xs us->xs.all FN=true->∀u∈us,SeqAt.EqAt A s u v (eqU x u)
 | _,_,.nil,_=>fun u hu=>by cases hu
 | y::xs,u::us,.cons r t,f=>fun u' hu=>by
  rw[all_cons,and_eq_true] at f;rcases mem_cons.mp hu with rfl|hu
  .rw[PM r f.1]; exact Up r rx f.1 fx
  .exact Fh rx fx t f.2 u' hu
noncomputable def inV(x:V)(xs:List V):Bool:=xs.any fun y=>eqV y x
noncomputable def rIn(K:Frag)(neg:Bool):R2:=fun x y H Q=>∃p xs,y=.ref p/\(SqL K H p xs\/SqT K H p xs)/\FN x=true/\xs.all FN=true/\Q (.bl (if neg then !inV x xs else inV x xs)) H
theorem OU:OpR X (compareOp .In) (rIn X.K false):=by
 intro pins s U H x y v u Q I rx ry h;obtain⟨p,xs,rfl,hq,fx,fs,q⟩:=h;cases ry;rcases hq with hq|hq
 .obtain⟨its,r,pl,hz⟩:=I.list hq
  refine SeqAt.in_listAt (eqU x) pl.isList (fun w hw=>Fh rx fx r fs w (by simpa using hw)) ⟨.bl _,H,I,rfl,?_⟩;rw[show its.toArray.any (eqU x)=its.any (eqU x) by simp,Hx r fs];exact q
 .obtain⟨its,r,pl,hz⟩:=I.tuple hq
  refine SeqAt.in_tupleAt (eqU x) pl (fun w hw=>Fh rx fx r fs w (by simpa using hw)) ⟨.bl _,H,I,rfl,?_⟩;rw[show its.toArray.any (eqU x)=its.any (eqU x) by simp,Hx r fs];exact q
theorem Kx:OpR X (compareOp .NotIn) (rIn X.K true):=by
 intro pins s U H x y v u Q I rx ry h;obtain⟨p,xs,rfl,hq,fx,fs,q⟩:=h;cases ry;rcases hq with hq|hq
 .obtain⟨its,r,pl,hz⟩:=I.list hq
  refine SeqAt.notIn_listAt (eqU x) pl.isList (fun w hw=>Fh rx fx r fs w (by simpa using hw)) ⟨.bl _,H,I,rfl,?_⟩;rw[show its.toArray.any (eqU x)=its.any (eqU x) by simp,Hx r fs];exact q
 .obtain⟨its,r,pl,hz⟩:=I.tuple hq
  refine SeqAt.notIn_tupleAt (eqU x) pl (fun w hw=>Fh rx fx r fs w (by simpa using hw)) ⟨.bl _,H,I,rfl,?_⟩;rw[show its.toArray.any (eqU x)=its.any (eqU x) by simp,Hx r fs];exact q
theorem Ky:OpR X (compareOp .NotIn) (fun x y H Q=>∃i j,x=.str i/\y=.str j/\Q (.bl (!(!(Builtin.Str.occurrences j i 0 j.length 1).isEmpty))) H):=by
 intro pins s U H x y v u Q I rx ry h;obtain⟨i,j,rfl,rfl,q⟩:=h;obtain⟨t,rfl⟩:=rx;obtain⟨t',rfl⟩:=ry;exact notIn_str ⟨.bl _,H,I,rfl,q⟩
theorem J2:B9 X (.builtin "len") (fun xs H Q=>∃p ys,xs=[.ref p]/\(SqL X.K H p ys\/SqT X.K H p ys)/\Q (.int ys.length) H):=by
 intro pins s U H xs us Q I r h;obtain⟨p,ys,rfl,hq,q⟩:=h;obtain⟨u,rfl,rx⟩:=vals1 r;cases rx;have hn:=Fg;rcases hq with hq|hq
 .obtain⟨its,r',pl,hz⟩:=I.list hq
  have hlen:=r'.length;exact Calls.call_len_list pl.isList (by simp only[size_toArray]<;>lia) ⟨.int ys.length,H,I.tok _,⟨s.toks+1,by rw[size_toArray,hlen]⟩,q⟩
 .obtain⟨its,r',pl,hz⟩:=I.tuple hq
  have hlen:=r'.length;exact len_tuple pl (by simp only[size_toArray]<;>lia) ⟨.int ys.length,H,I.tok _,⟨s.toks+1,by rw[size_toArray,hlen]⟩,q⟩
theorem J3:B9 X (.builtin "len") (fun xs H Q=>∃z,xs=[.str z]/\z.length<=sizeLine/\Q (.int z.length) H):=by
 intro pins s U H xs us Q I r h;obtain⟨z,rfl,hz,q⟩:=h;obtain⟨u,rfl,t,rfl⟩:=vals1 r;have hn:=Fg;exact len_str (by lia) ⟨.int z.length,H,I.tok _,⟨_,rfl⟩,q⟩
theorem B9.or{f:Value}{r r':List V->Hp->VK->Prop}(h:B9 X f r)(h':B9 X f r'):B9 X f (fun xs H Q=>r xs H Q\/r' xs H Q):=by
 intro pins s U H xs us Q I rs q;rcases q with q|q
 .exact h pins s U H xs us Q I rs q
 .exact h' pins s U H xs us Q I rs q
theorem J4:B9 X (.type "list") (fun xs H Q=>∃p ys,xs=[.ref p]/\(SqL X.K H p ys\/SqT X.K H p ys)/\∀l,H l=none->Q (.ref l) (upd H l (.lst ys))):=by
 intro pins s U H xs us Q I r h;obtain⟨p,ys,rfl,hq,q⟩:=h;obtain⟨u,rfl,rx⟩:=vals1 r;cases rx;have fin:∀(its:List Value),Vals ys its->ys.length<=sizeLine->∀(h':Heap) (c':Nat),(∀b o',s.heap.get? b=some o'->h'.get? b=some o') ->
   h'.get? s.heap.objs.size=some { cls:=.type "list",dict:=none,data:=.seq its.toArray c',slots:=#[] }->EP X pins U Q (.ref s.heap.objs.size) { s with heap:=h' }:=fun its r' hz h' c' kp e =>
  ⟨.ref s.heap.objs.size,_,I.laid (t':=s.toks) kp (le_refl _) (show BN X.prog X.w _ h' _ (.lst ys) from⟨hz,its,c',r',e⟩),rfl,q _ (I.hok.fresh (le_refl _))⟩
 rcases hq with hq|hq
 .obtain⟨its,r',pl,hz⟩:=I.list hq
  have hlen:=r'.length;obtain⟨o,ho,hc,n,hd⟩:=pl.isList;exact call_list_seq p (.inl rfl) ho hc hd (fun h' c' kp e=>fin its r' hz h' c' kp e) (by simp only[size_toArray]<;>lia)
 .obtain⟨its,r',pl,hz⟩:=I.tuple hq
  have hlen:=r'.length;obtain⟨o,ho,hc,n,hd⟩:=pl;exact call_list_seq p (.inr rfl) ho hc hd (fun h' c' kp e=>fin its r' hz h' c' kp e) (by simp only[size_toArray]<;>lia)
noncomputable def tyV(K:Frag)(T:String)(x:V)(H:Hp):Prop:=match x with
 | .str _=>T = "str"
 | .int _=>T = "int"
 | .ref p=>(T = "list" /\ ∃xs,SqL K H p xs)\/(T = "tuple" /\ ∃o,K.lookup p=some o/\o.cls=.type "tuple" /\ o.dict=none) \/
   (T = "dict" /\ ((∃kvs,H p=some (.dK kvs))\/∃kvs,H p=some (.dT kvs)))\/(T = "set" /\ ∃S n,H p=some (.set S n))
 | _=>False
theorem Rz{pins:List (Addr×Obj)}{U:St}{H:Hp}{s:Shared}{T:String}{x:V}{v:Value}(I:Inv X pins U H s)(r:RelV x v)(ty:tyV X.K T x H):
  s.TypeIs v T/\∀a,v=.ref a->∃ob,s.heap.get? a=some ob/\ob.dict=none:=by
 cases x with
 | str z =>
  obtain⟨t,rfl⟩:=r;cases (show T = "str" from ty);exact⟨typeIs_str s z t,fun _ e=>nomatch e⟩
 | int i =>
  obtain⟨t,rfl⟩:=r;cases (show T = "int" from ty);exact⟨typeIs_int s i t,fun _ e=>nomatch e⟩
 | ref p =>
  cases r;rcases ty with ⟨rfl,xs,hq⟩|⟨rfl,o,hk,hc,hd⟩|⟨rfl,hk⟩|⟨rfl,S,n,hk⟩
  .obtain⟨its,_,pl,_⟩:=I.list hq
   refine⟨pl.isList.typeIs,fun a e=>?_⟩;cases e;obtain⟨o,n,e,c,hd,_⟩:=pl;exact⟨o,e,hd⟩
  .refine⟨⟨o,I.kIn p o hk,hc⟩,fun a e=>?_⟩
   cases e;exact⟨o,I.kIn _ o hk,hd⟩
  .have z:∃o,s.heap.get? p=some o/\o.ExactDict:=by
    rcases hk with ⟨kvs,hk⟩|⟨kvs,hk⟩
    .obtain⟨_,_,_,_,o,_,_,e,ex,_⟩:=I.hok p _ hk
     exact⟨o,e,ex⟩
    .obtain⟨_,_,_,_,o,_,_,e,ex,_⟩:=I.hok p _ hk
     exact⟨o,e,ex⟩
   obtain⟨o,e,ex⟩:=z;refine⟨⟨o,e,ex.1⟩,fun a e2=>?_⟩;cases e2;exact⟨o,e,ex.2.1⟩
  .obtain⟨o,_,_,_,e,ex,_⟩:=I.hok p _ hk
   refine⟨⟨o,e,ex.1⟩,fun a e2=>?_⟩;cases e2;exact⟨o,e,ex.2.1⟩
 | _=>exact False.elim ty
noncomputable def Xa(K:Frag)(T:String)(r:V->List V->Hp->VK->Prop)(to:TE):TE:=fun U H Q=>to U H fun x H1=>tyV K T x H1/\r x [] H1 Q
noncomputable def tBM(K:Frag)(T:String)(r:V->List V->Hp->VK->Prop)(to:TE)(t:TA):TE:=fun U H Q=>to U H fun x H1=>tyV K T x H1/\t U H1 fun xs H2=>r x xs H2 Q
variable{o e:Expr}{es:List Expr}{to:TE}{t:TA}{name:Str}{apos cpos:Pos}{T id:String}{r:V->List V->Hp->VK->Prop}
theorem Vf(pa:PlainAttrs T)(slot:Slot T name id)(hty:typeOf (.builtin id)=pure (.type "method_descriptor"))(hm:MtR X id r)(ho:PE X o to)(hbase:attributeBase o name X.env (eval o X.env)=eval o X.env:=by rfl)(hline:(apos.endLine==cpos.line)=true:=by rfl):PE X (.Call (.Attribute o name apos) [] [] cpos) (Xa X.K T r to):=by
 intro pins s U H Q I h;refine wpAny_Call_method0_late hbase hline (thn (ho pins s U H _ I h) fun v s1 yy=>?_);obtain⟨x,H1,I1,r1,ty,q1⟩:=yy;obtain⟨h1,h2⟩:=Rz I1 r1 ty;exact⟨T,id,pa,slot,hty,h1,h2,Calls.callWith_builtin rfl (PySem.evalArgs_none (hm pins s1 U H1 x [] v [] Q I1 r1 .nil q1))⟩
theorem N0(pa:PlainAttrs T)(slot:Slot T name id)(hty:typeOf (.builtin id)=pure (.type "method_descriptor"))(hm:MtR X id r)(ho:PE X o to)(ha:PA X (e::es) t)(hbase:attributeBase o name X.env (eval o X.env)=eval o X.env:=by rfl)(hfew:((backTo cpos (starEach (e::es) X.env)).all (fun x=>!x.1)&&(backToKw cpos (keywordEach [] X.env)).all (fun x=>x.1.isSome)
   && decide ((e::es).length+([]:List Keyword).length+(if ([]:List Keyword).isEmpty then 0 else 1)<30))=true:=by rfl)(hline:(apos.endLine==cpos.line)=true:=by rfl)(hs:starEach (e::es) X.env=(false,eval e X.env)::starEach es X.env:=by rfl)(hplain:(backTo cpos (starEach es X.env)).any (·.1)=false:=by rfl):
  PE X (.Call (.Attribute o name apos) (e::es) [] cpos) (tBM X.K T r to t):=by
 intro pins s U H Q I h;refine wpAny_Call_method_late hbase hfew hline rfl (thn (ho pins s U H _ I h) fun v s1 yy=>?_);obtain⟨x,H1,I1,r1,ty,q1⟩:=yy;obtain⟨h1,h2⟩:=Rz I1 r1 ty;refine⟨T,id,pa,slot,hty,h1,h2,?_⟩;have hA:=ha cpos pins s1 U H1 _ I1 q1;rw[hs] at hA |-;refine Calls.callWith_builtin (by show(false || (backTo cpos (starEach es X.env)).any (·.1))=false; rw[hplain]<;>rfl) (Calls.evalArgs_plain ?_);exact thn hA fun us s2 ⟨vs,H2,I2,r2,q2⟩=>hm pins s2 U H2 x vs v us Q I2 r1 r2 q2
/- xs.append(e),list.index on a module's tuple .. are MtR facts of 06m -/
end
end L2
namespace L2
open PySem PySem.Spec PyProof.Rows
noncomputable def MtM(X:Cx)(id:String)(r:V->List V->Hp->VK->Prop):Prop:=
 ∀(pins:List (Addr×Obj)) (s:Shared) (U:St) (H:Hp) (x:V) (xs:List V) (v:Value) (us:List Value) (Q:VK),Inv X pins U H s->RelV x v->Vals xs us->r x xs H Q ->
  wpAny (model X.prog X.w) X.A (call (.builtin id) (v::us)) (EP X pins U Q) X.xe s
theorem Vals.one{x:V}{us:List Value}(h:Vals [x] us):∃u,us=[u]/\RelV x u:=by
 cases h with
 | cons r t=>cases t; exact⟨_,rfl,r⟩
theorem Vals.two{x y:V}{us:List Value}(h:Vals [x,y] us):∃u v,us=[u,v]/\RelV x u/\RelV y v:=by
 cases h with
 | cons r t =>
  obtain⟨v,rfl,q⟩:=Vals.one t;exact⟨_,_,rfl,r,q⟩
theorem Vals.zero:∀{us:List Value},Vals [] us->us=[]
 | _,.nil=>rfl
theorem foldl_rep(its:List Value):∀(k:Nat) (acc:List Value),
  List.foldl (fun x1 x2=>x1++x2) acc.toArray (List.replicate k its.toArray)=(acc++(List.replicate k its).flatten).toArray
 | 0,acc=>by simp
 | k+1,acc=>by
  have e:acc.toArray++its.toArray=(acc++its).toArray:=by simp
  have e2:(acc++its)++(List.replicate k its).flatten=acc++(List.replicate (k+1) its).flatten:=by
   rw[replicate_succ,flatten_cons,append_assoc]
  rw[<- e2,<- foldl_rep its k (acc++its),<- e,replicate_succ,foldl_cons]
section
variable{X:Cx}{pins:List (Addr×Obj)}{U:St}{H:Hp}{s:Shared}{l b:Addr}{xs ys zs:List V}
theorem Inv.lset{its its':List Value}{n:Nat}{f:Array Value->Array Value}{t':Nat}(I:Inv X pins U H s)(hH:H l=some (.lst xs))(e:s.heap.get? l=some { cls:=.type "list",data:=.seq its.toArray n })(hf:f its.toArray=its'.toArray)(hv:Vals ys its')(hz:ys.length<=sizeLine):
  Inv X pins U (upd H l (.lst ys)) { s with heap:=s.heap.update l (Obj.mapSeq f),toks:=t' }:=by
 have q:=PySem.IsL.update e f;rw[hf] at q;refine I.write (x:=l) (e:=l) (by rw[hH]; exact trivial) (.inl rfl) (fun b' u hb hu=>(Heap.get?_update_other s.heap (Obj.mapSeq f) (Ne.symm hb)).trans hu) ⟨_,q⟩ ?_;exact⟨hz,its',_,hv,q⟩
theorem Inv.lnew{its:List Value}{t':Nat}(I:Inv X pins U H s)(hv:Vals ys its)(hz:ys.length<=sizeLine):
  Inv X pins U (upd H s.heap.objs.size (.lst ys)) { s with heap:=s.heap.push { cls:=.type "list",data:=.seq its.toArray },toks:=t' }:=
 I.laid (fun _ _ q=>Heap.get?_push_of_some _ q) (le_refl _) ⟨hz,its,0,hv,Heap.get?_push_size _ rfl⟩
theorem Inv.fresh(I:Inv X pins U H s):H s.heap.objs.size=none:=I.hok.fresh (le_refl _)
theorem Inv.lstM(I:Inv X pins U H s)(hH:H l=some (.lst xs)):xs.length<=sizeLine/\∃(its:List Value) (n:Nat),Vals xs its/\xs.length=its.length/\s.heap.get? l=some { cls:=.type "list",data:=.seq its.toArray n }:=by
 obtain⟨z,its,n,r,e⟩:=I.hok l _ hH;exact⟨z,its,n,r,r.length,e⟩
theorem LH{n:Nat}(h:n<=sizeLine):Builtin.List.listTooLong n=false:=by
 unfold Builtin.List.listTooLong;exact decide_eq_false (by lia)
end
section
variable{X:Cx}
noncomputable def N5:V->List V->Hp->VK->Prop:=fun x vs H Q=>∃l xs y,x=.ref l/\vs=[y]/\H l=some (.lst xs)/\xs.length<sizeLine/\Q .non (upd H l (.lst (xs++[y])))
theorem G0:MtM X "list.append" N5:=by
 intro pins s U H x vs v us Q I rx rv h;obtain⟨l,xs,y,rfl,rfl,hH,hz,q⟩:=h;cases rx;obtain⟨u,rfl,ru⟩:=rv.one;obtain⟨z,its,n,r,hl,e⟩:=I.lstM hH;refine call_meets F.slot_list_append ⟨_,e,rfl⟩ F.entry_list_append (F.args_list_append_2 _ _) (PySem.list_append l its.toArray n u (by rw[size_toArray]; lia)) ⟨e,?_⟩;refine⟨.non,_,I.lset (its':=its++[u]) hH e (by simp) (r.append (.cons ru .nil)) ?_,rfl,q⟩;rw[length_append,List.length_singleton];lia
noncomputable def N6:V->List V->Hp->VK->Prop:=fun x vs H Q=>∃l b xs zs,x=.ref l/\vs=[.ref b]/\H l=some (.lst xs)/\H b=some (.lst zs)/\xs.length+zs.length<=sizeLine/\Q .non (upd H l (.lst (xs++zs)))
theorem OR:MtM X "list.extend" N6:=by
 intro pins s U H x vs v us Q I rx rv h;obtain⟨l,b,xs,zs,rfl,rfl,hH,hB,hz,q⟩:=h;cases rx;obtain⟨u,rfl,ru⟩:=rv.one;cases ru;obtain⟨z,its,n,r,hl,e⟩:=I.lstM hH;obtain⟨z2,its2,n2,r2,hl2,e2⟩:=I.lstM hB;have hsz:its.toArray.size+its2.toArray.size<=sizeLine:=by rw[size_toArray,size_toArray]; lia
 have hlong:¬(!its.toArray.isEmpty&&Builtin.List.listTooLong (its.toArray.size+its2.toArray.size))=true:=by
  rw[LH hsz,Bool.and_false];exact Bool.false_ne_true
 refine call_meets F.slot_list_extend ⟨_,e,rfl⟩ F.entry_list_extend (F.args_list_extend_2 _ _)
  (AutoSeq1.list_extend_list_list_0 l its.toArray n b its2.toArray n2 hlong (by rw[size_toArray]; lia) (by lia)) ⟨e,e2,?_⟩
 refine⟨.non,_,I.lset (its':=its++its2) hH e (by simp) (r.append r2) ?_,rfl,q⟩;rw[length_append];lia
noncomputable def QY:V->List V->Hp->VK->Prop:=fun x vs H Q=>∃l xs,x=.ref l/\vs=[]/\H l=some (.lst xs)/\Q .non (upd H l (.lst []))
theorem Qw:MtM X "list.clear" QY:=by
 intro pins s U H x vs v us Q I rx rv h;obtain⟨l,xs,rfl,rfl,hH,q⟩:=h;cases rx;have hus:=rv.zero;subst hus;obtain⟨z,its,n,r,hl,e⟩:=I.lstM hH;refine call_meets F.slot_list_clear ⟨_,e,rfl⟩ F.entry_list_clear (F.args_list_clear_1 _) (AutoSeq1.list_clear_list_0 l its.toArray n (by rw[size_toArray]; lia)) ⟨e,?_⟩;exact⟨.non,_,I.lset (its':=[]) (ys:=[]) hH e rfl .nil (zero_le _),rfl,q⟩
noncomputable def VH:R2:=fun x y H Q=>∃l b xs zs,x=.ref l/\y=.ref b/\H l=some (.lst xs)/\H b=some (.lst zs)/\xs.length+zs.length<=sizeLine/\∀p,H p=none->Q (.ref p) (upd H p (.lst (xs++zs)))
theorem U8:OpR X (binaryOp .Add) VH:=by
 intro pins s U H x y v u Q I rx ry h;obtain⟨l,b,xs,zs,rfl,rfl,hH,hB,hz,q⟩:=h;cases rx;cases ry;obtain⟨z,its,n,r,hl,e⟩:=I.lstM hH;obtain⟨z2,its2,n2,r2,hl2,e2⟩:=I.lstM hB;refine PySem.P.add_list e e2 ?_ (by rw[size_toArray,size_toArray]; lia);have ea:its.toArray++its2.toArray=(its++its2).toArray:=by simp
 rw[ea];exact⟨.ref _,_,I.lnew (t':=s.toks) (r.append r2) (by rw[length_append]; lia),rfl,q _ I.fresh⟩
noncomputable def XI:R2:=fun x y H Q=>∃l k xs,x=.ref l/\y=.int k/\H l=some (.lst xs)/\-(2 ^ 63)<=k/\k<2 ^ 63/\xs.length*k.toNat<=sizeLine /\
 ∀p,H p=none->Q (.ref p) (upd H p (.lst (List.replicate k.toNat xs).flatten))
theorem len_rep{α:Type}(xs:List α)(k:Nat):(List.replicate k xs).flatten.length=k*xs.length:=by
 induction k with
 | zero=>simp
 | succ k ih=>rw[replicate_succ,flatten_cons,length_append,ih,Nat.succ_mul,add_comm]
end
section
variable{prog:Program}{w:World}{A:Around}{E:Value->Shared->Prop}{s:Shared}
set_option maxRecDepth 100000 in
end
section
variable{X:Cx}
end
end L2
namespace Att
open PySem PySem.W PySem.Calls PyProof.Rows
theorem Hr{P:Params}{h:Heap}:∀(ns:List Int) (vs:List Value),WellAll P h vs (ns.map WData.int)->IntsAre vs ns:=by
 intro ns;induction ns with
 | nil =>
  intro vs w;rw[map_nil] at w;cases w;exact .nil
 | cons n ns ih =>
  intro vs w;rw[map_cons] at w;cases w with
  | cons a b =>
   cases a;exact .cons _ _ (ih _ b)
theorem Pf{l:OpenLaw}{n:Nat}(hn:l.most=some n){P:Params}{h:Heap}{args:List WData}{vals:List Value}(hpre:l.row.toRowW.claim.pre args=true)(hwl:WellAll P h vals args):
  ∃a vs ns,vals=[Value.ref a]/\args=[WData.list (ns.map WData.int)]/\h.get? a=some { cls:=.type "list",data:=.seq vs.toArray }/\IntsAre vs ns/\ns.length<=n:=by
 have hsh:WShape.hasAll [] args [.list .int]=true:=(pre_splitW hpre).1;have hc:l.pre.holds [] { args:=args }=true:=(pre_splitW hpre).2;obtain⟨d,r,rfl,h1,h2⟩:=hasAllW_cons hsh;obtain rfl:=hasAllW_nil h2;obtain⟨xs,rfl,h3⟩:=hasW_list h1;obtain⟨ns,rfl⟩:=items_int h3;have hlen:ns.length<=n:=by
  unfold OpenLaw.pre at hc;have h4:(WTm.not (.lt (.lit (.int (n:Int))) (.len (.arg 0)))).holds [] { args:=[.list (ns.map .int)] }=true:=by
   have h4:=(holds_andW hc).1;rw[hn] at h4;exact h4
  have h5:=condW_of h4 (w_not (w_lt w_lit (w_len_list (w_arg rfl))));rw[length_map] at h5;refine Nat.le_of_not_lt fun q=>?_;have q':(n:Int)<((ns.length:Nat):Int):=by lia
  first
   | (rw[decide_eq_true q'] at h5; exact absurd h5 (by decide))
   | (simp at h5; lia)
 cases hwl with
 | cons w1 w2 =>
  cases w2;cases w1 with
  | list ho hall=>exact⟨_,_,ns,rfl,rfl,ho,Hr ns _ hall,hlen⟩
theorem O3(l:OpenLaw)(args:List WData):l.row.toRowW.claim.post args (.bool true) args=true:=
 postW_of (r:=l.row.toRowW) (X:=(true==true))
  (show WShape.has [] (.bool true) .bool=true by first|rfl|decide|simp[WShape.has,WShape.arms,WShape.armsAll])
  (show(WTm.eq .res (.lit (.bool true))).value [] { args:=args,res:=some (.bool true),after:=args }=some (.bool (true==true)) from w_eq_bool (w_res rfl) w_lit) rfl
theorem K6{l:OpenLaw}{n:Nat}{q:Program}{loose:List Str}{XP:(Str->Option Value)->Heap->Prop}{YP:World->Heap->Prop}{d:DefRec}(hn:l.most=some n)(hdf:d.params.defaults=[])(call:∀(w:World) (s₀ s₁:Shared) (mg mb:Str->Option Value) (fa:Addr) (o:Obj) (pm cd doc:Value) (a:Addr) (vs:List Value) (ns:List Int),
   Ground q loose [] XP w s₀ mg mb s₁.heap->YP w s₁.heap ->
   s₁.heap.get? fa=some o->o.data=.func (docDef d.name d.params d.body d.scope pm cd doc)->s₁.heap.CodeRec cd d.name->mg d.name=some (.ref fa) ->
   s₁.heap.get? a=some { cls:=.type "list",data:=.seq vs.toArray }->IntsAre vs ns->ns.length<=n->s₁.gens = #[] ->
   codeAny (model l.prog w) callerA (.call (.ref fa) ⟨[.ref a],[]⟩) (fun r s'=>r=.ok (.ret (.bool true))/\OldK s₁.heap s'.heap/\s'.os=s₁.os/\AllBare s'.gens) s₁):
  WalkO q loose XP YP l.row.toRowW d [] (fun f vs=>PySem.call f vs):=by
 intro w s₀ s₁ mg mb G Y fa o pm cd doc dV kV ho hd hcd hD hmg hg args vals as hpre hlay hrd hwl hlo;obtain rfl:dV=.none:=Dflts.none hD hdf;obtain rfl:kV=.none:=Dflts.noKw hD;obtain⟨a,vs,ns,rfl,rfl,hobj,hints,hlen⟩:=Pf hn hpre hwl;refine enter_call (codeAny_mono (call w s₀ s₁ mg mb fa o pm cd doc a vs ns G Y ho (fd_plain hd) hcd hmg hobj hints hlen hg) fun r s' hq=>?_);obtain⟨rfl,h2,h3,h4⟩:=hq;exact⟨.inl ⟨.bool true,.bool true,[],rfl,fun _=>rfl,.bool true,O3 l _,fun _=>⟨List.Pairwise.nil,fun _ hm=>(nomatch hm)⟩⟩,h2,h3,h4⟩
section
variable{prog:Program}{w:World}{A:Around}{E:Value->Shared->Prop}{s:Shared}{K:Frag}
end
end Att
namespace L2
open PySem PySem.Spec PyProof.Rows
theorem Pr{vs:List Value}{ns:List Int}(h:IntsAre vs ns):Vals (ns.map V.int) vs:=by
 induction h with
 | nil=>exact .nil
 | cons n t h ih=>exact .cons ⟨t,rfl⟩ ih
noncomputable def RE(H:Hp):Prop:=∀b,H b=none\/(∃o xs,H b=some (.frz o (.lst xs)))\/∃ps,H b=some (.tbl ps)
noncomputable def Hv(K:Frag)(b:Addr):Prop:=∃c,PySem.W.tabIn K Be=some (c,b)
noncomputable def Tx(K:Frag)(H:Hp):Hp:=fun b=>by classical exact if Hv K b then some (.tbl #[.str BX 0]) else H b
theorem Tz{K:Frag}{H:Hp}{b:Addr}(h:Hv K b):Tx K H b=some (.tbl #[.str BX 0]):=if_pos h
theorem Mh{K:Frag}{H:Hp}{b:Addr}(h:¬Hv K b):Tx K H b=H b:=if_neg h
theorem Qr{P:Program}{w:World}{K:Frag}{mg mb:Str->Option Value}{CX:CXT}{k:Nat}{fa a:Addr}{fd:FuncData}{x:Str}{sp:Sp}{s₁:Shared}{vs:List Value}{ns:List Int}(KX:K.In s₁.heap)(hns:s₁.heap.Ns mainGlobals mg)(hb:s₁.heap.Ns builtinsNs mb)(hbb:∀x:Str,x ≠ "__name__" -> mb x=bootBuiltins x)(hlim:s₁.heap.NoLimit)(hg:s₁.gens = #[])(ha:s₁.heap.get? a=some { cls:=.type "list",data:=.seq vs.toArray })(hi:IntsAre vs ns)(hl:ns.length<=sizeLine)(hr:Room k callerA)(F:∀base:Heap,K.In base->base.Ns mainGlobals mg->FnOk P w K mg base CX k fa fd [x] sp)(hbind:∀(s:Shared) (u:Value),BindsTo s fd ⟨[u],[]⟩ [(x,u)])(hsp:∀H:Hp,RE H->SqL K H a (ns.map V.int)->sp [.ref a] H (fun v _=>v=.bl true) fun _ _ _=>False)(hCX:∀H e s',CX [] H s₁ (fun _ _ _=>False) e s'->False)(hT:∀c b,PySem.W.tabIn K Be=some (c,b)->PySem.W.CodeHd s₁.heap c b/\s₁.heap.get? b=some { cls:=.none,data:=.fields #[] }/\K.lookup b=none)(hbm:∃bm ob,mg "__builtins__" = some (.ref bm)/\bm≠builtinsNs/\s₁.heap.get? bm=some ob/\ob.cls=.type "module" /\ ob.dict=some builtinsNs/\ob.data=.plain):
  codeAny (model P w) callerA (.call (.ref fa) ⟨[.ref a],[]⟩) (fun r s'=>r=.ok (.ret (.bool true))/\OldK s₁.heap s'.heap/\s'.os=s₁.os/\AllBare s'.gens) s₁:=by
 have rv:=Pr hi;have lenV:=hi.length;have naT:¬Hv K a:=fun⟨c,e⟩=>by
  obtain⟨_,e2,_⟩:=hT c a e;rw[ha] at e2; cases e2
 have core:∀H₁:Hp,(∀b,H₁ b=none\/∃o xs,H₁ b=some (.frz o (.lst xs)))->SqL K (Tx K H₁) a (ns.map V.int)->HOk P w H₁ s₁.heap->(∀b,H₁ b≠none->b=a)->(H₁ a≠none->K.lookup a=none) ->
   codeAny (model P w) callerA (.call (.ref fa) ⟨[.ref a],[]⟩) (fun r s'=>r=.ok (.ret (.bool true))/\OldK s₁.heap s'.heap/\s'.os=s₁.os/\AllBare s'.gens) s₁:=by
  intro H₁ hO₁ hS hok₁ hA₁ hK₁;generalize hH:Tx K H₁=H at hS;have hin:∀{b},Hv K b->H b=some (.tbl #[.str BX 0]):=fun h=>by rw[<- hH]; exact Tz h
  have hout:∀{b},¬Hv K b->H b=H₁ b:=fun h=>by rw[<- hH]; exact Mh h
  have hO:RE H:=fun b=>by
   by_cases q:Hv K b
   .exact .inr (.inr ⟨_,hin q⟩)
   .rw[hout q]
    exact(hO₁ b).imp id .inl
  have hok:HOk P w H s₁.heap:=fun b u e=>by
   by_cases q:Hv K b
   .rw[hin q] at e; cases e
    obtain⟨c,ec⟩:=q;exact⟨#[],(hT c b ec).2.1,trivial,fun pos c h=>by cases h⟩
   .rw[hout q] at e
    rcases hO₁ b with z|⟨o,xs,z⟩
    .rw[z] at e; cases e
    .rw[z] at e; cases e
     obtain⟨e1,e2⟩:=hok₁ b _ z;exact⟨e1,e2⟩
  have hA:∀b,H b≠none->b=a\/Hv K b:=fun b z=>by
   by_cases q:Hv K b
   .exact .inr q
   .rw[hout q] at z; exact .inl (hA₁ b z)
  have base_of:∀{b:Addr} {o:Obj},s₁.heap.get? b=some o->H b=none->(IZ s₁.heap H).get? b=some o:=fun e n=>P6 e n;have noA:∀{b:Addr} {o:Obj} {es:Array DictEntry} {ep:Nat},s₁.heap.get? b=some o->o.data=.dict es ep->H b=none:=fun {b o es ep} e d=>by
   cases q:H b with
   | none=>rfl
   | some u =>
    rcases hA b (by rw[q]; simp) with e'|⟨c,ec⟩
    .subst e'
     rw[ha] at e; cases e;have d':Data.seq vs.toArray _=Data.dict es ep:=d;cases d'
    .rw[(hT c b ec).2.1] at e; cases e
     have d':Data.fields _=Data.dict es ep:=d;cases d'
  have nsK:∀{b:Addr} {m:Str->Option Value},s₁.heap.Ns b m->(IZ s₁.heap H).Ns b m:=fun {b m} ⟨o,es,ep,e,d,r⟩=>⟨o,es,ep,base_of e (noA e d),d,r⟩;have hKb:K.In (IZ s₁.heap H):=fun b o e=>base_of (KX b o e) (by
   cases q:H b with
   | none=>rfl
   | some u =>
    rcases hA b (by rw[q]; simp) with e'|⟨c,ec⟩
    .subst e'
     rw[hout naT] at q;rw[hK₁ (by rw[q]; simp)] at e; cases e
    .rw[(hT c b ec).2.2] at e; cases e)
  have bmK:∃bm ob,mg "__builtins__" = some (.ref bm)/\bm≠builtinsNs/\(IZ s₁.heap H).get? bm=some ob/\ob.cls=.type "module" /\ ob.dict=some builtinsNs/\ob.data=.plain:=by
   obtain⟨bm,ob,m1,m2,m3,m4,m5,m6⟩:=hbm;refine⟨bm,ob,m1,m2,base_of m3 ?_,m4,m5,m6⟩;cases q:H bm with
   | none=>rfl
   | some u =>
    rcases hA bm (by rw[q]; simp) with e'|⟨c,ec⟩
    .subst e'
     rw[ha] at m3; cases m3;cases m6
    .rw[(hT c bm ec).2.1] at m3; cases m3
     cases m6
  have hM:Mod K mg (IZ s₁.heap H):=⟨hKb,nsK hns,⟨mb,nsK hb,hbb⟩,let⟨mc,h1,h2⟩:=hlim; ⟨mc,nsK h1,h2⟩,bmK⟩;have e0:Env0 P w K mg (IZ s₁.heap H) callerA [] s₁ H:=⟨rfl,hM,fun b o e=>Sj e,Nat.le_of_eq (OE _ _),trivial,fun b hb=>absurd (show b∈([]:List Addr) from hb) (by simp),hok,.of_eq hg,fun c b e=>⟨_,hin ⟨c,e⟩,rfl⟩⟩;refine codeAny_mono ((F _ hKb (nsK hns)).run callerA [] s₁ H ⟨[.ref a],[]⟩ [.ref a] [.ref a] _ _ hr e0 (hbind s₁ (.ref a)) (.cons rfl .nil) (hsp H hO hS)) fun r s' h=>?_;cases r with
  | error e=>exact(hCX H e s' h).elim
  | ok fl =>
   cases fl with
   | next=>exact False.elim h
   | brk=>exact False.elim h
   | cont=>exact False.elim h
   | ret u =>
    obtain⟨v,H',os,bare,un,hok',r',q⟩:=h;have q':v=.bl true:=q;subst q';obtain rfl:u=Value.bool true:=r';have fin:∀b o,s₁.heap.get? b=some o->s'.heap.get? b=some o\/∃qs,Hv K b/\s'.heap.get? b=some { cls:=.none,data:=.fields qs }:=fun b o e=>by
     cases q:H b with
     | none=>exact .inl (un.keep b o e q (by intro z; exact absurd (show b∈([]:List Addr) from z) (by simp)) (by simp))
     | some u =>
      by_cases tq:Hv K b
      .rw[hin tq] at q; cases q
       obtain⟨more,z2⟩:=un.tbls b _ (hin tq);obtain⟨qs,e2,_⟩:=hok' b _ z2;exact .inr ⟨qs,tq,e2⟩
      .rcases hO₁ b with z|⟨ob,xs,z⟩
       .rw[hout tq,z] at q; cases q
       .have z2:=un.frzs b ob _ (by rw[hout tq]; exact z)
        obtain⟨e1,_⟩:=hok₁ b _ z;obtain⟨e2,_⟩:=hok' b _ z2;rw[e] at e1; cases e1;exact .inl e2
    refine⟨rfl,⟨fun b o e=>?_,fun b o e=>?_⟩,os,bare⟩
    .rcases fin b o e with z|⟨qs,⟨c,ec⟩,z⟩
     .exact .inl z
     .obtain⟨h1,h2,_⟩:=hT c b ec
      rw[e] at h2; cases h2;refine .inr (.inl ⟨(h1.tab e).isCodeTable,rfl,#[],qs,rfl,?_⟩);rw[z]; simp
    .rcases fin b o e with z|⟨qs,_,z⟩
     .exact⟨_,z⟩
     .exact⟨_,z⟩
 cases hk:K.lookup a with
 | some o =>
  -- the script is one of the module's own objects
  have e:=KX a o hk;rw[ha] at e;cases e;refine core (fun _=>none) (fun _=>.inl rfl) (.inr ⟨_,vs.toArray,_,hk,rfl,rfl,rfl,by rw[size_toArray,lenV]; exact hl,by simpa using rv⟩) (fun b u z=>by have z':(none:Option HO)=some u:=z; cases z') (fun b z=>absurd rfl z) fun z=>absurd rfl z
 | none =>
  refine core (fun b=>if b=a then some (.frz { cls:=.type "list",data:=.seq vs.toArray } (.lst (ns.map V.int))) else none) (fun b=>?_) (.inl (.inr ⟨{ cls:=.type "list",data:=.seq vs.toArray },by rw[Mh naT]; exact if_pos rfl⟩)) (fun b u z=>?_) (fun b z=>?_) fun _=>hk
  .by_cases hb:b=a
   .exact .inr ⟨_,_,if_pos hb⟩
   .exact .inl (if_neg hb)
  .by_cases hb:b=a
   .have z':=(if_pos hb).symm.trans z
    cases z';subst hb;exact⟨ha,by rw[length_map]; exact hl,vs,_,rv,ha⟩
   .have z':=(if_neg hb).symm.trans z
    cases z'
  .by_cases hb:b=a
   .exact hb
   .exact absurd (if_neg hb) z
end L2
namespace L2
open PySem PySem.Spec PyProof.Rows
noncomputable abbrev KOf{K:Frag}{h:Heap}(_:K.In h):Frag:=K
theorem TC{l:PySem.W.OpenLaw}{n k:Nat}{q:Program}{loose:List Str}{XP:(Str->Option Value)->Heap->Prop}{YP:World->Heap->Prop}{d:DefRec}{K:Params->Frag}{CX:World->CXT}{sp:World->Sp}{x:Str}(hn:l.most=some n)(hn2:n<=sizeLine)(hdf:d.params.defaults=[])(hr:Room k callerA)(hY:∀(w:World) (h:Heap),YP w h->(K w.params).In h)(F:∀(w:World) (mg:Str->Option Value) (fa:Addr) (h:Heap),(K w.params).In h->h.Ns mainGlobals mg->mg d.name=some (.ref fa) ->
   ∃fd:FuncData,(∀(s:Shared) (u:Value),BindsTo s fd ⟨[u],[]⟩ [(x,u)]) /\
    ∀base:Heap,(K w.params).In base->base.Ns mainGlobals mg->FnOk l.prog w (K w.params) mg base (CX w) k fa fd [x] (sp w))(hsp:∀(w:World) (H:Hp) (a:Addr) (ns:List Int),ns.length<=n->RE H->SqL (K w.params) H a (ns.map V.int)->sp w [.ref a] H (fun v _=>v=.bl true) fun _ _ _=>False)(hCX:∀(w:World) (H:Hp) (s:Shared) (e:Value) (s':Shared),CX w [] H s (fun _ _ _=>False) e s'->False)(hT:∀(w:World) (c b:Addr),PySem.W.tabIn (K w.params) Be=some (c,b)->(∃d',(recsOf q).find? (fun e=>e.name==Be)=some d')/\(K w.params).lookup b=none):
  PySem.W.WalkO q loose XP YP l.row.toRowW d [] (fun f vs=>PySem.call f vs):=by
 refine Att.K6 hn hdf fun w s₀ s₁ mg mb fa o pm cd doc a vs ns G Y ho hd hcd hmg hobj hints hlen hg=>?_;have KX:=hY w _ Y;obtain⟨fd,hb,hF⟩:=F w mg fa _ KX G.T.g hmg;exact Qr KX G.T.g G.T.b G.T.builtins G.T.nolimit hg hobj hints (le_trans hlen hn2) hr hF hb (fun H hO hS=>hsp w H a ns hlen hO hS) (fun H e s'=>hCX w H s₁ e s') (fun c b e=>by
  obtain⟨⟨d',hd'⟩,hk⟩:=hT w c b e;obtain⟨z1,z2⟩:=PySem.W.tab_of G.T KX hd' e;exact⟨z1,z2,hk⟩) G.T.bmain
end L2

namespace L2
open PySem PySem.Spec PyProof.Rows
noncomputable def Ec(s:Stmt):Arguments:=match s with
 | .FunctionDef _ a _ _ _ _ _ _ _ _=>a
 | _=>{ posonlyargs:=[],args:=[],vararg:=none,kwonlyargs:=[],kw_defaults:=[],kwarg:=none,defaults:=[] }
noncomputable def BV(s:Stmt):List Stmt:=match s with
 | .FunctionDef _ _ b _ _ _ _ _ _ _=>b
 | _=>[]
noncomputable def As(s:Stmt):Scope:=match s with
 | .FunctionDef _ _ _ _ _ _ sc _ _ _=>sc
 | _=>{ kind:=.function,names:=[],isGenerator:=false,isCoroutine:=false }
noncomputable abbrev CX0:CXT:=fun _ _ _ _ _ _=>False
noncomputable abbrev E0:XK:=fun _ _ _=>False
theorem AO{X:Cx}:Passes CX0 X E0:=fun _ _ _ _ _ _ _ h=>h.elim
structure Fun (K:Frag) (x qual:Str) (st:Stmt) (f:Addr) (fd:FuncData):Prop where
 ex:∃(oc:Value) (od:Option Addr) (kV doc pm:Value) (an:Option Addr) (cdv ct:Value) (osl:Array (Option Value)),
  fd=PySem.W.fnOf x qual (Ec st) (BV st) (As st) .none kV doc pm an cdv ct/\K.lookup f=some ⟨oc,od,.func fd,osl⟩/\PySem.W.codeIn K cdv qual=true
 kp:PySem.W.keepIn K (.ref f)=true
section
variable{P:Program}{w:World}{K:Frag}{mg:Str->Option Value}{base:Heap}
theorem Fun.ok{x qual:Str}{st:Stmt}{f:Addr}{fd:FuncData}{N ps:List Str}{k:Nat}{sp:Sp}(F:Fun K x qual st f fd)(S:FnScope N ps (As st))(len:∀vs H Q E,sp vs H Q E->vs.length=ps.length)(hbody:∀(cdv:Value) (A:Around) (outer:List Env) (s:Shared) (H:Hp) (vs:List V) (Q:VK) (E:XK),Room k (A.deeper (envOfC qual (As st) s.heap.objs.size f cdv))->sp vs H Q E ->
   ∃t,PSs (Bx CX0 P w K mg base N qual (As st) f cdv A outer s H E).nox (BV st) t/\t { nx:=fun _ H'=>Q .non H',rt:=Q } (start N vs) H):FnOk P w K mg base CX0 (k+1) f fd ps sp:=by
 obtain⟨oc,od,kV,doc,pm,an,cdv,ct,osl,rfl,lk,hcd⟩:=F.ex;refine PU lk hcd S len fun A outer s H vs Q E hr hsp=>?_;obtain⟨t,h,q⟩:=hbody cdv A outer s H vs Q E hr hsp;exact⟨t,h.nox,q⟩
theorem Fun.binds{x qual:Str}{st:Stmt}{f:Addr}{fd:FuncData}{ps:List Str}(F:Fun K x qual st f fd)(h:∀(kV doc pm:Value) (an:Option Addr) (cdv ct:Value) (us:List Value),us.length=ps.length->bindArgs (PySem.W.fnOf x qual (Ec st) (BV st) (As st) .none kV doc pm an cdv ct) ⟨us,[]⟩=pure (ps.zip us)):Binds K fd ps []:=by
 obtain⟨oc,od,kV,doc,pm,an,cdv,ct,osl,rfl,lk,hcd⟩:=F.ex;exact .all (h kV doc pm an cdv ct)
theorem Uy{x qual:Str}{st:Stmt}{f:Addr}{oc:Value}{od an:Option Addr}{osl:Array (Option Value)}{kV doc pm cdv ct:Value}(l:K.lookup f=some ⟨oc,od,.func (PySem.W.fnOf x qual (Ec st) (BV st) (As st) .none kV doc pm an cdv ct),osl⟩)(c:PySem.W.codeIn K cdv qual=true)(k:PySem.W.keepIn K (.ref f)=true):Fun K x qual st f (PySem.W.fnOf x qual (Ec st) (BV st) (As st) .none kV doc pm an cdv ct):=⟨⟨oc,od,kV,doc,pm,an,cdv,ct,osl,rfl,l,c⟩,k⟩
end
theorem WE{A:Around}{k:Nat}(hr:Room k A):A.units+1<cLine:=Nat.lt_of_le_of_lt (Nat.add_le_add_left (by decide:1<=64) _) hr.units
section
variable{X:Cx}
end
noncomputable def DL(H H':Hp):Prop:=∀b o,H b=some o->H' b=some o
end L2
end
section
namespace L2
open PySem PySem.Spec PyProof.Rows
section
variable{M:Model}{A:Around}{E:Value->Shared->Prop}{s:Shared}
noncomputable def A2(h:Heap)(a:Addr):Prop:=∃(o:Obj) (vs:Array Value),h.get? a=some o/\o.data=.fields vs/\vs[2]? = some .none
theorem A2.keeps{h h':Heap}{a:Addr}(x:A2 h a)(k:∀b o,h.get? b=some o->h'.get? b=some o):A2 h' a:=let⟨o,vs,e,r⟩:=x; ⟨o,vs,k _ _ e,r⟩
theorem A2.lt{h:Heap}{a:Addr}(x:A2 h a):a<h.objs.size:=let⟨_,_,e,_⟩:=x; lt_size e
theorem Ju{e:Addr}{h:Heap}{oe:Obj}{vs:Array Value}{x:Value}(he:h.get? e=some oe)(hd:oe.data=.fields vs)(h2:vs[2]? = some .none):A2 (h.update e (Obj.mapFields (·.setIfInBounds 1 x))) e:=
 ⟨_,_,Heap.get?_update_self _ he (Obj.isFreed_of_fields (Obj.data_mapFields hd _)),Obj.data_mapFields hd _,by rw[Array.getElem?_setIfInBounds_ne (by decide)]; exact h2⟩
theorem A2.other{e T:Addr}{h:Heap}{f:Obj->Obj}(p:A2 h e)(ne:T≠e):A2 (h.update T f) e:=by
 obtain⟨o,vs,h1,r⟩:=p;exact⟨o,vs,(Heap.get?_update_other _ _ ne).trans h1,r⟩
theorem F8{base:Heap}{l:List Env}{e:Addr}{cls a0 fl:Value}{Q:Unit->Shared->Prop}(f1:base.StaysIn s.heap)(f2:base.get? e=none)(f3:s.heap.FunFrames base l)(f4:s.heap.TracedAtW base e cls a0 fl)(hp:A2 s.heap e)(hQ:∀h',Heap.FlyingW base l e cls a0 h'->s.heap.UpToSlots h'->A2 h' e->Q () { s with heap:=h' }):wpAny M A (setFlight (.ref e) none) Q E s:=by
 obtain⟨oe,vs,T,oT,ts,he,hc,hd,h1,hnT,hTe,hT,hdT,h3⟩:=f4;have hs3:3<ts.size:=(Array.getElem?_eq_some_iff.mp h3).1;have nf:∀b o,s.heap.get? b=some o->(∀ws,o.data≠.fields ws)->b≠T:=fun b o q n z=>by
  subst z; rw[hT] at q; cases q; exact n _ hdT
 unfold setFlight;refine wpAny_bind (wpAny_field he hd h1 ?_);rw[if_pos (show(Value.ref T != Value.none)=true from by simp)];refine wpAny_setField hT hdT hs3 (hQ _ ⟨fun b o q=>?_,f2,f3.of_keeps fun b o q n=>⟨o,(Heap.get?_update_other _ _ (nf b o q n).symm).trans q,rfl⟩,oe,vs,T,_,_,(Heap.get?_update_other _ _ hTe).trans he,hc,hd,h1,hnT,hTe,
  Heap.get?_update_self _ hT (Obj.isFreed_of_fields (Obj.data_mapFields hdT _)),Obj.data_mapFields hdT _,by simp[hs3]⟩ (fun b o q n=>⟨o.slots,(Heap.get?_update_other _ _ (nf b o q n).symm).trans q⟩) (hp.other hTe))
 refine(Heap.get?_update_other _ _ fun z=>?_).trans (f1 b o q);subst z; rw[hnT] at q; cases q
theorem Lz{base:Heap}{l:List Env}{e:Addr}{cls a0:Value}{Q:Unit->Shared->Prop}(hh:Heap.FlyingW base l e cls a0 s.heap)(hp:A2 s.heap e)(hQ:∀h',Heap.FlyingW base l e cls a0 h'->s.heap.UpToSlots h'->A2 h' e->Q () { s with heap:=h' }):wpAny M A (setFlight (.ref e) none) Q E s:=
 F8 hh.1 hh.2.1 hh.2.2.1 hh.2.2.2.at hp hQ
theorem Lg{base:Heap}{env:Env}{outer:List Env}{L e:Addr}{oe:Obj}{vs:Array Value}{head a0:Value}{hadNext:Bool}{Q:Unit->Shared->Prop}(hfr:A.frames=some (env::outer))(f3:s.heap.FunFrames base (env::outer))(hf:env.frame=some L)(he:s.heap.get? e=some oe)(f1:base.StaysIn s.heap)(f2:base.get? e=none)(hd:oe.data=.fields vs)(hsz:1<vs.size)(h0:vs[0]? = some a0)(h2:vs[2]? = some .none)(hQ:∀h',Heap.FlyingW base (env::outer) e oe.cls a0 h'->s.heap.UpToSlots h'->A2 h' e->Q () { s with heap:=h' }):
  wpAny M A (do let a <- frameOf env; let pl <- entryPlaceOf L hadNext; let b <- EntryCells.newEntry head a .none (rawInt L) .none pl; setField (.ref e) 1 b) (fun _ s'=>wpAny M A (setFlight (.ref e) none) Q E s') E s:=by
 have ne:e∉(env::outer).filterMap (·.frame):=fun z=>by
  obtain⟨_,o,q,n⟩:=f3.mem z;rw[he] at q; cases q; exact n _ hd
 refine wpAny_bind (wpAny_frameOf_fun hfr f3 hf fun h₁ so=>wpAny_bind (wpAny_entryPlaceOf fun pl hpl=>?_));unfold EntryCells.newEntry newFields;refine wpAny_bind (wpAny_newObj_type ?_ (hpl.sizeOk5 _ _ _ _ _));have e1:h₁.get? e=some oe:=(so.2.1 e ne).trans he;have b1:base.StaysIn h₁:=fun b o q=>(so.2.1 b fun z=>by rw[(f3.mem z).1] at q; cases q).trans (f1 b o q);have tn:h₁.objs.size≠e:=ne_of_gt (lt_size e1);generalize hob:({ cls:=.type "traceback",dict:=none,data:=.fields ([head,.ref L,.none,rawInt L,.none]++(if pl.isEmpty then List.replicate 6 Value.none else pl)).toArray }:Obj)=ob;have pT:(h₁.push ob).get? h₁.objs.size=some ob:=Heap.get?_push_size h₁ (by subst hob; rfl);have k1:∀b o,b≠e->h₁.get? b=some o->((h₁.push ob).update e (Obj.mapFields (·.setIfInBounds 1 (.ref h₁.objs.size)))).get? b=some o:=fun b o n q=>(Heap.get?_update_other _ _ (Ne.symm n)).trans (Heap.get?_push_of_some ob q);have e2:=Heap.get?_push_of_some ob e1;have nf:∀b o,s.heap.get? b=some o->(∀ws,o.data≠.fields ws)->b≠e:=fun b o q n z=>by
  subst z; rw[he] at q; cases q; exact n _ hd
 have up:s.heap.UpToSlots ((h₁.push ob).update e (Obj.mapFields (·.setIfInBounds 1 (.ref h₁.objs.size)))):=fun b o q n=>by
  obtain⟨sl,w⟩:=so.2.2 b o q;exact⟨sl,k1 b _ (nf b o q n) w⟩
 refine wpAny_setField e2 hd hsz (F8 (fl:=rawInt L) (base:=base) (l:=env::outer) (cls:=oe.cls) (a0:=a0) (fun b o q=>k1 b o (fun z=>by subst z; rw[f2] at q; cases q) (b1 b o q)) f2 (f3.of_keeps fun b o q n=>?_) ?_ (Ju e2 hd h2) fun h' F u p=>hQ h' F (up.trans u) p)
 .obtain⟨sl,w⟩:=so.2.2 b o q
  exact⟨_,k1 b _ (nf b o q n) w,rfl⟩
 .refine⟨_,_,h₁.objs.size,ob,_,Heap.get?_update_self _ e2 (Obj.isFreed_of_fields (Obj.data_mapFields hd _)),⟨Obj.cls_mapFields _ _,by rw[Array.getElem?_setIfInBounds_ne (by decide)]; exact h0⟩,Obj.data_mapFields hd _,by simp[hsz],b1.fresh,tn,(Heap.get?_update_other _ _ (Ne.symm tn)).trans pT,by subst hob; rfl,?_⟩
  simp
theorem Mx{base:Heap}{env:Env}{outer:List Env}{L e:Addr}{oe:Obj}{vs:Array Value}{head a0:Value}{hadNext:Bool}{Q:Unit->Shared->Prop}(hfr:A.frames=some (env::outer))(f3:s.heap.FunFrames base (env::outer))(hf:env.frame=some L)(he:s.heap.get? e=some oe)(f1:base.StaysIn s.heap)(f2:base.get? e=none)(hd:oe.data=.fields vs)(hsz:1<vs.size)(h0:vs[0]? = some a0)(h2:vs[2]? = some .none)(hQ:∀h',Heap.HeldW base (env::outer) e oe.cls a0 L h'->s.heap.UpToSlots h'->A2 h' e->Q () { s with heap:=h' }):
  wpAny M A (do let a <- frameOf env; let pl <- entryPlaceOf L hadNext; let b <- EntryCells.newEntry head a .none (rawInt L) .none pl; setField (.ref e) 1 b) Q E s:=by
 have ne:e∉(env::outer).filterMap (·.frame):=fun z=>by
  obtain⟨_,o,q,n⟩:=f3.mem z;rw[he] at q; cases q; exact n _ hd
 refine wpAny_bind (wpAny_frameOf_fun hfr f3 hf fun h₁ so=>wpAny_bind (wpAny_entryPlaceOf fun pl hpl=>?_));unfold EntryCells.newEntry newFields;refine wpAny_bind (wpAny_newObj_type ?_ (hpl.sizeOk5 _ _ _ _ _));have e1:h₁.get? e=some oe:=(so.2.1 e ne).trans he;have b1:base.StaysIn h₁:=fun b o q=>(so.2.1 b fun z=>by rw[(f3.mem z).1] at q; cases q).trans (f1 b o q);have tn:h₁.objs.size≠e:=ne_of_gt (lt_size e1);generalize hob:({ cls:=.type "traceback",dict:=none,data:=.fields ([head,.ref L,.none,rawInt L,.none]++(if pl.isEmpty then List.replicate 6 Value.none else pl)).toArray }:Obj)=ob;have pT:(h₁.push ob).get? h₁.objs.size=some ob:=Heap.get?_push_size h₁ (by subst hob; rfl);have k1:∀b o,b≠e->h₁.get? b=some o->((h₁.push ob).update e (Obj.mapFields (·.setIfInBounds 1 (.ref h₁.objs.size)))).get? b=some o:=fun b o n q=>(Heap.get?_update_other _ _ (Ne.symm n)).trans (Heap.get?_push_of_some ob q);have e2:=Heap.get?_push_of_some ob e1;have nf:∀b o,s.heap.get? b=some o->(∀ws,o.data≠.fields ws)->b≠e:=fun b o q n z=>by
  subst z; rw[he] at q; cases q; exact n _ hd
 have up:s.heap.UpToSlots ((h₁.push ob).update e (Obj.mapFields (·.setIfInBounds 1 (.ref h₁.objs.size)))):=fun b o q n=>by
  obtain⟨sl,w⟩:=so.2.2 b o q;exact⟨sl,k1 b _ (nf b o q n) w⟩
 refine wpAny_setField e2 hd hsz (hQ _ ⟨fun b o q=>k1 b o (fun z=>by subst z; rw[f2] at q; cases q) (b1 b o q),f2,f3.of_keeps fun b o q n=>?_,?_⟩ up (Ju e2 hd h2))
 .obtain⟨sl,w⟩:=so.2.2 b o q
  exact⟨_,k1 b _ (nf b o q n) w,rfl⟩
 .refine⟨_,_,h₁.objs.size,ob,_,Heap.get?_update_self _ e2 (Obj.isFreed_of_fields (Obj.data_mapFields hd _)),⟨Obj.cls_mapFields _ _,by rw[Array.getElem?_setIfInBounds_ne (by decide)]; exact h0⟩,Obj.data_mapFields hd _,by simp[hsz],b1.fresh,tn,(Heap.get?_update_other _ _ (Ne.symm tn)).trans pT,by subst hob; rfl,?_⟩
  simp
theorem A2.two{e:Addr}{h:Heap}{oe:Obj}{vs:Array Value}(p:A2 h e)(he:h.get? e=some oe)(hd:oe.data=.fields vs):vs[2]? = some .none:=by
 obtain⟨o',vs',q1,q2,q3⟩:=p;rw[he] at q1; cases q1;rw[hd] at q2; cases q2;exact q3
theorem LB{base:Heap}{env:Env}{outer:List Env}{L e:Addr}{cls a0:Value}{Q:Unit->Shared->Prop}(hfr:A.frames=some (env::outer))(hf:env.frame=some L)(hfl:Heap.FlyingW base (env::outer) e cls a0 s.heap)(hp:A2 s.heap e)(hQ:∀h',Heap.HeldW base (env::outer) e cls a0 L h'->s.heap.UpToSlots h'->A2 h' e->Q () { s with heap:=h' }):wpAny M A (noteFrame (.ref e) env) Q E s:=by
 obtain⟨f1,f2,f3,oe,vs,T,oT,ts,he,⟨rfl,h0⟩,hd,h1,hnT,hTe,hT,hdT,h3⟩:=hfl;have nf:∀b o,s.heap.get? b=some o->(∀ws,o.data≠.fields ws)->b≠T:=fun b o q n z=>by
  subst z; rw[hT] at q; cases q; exact n _ hdT
 have k1:∀b,b≠T->(s.heap.update T (Obj.mapFields (·.setIfInBounds 3 Value.none))).get? b=s.heap.get? b:=fun b n=>Heap.get?_update_other _ _ (Ne.symm n);unfold noteFrame;simp only[hf];refine wpAny_bind (wpAny_field he hd h1 ?_);rw[if_pos (show(Value.ref T != Value.none)=true from by simp)];refine wpAny_bind (wpAny_field hT hdT h3 ?_);rw[if_neg (show ¬((Value.none==rawInt L)=true) from by simp[rawInt])];refine wpAny_bind (wpAny_setField hT hdT (Array.getElem?_eq_some_iff.mp h3).1 ?_);refine Mx hfr (f3.of_keeps fun b o q n=>⟨o,(k1 b (nf b o q n)).trans q,rfl⟩) hf ((k1 e (Ne.symm hTe)).trans he) (fun b o q=>(k1 b fun z=>by subst z; rw[hnT] at q; cases q).trans (f1 b o q)) f2 hd
  (Array.getElem?_eq_some_iff.mp h1).1 h0 (hp.two he hd) fun h' F u p=>?_
 exact hQ h' F (fun b o q n=>u b o ((k1 b (nf b o q n)).trans q) n) p
theorem LA{base h:Heap}{env:Env}{outer:List Env}{L e:Addr}{cls:Value}{args:List Value}{Q:Unit->Shared->Prop}(hfr:A.frames=some (env::outer))(hf:env.frame=some L)(hkb:base.StaysIn h)(hl:h.FunFrames base (env::outer))(hx:Heap.MadeExcOf h s.heap e cls args)(hQ:∀h' t,Heap.FlyingW base outer e cls (.ref t) h'->s.heap.UpToSlots h'->A2 h' e->Q () { s with heap:=h' }):wpAny M A (leaving env (.ref e)) Q E s:=by
 obtain⟨t,he,htn,ht⟩:=hx.there;have fr:base.get? e=none:=by
  cases q:base.get? e with
  | none=>rfl
  | some o=>have:=hkb e o q; rw[hx.new] at this; cases this
 unfold leaving noteFrame;simp only[hf];refine wpAny_bind (wpAny_bind (wpAny_field he rfl (x:=.none) rfl ?_));rw[if_neg (by decide)];refine Lg (a0:=.ref t) hfr (hl.of_keeps fun b o q _=>⟨o,hx.keeps b o q,rfl⟩) hf he (fun b o q=>hx.keeps b o (hkb b o q)) fr rfl (by simp) rfl rfl fun h' F u p=>?_;obtain⟨g1,g2,⟨_,_,g3⟩,g4⟩:=F;exact hQ h' t ⟨g1,g2,g3,g4⟩ u p
end
noncomputable def clo(cells:List (Str×Addr)):List (Str×NameKind)->List (Str×Addr)->List (Str×Addr)
 | [],cs=>cs
 | (n,k)::r,cs=>clo cells r (if (k==.free)=true then (n,(cells.lookup n).getD 0)::cs else cs)
theorem Ld{env:Env}:∀(names:List (Str×NameKind)) (cs:List (Str×Addr)),(∀x∈names,(x.2==.free)=true->(env.cells.lookup x.1).isSome=true) ->
  (forIn names cs fun(x:Str×NameKind) (r:List (Str×Addr))=>(if (x.2==NameKind.free)=true then do let c <- cellOf env x.1; pure (ForInStep.yield ((x.1,c)::r)) else pure (ForInStep.yield r):Sem (ForInStep (List (Str×Addr)))))=pure (clo env.cells names cs)
 | [],cs,_=>rfl
 | (n,k)::r,cs,h=>by
  rw[List.forIn_cons];have hr:=fun cs'=>Ld (env:=env) r cs' fun x hx=>h x (mem_cons_of_mem _ hx);cases hk:(k==NameKind.free) with
  | true =>
   have hc:=h (n,k) mem_cons_self hk;obtain⟨c,hc⟩:=isSome_iff_exists.mp hc;have e:cellOf env n=pure c:=by unfold cellOf; rw[hc]
   dsimp only at hc;simp only[hk,if_true,e,pure_bind];rw[hr];simp only[clo,hk,if_true,hc,getD_some]
  | false =>
   simp only[hk,false_eq_true,if_false,pure_bind];rw[hr];simp only[clo,hk,false_eq_true,if_false]
theorem Mv{env:Env}{scope:Scope}(h:∀x∈scope.names,(x.2==.free)=true->(env.cells.lookup x.1).isSome=true):closureFor scope env=pure (clo env.cells scope.names []):=by
 rw[<- Ld _ _ h];unfold closureFor;simp
theorem J6{cells:List (Str×Addr)}{x:Str}{c:Addr}:∀{names:List (Str×NameKind)} {cs:List (Str×Addr)},(∀y∈names,(y.2==.free)=true->(cells.lookup y.1).isSome=true) ->
  (clo cells names cs).lookup x=some c->cs.lookup x=some c\/cells.lookup x=some c
 | [],_,_,h=>.inl h
 | (n,k)::r,cs,hn,h=>by
  simp only[clo] at h;have hr:=J6 (names:=r) (fun y hy=>hn y (mem_cons_of_mem _ hy)) h;rcases hr with hr|hr
  .cases hk:(k==NameKind.free) with
   | true =>
    simp only[hk,if_true] at hr;rw[lookup_cons] at hr;cases hx:(x==n) with
    | true =>
     simp only[hx] at hr;obtain⟨c',hc'⟩:=isSome_iff_exists.mp (hn (n,k) mem_cons_self hk);have hx':x=n:=by simpa using hx
     rw[hc'] at hr;refine .inr ?_;rw[hx'];exact hc'.trans hr
    | false =>
     simp only[hx] at hr;exact .inl hr
   | false =>
    simp only[hk,false_eq_true,if_false] at hr;exact .inl hr
  .exact .inr hr
theorem Lc{cells:List (Str×Addr)}{x:Str}:∀{names:List (Str×NameKind)} {cs:List (Str×Addr)},(∃c,cs.lookup x=some c)->∃c,(clo cells names cs).lookup x=some c
 | [],_,h=>h
 | (n,k)::r,cs,h=>by
  simp only[clo];refine Lc (names:=r) ?_;cases hk:(k==NameKind.free) with
  | true =>
   simp only[if_true];rw[lookup_cons];cases hx:(x==n) with
   | true=>exact⟨_,rfl⟩
   | false=>exact h
  | false =>
   simp only[false_eq_true,if_false];exact h
theorem Gk{cells:List (Str×Addr)}{x:Str}:∀{names:List (Str×NameKind)} {cs:List (Str×Addr)},names.lookup x=some .free->∃c,(clo cells names cs).lookup x=some c
 | [],_,h=>by simp at h
 | (n,k)::r,cs,h=>by
  rw[lookup_cons] at h;simp only[clo];cases hx:(x==n) with
  | true =>
   simp only[hx] at h;have hk:k=.free:=Option.some.inj h;subst hk;refine Lc (names:=r) ⟨(cells.lookup n).getD 0,?_⟩;rw[if_pos (by decide),lookup_cons];simp only[hx]
  | false =>
   simp only[hx] at h;exact Gk (names:=r) h
noncomputable abbrev cxD(X:Cx)(own:List Str)(scope:Scope)(C:Addr)(cl:List (Str×Addr))(fn:Str->Bool)(s:Shared)(H:Hp)(fp:List Addr)(pins:List (Addr×Obj)):Cx:=
 { X with N:=own++X.N,s₀:=s,H₀:=H,env:=compEnvC scope cl C X.env,outer:=X.stack,ex:=fp,fn:=fn,pn:=X.pn++pins,xe:=fun _ _=>False }
noncomputable abbrev cxC(X:Cx)(own:List Str)(scope:Scope)(C:Addr)(s:Shared)(H:Hp)(fp:List Addr)(pins:List (Addr×Obj)):Cx:=
 cxD X own scope C (clo X.env.cells scope.names []) (fun _=>false) s H fp pins
noncomputable def Ct(own N:List Str)(sc sco:Scope):Bool:=
 N.all (fun x=>match sc.names.lookup x with
  | some .local=>false
  | some .cell=>false
  | some .free=>sco.names.lookup x==some .cell || sco.names.lookup x==some .free
  | _=>true) &&
 sc.names.all (fun y=>(y.2 != .cell)&&(y.2 != .free || sco.names.lookup y.1==some .cell || sco.names.lookup y.1==some .free)&&(y.2 != .local || sc.names.lookup y.1==some .local)) &&
 (sc.kind==.function)&&own.all fun x=>!N.contains x
theorem Bf{env:Env}:∀{names:List (Str×NameKind)} {x:Str} {k:NameKind},
  (names.map fun(n,k)=>if (k==NameKind.free&&env.scope.kind==.function&&env.kindOf n==some .cell) then (n,NameKind.cell) else (n,k)).lookup x=some k ->
  names.lookup x=some k\/(k=.cell/\names.lookup x=some .free)
 | [],_,_,h=>by simp at h
 | (n,j)::r,x,k,h=>by
  have ih:=@Bf env r x k;have h':List.lookup x ((if (j==NameKind.free&&env.scope.kind==.function&&env.kindOf n==some .cell)=true then (n,NameKind.cell) else (n,j))::_)=some k:=h;rw[lookup_cons];cases hx:x==n with
  | true =>
   by_cases hc:(j==NameKind.free&&env.scope.kind==.function&&env.kindOf n==some .cell)=true
   .rw[if_pos hc,lookup_cons] at h'
    simp only[hx] at h';have hj:j=.free:=by
     simp only[and_eq_true] at hc;simpa using hc.1.1
    exact .inr ⟨(Option.some.inj h').symm,by simp only[hj]⟩
   .rw[if_neg hc,lookup_cons] at h'
    simp only[hx] at h';exact .inl h'
  | false =>
   refine ih ?_;by_cases hc:(j==NameKind.free&&env.scope.kind==.function&&env.kindOf n==some .cell)=true
   .rw[if_pos hc,lookup_cons] at h'
    simp only[hx] at h';exact h'
   .rw[if_neg hc,lookup_cons] at h'
    simp only[hx] at h';exact h'
theorem HM{prog:Program}{w:World}{A:Around}{R:Result->Shared->Prop}{s:Shared}{elt target iter:Expr}{ifs:List Expr}{scope:Scope}{pos:Pos}{it acc:Value}{env:Env}(I:Nat->Shared->Prop)(turn:∀n s,I n s->wpAny (model prog w) A (pyNext it) (fun r s₁=>match r with
   | none=>R (.ok .next) s₁
   | some v=>wpAny (model prog w) A (letOwnedTupleGo target it v) (fun _ s₁'=>wpAny (model prog w) A (assign target env v) (fun _ s₂ =>
     wpAny (model prog w) A (forIn ifs true fun c r=>if r=true then do let ok <- isTrue c env (eval c env); pure (ForInStep.yield ok) else pure (ForInStep.yield r)) (fun ok s₃ =>
      if ok=true then wpAny (model prog w) A (eval elt env) (fun x s₄ =>
       wpAny (model prog w) A (call (.builtin "list.append") [acc,x]) (fun _ s₅=>∃m,m<n/\I m s₅) (fun _ _=>False) s₄) (fun _ _=>False) s₃
      else ∃m,m<n/\I m s₃) (fun _ _=>False) s₂) (fun _ _=>False) s₁') (fun _ _=>False) s₁) (fun _ _=>False) s)(n:Nat)(h:I n s):codeAny (model prog w) A (.compLoop (.ListComp elt [⟨target,iter,ifs,0⟩] scope pos) 0 it acc env) R s:=by
 refine codeAny_loop rfl I (fun n s hI=>?_) n h;show wpAny _ A ((compTurn (.ListComp elt [⟨target,iter,ifs,0⟩] scope pos) 0 it acc env).onRaise (fun x=>do noteFrame x env; theTreesLotGoes x)) _ _ s;refine wpAny_noted ?_;rw[compTurn_list];refine wpAny_bind (wpAny_standAt (wpAny_bind (wpAny_mono (turn n s hI) (fun r s₁ h₁=>?_) fun _ _ h'=>h'.elim)));cases r with
 | none=>exact wpAny_pure h₁
 | some v =>
  refine wpAny_bind (wpAny_mono h₁ (fun _ s₁' h₁'=>?_) fun _ _ h'=>h'.elim);refine wpAny_bind (wpAny_mono h₁' (fun _ s₂ h₂=>wpAny_bind (wpAny_mono h₂ (fun ok s₃ h₃=>?_) fun _ _ h'=>h'.elim)) fun _ _ h'=>h'.elim);cases ok with
  | false=>exact wpAny_pure ⟨rfl,h₃⟩
  | true =>
   exact wpAny_bind (wpAny_bind (wpAny_mono h₃ (fun x s₄ h₄=>wpAny_bind (wpAny_mono h₄ (fun _ s₅ h₅=>wpAny_pure (wpAny_pure ⟨rfl,h₅⟩)) fun _ _ h'=>h'.elim)) fun _ _ h'=>h'.elim))
noncomputable def PTs(X:Cx)(ifs:List Expr)(t:TT):Prop:=
 ∀(pins:List (Addr×Obj)) (s:Shared) (U:St) (H:Hp) (Q:Bool->Hp->Prop),Inv X pins U H s->t U H Q ->
  wpAny (model X.prog X.w) X.A (forIn ifs true fun c r=>if r=true then do let ok <- isTrue c X.env (eval c X.env); pure (ForInStep.yield ok) else pure (ForInStep.yield r)) (TP X pins U Q) X.xe s
noncomputable def XO:TT:=fun _ H Q=>Q true H
theorem N4{X:Cx}:PTs X [] XO:=fun _ _ _ H _ I h=>wpAny_tests_nil ⟨H,I,h⟩
theorem SU{X:Cx}{c:Expr}{t:TT}(h:PT X c t):PTs X [c] t:=fun pins s U H Q I q=>wpAny_tests_one (h pins s U H Q I q)
noncomputable abbrev TU:=V->Hp->List V->Prop
noncomputable def PGo(X:Cx)(target:Expr)(n:Nat)(un:TU):Prop:=
 ∀(pins:List (Addr×Obj)) (s:Shared) (σ0 U:St) (H:Hp) (v:V) (u:Value) (vs:List V),σ0.length=n->Inv X pins (σ0++U) H s->RelV v u->un v H vs ->
  wpAny (model X.prog X.w) X.A (assign target X.env u) (fun _ s'=>vs.length=n/\Inv X pins (vs.map some++U) H s') X.xe s
noncomputable def Pp:TU:=fun v _ vs=>vs=[v]
noncomputable def Xl(K:Frag):TU:=fun v H vs=>∃a x y,v=.ref a/\SqT K H a [x,y]/\vs=[x,y]
theorem R9{α:Type}{l:List α}(h:l.length=1):∃o,l=[o]:=by
 cases l with
 | nil=>cases h
 | cons a t=>cases t with
  | nil=>exact⟨a,rfl⟩
  | cons b t=>cases h
theorem Sa{α:Type}{l:List α}(h:l.length=2):∃o p,l=[o,p]:=by
 cases l with
 | nil=>cases h
 | cons a t =>
  obtain⟨p,rfl⟩:=R9 (Nat.succ.inj h);exact⟨a,p,rfl⟩
theorem LX{X:Cx}{x:Str}{pos:Pos}(hi:X.N[0]? = some x)(hN:X.N.Nodup)(hx:X.env.scope.names.lookup x=some .local):PGo X (.Name x pos) 1 Pp:=by
 intro pins s σ0 U H v u vs hl I r h;obtain⟨o,rfl⟩:=R9 hl;cases h;exact wpAny_assign_Name (ED I hN hi (.inl hx) r (fun s' I'=>⟨rfl,I'⟩) (.inr hx))
theorem QK{X:Cx}{x y:Str}{px py pos:Pos}{k:Nat}(hc:X.calm=true)(hi:X.N[0]? = some x)(hj:X.N[1]? = some y)(hN:X.N.Nodup)(hx:X.env.scope.names.lookup x=some .local)(hy:X.env.scope.names.lookup y=some .local):
  PGo X (.Tuple [.Name x px,.Name y py] k pos) 2 (Xl X.K):=by
 intro pins s σ0 U H v u vs hl I r h;obtain⟨o,o',rfl⟩:=Sa hl;obtain⟨a,v1,v2,rfl,hq,rfl⟩:=h;have P:=QJ (X:=X) (pos:=pos) (k:=k) hc (ID (Hz (pos:=px) hN hi (.inl hx) (.inr hx)) (ID (Hz (pos:=py) hN hj (.inl hy) (.inr hy)) N2)) (n:=2);refine thn (P pins s _ H (.ref a) u (fun σ2 H2=>σ2=[v1,v2].map some++U/\H2=H) I r ⟨a,_,rfl,hq,rfl,v1,[v2],rfl,v2,[],rfl,rfl,rfl,rfl⟩) fun _ s1 yy=>?_;obtain⟨σ2,H2,I2,e1,e2⟩:=yy;subst e1; subst e2;exact⟨rfl,I2⟩
noncomputable def LcR(J:It)(un:TU)(tc:TT)(te:TE)(U:St)(H1:Hp)(Q:VK):Prop:=∀acc,H1 acc=none->∃W:Nat->Nat->List V->Hp->Prop,(∃m,W 0 m [] (upd H1 acc (.lst [])))/\∀i m ys H,W i m ys H->H acc=some (.lst ys) /\
 ((J.stop i H/\Q (.ref acc) H)\/(J.go i H/\∀x H',J.yld i H x H'->∃vs,un x H' vs/\tc (vs.map some++U) H' fun b H3 =>
  if b=true then te (vs.map some++U) H3 fun v H4=>H4 acc=some (.lst ys)/\ys.length<sizeLine/\∃m',m'<m/\W (i+1) m' (ys++[v]) (upd H4 acc (.lst (ys++[v])))
  else ∃m',m'<m/\W (i+1) m' ys H3))
noncomputable def tLc(wi:TI)(un:TU)(tc:TT)(te:TE):TE:=fun U H Q=>wi U H fun J H1=>LcR J un tc te U H1 Q
section
variable{X:Cx}{pins:List (Addr×Obj)}{U:St}{H:Hp}{s:Shared}
theorem Ct.free{own:List Str}{scope:Scope}(hok:Ct own X.N scope X.env.scope=true)(I:Inv X pins U H s):∀x∈scope.names,(x.2==NameKind.free)=true->(X.env.cells.lookup x.1).isSome=true:=fun x hx hf=>by
 simp only[Ct,and_eq_true,all_eq_true] at hok;have:=(hok.1.1.2 x hx).1.2;have hf':x.2=.free:=by simpa using hf
 rw[hf'] at this;simp only[bne_self_eq_false,Bool.false_or,or_eq_true] at this;obtain⟨c,hc⟩:=I.ok.has x.1 (this.elim (fun z=>.inl (by simpa[Env.kindOf] using z)) fun z=>.inr (by simpa[Env.kindOf] using z));rw[hc]; rfl
theorem Jy{own:List Str}{scope:Scope}{fp:List Addr}{h1:Heap}{t':Nat}(hok:Ct own X.N scope X.env.scope=true)(I:Inv X pins U H s)(f2:∀b∈fp,D9 X pins H b)(fo:∀b∈fp,∃o,s.heap.get? b=some o)(hns:h1.Ns s.heap.objs.size fun _=>none)(hk:∀b o,s.heap.get? b=some o->h1.get? b=some o):
  Inv (cxC X own scope s.heap.objs.size s H fp pins) [] (List.replicate own.length none++U) H { s with heap:=h1,toks:=t' }:=by
 have hfree:=Ct.free hok I;simp only[Ct,and_eq_true,all_eq_true] at hok;obtain⟨⟨⟨hN,hS⟩,hkd⟩,hown⟩:=hok;have hkind:scope.kind=.function:=by simpa using hkd
 have sub:∀x c,(clo X.env.cells scope.names []).lookup x=some c->X.env.cells.lookup x=some c:=fun x c e=>by
  rcases J6 hfree e with z|z
  .simp at z
  .exact z
 have ltS:∀{b:Addr} {o:Obj},s.heap.get? b=some o->b≠s.heap.objs.size:=fun e=>ne_of_lt (lt_size e);have isFree:∀x,((relabel scope X.env).names.lookup x=some .cell\/(relabel scope X.env).names.lookup x=some .free)->scope.names.lookup x=some .free:=fun x hx'=>by
  rcases hx' with z|z
  .rcases Bf z with z|z
   .have:=(hS _ (PySem.mem_of_lookup z)).1.1
    simp at this
   .exact z.2
  .rcases Bf z with z|z
   .exact z
   .cases z.1
 refine⟨⟨I.ok.mod,hkind,I.ok.glob,I.ok.blt,le_refl _,fun x y c e1 e2=>I.ok.inj x y c (sub x c e1) (sub y c e2),fun x hx=>Gk (isFree x hx),fun x c z=>(by cases z),I.ok.hd,I.ok.frames,.inl rfl,fun b hb=>?_,I.bs,le_trans I.ok.bsz I.sz,fun b o e hb=>?_,fun b hb hz=>?_,I.stack,I.stkFree,I.tabs⟩,
  rfl,I.bare,Un.kept hk,⟨_,hns,fun i x v e1 e2 e3=>?_⟩,fun x c e=>?_,I.hok.fresh (le_refl _),fun x c e=>I.freeC x c (sub x c e),fun p hp=>?_,I.hok.kept hk,?_⟩
 .refine⟨fun z=>?_,fun x c e z=>?_⟩
  .obtain⟨o,e⟩:=fo b hb
   exact ltS e z
  .exact(f2 b hb).2.2.2.2.1 x c (sub x c e) z
 .obtain⟨_,_,_,f4,_⟩:=f2 b hb
  rcases f4 with f4|f4
  .exact I.ok.noex b o e f4
  .have:=lt_of_lt_of_le (lt_size e) (le_trans I.ok.bsz f4)
   exact absurd this (lt_irrefl _)
 .obtain⟨_,f1,f3,_⟩:=f2 b hb
  rcases mem_cons.mp (I.stkSub b hz) with z|z
  .exact f1 z
  .exact f3 z
 .by_cases hi:i<own.length
  .rw[List.getElem?_append_left (by simpa using hi),List.getElem?_replicate] at e2
   split at e2<;>cases e2
  .have e1':X.N[i-own.length]? = some x:=by
    have e1:(own++X.N)[i]? = some x:=e1;rw[List.getElem?_append_right (by omega)] at e1;exact e1
   have e2' : U[i-own.length]? = some (some v):=by
    rw[List.getElem?_append_right (by simpa using hi)] at e2;simpa using e2
   have hx:=hN x (List.mem_of_getElem? e1');have q:scope.names.lookup x=some .free:=by
    rcases e3 with z|z
    .rcases Bf z with z|z
     .rw[z] at hx; cases hx
     .cases z.1
    .exact isFree x z
   rw[q] at hx;simp only[or_eq_true] at hx;have hx2:X.env.scope.names.lookup x=some .cell\/X.env.scope.names.lookup x=some .free:=hx.elim (fun z=>.inl (by simpa using z)) fun z=>.inr (by simpa using z);obtain⟨m,_,hl⟩:=I.loc;obtain⟨u,r,l⟩:=hl _ x v e1' e2' (.inr hx2);refine⟨u,r,?_⟩;obtain⟨c',hc'⟩:=Gk (cells:=X.env.cells) (cs:=[]) q;rcases l with ⟨k,_⟩|⟨k,c,hc,o,ho,hd⟩
   .have k':X.env.scope.names.lookup x=some .local:=k
    rcases hx2 with z|z<;>(rw[k'] at z; cases z)
   .have ec:=sub x c' hc'
    have ec':c'=c:=Option.some.inj (ec.symm.trans hc);rw[ec'] at hc';refine .inr ⟨?_,c,hc',o,hk c o ho,hd⟩;rcases e3 with z|z
    .rcases Bf z with z|z
     .rw[q] at z; cases z
     .cases z.1
    .exact z
 .obtain⟨v,o,ho,hd⟩:=I.cell x c (sub x c e)
  exact⟨v,o,hk c o ho,hd⟩
 .have hp':p∈X.pn++pins:=by simpa using hp
  obtain⟨e,n,ne,nf,d⟩:=I.pin p hp';refine⟨hk _ _ e,n,ltS e,fun hz=>?_,d⟩;rcases mem_cons.mp (I.stkSub p.1 hz) with z|z
  .exact ne z
  .exact nf z
 .show(List.replicate own.length none++U).length=(own++X.N).length
  rw[length_append,length_replicate,length_append,I.len]
theorem Fc{own:List Str}{scope:Scope}{fp:List Addr}{cl:List (Str×Addr)}{fn:Str->Bool}{σ':St}{H':Hp}{s':Shared}{h':Heap}(I:Inv X pins U H s)(f2:∀b∈fp,D9 X pins H b)(J:Inv (cxD X own scope s.heap.objs.size cl fn s H fp pins) [] σ' H' s')(hs:Heap.SameBut s.heap.objs.size s'.heap h'):Inv X pins U H' { s' with heap:=h' }:=by
 have lt:∀{b:Addr} {o:Obj},s.heap.get? b=some o->b≠s.heap.objs.size:=fun e=>ne_of_lt (lt_size e);have hC:H' s.heap.objs.size=none:=J.free;have u:=J.base;refine I.call' (s':={ s' with heap:=h' }) (ch:=fp) J.os ⟨fun b o e n hb hx=>(hs.2 b (lt e)).trans (u.keep b o e n hb hx),fun b o e n hb hx=>?_,u.free,fun b o e hx=>?_,u.tups,u.frzs,u.tbls⟩ (fun b o e=>?_) J.bare fun b hb=>?_
 .obtain⟨sl,q⟩:=u.slot b o e n hb hx
  exact⟨sl,(hs.2 b (lt e)).trans q⟩
 .obtain⟨o',q⟩:=u.there b o e hx
  exact⟨o',(hs.2 b (lt e)).trans q⟩
 .refine(J.hok b o e).stay (fun c w' hc q=>(hs.2 c ?_).trans q) (fun _ q=>q) fun _ _ q=>q
  rintro rfl;rcases hc with z|z
  .rw[<- z,hC] at e; cases e
  .rw[hC] at z; cases z
 .obtain⟨_,f1,_,f4,f5,f6⟩:=f2 b hb
  exact⟨f4,f1,f5,f6⟩
theorem L7{own:List Str}{scope:Scope}{fp:List Addr}{it:Addr}{tn:Nat->Heap->Prop}{J:It}{target iter elt:Expr}{ifs:List Expr}{pos:Pos}{un:TU}{tc:TT}{te:TE}{acc:Addr}{Q:VK}{R:Result->Shared->Prop}{cl:List (Str×Addr)}{fn:Str->Bool}{h1:Heap}{t1:Nat}(hc:X.calm=true)(hg:PGo (cxD X own scope s.heap.objs.size cl fn s H fp pins) target own.length un)(ht:PTs (cxD X own scope s.heap.objs.size cl fn s H fp pins) ifs tc)(he:PE (cxD X own scope s.heap.objs.size cl fn s H fp pins) elt te)(I:Inv X pins U H s)(T:Turn X.prog X.w X.K target J fp it tn)(st:tn 0 s.heap)(f2:∀b∈fp,D9 X pins H b)(W:Nat->Nat->List V->Hp->Prop)(w0:∃m,W 0 m [] H)(turn:∀i m ys H,W i m ys H->H acc=some (.lst ys) /\
   ((J.stop i H/\Q (.ref acc) H)\/(J.go i H/\∀x H',J.yld i H x H'->∃vs,un x H' vs/\tc (vs.map some++U) H' fun b H3 =>
    if b=true then te (vs.map some++U) H3 fun v H4=>H4 acc=some (.lst ys)/\ys.length<sizeLine/\∃m',m'<m/\W (i+1) m' (ys++[v]) (upd H4 acc (.lst (ys++[v])))
    else ∃m',m'<m/\W (i+1) m' ys H3)))(fin:∀s' σ' H',Inv (cxD X own scope s.heap.objs.size cl fn s H fp pins) [] σ' H' s'->Q (.ref acc) H'->R (.ok .next) s')(hk:∀b o,s.heap.get? b=some o->h1.get? b=some o)(I0:Inv (cxD X own scope s.heap.objs.size cl fn s H fp pins) [] (List.replicate own.length none++U) H { s with heap:=h1,toks:=t1 }):
  codeAny (model X.prog X.w) X.A (.compStart (.ListComp elt [⟨target,iter,ifs,0⟩] scope pos) 0 (.ref it) (.ref acc) (compEnvC scope cl s.heap.objs.size X.env)) R { s with heap:=h1,toks:=t1 }:=by
 have st1:tn 0 h1:=T.keep _ _ _ st fun b _ o e=>hk b o e;have stat:∀{H':Hp},(∀b∈fp,H' b=none)->∀b∈fp,D9 (cxD X own scope s.heap.objs.size cl fn s H fp pins) [] H' b:=fun hn b hb=>by
  obtain⟨_,f1,f3,_,f5,f6⟩:=f2 b hb;obtain⟨o,e,_⟩:=T.obj _ _ st b hb;refine⟨hn b hb,ne_of_lt (lt_size e),fun hz=>?_,.inl hb,(I0.ok.exf b hb).2,fun p hp=>f6 p (by simpa using hp)⟩;rcases mem_cons.mp (I.stkSub b hz) with z|z
  .exact f1 z
  .exact f3 z
 have loop:∀s4,s4={ s with heap:=h1,toks:=t1 }->codeAny (model X.prog X.w) X.A (.compLoop (.ListComp elt [⟨target,iter,ifs,0⟩] scope pos) 0 (.ref it) (.ref acc) (compEnvC scope cl s.heap.objs.size X.env)) R s4:=by
  rintro s4 rfl;obtain⟨m0,w0⟩:=w0;refine HM (fun n s'=>∃i ys σ0 H',σ0.length=own.length/\Inv (cxD X own scope s.heap.objs.size cl fn s H fp pins) [] (σ0++U) H' s'/\tn i s'.heap/\(∀b∈fp,H' b=none)/\W i n ys H') ?_ m0 ⟨0,[],_,H,by rw[length_replicate],I0,st1,fun b hb=>(f2 b hb).1,w0⟩;rintro n s3 ⟨i,ys,σ0,H3,hl3,I3,st3,fr3,w3⟩;obtain⟨ha,turn3⟩:=turn i n ys H3 w3;rcases turn3 with ⟨stop,qn⟩|⟨go,step⟩
  .refine thn (T.done (cxD X own scope s.heap.objs.size cl fn s H fp pins) rfl rfl rfl hc i [] s3 _ H3 _ I3 (stat fr3) st3 stop) fun r s4 yy=>?_
   obtain⟨hr,I4⟩:=yy;subst hr;exact fin s4 _ H3 I4 qn
  .refine thn (T.item (cxD X own scope s.heap.objs.size cl fn s H fp pins) rfl rfl rfl hc i [] s3 _ H3 _ I3 (stat fr3) st3 go) fun r s4 yy=>?_
   obtain⟨u,hr,h4⟩:=yy;subst hr;refine thn h4 fun _ s5 yy=>?_;obtain⟨x,H5,I5,r5,y5,st5,fr5⟩:=yy;obtain⟨vs,hu,q5⟩:=step x H5 y5;have I5':=I5.pinned (stat fr5) (T.obj _ _ st5);have again:∀{H7:Hp} {s7:Shared},vs.length=own.length->Inv (cxD X own scope s.heap.objs.size cl fn s H fp pins) ([]++G8 fp s5.heap) (vs.map some++U) H7 s7->∀{ys'},(∃m',m'<n/\W (i+1) m' ys' H7) ->
     ∃m,m<n/\∃i ys σ0 H',σ0.length=own.length/\Inv (cxD X own scope s.heap.objs.size cl fn s H fp pins) [] (σ0++U) H' s7/\tn i s7.heap/\(∀b∈fp,H' b=none)/\W i m ys H':=fun {H7 s7} hl I7 {ys'} ⟨m',hm,w7⟩=>by
    refine⟨m',hm,i+1,ys',vs.map some,H7,by rw[length_map,hl],I7.unpinned,T.keep _ _ _ st5 fun b hb o e=>(I7.pin (b,o) (mem_append_right _ (mem_append_right _ (Dk hb e)))).1,fun b hb=>?_,w7⟩;obtain⟨o,e,d⟩:=T.obj _ _ st5 b hb;exact(I7.pin (b,o) (mem_append_right _ (mem_append_right _ (Dk hb e)))).2.1
   refine thn (hg _ s5 σ0 U H5 x u vs hl3 I5' r5 hu) fun _ s6 yy=>?_;obtain⟨hl,I6⟩:=yy;refine thn (ht _ s6 _ H5 _ I6 q5) fun ok s7 yy=>?_;obtain⟨H7,I7,q7⟩:=yy;cases ok with
   | false =>
    rw[if_neg Bool.false_ne_true] at q7;rw[if_neg Bool.false_ne_true];exact again hl I7 q7
   | true =>
    rw[if_pos rfl] at q7;rw[if_pos rfl];refine thn (he _ s7 _ H7 _ I7 q7) fun v s8 yy=>?_;obtain⟨y,H8,I8,r8,ha8,hz8,q8⟩:=yy;refine thn (G0 _ s8 _ H8 (.ref acc) [y] (.ref acc) [v] (fun _ H9=>∃m',m'<n/\W (i+1) m' (ys++[y]) H9) I8 rfl (.cons r8 .nil) ⟨acc,ys,y,rfl,rfl,ha8,hz8,q8⟩) fun _ s9 yy=>?_;obtain⟨_,H9,I9,_,q9⟩:=yy;exact again hl I9 q9
 exact codeAny_compStart_list (loop _ rfl) (T.self X.A 0 _ _ _ st1 (loop _ rfl))
theorem O9{own:List Str}{scope:Scope}{fp:List Addr}{it:Addr}{tn:Nat->Heap->Prop}{J:It}{target iter elt:Expr}{ifs:List Expr}{pos:Pos}{un:TU}{tc:TT}{te:TE}{acc:Addr}{Q:VK}{R:Result->Shared->Prop}{E:Value->Shared->Prop}(hc:X.calm=true)(hok:Ct own X.N scope X.env.scope=true)(hg:∀C s H fp pins,PGo (cxC X own scope C s H fp pins) target own.length un)(ht:∀C s H fp pins,PTs (cxC X own scope C s H fp pins) ifs tc)(he:∀C s H fp pins,PE (cxC X own scope C s H fp pins) elt te)(I:Inv X pins U H s)(T:Turn X.prog X.w X.K target J fp it tn)(st:tn 0 s.heap)(f2:∀b∈fp,D9 X pins H b)(W:Nat->Nat->List V->Hp->Prop)(w0:∃m,W 0 m [] H)(turn:∀i m ys H,W i m ys H->H acc=some (.lst ys) /\
   ((J.stop i H/\Q (.ref acc) H)\/(J.go i H/\∀x H',J.yld i H x H'->∃vs,un x H' vs/\tc (vs.map some++U) H' fun b H3 =>
    if b=true then te (vs.map some++U) H3 fun v H4=>H4 acc=some (.lst ys)/\ys.length<sizeLine/\∃m',m'<m/\W (i+1) m' (ys++[v]) (upd H4 acc (.lst (ys++[v])))
    else ∃m',m'<m/\W (i+1) m' ys H3)))(fin:∀s' σ' H',Inv (cxC X own scope s.heap.objs.size s H fp pins) [] σ' H' s'->Q (.ref acc) H'->R (.ok .next) s'):
  wpAny (model X.prog X.w) X.A (newFunctionEnv scope X.env.globals (clo X.env.cells scope.names []) [] X.env.qual none .none (some X.env)) (fun cenv s₄ =>
   cenv.locals=s.heap.objs.size/\codeAny (model X.prog X.w) X.A (.compStart (.ListComp elt [⟨target,iter,ifs,0⟩] scope pos) 0 (.ref it) (.ref acc) { cenv with scope:=relabel scope X.env }) R s₄) E s:=by
 have hcell:∀x∈scope.names,x.2≠.cell:=fun x hx z=>by
  simp only[Ct,and_eq_true,all_eq_true] at hok;have:=(hok.1.1.2 x hx).1.1;rw[z] at this;simp at this
 have hkind:scope.kind=.function:=by
  simp only[Ct,and_eq_true] at hok;simpa using hok.1.2
 refine wpAny_newFunctionEnv hcell (fun x hx=>by simp at hx) (fun h1 hns hsb=>⟨rfl,?_⟩) hkind;have hk:∀b o,s.heap.get? b=some o->h1.get? b=some o:=fun b o e=>(hsb.2 b (ne_of_lt (lt_size e))).trans (Heap.get?_push_of_some _ e);have I0:Inv (cxC X own scope s.heap.objs.size s H fp pins) [] (List.replicate own.length none++U) H { s with heap:=h1,toks:=s.toks+([]:List (Str×Value)).length }:=
  Jy hok I f2 (fun b hb=>let⟨o,e,_⟩:=T.obj _ _ st b hb; ⟨o,e⟩) (by simpa using hns) hk
 exact L7 (iter:=iter) (pos:=pos) hc (hg _ _ _ _ _) (ht _ _ _ _ _) (he _ _ _ _ _) I T st f2 W w0 turn fin hk I0
end
section
variable{X:Cx}
theorem Ct.names{own N:List Str}{scope sco:Scope}(hok:Ct own N scope sco=true):∀x∈scope.names,x.2=.local->scope.names.lookup x.1=some .local:=fun x hx hl=>by
 simp only[Ct,and_eq_true,all_eq_true] at hok;have:=(hok.1.1.2 x hx).2;rw[hl] at this;simpa using this
theorem Ct.kind{own N:List Str}{scope sco:Scope}(hok:Ct own N scope sco=true):scope.kind=.function:=by
 simp only[Ct,and_eq_true] at hok;simpa using hok.1.2
theorem TX{own:List Str}{scope:Scope}{target iter elt:Expr}{ifs:List Expr}{pos:Pos}{wi:TI}{un:TU}{tc:TT}{te:TE}(hc:X.calm=true)(hok:Ct own X.N scope X.env.scope=true)(hi:PI X target iter wi)(hg:∀C s H fp pins,PGo (cxC X own scope C s H fp pins) target own.length un)(ht:∀C s H fp pins,PTs (cxC X own scope C s H fp pins) ifs tc)(he:∀C s H fp pins,PE (cxC X own scope C s H fp pins) elt te)(hs:∀x,foldedSetIterable iter X.env x=pure x:=by intro _; rfl):PE X (.ListComp elt [⟨target,iter,ifs,0⟩] scope pos) (tLc wi un tc te):=by
 intro pins s U H Q I h;rw[eval_ListComp];refine wpAny_comprehension_free (use:=none) rfl hs (Mv (Ct.free hok I)) (Ct.kind hok) (Ct.names hok) ?_;refine thn (hi pins s U H _ I h) fun v s1 h1=>thn h1 fun itv s2 h2=>?_;obtain⟨it,fp,tn,J,H2,e,I2,T,st2,f2,q⟩:=h2;subst e;obtain⟨W,w0,turn⟩:=q s2.heap.objs.size I2.fresh;refine wpAny_newObj_type (hd:=by size_fits) ?_;have I3:Inv X pins U (upd H2 s2.heap.objs.size (.lst [])) { s2 with heap:=s2.heap.push { cls:=.type "list",data:=.seq ([]:List Value).toArray } }:=I2.lnew (its:=[]) (t':=s2.toks) .nil (zero_le _);have st3:tn 0 (s2.heap.push { cls:=.type "list",data:=.seq ([]:List Value).toArray }):=T.keep _ _ _ st2 fun b _ o e=>Heap.get?_push_of_some _ e;have f3:∀b∈fp,D9 X pins (upd H2 s2.heap.objs.size (.lst [])) b:=fun b hb=>by
  obtain⟨o,e,_⟩:=T.obj _ _ st2 b hb;exact⟨by rw[Au (ne_of_lt (lt_size e))]; exact(f2 b hb).1,(f2 b hb).2⟩
 refine thn (O9 (iter:=iter) (pos:=pos) (R:=compPost (model X.prog X.w) X.A X.xe none (EP X pins U Q) (.ref s2.heap.objs.size) (s2.heap.push { cls:=.type "list",data:=.seq ([]:List Value).toArray }).objs.size) hc hok hg ht he I3 T st3 f3 W w0 turn fun s' σ' H' J' q'=>?_) fun cenv s4 ⟨el,h4⟩=>?_
 .obtain⟨m,hn,_⟩:=J'.loc
  exact⟨m,hn,fun h' hs'=>⟨.ref s2.heap.objs.size,H',Fc I3 f3 J' hs',rfl,q'⟩⟩
 .have el':cenv.locals=(s2.heap.push { cls:=.type "list",data:=.seq ([]:List Value).toArray }).objs.size:=el
  rw[<- el'] at h4;exact h4
end
section
variable{X:Cx}
end
noncomputable def Its(x:Str):It:=⟨fun i _=>i<x.cps.size,fun i H v H'=>H'=H/\∃c,x.cps[i]? = some c/\v=.str ⟨#[c]⟩,fun i _=>x.cps.size<=i⟩
theorem Heap.IsStrIter.at'{h h':Heap}{a ty x t i}(y:h.IsStrIter a ty x t i)(e:∀o,h.get? a=some o->h'.get? a=some o):h'.IsStrIter a ty x t i:=let⟨o,ho,r⟩:=y; ⟨o,e _ ho,r⟩
theorem Ry{P:Program}{w:World}{K:Frag}{tg:Expr}(it:Addr)(x:Str)(t:Tok)(ty:String)(hty:ty = "str_ascii_iterator" \/ ty = "str_iterator"):Turn P w K tg (Its x) [it] it (fun i h=>h.IsStrIter it ty x t i) where
 mem:=by simp
 obj:=fun i h st b hb=>by
  have e:b=it:=by simpa using hb
  subst e;obtain⟨o,e,c,d⟩:=st;exact⟨o,e,fun v z=>by rw[d] at z; cases z⟩
 keep:=fun i h h' st k=>Heap.IsStrIter.at' st fun o e=>k it (by simp) o e
 item:=by
  intro X hP hw hK hc i pins s U H E I hf st hg;subst hP hw hK;have hg':i<x.cps.size:=hg;have hx:x.cps[i]? = some x.cps[i]:=by simp[hg']
  obtain⟨f0,f1,f2,f3,f4,f5⟩:=hf it (by simp);have fin:∀h',h'.IsStrIter it ty x t (i+1)->Heap.SameBut it s.heap h'->∃u,some (Value.str ⟨#[x.cps[i]]⟩ s.toks)=some u /\
    wpAny (model X.prog X.w) X.A (letOwnedTupleGo tg (.ref it) u) (fun _ s2=>∃y H',Inv X pins U H' s2/\RelV y u/\(Its x).yld i H y H'/\s2.heap.IsStrIter it ty x t (i+1)/\∀b∈[it],H' b=none) E { s with heap:=h',toks:=s.toks+1 }:=fun h' st' sb=>by
   have I1:Inv X pins U H { s with heap:=h',toks:=s.toks+1 }:=I.turned (fun b o hb e=>(sb.2 b hb).trans e) f0 f1 f3 f4 f5;obtain⟨o,e,c,d⟩:=id st';exact⟨_,rfl,Lk (s:={ s with heap:=h',toks:=s.toks+1 }) e c d (by rcases hty with rfl|rfl<;>decide) ⟨.str ⟨#[x.cps[i]]⟩,H,I1,⟨_,rfl⟩,⟨rfl,_,hx,rfl⟩,st',fun b hb=>(hf b hb).1⟩⟩
  rcases hty with rfl|rfl
  .exact wpAny_pyNext_ascii_item st hx fin
  .exact wpAny_pyNext_wide_item st hx fin
 done:=by
  intro X hP hw hK hc i pins s U H E I hf st hg;subst hP hw hK;have hg':x.cps.size<=i:=hg;have hx:x.cps[i]? = none:=by simp[hg']
  obtain⟨f0,f1,f2,f3,f4,f5⟩:=hf it (by simp);rcases hty with rfl|rfl
  .exact wpAny_pyNext_ascii_end (I.ok.hd hc) st hx fun h' eb=>⟨rfl,I.turned (t':=s.toks) (fun b o hb e=>eb b o hb e) f0 f1 f3 f4 f5⟩
  .exact wpAny_pyNext_wide_end (I.ok.hd hc) st hx fun h' eb=>⟨rfl,I.turned (t':=s.toks) (fun b o hb e=>eb b o hb e) f0 f1 f3 f4 f5⟩
 self:=fun _ _ _ _ _ st h=>by
  rcases hty with rfl|rfl
  .exact wpAny_pyIter_striter_ascii st h
  .exact wpAny_pyIter_striter_wide st h
section
variable{X:Cx}{tg:Expr}
noncomputable def WH(tl:TE):TI:=fun U H R=>tl U H fun x H1=>∃z,x=.str z/\R (Its z) H1
theorem Vx{l:Expr}{tl:TE}(hl:PE X l tl):PI X tg l (WH tl):=by
 intro pins s U H R I h;refine thn (hl pins s U H _ I h) fun v s1 yy=>?_;obtain⟨x,H1,I1,r1,q1⟩:=yy;obtain⟨z,e,q⟩:=q1;subst e;obtain⟨t,rfl⟩:=r1;have fin:∀ty:String,(ty = "str_ascii_iterator" \/ ty = "str_iterator")->PIE X pins U tg R (.ref s1.heap.objs.size) { s1 with heap:=s1.heap.push { cls:=.type ty,data:=.fields #[.str z t,.int 0 0] } }:=fun ty hty=>by
  have I2:Inv X pins U H1 { s1 with heap:=s1.heap.push { cls:=.type ty,data:=.fields #[.str z t,.int 0 0] } }:=I1.kept (t':=s1.toks) fun b o e=>Heap.get?_push_of_some _ e;refine⟨_,[s1.heap.objs.size],_,Its z,H1,rfl,I2,Ry _ z t ty hty,⟨_,Heap.get?_push_size _ rfl,rfl,rfl⟩,fun b hb=>?_,q⟩;have e:b=s1.heap.objs.size:=by simpa using hb
  subst e;exact I1.fpOk (le_refl _) (I1.hok.fresh (le_refl _))
 by_cases ha:z.cps.all (· < 128)=true
 .exact wpAny_pyIter_ascii ha (fin _ (.inl rfl))
 .exact wpAny_pyIter_wide (by simpa using ha) (fin _ (.inr rfl))
end
section
variable{X:Cx}
noncomputable def DO(bs:List Bool):List V:=bs.map V.bl
theorem DP(hc:X.calm=true):B9 X (.builtin "all") (fun xs H Q=>∃p bs,xs=[.ref p]/\SqL X.K H p (DO bs)/\Q (.bl (bs.all id)) H):=by
 intro pins s U H xs us Q I r h;obtain⟨p,bs,rfl,hq,q⟩:=h;obtain⟨u,rfl,ru⟩:=r.one;cases ru;obtain⟨its,rv,pl,hz⟩:=I.list hq;have hl:=rv.length;refine call_all_walk (wpAny_pyIter_list pl.isList ?_);have hne:p≠s.heap.objs.size:=fun z=>by
  obtain⟨o,e,_⟩:=pl.isList;exact absurd (lt_size e) (by rw[z]; exact lt_irrefl _)
 have hlen:its.toArray.size=bs.length:=by rw[size_toArray,<- hl]; simp[DO]
 refine⟨_,_,_,_,_,_,fun i=>(bs[i]?).getD true,rfl,Walks.list (by show X.A.handled=none; exact I.ok.hd hc) s.heap.objs.size p hne its.toArray,⟨⟨_,Heap.get?_push_size _ rfl,rfl,rfl⟩,?_⟩,?_,?_⟩
 .obtain⟨o,e,r⟩:=pl.isList
  exact⟨o,Heap.get?_push_of_some _ e,r⟩
 .intro i v s' Q' E' hv hq'
  have hi:i<its.length:=by
   by_cases hi:i<its.length
   .exact hi
   .have:its.toArray[i]? = none:=by simp; lia
    rw[this] at hv; cases hv
  have hb:i<bs.length:=by simp[DO] at hl; lia
  obtain⟨u,hu,ru⟩:=rv.get (i:=i) (x:=.bl bs[i]) (by simp[DO,hb]);have e:v=.bool bs[i]:=by
   have:its.toArray[i]? = some u:=by simpa using hu
   rw[this] at hv;cases hv;exact ru
  subst e;dsimp only at hq';rw[show(bs[i]?).getD true=bs[i] by simp[hb]] at hq';exact wpAny_truthy_bool hq'
 .intro h' tk hk
  have I1:Inv X pins U H { s with heap:=h',toks:=tk }:=I.kept fun b o e=>hk b o (fun z=>by
   have z':b=s.heap.objs.size:=by simpa using z
   exact absurd (lt_size e) (by rw[z']; exact lt_irrefl _)) (Heap.get?_push_of_some _ e)
  refine⟨.bl _,H,I1,rfl,?_⟩;have e:(List.range its.toArray.size).all (fun i=>(bs[i]?).getD true)=bs.all id:=by
   rw[hlen,Bool.eq_iff_iff];simp only[all_eq_true,mem_range,id_eq];constructor
   .intro h b hb
    obtain⟨i,hi,rfl⟩:=mem_iff_getElem.mp hb;have:=h i hi;simpa[hi] using this
   .intro h i hi
    simpa[hi] using h bs[i] (getElem_mem hi)
  rw[e];exact q
theorem HK(hc:X.calm=true):B9 X (.builtin "any") (fun xs H Q=>∃p bs,xs=[.ref p]/\SqL X.K H p (DO bs)/\Q (.bl (bs.any id)) H):=by
 intro pins s U H xs us Q I r h;obtain⟨p,bs,rfl,hq,q⟩:=h;obtain⟨u,rfl,ru⟩:=r.one;cases ru;obtain⟨its,rv,pl,hz⟩:=I.list hq;have hl:=rv.length;refine call_any_walk (wpAny_pyIter_list pl.isList ?_);have hne:p≠s.heap.objs.size:=fun z=>by
  obtain⟨o,e,_⟩:=pl.isList;exact absurd (lt_size e) (by rw[z]; exact lt_irrefl _)
 have hlen:its.toArray.size=bs.length:=by rw[size_toArray,<- hl]; simp[DO]
 refine⟨_,_,_,_,_,_,fun i=>(bs[i]?).getD false,rfl,Walks.list (by show X.A.handled=none; exact I.ok.hd hc) s.heap.objs.size p hne its.toArray,⟨⟨_,Heap.get?_push_size _ rfl,rfl,rfl⟩,?_⟩,?_,?_⟩
 .obtain⟨o,e,r⟩:=pl.isList
  exact⟨o,Heap.get?_push_of_some _ e,r⟩
 .intro i v s' Q' E' hv hq'
  have hi:i<its.length:=by
   by_cases hi:i<its.length
   .exact hi
   .have:its.toArray[i]? = none:=by simp; lia
    rw[this] at hv; cases hv
  have hb:i<bs.length:=by simp[DO] at hl; lia
  obtain⟨u,hu,ru⟩:=rv.get (i:=i) (x:=.bl bs[i]) (by simp[DO,hb]);have e:v=.bool bs[i]:=by
   have:its.toArray[i]? = some u:=by simpa using hu
   rw[this] at hv;cases hv;exact ru
  subst e;dsimp only at hq';rw[show(bs[i]?).getD false=bs[i] by simp[hb]] at hq';exact wpAny_truthy_bool hq'
 .intro h' tk hk
  have I1:Inv X pins U H { s with heap:=h',toks:=tk }:=I.kept fun b o e=>hk b o (fun z=>by
   have z':b=s.heap.objs.size:=by simpa using z
   exact absurd (lt_size e) (by rw[z']; exact lt_irrefl _)) (Heap.get?_push_of_some _ e)
  refine⟨.bl _,H,I1,rfl,?_⟩;have e:(List.range its.toArray.size).any (fun i=>(bs[i]?).getD false)=bs.any id:=by
   rw[hlen,Bool.eq_iff_iff];simp only[List.any_eq_true,mem_range,id_eq];constructor
   .rintro ⟨i,hi,h⟩
    exact⟨bs[i],getElem_mem hi,by simpa[hi] using h⟩
   .rintro ⟨b,hb,h⟩
    obtain⟨i,hi,rfl⟩:=mem_iff_getElem.mp hb;exact⟨i,hi,by simpa[hi] using h⟩
  rw[e];exact q
end
section
variable{X:Cx}{e:Expr}{te:TE}{p q pos:Pos}{x:Str}{T:String}
noncomputable def Mj(H:Hp):V->Option String
 | .non=>some "NoneType"
 | .bl _=>some "bool"
 | .int _=>some "int"
 | .str _=>some "str"
 | .ref a=>match H a with
  | some (.lst _)=>some "list"
  | some (.tup _)=>some "tuple"
  | _=>none
 | _=>none
theorem TB{K:Frag}{H:Hp}{v:V}{t:String}(h:Mj H v=some t):TyOf K H v (.type t):=by
 cases v with
 | non=>cases h; exact .non
 | bl b=>cases h; exact .bl b
 | int i=>cases h; exact .int i
 | str z=>cases h; exact .str z
 | ref a =>
  unfold Mj at h;dsimp only at h;split at h
  .rename_i e; cases h; exact .lst e
  .rename_i e; cases h; exact .tup e
  .cases h
 | _=>cases h
end
inductive D where
 | non|bl (b:Bool)|int (i:Int)|str (x:Str)|lst (ds:List D)|tup (ds:List D)
inductive RepA (N:Addr->Prop) (H:Hp):V->D->Prop where
 | non:RepA N H .non .non
 | bl (b:Bool):RepA N H (.bl b) (.bl b)
 | int (i:Int):RepA N H (.int i) (.int i)
 | str (x:Str) (hx:x.length<=sizeLine):RepA N H (.str x) (.str x)
 | lst {a:Addr} {vs:List V} {ds:List D} (h:H a=some (.lst vs)) (hz:vs.length<=sizeLine) (hn:¬N a) (hl:vs.length=ds.length) (hr:∀(i:Nat) v d,vs[i]? = some v->ds[i]? = some d->RepA N H v d):RepA N H (.ref a) (.lst ds)
 | tup {a:Addr} {vs:List V} {ds:List D} (h:H a=some (.tup vs)) (hz:vs.length<=sizeLine) (hl:vs.length=ds.length) (hr:∀(i:Nat) v d,vs[i]? = some v->ds[i]? = some d->RepA N H v d):RepA N H (.ref a) (.tup ds)
noncomputable abbrev Rep:=RepA fun _=>False
theorem RepA.weak{N N':Addr->Prop}{H:Hp}(hn:∀a,N' a->N a){v:V}{d:D}(r:RepA N H v d):RepA N' H v d:=by
 induction r with
 | non=>exact .non
 | bl b=>exact .bl b
 | int i=>exact .int i
 | str x hx=>exact .str x hx
 | lst h hz n hl _ ih=>exact .lst h hz (fun z=>n (hn _ z)) hl ih
 | tup h hz hl _ ih=>exact .tup h hz hl ih
theorem RepA.rep{N:Addr->Prop}{H:Hp}{v:V}{d:D}(r:RepA N H v d):Rep H v d:=r.weak fun _ z=>z.elim
theorem RepA.inj{N N':Addr->Prop}{H:Hp}{v:V}{d e:D}(r:RepA N H v d)(q:RepA N' H v e):d=e:=by
 induction r generalizing e with
 | non=>cases q; rfl
 | bl b=>cases q; rfl
 | int i=>cases q; rfl
 | str x=>cases q; rfl
 | lst h hz hn hl hr ih =>
  cases q with
  | lst h' hz' hn' hl' hr' =>
   rw[h] at h'; cases h';congr 1;refine List.ext_getElem? fun i=>?_;rename_i vs ds es;by_cases hi:i<vs.length
   .have e1:ds[i]? = some ds[i]:=by simp[<- hl,hi]
    have e2:es[i]? = some es[i]:=by simp[<- hl',hi]
    rw[e1,e2,ih i vs[i] ds[i] (by simp[hi]) e1 (hr' i vs[i] es[i] (by simp[hi]) e2)]
   .rw[List.getElem?_eq_none (by omega),List.getElem?_eq_none (by omega)]
  | tup h'=>rw[h] at h'; cases h'
 | tup h hz hl hr ih =>
  cases q with
  | tup h' hz' hl' hr' =>
   rw[h] at h'; cases h';congr 1;refine List.ext_getElem? fun i=>?_;rename_i vs ds es;by_cases hi:i<vs.length
   .have e1:ds[i]? = some ds[i]:=by simp[<- hl,hi]
    have e2:es[i]? = some es[i]:=by simp[<- hl',hi]
    rw[e1,e2,ih i vs[i] ds[i] (by simp[hi]) e1 (hr' i vs[i] es[i] (by simp[hi]) e2)]
   .rw[List.getElem?_eq_none (by omega),List.getElem?_eq_none (by omega)]
  | lst h'=>rw[h] at h'; cases h'
structure Def (P:Program) (w:World) (K:Frag) (mg:Str->Option Value) (base:Heap) (CX:CXT) (k:Nat) (x:Str) (ps:List Str) (sp:Sp):Prop where
 ex:∃(f:Addr) (fd:FuncData),mg x=some (.ref f)/\PySem.W.keepIn K (.ref f)=true/\Binds K fd ps []/\FnOk P w K mg base CX k f fd ps sp
theorem Def.mono{P:Program}{w:World}{K:Frag}{mg:Str->Option Value}{base:Heap}{CX:CXT}{j k:Nat}{x:Str}{ps:List Str}{sp:Sp}(D:Def P w K mg base CX j x ps sp)(h:j<=k):Def P w K mg base CX k x ps sp:=
 let⟨f,fd,a,b,c,d⟩:=D.ex; ⟨f,fd,a,b,c,d.mono h⟩
section
variable{X:Cx}
theorem Vg{CX:CXT}{k j:Nat}{x:Str}{ps:List Str}{sp:Sp}{E:XK}{p pos:Pos}{e:Expr}{es:List Expr}{t:TA}(D:Def X.prog X.w X.K X.mg X.base CX k x ps sp)(hr:Room j X.A)(hkj:k<=j)(hx:Passes CX X E)(ha:PA X (e::es) t)(hg:Gl X x:=by rfl)(hdb:(x==("__debug__" : Str))=false:=by decide +kernel)(he:starEach (e::es) X.env=(false,eval e X.env)::starEach es X.env:=by rfl)(hpl:(backTo pos (starEach es X.env)).any (·.1)=false:=by rfl):PE X (.Call (.Name x p) (e::es) [] pos) (Mg sp [] E t):=by
 obtain⟨f,fd,a,b,c,d⟩:=D.ex;exact SA d (hr.mono hkj) hg a b c .nil hx ha hdb he hpl
end
noncomputable def isI(t T:String):Bool:=t==T || (t == "bool" && T == "int")
theorem OL{K:Frag}{t T:String}(ht:t∈["NoneType","bool","int","str","list","tuple"])(hT:T∈["int","bool","tuple","list","str"]):PySem.W.kitOne K (.type t) (.type T)=some (isI t T):=by
 simp only[mem_cons,not_mem_nil,or_false] at ht hT;rcases ht with rfl|rfl|rfl|rfl|rfl|rfl<;>rcases hT with rfl|rfl|rfl|rfl|rfl <;>
  kernel_rfl
theorem RA{H:Hp}{v:V}{t:String}(h:Mj H v=some t):t∈["NoneType","bool","int","str","list","tuple"]:=by
 cases v with
 | non=>cases h; simp
 | bl b=>cases h; simp
 | int i=>cases h; simp
 | str z=>cases h; simp
 | ref a =>
  unfold Mj at h;dsimp only at h;split at h
  .cases h; simp
  .cases h; simp
  .cases h
 | _=>cases h
section
variable{X:Cx}
theorem PC:B9 X (.builtin "isinstance") (fun xs H Q=>∃x t T,xs=[x,.ty T]/\Mj H x=some t/\T∈["int","bool","tuple","list","str"]/\Q (.bl (isI t T)) H):=by
 intro pins s U H xs us Q I r h;obtain⟨x,t,T,rfl,ht,hT,q⟩:=h;obtain⟨u,v,rfl,ru,rv⟩:=r.two;cases rv;exact OG I ru (TB ht) (OL (RA ht) hT) fun tk=>⟨.bl _,H,I.tok tk,rfl,q⟩
end
noncomputable def FK:D->String
 | .non => "NoneType"
 | .bl _ => "bool"
 | .int _ => "int"
 | .str _ => "str"
 | .lst _ => "list"
 | .tup _ => "tuple"
theorem RepA.typ{N:Addr->Prop}{H:Hp}{v:V}{d:D}(r:RepA N H v d):Mj H v=some (FK d):=by
 cases r with
 | non=>rfl
 | bl b=>rfl
 | int i=>rfl
 | str x=>rfl
 | lst h=>simp only[Mj,h,FK]
 | tup h=>simp only[Mj,h,FK]
mutual
noncomputable def eqD:D->D->Bool
 | .non,.non=>true
 | .bl a,.bl b=>a==b
 | .bl a,.int b=>(if a then 1 else 0)==b
 | .int a,.bl b=>a==(if b then 1 else 0)
 | .int a,.int b=>a==b
 | .str a,.str b=>a==b
 | .lst xs,.lst ys=>C0 xs ys
 | .tup xs,.tup ys=>C0 xs ys
 | _,_=>false
noncomputable def C0:List D->List D->Bool
 | [],[]=>true
 | x::xs,y::ys=>eqD x y&&C0 xs ys
 | _,_=>false
end
theorem Ex(x y:List D):eqD (.lst x) (.lst y)=C0 x y:=rfl
theorem Ey(x y:List D):eqD (.tup x) (.tup y)=C0 x y:=rfl
theorem DT(x y:Int):eqD (.int x) (.int y)=(x==y):=rfl
theorem EX(x y:Str):eqD (.str x) (.str y)=(x==y):=rfl
theorem EW(x y:Bool):eqD (.bl x) (.bl y)=(x==y):=rfl
theorem My(x y:D)(xs ys:List D):C0 (x::xs) (y::ys)=(eqD x y&&C0 xs ys):=rfl
theorem DV:∀{xs ys:List D},C0 xs ys=true->xs.length=ys.length
 | [],[],_=>rfl
 | [],_::_,h=>nomatch h
 | _::_,[],h=>nomatch h
 | x::xs,y::ys,h=>by
  rw[My,and_eq_true] at h;simp[DV h.2]
theorem DU:∀{xs ys:List D},xs.length=ys.length->C0 xs ys=(List.range xs.length).all fun i=>eqD (xs.getD i .non) (ys.getD i .non)
 | [],[],_=>rfl
 | x::xs,y::ys,h=>by
  have ih:=DU (xs:=xs) (ys:=ys) (by simpa using h);rw[My,ih,length_cons,List.range_succ_eq_map,all_cons,all_map];rfl
mutual
theorem E7:∀d,eqD d d=true
 | .non=>rfl
 | .bl a=>by rw[EW]; exact beq_self_eq_true a
 | .int a=>by rw[DT]; exact beq_self_eq_true a
 | .str a=>by rw[EX]; exact beq_self_eq_true a
 | .lst xs=>GV xs
 | .tup xs=>GV xs
theorem GV:∀ds,C0 ds ds=true
 | []=>rfl
 | d::ds=>by rw[My,E7 d,GV ds]; rfl
end
inductive Sh:Nat->D->Prop where
 | non {n:Nat}:Sh n .non
 | bl {n:Nat} (b:Bool):Sh n (.bl b)
 | int {n:Nat} (i:Int):Sh n (.int i)
 | str {n:Nat} (x:Str):Sh n (.str x)
 | lst {n:Nat} {ds:List D} (h:∀d∈ds,Sh n d):Sh (n+1) (.lst ds)
 | tup {n:Nat} {ds:List D} (h:∀d∈ds,Sh n d):Sh (n+1) (.tup ds)
section
variable{P:Program}{w:World}{H:Hp}{s:Shared}{N N':Addr->Prop}
theorem A1(hok:HOk P w H s.heap){a:Addr}{vs:List V}(h:H a=some (.lst vs)):∃its:List Value,Vals vs its/\s.heap.IsList a its.toArray:=by
 obtain⟨z,its,n,r,e⟩:=hok a _ h;exact⟨its,r,_,e,rfl,_,rfl⟩
theorem Bn(hok:HOk P w H s.heap){a:Addr}{vs:List V}(h:H a=some (.tup vs)):∃its:List Value,Vals vs its/\s.heap.IsTuple a its.toArray:=by
 obtain⟨z,its,r,p⟩:=hok a _ h;exact⟨its,r,p⟩
theorem Ez{A:Around}{vs vs':List V}{its its':List Value}{ds es:List D}(r:Vals vs its)(r':Vals vs' its')(hl:vs.length=ds.length)(hl':vs'.length=es.length)(f:∀(i:Nat) v d v' e u u',vs[i]? = some v->ds[i]? = some d->vs'[i]? = some v'->es[i]? = some e->RelV v u->RelV v' u'->SeqAt.EqAt A s u u' (eqD d e)):
  ∀j (h1:j<its.toArray.size) (h2:j<its'.toArray.size),SeqAt.EqAt A s its.toArray[j] its'.toArray[j] (eqD (ds.getD j .non) (es.getD j .non)):=fun j h1 h2=>by
 have e1:=r.length;have e2:=r'.length;have h1':j<its.length:=by simpa using h1
 have h2':j<its'.length:=by simpa using h2
 have b1:j<vs.length:=by lia
 have b2:j<vs'.length:=by lia
 have b3:j<ds.length:=by lia
 have b4:j<es.length:=by lia
 obtain⟨u,hu,ru⟩:=r.get (i:=j) (x:=vs[j]) (by simp);obtain⟨u',hu',ru'⟩:=r'.get (i:=j) (x:=vs'[j]) (by simp);have q:=f j _ (ds[j]) _ (es[j]) u u' (by simp) (by simp) (by simp) (by simp) ru ru';have g1:its.toArray[j]=u:=by
  have:its[j]? = some (its[j]):=by simp[h1']
  rw[this] at hu;simpa using hu
 have g2:its'.toArray[j]=u':=by
  have:its'[j]? = some (its'[j]):=by simp[h2']
  rw[this] at hu';simpa using hu'
 rw[g1,g2];have g3:ds.getD j .non=ds[j]:=by simp[List.getD,b3]
 have g4:es.getD j .non=es[j]:=by simp[List.getD,b4]
 rw[g3,g4];exact q
theorem lt0{a n c:Nat}(h:a+n<c):a<c:=by lia
theorem lt1{a n c:Nat}(h:a+(n+1)<c):a+1+n<c:=by lia
theorem J8(hok:HOk P w H s.heap){x:V}{d:D}(r:RepA N H x d):∀{A:Around} {n:Nat} {y:V} {e:D} {v u:Value},RepA N' H y e->RelV x v->RelV y u->Sh n d->A.units+n<cLine->SeqAt.EqAt A s v u (eqD d e):=by
 induction r with
 | non =>
  intro A n y e v u q rx ry _ hu;cases rx;cases q with
  | non=>cases ry; exact SeqAt.EqAt.same _
  | bl b=>cases ry; exact SeqAt.EqAt.none_bool b
  | int b=>obtain⟨t,rfl⟩:=ry; exact SeqAt.EqAt.none_int b t
  | str b=>obtain⟨t,rfl⟩:=ry; exact SeqAt.EqAt.none_str b t
  | lst h=>cases ry; obtain⟨its,_,hl⟩:=A1 hok h; exact SeqAt.EqAt.none_list hl (lt0 hu)
  | tup h=>cases ry; obtain⟨its,_,hl⟩:=Bn hok h; exact SeqAt.EqAt.none_tuple hl (lt0 hu)
 | bl a =>
  intro A n y e v u q rx ry _ hu;cases rx;cases q with
  | non=>cases ry; exact SeqAt.EqAt.bool_none a
  | bl b=>cases ry; exact SeqAt.EqAt.bool_bool a b
  | int b=>obtain⟨t,rfl⟩:=ry; exact SeqAt.EqAt.bool_int a b t
  | str b=>obtain⟨t,rfl⟩:=ry; exact SeqAt.EqAt.bool_str a b t
  | lst h=>cases ry; obtain⟨its,_,hl⟩:=A1 hok h; exact SeqAt.EqAt.bool_list a hl (lt0 hu)
  | tup h=>cases ry; obtain⟨its,_,hl⟩:=Bn hok h; exact SeqAt.EqAt.bool_tuple a hl (lt0 hu)
 | int a =>
  intro A n y e v u q rx ry _ hu;obtain⟨t',rfl⟩:=rx;cases q with
  | non=>cases ry; exact SeqAt.EqAt.int_none a t'
  | bl b=>cases ry; exact SeqAt.EqAt.int_bool a t' b
  | int b=>obtain⟨t,rfl⟩:=ry; exact SeqAt.EqAt.int_int a t' b t
  | str b=>obtain⟨t,rfl⟩:=ry; exact SeqAt.EqAt.int_str a t' b t
  | lst h=>cases ry; obtain⟨its,_,hl⟩:=A1 hok h; exact SeqAt.EqAt.int_list a t' hl (lt0 hu)
  | tup h=>cases ry; obtain⟨its,_,hl⟩:=Bn hok h; exact SeqAt.EqAt.int_tuple a t' hl (lt0 hu)
 | str a =>
  intro A n y e v u q rx ry _ hu;obtain⟨t',rfl⟩:=rx;cases q with
  | non=>cases ry; exact SeqAt.EqAt.str_none a t'
  | bl b=>cases ry; exact SeqAt.EqAt.str_bool a t' b
  | int b=>obtain⟨t,rfl⟩:=ry; exact SeqAt.EqAt.str_int a t' b t
  | str b=>obtain⟨t,rfl⟩:=ry; exact SeqAt.EqAt.str_str a t' b t
  | lst h=>cases ry; obtain⟨its,_,hl⟩:=A1 hok h; exact SeqAt.EqAt.str_list a t' hl (lt0 hu)
  | tup h=>cases ry; obtain⟨its,_,hl⟩:=Bn hok h; exact SeqAt.EqAt.str_tuple a t' hl (lt0 hu)
 | @lst a vs ds h hz hn hl hr ih =>
  intro A n y e v u q rx ry hs hu;cases rx;obtain⟨its,rv,hil⟩:=A1 hok h;cases hs with
  | @lst n _ hs =>
   cases q with
   | non=>cases ry; exact SeqAt.EqAt.list_none hil (lt0 hu)
   | bl b=>cases ry; exact SeqAt.EqAt.list_bool b hil (lt0 hu)
   | int b=>obtain⟨t,rfl⟩:=ry; exact SeqAt.EqAt.list_int b t hil (lt0 hu)
   | str b=>obtain⟨t,rfl⟩:=ry; exact SeqAt.EqAt.list_str b t hil (lt0 hu)
   | @lst a' vs' es h' hz' hn' hl' hr' =>
    cases ry;by_cases hab:a=a'
    .subst hab
     have e:=(RepA.lst h hz hn hl hr).inj (RepA.lst h' hz' hn' hl' hr');cases e;rw[E7];exact SeqAt.EqAt.same _
    .obtain⟨its',rv',hil'⟩:=A1 hok h'
     have l1:=rv.length;have l2:=rv'.length;refine SeqAt.EqAt.of_refs hab ?_;rw[Ex];by_cases hlen:ds.length=es.length
     .rw[DU hlen,show ds.length=its.toArray.size by simp; lia]
      refine SeqAt.RcAt.lists hil hil' (by simp; lia) (lt0 hu) (Ez rv rv' hl hl' fun i v d v' e u u' e1 e2 e3 e4 ru ru'=>?_);exact ih i v d e1 e2 (hr' i v' e e3 e4) ru ru' (hs d (List.mem_of_getElem? e2)) (lt1 hu)
     .have:C0 ds es=false:=by
       cases q:C0 ds es with
       | false=>rfl
       | true=>exact absurd (DV q) hlen
      rw[this];exact SeqAt.RcAt.lists_lengths hil hil' (by simp; lia) (lt0 hu)
   | tup h' =>
    cases ry;obtain⟨its',_,hl'⟩:=Bn hok h';exact SeqAt.EqAt.list_tuple hil hl' (lt0 hu)
 | @tup a vs ds h hz hl hr ih =>
  intro A n y e v u q rx ry hs hu;cases rx;obtain⟨its,rv,hil⟩:=Bn hok h;cases hs with
  | @tup n _ hs =>
   cases q with
   | non=>cases ry; exact SeqAt.EqAt.tuple_none hil (lt0 hu)
   | bl b=>cases ry; exact SeqAt.EqAt.tuple_bool b hil (lt0 hu)
   | int b=>obtain⟨t,rfl⟩:=ry; exact SeqAt.EqAt.tuple_int b t hil (lt0 hu)
   | str b=>obtain⟨t,rfl⟩:=ry; exact SeqAt.EqAt.tuple_str b t hil (lt0 hu)
   | @tup a' vs' es h' hz' hl' hr' =>
    cases ry;by_cases hab:a=a'
    .subst hab
     have e:=(RepA.tup (N:=N) h hz hl hr).inj (RepA.tup h' hz' hl' hr');cases e;rw[E7];exact SeqAt.EqAt.same _
    .obtain⟨its',rv',hil'⟩:=Bn hok h'
     have l1:=rv.length;have l2:=rv'.length;refine SeqAt.EqAt.of_refs hab ?_;have q:=SeqAt.RcAt.tuples (A:=A) hil hil' (lt0 hu) (Ez rv rv' hl hl' fun i v d v' e u u' e1 e2 e3 e4 ru ru'=>ih i v d e1 e2 (hr' i v' e e3 e4) ru ru' (hs d (List.mem_of_getElem? e2)) (lt1 hu));rw[Ey];by_cases hlen:ds.length=es.length
     .have e1:(its.toArray.size==its'.toArray.size)=true:=by simp; lia
      have e2:min its.toArray.size its'.toArray.size=ds.length:=by simp; lia
      rw[e1,e2,Bool.and_true,<- DU hlen] at q;exact q
     .have e1:(its.toArray.size==its'.toArray.size)=false:=by simp; lia
      have e3:C0 ds es=false:=by
       cases q:C0 ds es with
       | false=>rfl
       | true=>exact absurd (DV q) hlen
      rw[e1,Bool.and_false] at q;rw[e3];exact q
   | lst h' =>
    cases ry;obtain⟨its',_,hl'⟩:=A1 hok h';exact SeqAt.EqAt.tuple_list hil hl' (lt0 hu)
theorem VL(hok:HOk P w H s.heap){A:Around}{n:Nat}{x y:V}{d e:D}{v u:Value}(r:RepA N H x d)(q:RepA N' H y e)(rx:RelV x v)(ry:RelV y u)(hs:Sh n d)(hu:A.units+n<cLine):SeqAt.RcAt A s v u (eqD d e):=by
 cases r with
 | non =>
  cases rx;cases q with
  | non=>cases ry; exact SeqAt.RcAt.none_none
  | bl b=>cases ry; exact SeqAt.RcAt.none_bool b
  | int b=>obtain⟨t,rfl⟩:=ry; exact SeqAt.RcAt.none_int b t
  | str b=>obtain⟨t,rfl⟩:=ry; exact SeqAt.RcAt.none_str b t
  | lst h=>cases ry; obtain⟨its,_,hl⟩:=A1 hok h; exact SeqAt.RcAt.none_list hl (lt0 hu)
  | tup h=>cases ry; obtain⟨its,_,hl⟩:=Bn hok h; exact SeqAt.RcAt.none_tuple hl (lt0 hu)
 | bl a =>
  cases rx;cases q with
  | non=>cases ry; exact SeqAt.RcAt.bool_none a
  | bl b=>cases ry; exact SeqAt.RcAt.bool_bool a b
  | int b=>obtain⟨t,rfl⟩:=ry; exact SeqAt.RcAt.bool_int a b t
  | str b=>obtain⟨t,rfl⟩:=ry; exact SeqAt.RcAt.bool_str a b t
  | lst h=>cases ry; obtain⟨its,_,hl⟩:=A1 hok h; exact SeqAt.RcAt.bool_list a hl (lt0 hu)
  | tup h=>cases ry; obtain⟨its,_,hl⟩:=Bn hok h; exact SeqAt.RcAt.bool_tuple a hl (lt0 hu)
 | int a =>
  obtain⟨t',rfl⟩:=rx;cases q with
  | non=>cases ry; exact SeqAt.RcAt.int_none a t'
  | bl b=>cases ry; exact SeqAt.RcAt.int_bool a t' b
  | int b=>obtain⟨t,rfl⟩:=ry; exact SeqAt.RcAt.int_int a t' b t
  | str b=>obtain⟨t,rfl⟩:=ry; exact SeqAt.RcAt.int_str a t' b t
  | lst h=>cases ry; obtain⟨its,_,hl⟩:=A1 hok h; exact SeqAt.RcAt.int_list a t' hl (lt0 hu)
  | tup h=>cases ry; obtain⟨its,_,hl⟩:=Bn hok h; exact SeqAt.RcAt.int_tuple a t' hl (lt0 hu)
 | str a =>
  obtain⟨t',rfl⟩:=rx;cases q with
  | non=>cases ry; exact SeqAt.RcAt.str_none a t'
  | bl b=>cases ry; exact SeqAt.RcAt.str_bool a t' b
  | int b=>obtain⟨t,rfl⟩:=ry; exact SeqAt.RcAt.str_int a t' b t
  | str b=>obtain⟨t,rfl⟩:=ry; exact SeqAt.RcAt.str_str a t' b t
  | lst h=>cases ry; obtain⟨its,_,hl⟩:=A1 hok h; exact SeqAt.RcAt.str_list a t' hl (lt0 hu)
  | tup h=>cases ry; obtain⟨its,_,hl⟩:=Bn hok h; exact SeqAt.RcAt.str_tuple a t' hl (lt0 hu)
 | @lst a vs ds h hz hn hl hr =>
  cases rx;obtain⟨its,rv,hil⟩:=A1 hok h;cases hs with
  | @lst n _ hs =>
   cases q with
   | non=>cases ry; exact SeqAt.RcAt.list_none hil (lt0 hu)
   | bl b=>cases ry; exact SeqAt.RcAt.list_bool b hil (lt0 hu)
   | int b=>obtain⟨t,rfl⟩:=ry; exact SeqAt.RcAt.list_int b t hil (lt0 hu)
   | str b=>obtain⟨t,rfl⟩:=ry; exact SeqAt.RcAt.list_str b t hil (lt0 hu)
   | @lst a' vs' es h' hz' hn' hl' hr' =>
    cases ry;obtain⟨its',rv',hil'⟩:=A1 hok h';have l1:=rv.length;have l2:=rv'.length;rw[Ex];by_cases hlen:ds.length=es.length
    .rw[DU hlen,show ds.length=its.toArray.size by simp; lia]
     refine SeqAt.RcAt.lists hil hil' (by simp; lia) (lt0 hu) (Ez rv rv' hl hl' fun i v d v' e u u' e1 e2 e3 e4 ru ru'=>?_);exact J8 hok (hr i v d e1 e2) (hr' i v' e e3 e4) ru ru' (hs d (List.mem_of_getElem? e2)) (lt1 hu)
    .have:C0 ds es=false:=by
      cases q:C0 ds es with
      | false=>rfl
      | true=>exact absurd (DV q) hlen
     rw[this];exact SeqAt.RcAt.lists_lengths hil hil' (by simp; lia) (lt0 hu)
   | tup h' =>
    cases ry;obtain⟨its',_,hl'⟩:=Bn hok h';exact SeqAt.RcAt.list_tuple hil hl' (lt0 hu)
 | @tup a vs ds h hz hl hr =>
  cases rx;obtain⟨its,rv,hil⟩:=Bn hok h;cases hs with
  | @tup n _ hs =>
   cases q with
   | non=>cases ry; exact SeqAt.RcAt.tuple_none hil (lt0 hu)
   | bl b=>cases ry; exact SeqAt.RcAt.tuple_bool b hil (lt0 hu)
   | int b=>obtain⟨t,rfl⟩:=ry; exact SeqAt.RcAt.tuple_int b t hil (lt0 hu)
   | str b=>obtain⟨t,rfl⟩:=ry; exact SeqAt.RcAt.tuple_str b t hil (lt0 hu)
   | @tup a' vs' es h' hz' hl' hr' =>
    cases ry;obtain⟨its',rv',hil'⟩:=Bn hok h';have l1:=rv.length;have l2:=rv'.length;have q:=SeqAt.RcAt.tuples (A:=A) hil hil' (lt0 hu) (Ez rv rv' hl hl' fun i v d v' e u u' e1 e2 e3 e4 ru ru'=>J8 hok (hr i v d e1 e2) (hr' i v' e e3 e4) ru ru' (hs d (List.mem_of_getElem? e2)) (lt1 hu))
    rw[Ey];by_cases hlen:ds.length=es.length
    .have e1:(its.toArray.size==its'.toArray.size)=true:=by simp; lia
     have e2:min its.toArray.size its'.toArray.size=ds.length:=by simp; lia
     rw[e1,e2,Bool.and_true,<- DU hlen] at q;exact q
    .have e1:(its.toArray.size==its'.toArray.size)=false:=by simp; lia
     have e3:C0 ds es=false:=by
      cases q:C0 ds es with
      | false=>rfl
      | true=>exact absurd (DV q) hlen
     rw[e1,Bool.and_false] at q;rw[e3];exact q
   | lst h' =>
    cases ry;obtain⟨its',_,hl'⟩:=A1 hok h';exact SeqAt.RcAt.tuple_list hil hl' (lt0 hu)
end
section
variable{X:Cx}{k:Nat}
theorem El(hr:Room k X.A):OpR X (compareOp .Eq) (fun x y H Q=>∃d e,Rep H x d/\Rep H y e/\Sh 16 d/\Q (.bl (eqD d e)) H):=by
 intro pins s U H x y v u Q I rx ry h;obtain⟨d,e,r1,r2,hs,q⟩:=h;exact EqBoolInt.of_rc (VL I.hok r1 r2 rx ry hs (by have:=hr.units; lia)) ⟨.bl _,H,I,rfl,q⟩
end
structure FlyAt (P:Program) (w:World) (outer:List Env) (H:Hp) (s:Shared) (a C:Addr) (a0:Value) (B:Heap) (H':Hp) (s':Shared):Prop where
 os:s'.os=s.os
 bare:AllBare s'.gens
 fly:Heap.FlyingW B outer a (.ref C) a0 s'.heap
 keep:∀b o,s.heap.get? b=some o->H b=none->b∉frs outer->B.get? b=some o
 slot:∀b o,s.heap.get? b=some o->H b=none->b∈frs outer->∃sl,s'.heap.get? b=some { o with slots:=sl }
 free:∀b o,s.heap.get? b=some o->H b=none->H' b=none
 there:∀b o,s.heap.get? b=some o->b∉frs outer->∃o',B.get? b=some o'
 tups:∀b xs,H b=some (.tup xs)->H' b=some (.tup xs)
 frzs:∀b o u,H b=some (.frz o u)->H' b=some (.frz o u)
 tbls:∀b ps,H b=some (.tbl ps)->∃more,H' b=some (.tbl (ps++more))
 hok:HOk P w H' B
 pl:A2 s'.heap a
noncomputable def Fly(P:Program)(w:World):CXT:=fun outer H s E e s'=>∃(a C:Addr) (a0:Value) (B:Heap) (H':Hp),e=.ref a/\FlyAt P w outer H s a C a0 B H' s'/\E (.ref C) none H'
theorem EN{h base:Heap}{l:List Env}(F:h.FunFrames base l){b:Addr}(hb:b∈frs l){o:Obj}(e:h.get? b=some o):∀vs,o.data≠.fields vs:=by
 obtain⟨_,o',e',d⟩:=F.mem hb;rw[e] at e'; cases e';exact d
theorem PY{env:Env}{l:List Env}{L:Addr}(h:env.frame=some L):frs (env::l)=L::frs l:=by
 unfold frs;rw[filterMap_cons,h]
section
variable{P:Program}{w:World}{K:Frag}{mg:Str->Option Value}{base:Heap}{N:List Str}{qual:Str}{scope:Scope}{f:Addr}{cd:Value}{A:Around}{outer:List Env}{s:Shared}{H:Hp}{E E':XK}
theorem MV{pins:List (Addr×Obj)}{U:St}{H1:Hp}{s1:Shared}{h2:Heap}{e C:Addr}{args:List Value}(I:Inv (Bx (Fly P w) P w K mg base N qual scope f cd A outer s H E) pins U H1 s1)(hm:Heap.MadeExcOf s1.heap h2 e (.ref C) args)(q:E (.ref C) none H1):(Bx (Fly P w) P w K mg base N qual scope f cd A outer s H E).xe (.ref e) { s1 with heap:=h2 }:=by
 have lt:∀{b:Addr} {o:Obj},s.heap.get? b=some o->b≠s.heap.objs.size:=fun e=>ne_of_lt (lt_size e);have hfs:frs (envOfC qual scope s.heap.objs.size f cd::outer)=s.heap.objs.size::frs outer:=PY rfl;have nex:∀b:Addr,b∉(Bx (Fly P w) P w K mg base N qual scope f cd A outer s H E).ex:=fun b z=>absurd (show b∈([]:List Addr) from z) (by simp);have u:=I.base;have hB:∀{b:Addr} {o:Obj},s1.heap.get? b=some o->b∉frs (envOfC qual scope s.heap.objs.size f cd::outer)->(PySem.W.hideAll s1.heap (frs (envOfC qual scope s.heap.objs.size f cd::outer))).get? b=some o:=fun e n=>PySem.W.hideAll_get _ e n;show wpAny (model P w) (A.deeper (envOfC qual scope s.heap.objs.size f cd)) (leaving (envOfC qual scope s.heap.objs.size f cd) (.ref e)) _ _ _;refine LA (L:=s.heap.objs.size) (base:=PySem.W.hideAll s1.heap (frs (envOfC qual scope s.heap.objs.size f cd::outer))) (h:=s1.heap) (s:={ s1 with heap:=h2 }) I.ok.frames rfl (fun b o e=>PySem.W.of_hideAll _ e)
  (PySem.W.funFrames_hide I.stack fun env he b hb=>mem_filterMap.mpr ⟨env,he,hb⟩) hm fun h' t fl' sm pl=>?_
 refine⟨e,C,.ref t,_,H1,rfl,⟨I.os,I.bare,fl',fun b o e n hb=>?_,fun b o e n hb=>?_,fun b o e n=>u.free b o e n (nex b),fun b o e hb=>?_,u.tups,u.frzs,u.tbls,fun b o e=>?_,pl⟩,q⟩
 .refine hB (u.keep b o e n hb (nex b)) ?_
  rw[hfs];exact fun z=>(mem_cons.mp z).elim (lt e) hb
 .obtain⟨sl,e1⟩:=u.slot b o e n hb (nex b)
  obtain⟨sl3,e3⟩:=sm b { o with slots:=sl } (hm.keeps b { o with slots:=sl } e1) (show ∀vs,o.data≠.fields vs from EN I.ok.funs hb e);exact⟨sl3,e3⟩
 .obtain⟨o',e1⟩:=u.there b o e (nex b)
  exact⟨o',hB e1 (by rw[hfs]; exact fun z=>(mem_cons.mp z).elim (lt e) hb)⟩
 .refine(I.hok b o e).stay (fun c w' hc q=>hB q fun z=>?_) (fun _ q=>q) fun _ _ q=>q
  have n:H1 c=none:=I.stkFree c z;rcases hc with rfl|hc
  .rw[n] at e; cases e
  .rw[n] at hc; cases hc
end
noncomputable def RC:List Value:=[.type "ValueError",.type "Exception",.type "BaseException",.type "object"]
theorem NM{K:Frag}{h:Heap}{C:Addr}{bmB:List Value}{newId:String}(X:K.In h)(q:PySem.W.excIn K C bmB newId=true):
  ∃bm N nm qn bs hdct sn sub ab col dd k0 k1 k2 k3 k5 mN,h.get? C=some (excClassObj nm qn C N bs bm hdct sn sub ab col dd k0 k1 k2 k3 k5 newId)/\h.Ns N mN/\mN "__init__" = none/\OwnTail h bmB bm:=by
 unfold PySem.W.excIn at q;split at q
 .rename_i dd cd sl ho
  split at q
  .rename_i C' bm k0 k1 k2 k3 n k5 hm hs
   simp only[and_eq_true,beq_iff_eq,not_eq_true'] at q;obtain⟨⟨⟨⟨⟨rfl,rfl⟩,hdel⟩,ht⟩,hok⟩,hni⟩:=q;obtain⟨nm,bs,mro,ns,qn,hd,sn,sub,ab,col,del⟩:=cd;dsimp only at hm hdel hok hni;subst hm hdel;have hsl:sl = #[k0,k1,k2,k3,some (.builtin n),k5]:=by
    obtain⟨l⟩:=sl;simp only at hs;rw[hs]
   subst hsl;exact⟨bm,ns,nm,qn,bs,hd,sn,sub,ab,col,dd,k0,k1,k2,k3,k5,_,X _ _ ho,.of_isNs (PySem.W.isNs_of_in X hok),PySem.W.nsMap_none_of_in X hok hni,PySem.W.tail_of_in X ht⟩
  .cases q
 .cases q
structure Exc (K:Frag) (mg:Str->Option Value) (x:Str) (C:Addr):Prop where
 at_:mg x=some (.ref C)
 own:PySem.W.excIn K C RC "ValueError.__new__" = true
section
variable{P:Program}{w:World}{K:Frag}{mg:Str->Option Value}{base:Heap}{N:List Str}{qual:Str}{scope:Scope}{f:Addr}{cd:Value}{A:Around}{outer:List Env}{s:Shared}{H:Hp}{E:XK}
noncomputable def Nw(E:XK)(C:Addr)(ta:TA):TS:=fun _ U H=>ta U H fun vs H1=>vs.length<=sizeLine/\E (.ref C) none H1
theorem QT{x:Str}{C:Addr}{np cpos pos:Pos}{e:Expr}{es:List Expr}{ta:TA}(X:Exc K mg x C)(hh:A.handled=none)(ha:PA (Bx (Fly P w) P w K mg base N qual scope f cd A outer s H E) (e::es) ta)(hg:Gl (Bx (Fly P w) P w K mg base N qual scope f cd A outer s H E) x:=by rfl)(hdb:(x==("__debug__" : Str))=false:=by decide +kernel)(he:starEach (e::es) (Bx (Fly P w) P w K mg base N qual scope f cd A outer s H E).env=(false,eval e (Bx (Fly P w) P w K mg base N qual scope f cd A outer s H E).env)::starEach es (Bx (Fly P w) P w K mg base N qual scope f cd A outer s H E).env:=by rfl)(hpl:(backTo cpos (starEach es (Bx (Fly P w) P w K mg base N qual scope f cd A outer s H E).env)).any (·.1)=false:=by rfl):
  PS (Bx (Fly P w) P w K mg base N qual scope f cd A outer s H E) (.Raise (some (.Call (.Name x np) (e::es) [] cpos)) none pos) (Nw E C ta):=by
 intro pins s1 U H1 D I h;obtain⟨bm,Nn,nm,qn,bs,hdct,sn,sub,ab,col,dd,k0,k1,k2,k3,k5,mN,hC,hN,hni,T⟩:=NM I.mod.kin X.own;refine wpAny_Raise_call_subU (C:=C) (nm:=nm) (q:=qn) (N:=Nn) (bs:=bs) (bm:=bm) (hdct:=hdct) (sn:=sn) (sub:=sub) (ab:=ab) (col:=col) (dd:=dd) (k0:=k0) (k1:=k1) (k2:=k2) (k3:=k3) (k5:=k5)
  PySem.F.excBase_ValueError dK PySem.F.excBase_ValueError (mN:=mN) (T.hasType PySem.F.excBase_ValueError.hasBase) (show A.handled=none from hh)
  (by rw[he]; show(false || (backTo cpos (starEach es (Bx (Fly P w) P w K mg base N qual scope f cd A outer s H E).env)).any (·.1))=false; rw[hpl]; rfl) hni (GA I hg X.at_ ⟨rfl,?_⟩ hdb)
 have hA:=ha cpos pins s1 U H1 _ I h;rw[he] at hA |-;refine Calls.evalArgs_plain (thn hA fun us s2 ⟨vs,H2,I2,r2,hz,q2⟩=>⟨rfl,by rw[<- r2.length]; exact hz,I2.bk _ _ hC,hN.keeps I2.bk,T.keeps I2.bk,fun h' e' hm=>?_⟩);exact MV I2 hm q2
end
structure Blt (mg:Str->Option Value) (K:Frag):Prop where
 isinstance:mg "isinstance" = none
 len:mg "len" = none
 all:mg "all" = none
 any:mg "any" = none
 range:mg "range" = none
 list:mg "list" = none
 int:mg "int" = none
 bool:mg "bool" = none
 tuple:mg "tuple" = none
 str:mg "str" = none
 abs:mg "abs" = none
 max:mg "max" = none
 min:mg "min" = none
 dict:mg "dict" = none
section
variable{X:Cx}{x:Str}{p pos:Pos}{e:Expr}{es:List Expr}{t:TA}{id T:String}{r:List V->Hp->VK->Prop}
theorem OZ(hc:B9 X (.builtin id) r)(hm:X.mg x=none)(hv:bootBuiltins x=some (.builtin id))(hn:x ≠ "__name__")(hdb:(x==("__debug__" : Str))=false)(hg:Gl X x)(he:starEach (e::es) X.env=(false,eval e X.env)::starEach es X.env)(hpl:(backTo pos (starEach es X.env)).any (·.1)=false)(ha:PA X (e::es) t):PE X (.Call (.Name x p) (e::es) [] pos) (tCB r t):=Iz hc hg hm hv ha hn hdb he hpl
theorem O0(hc:B9 X (.type T) r)(hm:X.mg x=none)(hv:bootBuiltins x=some (.type T))(hn:x ≠ "__name__")(hdb:(x==("__debug__" : Str))=false)(hg:Gl X x)(he:starEach (e::es) X.env=(false,eval e X.env)::starEach es X.env)(hpl:(backTo pos (starEach es X.env)).any (·.1)=false)(ha:PA X (e::es) t):PE X (.Call (.Name x p) (e::es) [] pos) (tCB r t):=O1 hc hg hm hv ha hn hdb he hpl
theorem SS{t:TE}(he:∀whole,isTrue e X.env whole=(do let v <- whole; standAt e.pos; holding [v] (truthy v)))(h:PE X e t):PT X e (tB t):=VF h he
end
section
variable{X:Cx}{p pos:Pos}{e:Expr}{es:List Expr}{t:TA}
noncomputable def isInt:D->Bool
 | .int _=>true
 | .bl _=>true
 | .non | .str _ | .lst _ | .tup _=>false
noncomputable def isBool:D->Bool
 | .bl _=>true
 | .non | .int _ | .str _ | .lst _ | .tup _=>false
noncomputable def Eg:D->Bool
 | .lst _=>true
 | .non | .bl _ | .int _ | .str _ | .tup _=>false
noncomputable def isTup:D->Bool
 | .tup _=>true
 | .non | .bl _ | .int _ | .str _ | .lst _=>false
noncomputable def isStr:D->Bool
 | .str _=>true
 | .non | .bl _ | .int _ | .lst _ | .tup _=>false
noncomputable def rIs(T:String)(f:D->Bool):List V->Hp->VK->Prop:=fun xs H Q=>∃x d,xs=[x,.ty T]/\Rep H x d/\Q (.bl (f d)) H
theorem RM{T:String}{f:D->Bool}(hf:∀d,isI (FK d) T=f d)(hT:T∈["int","bool","tuple","list","str"]):B9 X (.builtin "isinstance") (rIs T f):=by
 intro pins s U H xs us Q I r h;obtain⟨x,d,rfl,rp,q⟩:=h;exact PC pins s U H _ us Q I r ⟨x,FK d,T,rfl,rp.typ,hT,by rw[hf]; exact q⟩
theorem RY:∀d,isI (FK d) "int" = isInt d:=fun d=>by cases d<;>(simp only[FK,isInt]; decide +kernel)
theorem Qa:∀d,isI (FK d) "bool" = isBool d:=fun d=>by cases d<;>(simp only[FK,isBool]; decide +kernel)
theorem Qb:∀d,isI (FK d) "list" = Eg d:=fun d=>by cases d<;>(simp only[FK,Eg]; decide +kernel)
theorem OF:∀d,isI (FK d) "tuple" = isTup d:=fun d=>by cases d<;>(simp only[FK,isTup]; decide +kernel)
theorem RZ:∀d,isI (FK d) "str" = isStr d:=fun d=>by cases d<;>(simp only[FK,isStr]; decide +kernel)
theorem IA{a:Expr}{ta:TE}{q:Pos}{x:Str}{T:String}{f:D->Bool}(hf:∀d,isI (FK d) T=f d)(hT:T∈["int","bool","tuple","list","str"])(hn:PE X (.Name x q) (tC (.ty T)))(hg:Gl X "isinstance"){K:Frag}(B:Blt X.mg K)(he:starEach [a,.Name x q] X.env=[(false,eval a X.env),(false,eval (.Name x q) X.env)])(he2:starEach [.Name x q] X.env=[(false,eval (.Name x q) X.env)])(ha:PE X a ta):
  PE X (.Call (.Name "isinstance" p) [a,.Name x q] [] pos) (tCB (rIs T f) (Cd ta (Cd (tC (.ty T)) FI))):=
 Iz (RM hf hT) hg B.isinstance PyProof.Rows.Boot.«isinstance» (Cu ha (Cu hn D4 he2) (he.trans (by rw[he2]))) dK dK (he.trans (by rw[he2])) (by rw[he2]; rfl)
theorem Vj{a:Expr}{ta:TE}{q:Pos}(hg:Gl X "isinstance")(hg2:Gl X "int"){K:Frag}(B:Blt X.mg K)(he:starEach [a,.Name "int" q] X.env=[(false,eval a X.env),(false,eval (.Name "int" q) X.env)])(he2:starEach [.Name "int" q] X.env=[(false,eval (.Name "int" q) X.env)])(ha:PE X a ta):
  PE X (.Call (.Name "isinstance" p) [a,.Name "int" q] [] pos) (tCB (rIs "int" isInt) (Cd ta (Cd (tC (.ty "int")) FI))):=IA RY (by decide) (FA hg2 B.int PyProof.Rows.Boot.«int» rfl dK dK) hg B he he2 ha
theorem Vi{a:Expr}{ta:TE}{q:Pos}(hg:Gl X "isinstance")(hg2:Gl X "bool"){K:Frag}(B:Blt X.mg K)(he:starEach [a,.Name "bool" q] X.env=[(false,eval a X.env),(false,eval (.Name "bool" q) X.env)])(he2:starEach [.Name "bool" q] X.env=[(false,eval (.Name "bool" q) X.env)])(ha:PE X a ta):
  PE X (.Call (.Name "isinstance" p) [a,.Name "bool" q] [] pos) (tCB (rIs "bool" isBool) (Cd ta (Cd (tC (.ty "bool")) FI))):=IA Qa (by decide) (FA hg2 B.bool PyProof.Rows.Boot.«bool» rfl dK dK) hg B he he2 ha
theorem Vk{a:Expr}{ta:TE}{q:Pos}(hg:Gl X "isinstance")(hg2:Gl X "list"){K:Frag}(B:Blt X.mg K)(he:starEach [a,.Name "list" q] X.env=[(false,eval a X.env),(false,eval (.Name "list" q) X.env)])(he2:starEach [.Name "list" q] X.env=[(false,eval (.Name "list" q) X.env)])(ha:PE X a ta):
  PE X (.Call (.Name "isinstance" p) [a,.Name "list" q] [] pos) (tCB (rIs "list" Eg) (Cd ta (Cd (tC (.ty "list")) FI))):=IA Qb (by decide) (FA hg2 B.list PyProof.Rows.Boot.«list» rfl dK dK) hg B he he2 ha
theorem Vm{a:Expr}{ta:TE}{q:Pos}(hg:Gl X "isinstance")(hg2:Gl X "tuple"){K:Frag}(B:Blt X.mg K)(he:starEach [a,.Name "tuple" q] X.env=[(false,eval a X.env),(false,eval (.Name "tuple" q) X.env)])(he2:starEach [.Name "tuple" q] X.env=[(false,eval (.Name "tuple" q) X.env)])(ha:PE X a ta):
  PE X (.Call (.Name "isinstance" p) [a,.Name "tuple" q] [] pos) (tCB (rIs "tuple" isTup) (Cd ta (Cd (tC (.ty "tuple")) FI))):=IA OF (by decide) (FA hg2 B.tuple PyProof.Rows.Boot.«tuple» rfl dK dK) hg B he he2 ha
theorem Vn{a:Expr}{ta:TE}{q:Pos}(hg:Gl X "isinstance")(hg2:Gl X "str"){K:Frag}(B:Blt X.mg K)(he:starEach [a,.Name "str" q] X.env=[(false,eval a X.env),(false,eval (.Name "str" q) X.env)])(he2:starEach [.Name "str" q] X.env=[(false,eval (.Name "str" q) X.env)])(ha:PE X a ta):
  PE X (.Call (.Name "isinstance" p) [a,.Name "str" q] [] pos) (tCB (rIs "str" isStr) (Cd ta (Cd (tC (.ty "str")) FI))):=IA RZ (by decide) (FA hg2 B.str PyProof.Rows.Boot.«str» rfl dK dK) hg B he he2 ha
noncomputable def XF(K:Frag):List V->Hp->VK->Prop:=fun xs H Q=>∃p bs,xs=[.ref p]/\SqL K H p (DO bs)/\Q (.bl (bs.all id)) H
noncomputable def XG(K:Frag):List V->Hp->VK->Prop:=fun xs H Q=>∃p bs,xs=[.ref p]/\SqL K H p (DO bs)/\Q (.bl (bs.any id)) H
noncomputable def W4(K:Frag):List V->Hp->VK->Prop:=fun xs H Q=>(∃p ys,xs=[.ref p]/\(SqL K H p ys\/SqT K H p ys)/\Q (.int ys.length) H)\/∃z,xs=[.str z]/\z.length<=sizeLine/\Q (.int z.length) H
end
section
variable{X:Cx}{a b c e:Expr}{ta tb tc:TE}{p pos:Pos}{es:List Expr}{t:TA}{x:Str}
theorem OW:OpR X (compareOp .LtE) (fun x y H Q=>∃i j,x=.str i/\y=.str j/\Q (.bl (!decide (j.cps.toList<i.cps.toList))) H):=by
 intro pins s U H x y v u Q I rx ry h;obtain⟨i,j,rfl,rfl,q⟩:=h;obtain⟨t,rfl⟩:=rx;obtain⟨t',rfl⟩:=ry;exact PySem.P.le_str (Mz I q rfl)
noncomputable def XH:R2:=fun x y H Q=>∃d e,Rep H x d/\Rep H y e/\Sh 16 d/\Q (.bl (eqD d e)) H
noncomputable def T2:R2:=fun x y H Q=>(∃i j,x=.int i/\y=.int j/\Q (.bl (decide (i<j))) H)\/∃i j,x=.str i/\y=.str j/\Q (.bl (decide (i.cps.toList<j.cps.toList))) H
noncomputable def T1:R2:=fun x y H Q=>(∃i j,x=.int i/\y=.int j/\Q (.bl (decide (i<=j))) H)\/∃i j,x=.str i/\y=.str j/\Q (.bl (!decide (j.cps.toList<i.cps.toList))) H
theorem GG:OpR X (compareOp .Lt) T2:=WS.or OX
theorem DG:OpR X (compareOp .LtE) T1:=WR.or OW
noncomputable def PEc(X:Cx)(own:List Str)(scope:Scope)(e:Expr)(t:TE):Prop:=∀C s H fp pins,PE (cxC X own scope C s H fp pins) e t
noncomputable def PTc(X:Cx)(own:List Str)(scope:Scope)(ifs:List Expr)(t:TT):Prop:=∀C s H fp pins,PTs (cxC X own scope C s H fp pins) ifs t
structure Names (N:List Str):Prop where
 nd:N.Nodup
theorem Vp{scope:Scope}{iter elt:Expr}{ifs:List Expr}{px:Pos}{wi:TI}{tt:TT}{te:TE}(hok:Ct [x] X.N scope X.env.scope=true)(hc:X.calm=true){NN:List Str}(hn:Names NN)(hX:X.N=NN)(hx:scope.names.lookup x=some .local)(hs:∀z,foldedSetIterable iter X.env z=pure z)(hi:PI X (.Name x px) iter wi)(ht:PTc X [x] scope ifs tt)(he:PEc X [x] scope elt te):
  PE X (.ListComp elt [⟨.Name x px,iter,ifs,0⟩] scope pos) (tLc wi Pp tt te):=by
 have hnx:∀y∈X.N,x≠y:=fun y hy z=>by
  simp only[Ct,and_eq_true,all_eq_true] at hok;have:=hok.2 x (by simp);rw[z] at this;simp[hy] at this
 exact TX hc hok hi (fun C s H fp pins=>LX rfl (nodup_cons.mpr ⟨fun z=>hnx x z rfl,by rw[hX]; exact hn.nd⟩) (lookup_relabel_local hx)) ht he hs
structure GInt (mg:Str->Option Value) (x:Str) (n:Int):Prop where
 at_:∃t,mg x=some (.int n t)
theorem SF{mg:Str->Option Value}{n:Int}(G:GInt mg x n)(hm:X.mg=mg)(hg:Gl X x)(hd:(x==("__debug__" : Str))=false):PE X (.Name x pos) (tC (.int n)):=by
 subst hm;obtain⟨t,e⟩:=G.at_;exact N1 hg e ⟨t,rfl⟩ hd
end
section
variable{P:Program}{w:World}{K:Frag}{mg:Str->Option Value}{base:Heap}
theorem Fun.okF{x qual:Str}{st:Stmt}{f:Addr}{fd:FuncData}{N ps:List Str}{k:Nat}{sp:Sp}(F:Fun K x qual st f fd)(S:FnScope N ps (As st))(len:∀vs H Q E,sp vs H Q E->vs.length=ps.length)(hbody:∀(cdv:Value) (A:Around) (outer:List Env) (s:Shared) (H:Hp) (vs:List V) (Q:VK) (E:XK),Room k (A.deeper (envOfC qual (As st) s.heap.objs.size f cdv))->sp vs H Q E ->
   ∃t,PSs (Bx (Fly P w) P w K mg base N qual (As st) f cdv A outer s H E) (BV st) t/\t { nx:=fun _ H'=>Q .non H',rt:=Q } (start N vs) H):FnOk P w K mg base (Fly P w) (k+1) f fd ps sp:=by
 obtain⟨oc,od,kV,doc,pm,an,cdv,ct,osl,rfl,lk,hcd⟩:=F.ex;exact PU lk hcd S len fun A outer s H vs Q E hr hsp=>hbody cdv A outer s H vs Q E hr hsp
theorem O5{N:List Str}{qual:Str}{scope:Scope}{f:Addr}{cd:Value}{A:Around}{outer:List Env}{s:Shared}{H:Hp}{E:XK}{x:Str}{C:Addr}{np cpos pos:Pos}{e:Expr}{es:List Expr}{ta:TA}{k:Nat}(X:Exc K mg x C)(hr:Room k (A.deeper (envOfC qual scope s.heap.objs.size f cd)))(hg:Gl (Bx (Fly P w) P w K mg base N qual scope f cd A outer s H E) x)(hdb:(x==("__debug__" : Str))=false)(he:starEach (e::es) (Bx (Fly P w) P w K mg base N qual scope f cd A outer s H E).env=(false,eval e (Bx (Fly P w) P w K mg base N qual scope f cd A outer s H E).env)::starEach es (Bx (Fly P w) P w K mg base N qual scope f cd A outer s H E).env)(hpl:(backTo cpos (starEach es (Bx (Fly P w) P w K mg base N qual scope f cd A outer s H E).env)).any (·.1)=false)(ha:PA (Bx (Fly P w) P w K mg base N qual scope f cd A outer s H E) (e::es) ta):
  PS (Bx (Fly P w) P w K mg base N qual scope f cd A outer s H E) (.Raise (some (.Call (.Name x np) (e::es) [] cpos)) none pos) (Nw E C ta):=QT X hr.hd ha hg hdb he hpl
end
noncomputable def glue(ys:List Str):Str:=⟨(ys.map fun y=>y.cps.toList).flatten.toArray⟩
theorem MB(ys:List Str):∀acc:Array Nat,List.foldl (fun(acc:Array Nat) (p:Str)=>acc++(("" : Str)).cps++p.cps) acc ys=acc++((ys.map fun y=>y.cps.toList).flatten.toArray):=by
 induction ys with
 | nil=>intro acc; simp
 | cons y ys ih =>
  intro acc;rw[foldl_cons,ih];have e:(("" : Str)).cps = #[]:=by decide +kernel
  rw[e];apply Array.ext';simp
theorem MP(ys:List Str):Txt.join ("" : Str) ys=glue ys:=by
 cases ys with
 | nil=>decide +kernel
 | cons y ys =>
  have e:Txt.join ("" : Str) (y::ys)=⟨List.foldl (fun(acc:Array Nat) (p:Str)=>acc++(("" : Str)).cps++p.cps) y.cps ys⟩:=rfl;rw[e,MB];unfold glue;congr 1;apply Array.ext';simp
section
variable{X:Cx}{a e:Expr}{ta te:TE}{apos cpos:Pos}
theorem Gg:∀{ys:List Str} {us:List Value},Vals (ys.map V.str) us->StrsAre us ys
 | [],_,.nil=>.nil
 | _::_,_,.cons ⟨t,e⟩ r=>by subst e; exact .cons _ _ (Gg r)
noncomputable def rJoin(K:Frag):V->List V->Hp->VK->Prop:=fun x xs H Q=>∃sep p ys,x=.str sep/\xs=[.ref p]/\SqL K H p (ys.map V.str)/\(ys.map (·.length)).sum+ys.length*sep.length<=16777216/\Q (.str (Txt.join sep ys)) H
theorem Se:MtR X "str.join" (rJoin X.K):=by
 intro pins s U H x xs v us Q I rx rv h;obtain⟨sep,p,ys,rfl,rfl,hq,hz,q⟩:=h;obtain⟨t,rfl⟩:=rx;obtain⟨u,rfl,ru⟩:=rv.one;cases ru;obtain⟨its,r,pl,_⟩:=I.list hq;exact join_list pl.isList (by simpa using Gg r) hz fun t' k=>⟨.str _,H,I.tok k,⟨_,rfl⟩,q⟩
noncomputable def Ng:V->List V->Hp->VK->Prop:=fun x xs H Q=>∃z y,x=.str z/\xs=[.str y]/\0<=Txt.find z y/\Q (.int (Txt.find z y)) H
theorem Qx(hc:X.calm=true):MtR X "str.index" Ng:=by
 intro pins s U H x xs v us Q I rx rv h;obtain⟨z,y,rfl,rfl,h0,q⟩:=h;obtain⟨t,rfl⟩:=rx;obtain⟨u,rfl,ru⟩:=rv.one;obtain⟨t',rfl⟩:=ru;exact index_or (I.ok.hd hc) (fun e=>absurd h0 (by lia)) fun _ _=>⟨.int _,H,I.tok _,⟨_,rfl⟩,q⟩
theorem SG{K:Frag}(hK:X.K=K)(B:Blt X.mg K)(hbase:attributeBase a "join" X.env (eval a X.env)=eval a X.env)(hline:(apos.endLine==cpos.line)=true)(hs:starEach [e] X.env=[(false,eval e X.env)])(ha:PE X a ta)(he:PE X e te):
  PE X (.Call (.Attribute a "join" apos) [e] [] cpos) (tBM K "str" (rJoin K) ta (Cd te FI)):=by
 subst hK;exact N0 F.plainAttrs_str F.slot_str_join F.type_str_join Se ha (Cu he D4 hs) hbase (by rw[hs]; rfl) hline hs rfl
theorem QI{K:Frag}(hK:X.K=K)(B:Blt X.mg K)(hc:X.calm=true)(hbase:attributeBase a "index" X.env (eval a X.env)=eval a X.env)(hline:(apos.endLine==cpos.line)=true)(hs:starEach [e] X.env=[(false,eval e X.env)])(ha:PE X a ta)(he:PE X e te):
  PE X (.Call (.Attribute a "index" apos) [e] [] cpos) (tBM K "str" Ng ta (Cd te FI)):=by
 subst hK;exact N0 F.plainAttrs_str F.slot_str_index F.type_str_index (Qx hc) ha (Cu he D4 hs) hbase (by rw[hs]; rfl) hline hs rfl
end
theorem PQ{x:Str}{c i:Nat}(hi:x.cps.toList[i]? = some c)(hf:∀k,k<i->x.cps.toList[k]? ≠ some c):Txt.find x ⟨#[c]⟩=(i:Int):=by
 rcases find_whole x ⟨#[c]⟩ with ⟨_,h⟩|⟨j,e,hj,hl⟩
 .exact absurd ((StrLaws.subAt_one x c i).mpr hi) (h i)
 .have ej:=(StrLaws.subAt_one x c j).mp hj
  have:j=i:=by
   rcases Nat.lt_trichotomy i j with h|h|h
   .exact absurd ((StrLaws.subAt_one x c i).mpr hi) (hl i h)
   .exact h.symm
   .exact absurd ej (hf j h)
  rw[e,this]
section
variable{X:Cx}{p pos:Pos}{e:Expr}{es:List Expr}{t:TA}
noncomputable def SW(K:Frag):List V->Hp->VK->Prop:=fun xs H Q=>∃p ys,xs=[.ref p]/\(SqL K H p ys\/SqT K H p ys)/\∀l,H l=none->Q (.ref l) (upd H l (.lst ys))
end
end L2
end
section
namespace J
open PySem L2
inductive A where
 | fz (d:D)|lst (as:List A)|tup (as:List A)|scr (ns:List Int)|dic (kvs:List (Key×D))|opq (a:Addr) (o:Obj)
inductive Own where
 | own|lent|ro
 deriving DecidableEq
noncomputable abbrev Slot:=Option (Own×A)
noncomputable abbrev Ro:=List Slot
inductive R where
 | val (a:A)|ref (i:Nat)
mutual
noncomputable def er:A->Option D
 | .fz d=>some d
 | .lst as=>(ers as).map D.lst
 | .tup as=>(ers as).map D.tup
 | .scr _=>none
 | .dic _=>none
 | .opq _ _=>none
noncomputable def ers:List A->Option (List D)
 | []=>some []
 | a::as=>(er a).bind fun d=>(ers as).map (d :: ·)
end
noncomputable def fzs:List A->Option (List D)
 | []=>some []
 | .fz d::as=>(fzs as).map (d :: ·)
 | _::_=>none
noncomputable def peek(Z:Ro):R->Option A
 | .val a=>some a
 | .ref i=>match Z[i]? with
  | some (some (_,a))=>some a
  | _=>none
noncomputable def peeks(Z:Ro):List R->Option (List A)
 | []=>some []
 | r::rs=>(peek Z r).bind fun a=>(peeks Z rs).map (a :: ·)
noncomputable def share(Z:Ro):R->Option (D×Ro)
 | .val a=>(er a).map (·,Z)
 | .ref i=>match Z[i]? with
  | some (some (.own,a))=>(er a).map fun d=>(d,Z.set i (some (.own,.fz d)))
  | _=>none
noncomputable def move(Z:Ro):R->Option (A×Ro)
 | .val a=>some (a,Z)
 | .ref i=>match Z[i]? with
  | some (some (.own,a))=>some (a,Z.set i none)
  | _=>none
noncomputable abbrev ME:=Ro->Option (R×Ro)
noncomputable abbrev MT:=Ro->Option (Bool×Ro)
noncomputable abbrev MA:=Ro->Option (List R×Ro)
noncomputable def Aa(i:Nat):ME:=fun Z=>match Z[i]? with
 | some (some (_,.fz d))=>some (.val (.fz d),Z)
 | some (some _)=>some (.ref i,Z)
 | _=>none
noncomputable def Ae(d:D):ME:=fun Z=>some (.val (.fz d),Z)
noncomputable def Ad:MA:=fun Z=>some ([],Z)
noncomputable def Ab(m:ME)(ms:MA):MA:=fun Z=>(m Z).bind fun p=>(ms p.2).map fun q=>(p.1::q.1,q.2)
noncomputable def opM(f:List A->Option A)(m:MA):ME:=fun Z=>(m Z).bind fun p=>(peeks p.2 p.1).bind fun as=>(f as).map fun a=>(.val a,p.2)
noncomputable def Eu:A->Option Bool
 | .fz (.bl b)=>some b
 | .fz .non | .fz (.int _) | .fz (.str _) | .fz (.lst _) | .fz (.tup _) | .lst _ | .tup _ | .scr _ | .dic _ | .opq _ _=>none
noncomputable def Aw(m:ME):MT:=fun Z=>(m Z).bind fun p=>(peek p.2 p.1).bind fun a=>(Eu a).map (·,p.2)
noncomputable def andM(a b:ME):ME:=fun Z=>(Aw a Z).bind fun p=>if p.1 then b p.2 else some (.val (.fz (.bl false)),p.2)
noncomputable def orM(a b:ME):ME:=fun Z=>(Aw a Z).bind fun p=>if p.1 then some (.val (.fz (.bl true)),p.2) else b p.2
noncomputable def notM(a:ME):ME:=fun Z=>(Aw a Z).map fun p=>(.val (.fz (.bl (!p.1))),p.2)
noncomputable def Xz(a b:MT):MT:=fun Z=>(a Z).bind fun p=>if p.1 then b p.2 else some (false,p.2)
noncomputable def orT(a b:MT):MT:=fun Z=>(a Z).bind fun p=>if p.1 then some (true,p.2) else b p.2
noncomputable def BF(a:MT):MT:=fun Z=>(a Z).map fun p=>(!p.1,p.2)
noncomputable def XA(c:MT)(a b:ME):ME:=fun Z=>(c Z).bind fun p=>if p.1 then a p.2 else b p.2
noncomputable def Hm(f g:List A->Option A)(a b c:ME):ME:=fun Z=>(a Z).bind fun p=>(b p.2).bind fun q=>(peeks q.2 [p.1,q.1]).bind fun as=>(f as).bind fun z=>(Eu z).bind fun k =>
 if k then (c q.2).bind fun r=>(peeks r.2 [q.1,r.1]).bind fun bs=>(g bs).map fun z=>(.val z,r.2) else some (.val (.fz (.bl false)),q.2)
noncomputable def Aj(m:ME):ME:=fun Z=>(m Z).bind fun p=>(share p.2 p.1).map fun q=>(.val (.fz q.1),q.2)
noncomputable def vals:List R->Option (List A)
 | []=>some []
 | .val a::rs=>(vals rs).map (a :: ·)
 | .ref _::_=>none
noncomputable abbrev LIM:Nat:=sizeLine
noncomputable def mkT(as:List A):A:=match fzs as with
 | some ds=>.fz (.tup ds)
 | none=>.tup as
noncomputable def lstM(m:MA):ME:=fun Z=>(m Z).bind fun p=>(vals p.1).bind fun as=>if as.length<=LIM then some (.val (.lst as),p.2) else none
noncomputable abbrev Fn:=List (Own×A)->Option (A×List A)
noncomputable def DN(Z:Ro):R->Option (Own×A)
 | .val a=>some (.own,a)
 | .ref i=>match Z[i]? with
  | some (some (.ro,a))=>some (.ro,a)
  | some (some (_,a))=>some (.lent,a)
  | _=>none
noncomputable def Ce(Z:Ro):List R->Option (List (Own×A))
 | []=>some []
 | r::rs=>(DN Z r).bind fun a=>(Ce Z rs).map (a :: ·)
noncomputable def KP(Z:Ro)(i:Nat)(a:A):Ro:=match Z[i]? with
 | some (some (st,_))=>Z.set i (some (st,a))
 | _=>Z
noncomputable def back:List R->List A->Ro->Ro
 | .ref i::rs,a::as,Z=>back rs as (KP Z i a)
 | .val _::rs,_::as,Z=>back rs as Z
 | [],_,Z=>Z
 | .ref _::_,[],Z=>Z
 | .val _::_,[],Z=>Z
noncomputable def refs:List R->List Nat
 | []=>[]
 | .ref i::rs=>i::refs rs
 | .val _::rs=>refs rs
noncomputable def Af(Φ:Fn)(m:MA):ME:=fun Z=>(m Z).bind fun p=>(Ce p.2 p.1).bind fun args=>if (refs p.1).Nodup then (Φ args).map fun q=>(.val q.1,back p.1 q.2 p.2) else none
noncomputable def Eo(z:Str):List D:=z.cps.toList.map fun c=>.str ⟨#[c]⟩
noncomputable def AQ:A->Option (List D)
 | .fz (.lst ds)=>some ds
 | .fz (.tup ds)=>some ds
 | .lst as=>fzs as
 | .scr ns=>some (ns.map D.int)
 | .fz .non | .fz (.bl _) | .fz (.int _) | .fz (.str _) | .tup _ | .dic _ | .opq _ _=>none
noncomputable abbrev MI:=Ro->Option (List D×Option Nat×Ro)
noncomputable def nameOf:R->Option Nat
 | .val _=>none
 | .ref i=>some i
noncomputable def By(m:ME):MI:=fun Z=>(m Z).bind fun p=>(peek p.2 p.1).bind fun a=>(AQ a).map fun ds=>(ds,nameOf p.1,p.2)
noncomputable def CO(m:ME):MI:=fun Z=>(m Z).bind fun p=>match p.1 with
 | .val (.fz (.str z))=>if z.length<=LIM then some (Eo z,none,p.2) else none
 | _=>none
noncomputable def CU(lo:Int)(n:Nat):List D:=(List.range n).map fun(k:Nat)=>D.int (lo+(k:Int))
noncomputable def Bm(m:ME):MI:=fun Z=>(m Z).bind fun p=>match p.1 with
 | .val (.fz (.int j))=>if -(2 ^ 62)<=j/\j<2 ^ 62 then some (CU 0 j.toNat,none,p.2) else none
 | _=>none
noncomputable def lock(Z:Ro):Option Nat->Ro
 | none=>Z
 | some i=>match Z[i]? with
  | some (some (_,a))=>Z.set i (some (.ro,a))
  | _=>Z
noncomputable def unlock(old Z:Ro):Option Nat->Ro
 | none=>Z
 | some i=>match old[i]? with
  | some s=>Z.set i s
  | none=>Z
noncomputable def OY(n:Nat)(d:D):Option (List D):=match n with
 | 0=>some [d]
 | n=>match d with
  | .tup ds=>if ds.length=n then some ds else none
  | _=>none
noncomputable def own(d:D):Slot:=some (.own,.fz d)
noncomputable def FL(pat:Nat)(c:MT)(e:ME):List D->Ro->Option (List D×Ro)
 | [],Z=>some ([],Z)
 | d::ds,Z=>(OY pat d).bind fun bs=>(c (bs.map own++Z)).bind fun p =>
  if p.1 then (e p.2).bind fun q=>(share q.2 q.1).bind fun s=>(FL pat c e ds (s.2.drop bs.length)).map fun t=>(s.1::t.1,t.2)
  else FL pat c e ds (p.2.drop bs.length)
noncomputable def Cz:MT:=fun Z=>some (true,Z)
noncomputable def AI(it:MI)(pat:Nat)(c:MT)(e:ME):ME:=fun Z=>(it Z).bind fun p=>if p.1.length<=LIM then (FL pat c e p.1 (lock p.2.2 p.2.1)).map fun q=>(.val (.lst (q.1.map A.fz)),unlock p.2.2 q.2 p.2.1) else none
inductive Fl where
 | next (Z:Ro)|brk (Z:Ro)|cnt (Z:Ro)|ret (a:A) (Z:Ro)
noncomputable abbrev MS:=Ro->Option Fl
noncomputable def free(Z:Ro)(i:Nat):Bool:=match Z[i]? with
 | some none=>true
 | some (some (.own,_))=>true
 | _=>false
noncomputable def keep(Z:Ro):R->Option (A×Ro)
 | .val a=>some (a,Z)
 | r=>(share Z r).map fun q=>(.fz q.1,q.2)
noncomputable def AK:MS:=fun Z=>some (.next Z)
noncomputable def Fs:MS:=fun _=>none
noncomputable def Ax(a b:MS):MS:=fun Z=>(a Z).bind fun f=>match f with
 | .next Z1=>b Z1
 | f=>some f
noncomputable def Ay(i:Nat)(m:ME):MS:=fun Z=>(m Z).bind fun p=>(keep p.2 p.1).bind fun q=>if free q.2 i then some (.next (q.2.set i (some (.own,q.1)))) else none
noncomputable def Iy:A->Option (List A)
 | .tup as=>some as
 | .fz (.tup ds)=>some (ds.map A.fz)
 | .fz .non | .fz (.bl _) | .fz (.int _) | .fz (.str _) | .fz (.lst _) | .lst _ | .scr _ | .dic _ | .opq _ _=>none
noncomputable def CH:List Nat->List A->Ro->Option Ro
 | [],[],Z=>some Z
 | i::is,a::as,Z=>if free Z i then CH is as (Z.set i (some (.own,a))) else none
 | [],_::_,_=>none
 | _::_,[],_=>none
noncomputable def XQ(is:List Nat)(m:ME):MS:=fun Z=>(m Z).bind fun p=>(keep p.2 p.1).bind fun q=>(Iy q.1).bind fun as=>(CH is as q.2).map .next
noncomputable def Hq(m:ME):MS:=fun Z=>(m Z).map fun p=>.next p.2
noncomputable def retS(m:ME):MS:=fun Z=>(m Z).bind fun p=>(move p.2 p.1).map fun q=>.ret q.1 q.2
noncomputable def XJ:MS:=fun Z=>some (.ret (.fz .non) Z)
noncomputable def ifS(c:MT)(a b:MS):MS:=fun Z=>(c Z).bind fun p=>if p.1 then a p.2 else b p.2
noncomputable def Gj(is:List Nat)(one:Bool)(d:D)(Z:Ro):Option Ro:=match one,is with
 | true,[i]=>if free Z i then some (Z.set i (own d)) else none
 | false,is=>(match d with
  | .tup ds=>CH is (ds.map A.fz) Z
  | _=>none)
 | _,_=>none
noncomputable def forL(is:List Nat)(one:Bool)(b:MS):List D->Ro->Option Fl
 | [],Z=>some (.next Z)
 | d::ds,Z=>(Gj is one d Z).bind fun Z1=>(b Z1).bind fun f=>match f with
  | .next Z2=>forL is one b ds Z2
  | .cnt Z2=>forL is one b ds Z2
  | .brk Z2=>some (.next Z2)
  | f=>some f
noncomputable def GQ(old:Ro)(n:Option Nat):Fl->Fl
 | .next Z=>.next (unlock old Z n)
 | .brk Z=>.brk (unlock old Z n)
 | .cnt Z=>.cnt (unlock old Z n)
 | .ret a Z=>.ret a (unlock old Z n)
noncomputable def Ej(is:List Nat)(one:Bool)(it:MI)(b:MS):MS:=fun Z=>(it Z).bind fun p=>(forL is one b p.1 (lock p.2.2 p.2.1)).map (GQ p.2.2 p.2.1)
noncomputable def Er(c:MT)(b:MS):Nat->Ro->Option Fl
 | 0,_=>none
 | n+1,Z=>(c Z).bind fun p=>if p.1 then (b p.2).bind fun f=>match f with
   | .next Z2=>Er c b n Z2
   | .cnt Z2=>Er c b n Z2
   | .brk Z2=>some (.next Z2)
   | f=>some f
  else some (.next p.2)
noncomputable def K1(w:Nat)(c:MT)(b:MS):MS:=Er c b w
noncomputable def G6:Slot->A
 | some (_,a)=>a
 | none=>.fz .non
noncomputable def fnM(np nn:Nat)(b:MS):Fn:=fun args=>if args.length=np then (b (args.map some++List.replicate (nn-np) none)).bind fun f=>match f with
  | .next Z=>some (.fz .non,(Z.take np).map G6)
  | .ret a Z=>some (a,(Z.take np).map G6)
  | _=>none
 else none
noncomputable def imm:HO->Bool
 | .tup _=>true
 | .frz _ _=>true
 | _=>false
noncomputable def Kept(L:Addr->Prop)(H H':Hp):Prop:=∀b o,H b=some o->(¬L b\/imm o=true)->H' b=some o
theorem Kept.refl{L:Addr->Prop}{H:Hp}:Kept L H H:=fun _ _ h _=>h
theorem Kept.trans{L L':Addr->Prop}{H H1 H2:Hp}(x:Kept L H H1)(y:Kept L' H1 H2)(h:∀p,L' p->L p\/H p=none):Kept L H H2:=fun b o e c =>
 y b o (x b o e c) (c.imp (fun n z=>(h b z).elim n fun q=>by rw[e] at q; cases q) id)
theorem Kept.mono{L L':Addr->Prop}{H H':Hp}(x:Kept L H H')(h:∀p,L p->L' p):Kept L' H H':=fun b o e c=>x b o e (c.imp (fun n z=>n (h b z)) id)
theorem DL.kept{L:Addr->Prop}{H H':Hp}(s:DL H H'):Kept L H H':=fun b o e _=>s b o e
noncomputable def Wt(K:Frag)(H:Hp)(a:Addr)(xs:List V):Prop:=∀H',(∀o u,H a=some (.frz o u)->H' a=some (.frz o u))->SqL K H' a xs
mutual
noncomputable def AA(K:Frag)(N:Addr->Prop)(H:Hp)(v:V):A->List Addr->Prop
 | .fz d,L=>L=[]/\RepA N H v d
 | .lst as,L=>∃a vs L',v=.ref a/\L=a::L'/\H a=some (.lst vs)/\vs.length<=sizeLine/\Ar K N H vs as L'
 | .tup as,L=>∃a vs,v=.ref a/\H a=some (.tup vs)/\vs.length<=sizeLine/\Ar K N H vs as L
 | .scr ns,L=>∃a,v=.ref a/\L=[]/\Wt K H a (ns.map V.int)/\ns.length<=sizeLine
 | .dic kvs,L=>∃a us,v=.ref a/\L=[a]/\H a=some (.dK us)/\us.length<=sizeLine/\Paired (fun(u:Key×V) (k:Key×D)=>u.1=k.1/\RepA N H u.2 k.2) us kvs
 | .opq a o,L=>v=.ref a/\L=[]/\∃u,H a=some (.frz o u)
noncomputable def Ar(K:Frag)(N:Addr->Prop)(H:Hp):List V->List A->List Addr->Prop
 | [],[],L=>L=[]
 | v::vs,a::as,L=>∃L1 L2,L=L1++L2/\AA K N H v a L1/\Ar K N H vs as L2
 | [],_::_,_=>False
 | _::_,[],_=>False
end
theorem _root_.L2.RepA.tr{N N' M:Addr->Prop}{H H':Hp}(hM:∀p,M p->N p)(k:Kept M H H')(hN:∀p,N' p->N p\/H p=none){v:V}{d:D}(r:RepA N H v d):RepA N' H' v d:=by
 induction r with
 | non=>exact .non
 | bl b=>exact .bl b
 | int i=>exact .int i
 | str x hx=>exact .str x hx
 | lst h hz hn hl _ ih =>
  refine .lst (k _ _ h (.inl fun z=>hn (hM _ z))) hz (fun z=>?_) hl ih;rcases hN _ z with q|q
  .exact hn q
  .rw[h] at q; cases q
 | tup h hz hl _ ih=>exact .tup (k _ _ h (.inr rfl)) hz hl ih
theorem Paired.mapQ{α β:Type}{F G:α -> β -> Prop}:∀{l₁:List α} {l₂:List β},Paired F l₁ l₂ -> (∀a b,F a b->G a b)->Paired G l₁ l₂
 | _,_,.nil,_=>.nil
 | _,_,.cons r t,f=>.cons (f _ _ r) (Paired.mapQ t f)
section
variable{K:Frag}{N N' M:Addr->Prop}{H H':Hp}
mutual
theorem AA.tr(hM:∀p,M p->N p)(k:Kept M H H')(hN:∀p,N' p->N p\/H p=none):∀{a:A} {v:V} {L:List Addr},(∀p∈L,¬M p)->AA K N H v a L->AA K N' H' v a L
 | .fz d,v,L,hL,r=>by
  simp only[AA] at r |-;exact⟨r.1,r.2.tr hM k hN⟩
 | .lst as,v,L,hL,r=>by
  simp only[AA] at r |-;obtain⟨a,vs,L',rfl,rfl,h,hz,hs⟩:=r;exact⟨a,vs,L',rfl,rfl,k _ _ h (.inl (hL a (by simp))),hz,Ar.tr hM k hN (fun p hp=>hL p (by simp[hp])) hs⟩
 | .tup as,v,L,hL,r=>by
  simp only[AA] at r |-;obtain⟨a,vs,rfl,h,hz,hs⟩:=r;exact⟨a,vs,rfl,k _ _ h (.inr rfl),hz,Ar.tr hM k hN hL hs⟩
 | .scr ns,v,L,hL,r=>by
  simp only[AA] at r |-;obtain⟨a,rfl,rfl,h,hz⟩:=r;exact⟨a,rfl,rfl,fun H2 q=>h H2 fun o u e=>q o u (k _ _ e (.inr rfl)),hz⟩
 | .dic kvs,v,L,hL,r=>by
  simp only[AA] at r |-;obtain⟨a,us,rfl,rfl,h,hz,hs⟩:=r;exact⟨a,us,rfl,rfl,k _ _ h (.inl (hL a (by simp))),hz,Paired.mapQ hs fun _ _ q=>⟨q.1,q.2.tr hM k hN⟩⟩
 | .opq a o,v,L,hL,r=>by
  simp only[AA] at r |-;obtain⟨rfl,rfl,u,h⟩:=r;exact⟨rfl,rfl,u,k _ _ h (.inr rfl)⟩
theorem Ar.tr(hM:∀p,M p->N p)(k:Kept M H H')(hN:∀p,N' p->N p\/H p=none):∀{as:List A} {vs:List V} {L:List Addr},(∀p∈L,¬M p)->Ar K N H vs as L->Ar K N' H' vs as L
 | [],vs,L,hL,r=>by
  cases vs<;>simp only[Ar] at r |-;exact r
 | a::as,vs,L,hL,r=>by
  cases vs with
  | nil=>simp only[Ar] at r
  | cons v vs =>
   simp only[Ar] at r |-;obtain⟨L1,L2,rfl,h1,h2⟩:=r;exact⟨L1,L2,rfl,AA.tr hM k hN (fun p hp=>hL p (by simp[hp])) h1,Ar.tr hM k hN (fun p hp=>hL p (by simp[hp])) h2⟩
end
end
noncomputable def ad(O:Addr->Prop)(L:List Addr):Addr->Prop:=fun p=>O p\/p∈L
noncomputable def NN(fp:Nat->List Addr)(O:Addr->Prop):Addr->Prop:=fun p=>(∃i,p∈fp i)\/O p
noncomputable def Fp(fp:Nat->List Addr):Addr->Prop:=fun p=>∃i,p∈fp i
structure Rel (K:Frag) (Z:Ro) (U:St) (H:Hp) (O:Addr->Prop) (fp:Nat->List Addr):Prop where
 len : Z.length=U.length
 slot:∀i st a,Z[i]? = some (some (st,a))->∃v,U[i]? = some (some v)/\AA K (NN fp O) H v a (fp i)
 out:∀i,(∀st a,Z[i]? ≠ some (some (st,a)))->fp i=[]
 nd:∀i,(fp i).Nodup
 inj:∀i j p,p∈fp i->p∈fp j->i=j
 off:∀i p,p∈fp i->¬O p
 al:∀p,NN fp O p->H p≠none
noncomputable def Mo(Z Z':Ro)(U σ':St):Prop:=∀(j:Nat) st a,Z[j]? = some (some (st,a))->st≠.own->∃a',Z'[j]? = some (some (st,a'))/\σ'[j]? = U[j]?/\(st=.ro->a'=a)
theorem Mo.refl{Z:Ro}{U:St}:Mo Z Z U U:=fun _ _ a h _=>⟨a,h,rfl,fun _=>rfl⟩
theorem Mo.trans{Z Z1 Z2:Ro}{U σ1 σ2:St}(x:Mo Z Z1 U σ1)(y:Mo Z1 Z2 σ1 σ2):Mo Z Z2 U σ2:=fun j st a h n=>by
 obtain⟨a1,h1,e1,f1⟩:=x j st a h n;obtain⟨a2,h2,e2,f2⟩:=y j st a1 h1 n;exact⟨a2,h2,e2.trans e1,fun z=>(f2 z).trans (f1 z)⟩
noncomputable def RR(K:Frag)(N:Addr->Prop)(H:Hp)(U:St)(v:V):R->List Addr->Prop
 | .val a,L=>AA K N H v a L
 | .ref i,L=>L=[]/\U[i]? = some (some v)
noncomputable def RRs(K:Frag)(N:Addr->Prop)(H:Hp)(U:St):List V->List R->List Addr->Prop
 | [],[],L=>L=[]
 | v::vs,r::rs,L=>∃L1 L2,L=L1++L2/\RR K N H U v r L1/\RRs K N H U vs rs L2
 | [],_::_,_=>False
 | _::_,[],_=>False
structure Post (K:Frag) (O:Addr->Prop) (fp:Nat->List Addr) (H:Hp) (Z Z':Ro) (U σ':St) (L:List Addr) (fp':Nat->List Addr) (H':Hp):Prop where
 rel:Rel K Z' σ' H' (ad O L) fp'
 nd:L.Nodup
 lo:∀p∈L,¬O p
 new:∀p,(p∈L\/Fp fp' p)->Fp fp p\/H p=none
 kept:Kept (Fp fp) H H'
 ln : σ'.length=U.length
 stab:Mo Z Z' U σ'
noncomputable def Jo(K:Frag)(O:Addr->Prop)(fp:Nat->List Addr)(H:Hp)(Z Z':Ro)(U:St)(r:R)(v:V)(H':Hp):Prop:=
 ∃L fp',Post K O fp H Z Z' U U L fp' H'/\RR K (NN fp' (ad O L)) H' U v r L
noncomputable def Ws(K:Frag)(O:Addr->Prop)(fp:Nat->List Addr)(H:Hp)(Z Z':Ro)(U:St)(rs:List R)(vs:List V)(H':Hp):Prop:=
 ∃L fp',Post K O fp H Z Z' U U L fp' H'/\RRs K (NN fp' (ad O L)) H' U vs rs L
noncomputable def tE(K:Frag)(m:ME):TE:=fun U H Q=>∃Z O fp,Rel K Z U H O fp/\∃r Z',m Z=some (r,Z')/\∀v H',Jo K O fp H Z Z' U r v H'->Q v H'
noncomputable def tT(K:Frag)(m:MT):TT:=fun U H Q=>∃Z O fp,Rel K Z U H O fp/\∃b Z',m Z=some (b,Z')/\∀fp' H',Post K O fp H Z Z' U U [] fp' H'->Q b H'
noncomputable def tA(K:Frag)(m:MA):TA:=fun U H Q=>∃Z O fp,Rel K Z U H O fp/\∃rs Z',m Z=some (rs,Z')/\∀vs H',Ws K O fp H Z Z' U rs vs H'->Q vs H'
section
variable{K:Frag}{Z Z' Z1 Z2:Ro}{U σ' σ1 σ2:St}{H H' H1 H2:Hp}{O O':Addr->Prop}{fp fp' fp1 fp2:Nat->List Addr}{L L1 L2:List Addr}
theorem JX{p:Addr}:ad O [] p↔O p:=by simp[ad]
theorem JV{p:Addr}:ad (ad O L1) L2 p↔ad O (L1++L2) p:=by simp[ad,or_assoc]
theorem Rel.congr(r:Rel K Z U H O fp)(h:∀p,O p↔O' p):Rel K Z U H O' fp:=by
 have e:O=O':=funext fun p=>propext (h p);exact e ▸ r
theorem Rel.weak(r:Rel K Z U H O fp)(h:∀p,O' p->O p):Rel K Z U H O' fp where
 len:=r.len
 slot:=fun i st a e=>by
  obtain⟨v,e1,q⟩:=r.slot i st a e;exact⟨v,e1,q.tr (M:=fun _=>False) (fun _ z=>z.elim) .refl (fun p z=>.inl (z.imp id (h p))) fun _ _ z=>z⟩
 out:=r.out
 nd:=r.nd
 inj:=r.inj
 off:=fun i p hp z=>r.off i p hp (h p z)
 al:=fun p z=>r.al p (z.imp id (h p))
theorem Rel.grow(r:Rel K Z U H O fp)(s:DL H H')(hO:∀p,O' p->O p\/H p=none)(al:∀p,O' p->H' p≠none):Rel K Z U H' O' fp where
 len:=r.len
 slot:=fun i st a e=>by
  obtain⟨v,e1,q⟩:=r.slot i st a e;refine⟨v,e1,q.tr (M:=fun _=>False) (fun _ z=>z.elim) (fun b o e _=>s b o e) (fun p z=>?_) fun _ _ z=>z⟩;rcases z with z|z
  .exact .inl (.inl z)
  .exact(hO p z).imp .inr id
 out:=r.out
 nd:=r.nd
 inj:=r.inj
 off:=fun i p hp z=>by
  rcases hO p z with q|q
  .exact r.off i p hp q
  .exact r.al p (.inl ⟨i,hp⟩) q
 al:=fun p z=>by
  rcases z with z|z
  .cases q:H p with
   | none=>exact absurd q (r.al p (.inl z))
   | some o=>rw[s p o q]; simp
  .exact al p z
theorem Rel.post(r:Rel K Z U H O fp):Post K O fp H Z Z U U [] fp H:=
 ⟨r.congr fun p=>JX.symm,nodup_nil,fun _ h=>by simp at h,fun p h=>by rcases h with h|h; simp at h; exact .inl h,.refl,rfl,.refl⟩
theorem Post.then(x:Post K O fp H Z Z1 U σ1 L1 fp1 H1)(y:Post K (ad O L1) fp1 H1 Z1 Z2 σ1 σ2 L2 fp2 H2):Post K O fp H Z Z2 U σ2 (L1++L2) fp2 H2 where
 rel:=y.rel.congr fun p=>JV
 nd:=nodup_append.mpr ⟨x.nd,y.nd,fun a ha b hb e=>by subst e; exact y.lo a hb (.inr ha)⟩
 lo:=fun p hp z=>by
  rcases mem_append.mp hp with q|q
  .exact x.lo p q z
  .exact y.lo p q (.inl z)
 new:=fun p hp=>by
  have key:Fp fp1 p\/H1 p=none->Fp fp p\/H p=none:=fun q=>by
   rcases q with q|q
   .exact x.new p (.inr q)
   .cases e:H p with
    | none=>exact .inr rfl
    | some o =>
     by_cases hf:Fp fp p
     .exact .inl hf
     .rw[x.kept p o e (.inl hf)] at q; cases q
  rcases hp with q|q
  .rcases mem_append.mp q with q|q
   .exact x.new p (.inl q)
   .exact key (y.new p (.inl q))
  .exact key (y.new p (.inr q))
 kept:=x.kept.trans y.kept fun p z=>x.new p (.inr z)
 ln:=y.ln.trans x.ln
 stab:=x.stab.trans y.stab
theorem Post.drop(x:Post K O fp H Z Z1 U σ1 (L1++L2) fp1 H1):Post K O fp H Z Z1 U σ1 L2 fp1 H1 where
 rel:=x.rel.weak fun p z=>z.imp id fun q=>mem_append_right _ q
 nd:=(nodup_append.mp x.nd).2.1
 lo:=fun p hp=>x.lo p (mem_append_right _ hp)
 new:=fun p hp=>x.new p (hp.imp (mem_append_right _) id)
 kept:=x.kept
 ln:=x.ln
 stab:=x.stab
theorem Post.drop0(x:Post K O fp H Z Z1 U σ1 L1 fp1 H1):Post K O fp H Z Z1 U σ1 [] fp1 H1:=Post.drop (L1:=L1) (L2:=[]) (by rw[append_nil]; exact x)
theorem Post.rr{v:V}{r:R}(y:Post K (ad O L1) fp1 H1 Z1 Z2 U U L2 fp2 H2)(hr:Rel K Z1 U H1 (ad O L1) fp1)(h:RR K (NN fp1 (ad O L1)) H1 U v r L)(hL:∀p∈L,p∈L1):RR K (NN fp2 (ad O (L1++L2))) H2 U v r L:=by
 cases r with
 | ref i=>exact h
 | val a =>
  refine AA.tr (M:=Fp fp1) (fun p z=>.inl z) y.kept (fun p z=>?_) (fun p hp z=>?_) h
  .rcases z with z|z
   .exact(y.new p (.inr z)).imp (fun q=>.inl q) id
   .rcases z with z|z
    .exact .inl (.inr (.inl z))
    .rcases mem_append.mp z with z|z
     .exact .inl (.inr (.inr z))
     .exact(y.new p (.inl z)).imp (fun q=>.inl q) id
  .obtain⟨i,hi⟩:=z
   exact hr.off i p hi (.inr (hL p hp))
theorem tE.mono{m:ME}{Q Q':VK}(h:tE K m U H Q)(q:∀v H',Q v H'->Q' v H'):tE K m U H Q':=by
 obtain⟨Z,O,fp,r,x,Z',e,k⟩:=h;exact⟨Z,O,fp,r,x,Z',e,fun v H' z=>q v H' (k v H' z)⟩
theorem IU{Q:List V->Hp->Prop}(h:tA K Ad U H Q):FI U H Q:=by
 obtain⟨Z,O,fp,r,x,Z',e,k⟩:=h;cases e;exact k [] H ⟨[],fp,r.post,rfl⟩
theorem FE{m:ME}{ms:MA}{Q:List V->Hp->Prop}(h:tA K (Ab m ms) U H Q):Cd (tE K m) (tA K ms) U H Q:=by
 obtain⟨Z,O,fp,r,x,Z',e,k⟩:=h;simp only[Ab,bind_eq_some_iff,map_eq_some_iff] at e;obtain⟨⟨r1,Z1⟩,e1,⟨rs,Z2⟩,e2,e3⟩:=e;cases e3;refine⟨Z,O,fp,r,r1,Z1,e1,fun v H1 yy=>?_⟩;obtain⟨L1,fp1,p1,q1⟩:=yy;refine⟨Z1,ad O L1,fp1,p1.rel,rs,_,e2,fun vs H2 yy=>?_⟩;obtain⟨L2,fp2,p2,q2⟩:=yy;refine k (v::vs) H2 ⟨L1++L2,fp2,p1.then p2,L1,L2,rfl,p2.rr p1.rel q1 fun _ z=>z,?_⟩;have e:ad (ad O L1) L2=ad O (L1++L2):=funext fun p=>propext JV;rw[<- e];exact q2
end
section
variable{K:Frag}{N N' M:Addr->Prop}{H H':Hp}
mutual
theorem AA.al:∀{a:A} {v:V} {L:List Addr},AA K N H v a L->∀p∈L,H p≠none
 | .fz d,v,L,r,p,hp=>by
  simp only[AA] at r;rw[r.1] at hp; simp at hp
 | .lst as,v,L,r,p,hp=>by
  simp only[AA] at r;obtain⟨a,vs,L',rfl,rfl,h,hz,hs⟩:=r;rcases mem_cons.mp hp with rfl|hp
  .rw[h]; simp
  .exact Ar.al hs p hp
 | .tup as,v,L,r,p,hp=>by
  simp only[AA] at r;obtain⟨a,vs,rfl,h,hz,hs⟩:=r;exact Ar.al hs p hp
 | .scr ns,v,L,r,p,hp=>by
  simp only[AA] at r;obtain⟨a,rfl,rfl,h,hz⟩:=r;simp at hp
 | .dic kvs,v,L,r,p,hp=>by
  simp only[AA] at r;obtain⟨a,us,rfl,rfl,h,hz,hs⟩:=r;have:p=a:=by simpa using hp
  subst this; rw[h]; simp
 | .opq a o,v,L,r,p,hp=>by
  simp only[AA] at r;obtain⟨rfl,rfl,_⟩:=r;simp at hp
theorem Ar.al:∀{as:List A} {vs:List V} {L:List Addr},Ar K N H vs as L->∀p∈L,H p≠none
 | [],vs,L,r,p,hp=>by
  cases vs<;>simp only[Ar] at r;rw[r] at hp; simp at hp
 | a::as,vs,L,r,p,hp=>by
  cases vs with
  | nil=>simp only[Ar] at r
  | cons v vs =>
   simp only[Ar] at r;obtain⟨L1,L2,rfl,h1,h2⟩:=r;rcases mem_append.mp hp with hp|hp
   .exact AA.al h1 p hp
   .exact Ar.al h2 p hp
end
theorem Ar.len:∀{as:List A} {vs:List V} {L:List Addr},Ar K N H vs as L->vs.length=as.length:=by
 intro _l;induction _l with
 | nil =>
  intro _m;cases _m with
  | nil =>
   intro _ _;exact rfl
  | cons _ _ =>
   intro _ r;simp only[Ar] at r
 | cons a as ih =>
  intro _m;cases _m with
  | nil =>
   intro _ r;simp only[Ar] at r
  | cons v vs =>
   intro L r;simp only[Ar] at r;obtain⟨L1,L2,rfl,h1,h2⟩:=r;simp[ih h2]
noncomputable def Av(N:Addr->Prop)(H:Hp):List V->List D->Prop
 | [],[]=>True
 | v::vs,d::ds=>RepA N H v d/\Av N H vs ds
 | _,_=>False
theorem Av.len:∀{vs:List V} {ds:List D},Av N H vs ds->vs.length=ds.length:=by
 intro _l;induction _l with
 | nil =>
  intro _m;cases _m with
  | nil =>
   intro _;exact rfl
  | cons _ _ =>
   intro r;simp only[Av] at r
 | cons v vs ih =>
  intro _m;cases _m with
  | nil =>
   intro r;simp only[Av] at r
  | cons d ds =>
   intro r;simp[ih r.2]
theorem Av.get:∀{vs:List V} {ds:List D},Av N H vs ds->∀(i:Nat) v d,vs[i]? = some v->ds[i]? = some d->RepA N H v d
 | [],[],_,i,v,d,h,_=>by simp at h
 | [],_::_,r,_,_,_,_,_=>by simp only[Av] at r
 | _::_,[],r,_,_,_,_,_=>by simp only[Av] at r
 | x::vs,y::ds,r,0,v,d,h1,h2=>by simp at h1 h2; subst h1; subst h2; exact r.1
 | x::vs,y::ds,r,i+1,v,d,h1,h2=>Av.get r.2 i v d (by simpa using h1) (by simpa using h2)
theorem Av.mk:∀{vs:List V} {ds:List D},vs.length=ds.length->(∀(i:Nat) v d,vs[i]? = some v->ds[i]? = some d->RepA N H v d)->Av N H vs ds:=by
 intro _l;induction _l with
 | nil =>
  intro _m;cases _m with
  | nil =>
   intro _ _;exact trivial
  | cons _ _ =>
   intro hl _;simp at hl
 | cons v vs ih =>
  intro _m;cases _m with
  | nil =>
   intro hl _;simp at hl
  | cons d ds =>
   intro hl h;exact⟨h 0 v d rfl rfl,ih (by simpa using hl) fun i v d e1 e2=>h (i+1) v d (by simpa using e1) (by simpa using e2)⟩
theorem SY{a:Addr}{vs:List V}{ds:List D}(h:H a=some (.lst vs))(hz:vs.length<=sizeLine)(hn:¬N a)(r:Av N H vs ds):RepA N H (.ref a) (.lst ds):=.lst h hz hn r.len r.get
theorem Q4{a:Addr}{vs:List V}{ds:List D}(h:H a=some (.tup vs))(hz:vs.length<=sizeLine)(r:Av N H vs ds):RepA N H (.ref a) (.tup ds):=.tup h hz r.len r.get
theorem Av.tr(hM:∀p,M p->N p)(k:Kept M H H')(hN:∀p,N' p->N p\/H p=none):∀{vs:List V} {ds:List D},Av N H vs ds->Av N' H' vs ds
 | [],[],_=>trivial
 | [],_::_,r=>by simp only[Av] at r
 | _::_,[],r=>by simp only[Av] at r
 | v::vs,d::ds,r=>⟨r.1.tr hM k hN,Av.tr hM k hN r.2⟩
theorem EZ(h:∀p,N' p->N p){v:V}{d:D}(r:RepA N H v d):RepA N' H v d:=r.tr (M:=fun _=>False) (fun _ z=>z.elim) .refl fun p z=>.inl (h p z)
theorem IW(h:∀p,N' p->N p){vs:List V}{ds:List D}(r:Av N H vs ds):Av N' H vs ds:=r.tr (M:=fun _=>False) (fun _ z=>z.elim) .refl fun p z=>.inl (h p z)
theorem DD(h:∀p,N' p->N p){v:V}{a:A}{L:List Addr}(r:AA K N H v a L):AA K N' H v a L:=r.tr (M:=fun _=>False) (fun _ z=>z.elim) .refl (fun p z=>.inl (h p z)) fun _ _ z=>z
theorem Wk(h:∀p,N' p->N p){vs:List V}{as:List A}{L:List Addr}(r:Ar K N H vs as L):Ar K N' H vs as L:=r.tr (M:=fun _=>False) (fun _ z=>z.elim) .refl (fun p z=>.inl (h p z)) fun _ _ z=>z
mutual
theorem AA.er:∀{a:A} {v:V} {L:List Addr} {d:D},AA K N H v a L->J.er a=some d->RepA (fun p=>N p/\p∉L) H v d
 | .fz d,v,L,d',r,e=>by
  simp only[AA] at r;simp only[J.er,Option.some.injEq] at e;subst e;exact EZ (fun p z=>z.1) r.2
 | .lst as,v,L,d',r,e=>by
  simp only[AA] at r;simp only[J.er,map_eq_some_iff] at e;obtain⟨a,vs,L',rfl,rfl,h,hz,hs⟩:=r;obtain⟨ds,e,rfl⟩:=e;exact SY h hz (fun z=>z.2 (by simp)) (IW (fun p z=>⟨z.1,fun q=>z.2 (by simp[q])⟩) (Ar.er hs e))
 | .tup as,v,L,d',r,e=>by
  simp only[AA] at r;simp only[J.er,map_eq_some_iff] at e;obtain⟨a,vs,rfl,h,hz,hs⟩:=r;obtain⟨ds,e,rfl⟩:=e;exact Q4 h hz (Ar.er hs e)
 | .scr ns,v,L,d',r,e=>by simp[J.er] at e
 | .dic kvs,v,L,d',r,e=>by simp[J.er] at e
 | .opq _ _,v,L,d',r,e=>by simp[J.er] at e
theorem Ar.er:∀{as:List A} {vs:List V} {L:List Addr} {ds:List D},Ar K N H vs as L->J.ers as=some ds->Av (fun p=>N p/\p∉L) H vs ds
 | [],vs,L,ds,r,e=>by
  cases vs<;>simp only[Ar] at r;simp only[J.ers,Option.some.injEq] at e;subst e
  trivial
 | a::as,vs,L,ds,r,e=>by
  cases vs with
  | nil=>simp only[Ar] at r
  | cons v vs =>
   simp only[Ar] at r;simp only[J.ers,bind_eq_some_iff,map_eq_some_iff] at e;obtain⟨L1,L2,rfl,h1,h2⟩:=r;obtain⟨d,e1,ds',e2,rfl⟩:=e;exact⟨EZ (fun p z=>⟨z.1,fun q=>z.2 (by simp[q])⟩) (AA.er h1 e1),IW (fun p z=>⟨z.1,fun q=>z.2 (by simp[q])⟩) (Ar.er h2 e2)⟩
end
theorem Ar.fzs:∀{as:List A} {vs:List V} {L:List Addr} {ds:List D},Ar K N H vs as L->J.fzs as=some ds->L=[]/\Av N H vs ds
 | [],vs,L,ds,r,e=>by
  cases vs<;>simp only[Ar] at r;simp only[J.fzs,Option.some.injEq] at e;subst e;exact⟨r,trivial⟩
 | a::as,vs,L,ds,r,e=>by
  cases vs with
  | nil=>simp only[Ar] at r
  | cons v vs =>
   simp only[Ar] at r;obtain⟨L1,L2,rfl,h1,h2⟩:=r;cases a with
   | fz d =>
    simp only[J.fzs,map_eq_some_iff] at e;obtain⟨ds',e,rfl⟩:=e;simp only[AA] at h1;obtain⟨e1,q⟩:=Ar.fzs h2 e;exact⟨by rw[h1.1,e1]; rfl,h1.2,q⟩
   | _=>simp[J.fzs] at e
theorem EY{v:V}{d:D}(r:RepA N H v d):AA K N H v (.fz d) []:=by rw[AA]; exact⟨rfl,r⟩
theorem Ar.of:∀{vs:List V} {ds:List D},Av N H vs ds->Ar K N H vs (ds.map A.fz) []:=by
 intro _l;induction _l with
 | nil =>
  intro _m;cases _m with
  | nil =>
   intro _;simp[Ar]
  | cons _ _ =>
   intro r;simp only[Av] at r
 | cons v vs ih =>
  intro _m;cases _m with
  | nil =>
   intro r;simp only[Av] at r
  | cons d ds =>
   intro r;simp only[map_cons,Ar];exact⟨[],[],rfl,EY r.1,ih r.2⟩
end
section
variable{K:Frag}{Z Z' Z1 Z2:Ro}{U σ' σ1 σ2:St}{H H' H1 H2:Hp}{O O':Addr->Prop}{fp fp' fp1 fp2:Nat->List Addr}{L L1 L2:List Addr}
noncomputable def pt(fp:Nat->List Addr)(i:Nat)(L:List Addr):Nat->List Addr:=fun j=>if j=i then L else fp j
theorem FC{i:Nat}:pt fp i L i=L:=by simp[pt]
theorem Hj{i j:Nat}(h:j≠i):pt fp i L j=fp j:=by simp[pt,h]
theorem BM{i j:Nat}{p:Addr}(h:p∈pt fp i L j):(j=i/\p∈L)\/(j≠i/\p∈fp j):=by
 by_cases e:j=i
 .subst e; rw[FC] at h; exact .inl ⟨rfl,h⟩
 .rw[Hj e] at h; exact .inr ⟨e,h⟩
theorem Rel.set(r:Rel K Z U H O fp){i:Nat}{s:Slot}{o:Option V}(hi:i<Z.length)(hO:∀p,O' p->NN fp O p)(hL:∀p∈L,NN fp O p)(nd:L.Nodup)(hd:∀p∈L,∀j,j≠i->p∉fp j)(ho:∀p∈L,¬O' p)(hoo:∀j p,j≠i->p∈fp j->¬O' p)(hs:∀st a,s=some (st,a)->∃v,o=some v/\AA K (NN (pt fp i L) O') H v a L)(hn:s=none->L=[]):Rel K (Z.set i s) (U.set i o) H O' (pt fp i L) where
 len:=by simp[r.len]
 slot:=fun j st a e=>by
  by_cases hj:j=i
  .subst hj
   rw[List.getElem?_set_self hi] at e;obtain⟨v,e1,q⟩:=hs st a (Option.some.inj e);refine⟨v,?_,by rw[FC]; exact q⟩;rw[List.getElem?_set_self (by rw[<- r.len]; exact hi),e1]
  .rw[List.getElem?_set_ne (Ne.symm hj)] at e
   obtain⟨v,e1,q⟩:=r.slot j st a e;refine⟨v,by rw[List.getElem?_set_ne (Ne.symm hj)]; exact e1,?_⟩;rw[Hj hj];refine DD (fun p z=>?_) q;rcases z with ⟨k,z⟩|z
   .rcases BM z with ⟨_,z⟩|⟨_,z⟩
    .exact hL p z
    .exact .inl ⟨k,z⟩
   .exact hO p z
 out:=fun j h=>by
  by_cases hj:j=i
  .subst hj
   rw[FC];cases s with
   | none=>exact hn rfl
   | some x=>exact absurd (List.getElem?_set_self hi) (h x.1 x.2)
  .rw[Hj hj]
   exact r.out j fun st a e=>h st a (by rw[List.getElem?_set_ne (Ne.symm hj)]; exact e)
 nd:=fun j=>by
  by_cases hj:j=i
  .subst hj; rw[FC]; exact nd
  .rw[Hj hj]; exact r.nd j
 inj:=fun j k p h1 h2=>by
  rcases BM h1 with ⟨e1,z1⟩|⟨e1,z1⟩
  .rcases BM h2 with ⟨e2,z2⟩|⟨e2,z2⟩
   .rw[e1,e2]
   .exact absurd z2 (hd p z1 k e2)
  .rcases BM h2 with ⟨e2,z2⟩|⟨e2,z2⟩
   .exact absurd z1 (hd p z2 j e1)
   .exact r.inj j k p z1 z2
 off:=fun j p h z=>by
  rcases BM h with ⟨e1,z1⟩|⟨e1,z1⟩
  .exact ho p z1 z
  .exact hoo j p e1 z1 z
 al:=fun p z=>by
  rcases z with ⟨j,z⟩|z
  .rcases BM z with ⟨_,z⟩|⟨_,z⟩
   .exact r.al p (hL p z)
   .exact r.al p (.inl ⟨j,z⟩)
  .exact r.al p (hO p z)
theorem IL{i:Nat}{v:V}(h : U[i]? = some (some v)): U.set i (some v)=U:=by
 apply List.ext_getElem?;intro j;by_cases e:j=i
 .subst e
  have:=(List.getElem?_eq_some_iff.mp h).1;rw[List.getElem?_set_self this,h]
 .rw[List.getElem?_set_ne (Ne.symm e)]
theorem AB{α:Type}{l:List α}{i:Nat}{x:α}(h:l[i]? = some x):i<l.length:=(List.getElem?_eq_some_iff.mp h).1
theorem G2{p:Addr}:NN fp (ad O []) p↔NN fp O p:=by simp[NN,ad]
theorem EU{v:V}{r:R}{d:D}(x:Post K O fp H Z Z1 U U L fp1 H1)(q:RR K (NN fp1 (ad O L)) H1 U v r L)(e:share Z1 r=some (d,Z2)):
  ∃fp2,Post K O fp H Z Z2 U U [] fp2 H1/\RepA (NN fp2 (ad O [])) H1 v d:=by
 cases r with
 | val a =>
  simp only[share,map_eq_some_iff] at e;obtain⟨d',e,e'⟩:=e;cases e';refine⟨fp1,x.drop0,EZ (fun p z=>?_) (AA.er q e)⟩;have z':=G2.mp z;refine⟨z'.imp id .inl,fun hp=>?_⟩;rcases z' with ⟨i,z⟩|z
  .exact x.rel.off i p z (.inr hp)
  .exact x.lo p hp z
 | ref i =>
  obtain⟨rfl,hv⟩:=q;simp only[share] at e;split at e
  .rename_i a ha
   simp only[map_eq_some_iff] at e;obtain⟨d',e,e'⟩:=e;cases e';obtain⟨v',hv',q⟩:=x.rel.slot i _ _ ha;rw[hv] at hv'; cases hv';have q2:RepA (NN (pt fp1 i []) (ad O [])) H1 v d:=EZ (fun p z=>by
    rcases z with ⟨j,z⟩|z
    .rcases BM z with ⟨_,z⟩|⟨hj,z⟩
     .simp at z
     .exact⟨.inl ⟨j,z⟩,fun hp=>hj (x.rel.inj j i p z hp)⟩
    .exact⟨.inr z,fun hp=>x.rel.off i p hp z⟩) (AA.er q e)
   have R:=x.rel.set (i:=i) (s:=some (.own,.fz d)) (o:=some v) (L:=[]) (O':=ad O []) (AB ha) (fun p z=>.inr z) (fun p hp=>by simp at hp) nodup_nil (fun p hp=>by simp at hp) (fun p hp=>by simp at hp)
    (fun j p _ h=>x.rel.off j p h) (fun st a e=>by cases e; exact⟨v,rfl,EY q2⟩) (fun e=>by cases e)
   rw[IL hv] at R;refine⟨pt fp1 i [],⟨R,nodup_nil,fun p hp=>by simp at hp,fun p hp=>?_,x.kept,rfl,fun j st a' h n=>?_⟩,q2⟩
   .rcases hp with hp|⟨j,hp⟩
    .simp at hp
    .rcases BM hp with ⟨_,z⟩|⟨_,z⟩
     .simp at z
     .exact x.new p (.inr ⟨j,z⟩)
   .obtain⟨a2,h2,_,f2⟩:=x.stab j st a' h n
    refine⟨a2,?_,rfl,f2⟩;rw[List.getElem?_set_ne]
    .exact h2
    .rintro rfl
     rw[ha] at h2; cases h2; exact n rfl
  .cases e
theorem OQ{v:V}{r:R}{a:A}(x:Post K O fp H Z Z1 U U L fp1 H1)(q:RR K (NN fp1 (ad O L)) H1 U v r L)(e:move Z1 r=some (a,Z2)):
  ∃L2 fp2,Post K O fp H Z Z2 U U L2 fp2 H1/\AA K (NN fp2 (ad O L2)) H1 v a L2:=by
 cases r with
 | val a =>
  simp only[move,Option.some.injEq] at e;cases e;exact⟨L,fp1,x,q⟩
 | ref i =>
  obtain⟨rfl,hv⟩:=q;simp only[move] at e;split at e
  .rename_i a' ha
   cases e;obtain⟨v',hv',q⟩:=x.rel.slot i _ _ ha;rw[hv] at hv'; cases hv';have nn:∀p,NN (pt fp1 i []) (ad O (fp1 i)) p->NN fp1 (ad O []) p:=fun p z=>by
    rcases z with ⟨j,z⟩|z|z
    .rcases BM z with ⟨_,z⟩|⟨_,z⟩
     .simp at z
     .exact .inl ⟨j,z⟩
    .exact .inr (.inl z)
    .exact .inl ⟨i,z⟩
   have R:=x.rel.set (i:=i) (s:=none) (o:=some v) (L:=[]) (O':=ad O (fp1 i)) (AB ha) (fun p z=>nn p (.inr z)) (fun p hp=>by simp at hp) nodup_nil (fun p hp=>by simp at hp) (fun p hp=>by simp at hp)
    (fun j p hj h z=>by
     rcases z with z|z
     .exact x.rel.off j p h (.inl z)
     .exact hj (x.rel.inj j i p h z)) (fun st a e=>by cases e) (fun _=>rfl)
   rw[IL hv] at R;refine⟨fp1 i,pt fp1 i [],⟨R,x.rel.nd i,fun p hp z=>x.rel.off i p hp (.inl z),fun p hp=>?_,x.kept,rfl,fun j st a' h n=>?_⟩,DD nn q⟩
   .rcases hp with hp|⟨j,hp⟩
    .exact x.new p (.inr ⟨i,hp⟩)
    .rcases BM hp with ⟨_,z⟩|⟨_,z⟩
     .simp at z
     .exact x.new p (.inr ⟨j,z⟩)
   .obtain⟨a2,h2,_,f2⟩:=x.stab j st a' h n
    refine⟨a2,?_,rfl,f2⟩;rw[List.getElem?_set_ne]
    .exact h2
    .rintro rfl
     rw[ha] at h2; cases h2; exact n rfl
  .cases e
end
section
variable{K:Frag}{Z Z' Z1 Z2:Ro}{U σ' σ1 σ2:St}{H H' H1 H2:Hp}{O O' N:Addr->Prop}{fp fp' fp1 fp2:Nat->List Addr}{L L1 L2:List Addr}
theorem Nh{v:V}{d:D}(r:RepA N H v d):RR K N H U v (.val (.fz d)) []:=EY (K:=K) r
noncomputable def K3(K:Frag)(N:Addr->Prop)(H:Hp)(a:A)(v:V)(H':Hp):Prop:=DL H H'/\∃L,AA K (fun p=>N p\/p∈L) H' v a L/\L.Nodup/\∀p∈L,H p=none
noncomputable abbrev JU(K:Frag)(N:Addr->Prop)(H:Hp):List V->List A->Prop
 | [],[]=>True
 | v::vs,a::as=>(∃L,AA K N H v a L)/\JU K N H vs as
 | _,_=>False
noncomputable def OpN(K:Frag)(f:List A->Option A)(r:List V->Hp->VK->Prop):Prop:=
 ∀N H xs as b Q,JU K N H xs as->f as=some b->(∀v H',K3 K N H b v H'->Q v H')->r xs H Q
theorem Rel.peek{r:R}{v:V}{a:A}(x:Rel K Z U H O fp)(q:RR K (NN fp O) H U v r L)(e:peek Z r=some a):∃L,AA K (NN fp O) H v a L:=by
 cases r with
 | val b =>
  simp only[J.peek,Option.some.injEq] at e;subst e;exact⟨L,q⟩
 | ref i =>
  simp only[J.peek] at e;split at e
  .rename_i st b hb
   cases e;obtain⟨v',h1,h2⟩:=x.slot i _ _ hb;rw[q.2] at h1; cases h1;exact⟨_,h2⟩
  .cases e
theorem Rel.peeks(x:Rel K Z U H O fp):∀{rs:List R} {vs:List V} {as:List A} {L:List Addr},RRs K (NN fp O) H U vs rs L->J.peeks Z rs=some as->JU K (NN fp O) H vs as
 | [],[],as,L,_,e=>by
  simp only[J.peeks,Option.some.injEq] at e;subst e
  trivial
 | [],_::_,_,_,q,_=>by simp only[RRs] at q
 | _::_,[],_,_,q,_=>by simp only[RRs] at q
 | r::rs,v::vs,as,L,q,e=>by
  simp only[J.peeks,bind_eq_some_iff,map_eq_some_iff] at e;obtain⟨a,e1,as',e2,rfl⟩:=e;simp only[RRs] at q;obtain⟨L1,L2,rfl,q1,q2⟩:=q;exact⟨x.peek q1 e1,x.peeks q2 e2⟩
theorem Post.out{a:A}{v:V}(x:Post K O fp H Z Z1 U U L fp1 H1)(o:K3 K (NN fp1 (ad O L)) H1 a v H2):Jo K O fp H Z Z1 U (.val a) v H2:=by
 obtain⟨s,L',r,nd,nw⟩:=o;have al:=r.al;have alO:∀p,NN fp1 (ad O L) p->H1 p≠none:=x.rel.al;refine⟨L',fp1,⟨x.rel.grow s (fun p z=>z.imp .inl (nw p)) fun p z=>?_,nd,fun p hp z=>alO p (.inr (.inl z)) (nw p hp),fun p hp=>?_,x.kept.trans (DL.kept (L:=fun _=>False) s) fun _ z=>z.elim,x.ln,x.stab⟩,?_⟩
 .rcases z with z|z
  .intro q
   have:=alO p (.inr (.inl z));cases e:H1 p with
   | none=>exact this e
   | some o=>rw[s p o e] at q; cases q
  .exact al p z
 .rcases hp with hp|hp
  .have e1:=nw p hp
   cases e:H p with
   | none=>exact .inr rfl
   | some o =>
    by_cases hf:Fp fp p
    .exact .inl hf
    .rw[x.kept p o e (.inl hf)] at e1; cases e1
  .exact x.new p (.inr hp)
 .refine DD (fun p z=>?_) r
  rcases z with z|z|z
  .exact .inl (.inl z)
  .exact .inl (.inr (.inl z))
  .exact .inr z
theorem Ob{f:List A->Option A}{r:List V->Hp->VK->Prop}{m:MA}{Q:VK}(ok:OpN K f r)(h:tE K (opM f m) U H Q):tA K m U H fun vs H1=>r vs H1 Q:=by
 obtain⟨Z,O,fp,rl,x,Z',e,k⟩:=h;simp only[opM,bind_eq_some_iff,map_eq_some_iff] at e;obtain⟨⟨rs,Z1⟩,e1,as,e2,b,e3,e4⟩:=e;cases e4;refine⟨Z,O,fp,rl,rs,_,e1,fun vs H1 yy=>?_⟩;obtain⟨L,fp1,p,q⟩:=yy;exact ok _ H1 vs as b Q (p.rel.peeks q e2) e3 fun v H' o=>k v H' (p.out o)
theorem Rr{i:Nat}{Q:VK}(h:tE K (Aa i) U H Q):Pm i U H Q:=by
 obtain⟨Z,O,fp,rl,x,Z',e,k⟩:=h;simp only[Aa] at e;split at e
 .rename_i st d hd
  cases e;obtain⟨v,h1,h2⟩:=rl.slot i _ _ hd;refine⟨v,h1,k v H ⟨[],fp,rl.post,?_⟩⟩;rw[AA] at h2;exact Nh (EZ (fun p z=>G2.mp z) h2.2)
 .rename_i y hn hy
  cases e;obtain⟨st,a⟩:=y;obtain⟨v,h1,h2⟩:=rl.slot i _ _ hy;exact⟨v,h1,k v H ⟨[],fp,rl.post,rfl,h1⟩⟩
 .cases e
theorem KY{d:D}{v:V}{Q:VK}(hv:∀N H,RepA N H v d)(h:tE K (Ae d) U H Q):tC v U H Q:=by
 obtain⟨Z,O,fp,rl,x,Z',e,k⟩:=h;cases e;exact k v H ⟨[],fp,rl.post,Nh (hv _ _)⟩
theorem Rp{m:ME}{Q:VK}(h:tE K (Aj m) U H Q):tE K m U H Q:=by
 obtain⟨Z,O,fp,rl,x,Z',e,k⟩:=h;simp only[Aj,bind_eq_some_iff,map_eq_some_iff] at e;obtain⟨⟨r,Z1⟩,e1,⟨d,Z2⟩,e2,e3⟩:=e;cases e3;refine⟨Z,O,fp,rl,r,Z1,e1,fun v H1 yy=>?_⟩;obtain⟨L,fp1,p,q⟩:=yy;obtain⟨fp2,p2,q2⟩:=EU p q e2;exact k v H1 ⟨[],fp2,p2,Nh q2⟩
theorem Q1{v:V}{a:A}{b:Bool}(h:AA K N H v a L)(e:Eu a=some b):v=.bl b:=by
 cases a with
 | fz d =>
  cases d with
  | bl c =>
   simp only[Eu,Option.some.injEq] at e;subst e;rw[AA] at h;obtain⟨_,h⟩:=h;cases h;rfl
  | _=>simp[Eu] at e
 | _=>simp[Eu] at e
theorem KZ{m:ME}{Q:Bool->Hp->Prop}(h:tT K (Aw m) U H Q):tE K m U H fun x H1=>∃c,x=.bl c/\Q c H1:=by
 obtain⟨Z,O,fp,rl,x,Z',e,k⟩:=h;simp only[Aw,bind_eq_some_iff,map_eq_some_iff] at e;obtain⟨⟨r,Z1⟩,e1,a,e2,b,e3,e4⟩:=e;cases e4;refine⟨Z,O,fp,rl,r,_,e1,fun v H1 yy=>?_⟩;obtain⟨L,fp1,p,q⟩:=yy;obtain⟨L',q'⟩:=p.rel.peek q e2;exact⟨_,Q1 q' e3,k fp1 H1 p.drop0⟩
theorem Post.next{σ2:St}(x:Post K O fp H Z Z1 U σ1 [] fp1 H1)(y:Post K O fp1 H1 Z1 Z2 σ1 σ2 L2 fp2 H2):Post K O fp H Z Z2 U σ2 L2 fp2 H2:=by
 have e:ad O []=O:=funext fun p=>propext JX;exact Post.then (L1:=[]) x (by rw[e]; exact y)
theorem Post.rel0(x:Post K O fp H Z Z1 U σ1 [] fp1 H1):Rel K Z1 σ1 H1 O fp1:=x.rel.congr fun p=>JX
theorem Jo.pre{r:R}{v:V}(x:Post K O fp H Z Z1 U U [] fp1 H1)(y:Jo K O fp1 H1 Z1 Z2 U r v H2):Jo K O fp H Z Z2 U r v H2:=by
 obtain⟨L,fp2,p,q⟩:=y;exact⟨L,fp2,x.next p,q⟩
theorem Xj{a b:MT}{Q:Bool->Hp->Prop}(h:tT K (orT a b) U H Q):tT K a U H fun c H1=>if c=true then Q true H1 else tT K b U H1 Q:=by
 obtain⟨Z,O,fp,rl,x,Z',e,k⟩:=h;simp only[orT,bind_eq_some_iff] at e;obtain⟨⟨c,Z1⟩,e1,e2⟩:=e;refine⟨Z,O,fp,rl,c,Z1,e1,fun fp1 H1 p=>?_⟩;cases c with
 | false =>
  simp at e2;rw[if_neg Bool.false_ne_true];exact⟨Z1,O,fp1,p.rel0,x,Z',e2,fun fp2 H2 p2=>k fp2 H2 (p.next p2)⟩
 | true =>
  simp at e2;obtain⟨rfl,rfl⟩:=e2;rw[if_pos rfl];exact k fp1 H1 p
theorem Wf{a:MT}{Q:Bool->Hp->Prop}(h:tT K (BF a) U H Q):tT K a U H fun c H1=>Q (!c) H1:=by
 obtain⟨Z,O,fp,rl,x,Z',e,k⟩:=h;simp only[BF,map_eq_some_iff] at e;obtain⟨⟨c,Z1⟩,e1,e2⟩:=e;cases e2;exact⟨Z,O,fp,rl,c,_,e1,k⟩
theorem Od{m:ME}{Q:Bool->Hp->Prop}{Z Z':Ro}{b:Bool}{O:Addr->Prop}{fp:Nat->List Addr}(rl:Rel K Z U H O fp)(e:Aw m Z=some (b,Z'))(k:∀fp' H',Post K O fp H Z Z' U U [] fp' H'->Q b H'):tE K m U H fun x H1=>∃c,x=.bl c/\Q c H1:=
 KZ ⟨Z,O,fp,rl,b,Z',e,k⟩
theorem VY{a b:ME}{Q:VK}(h:tE K (andM a b) U H Q):tE K a U H fun x H1=>∃c,x=.bl c/\if c=true then tE K b U H1 Q else Q (.bl false) H1:=by
 obtain⟨Z,O,fp,rl,x,Z',e,k⟩:=h;simp only[andM,bind_eq_some_iff] at e;obtain⟨⟨c,Z1⟩,e1,e2⟩:=e;refine Od (Q:=fun c H1=>if c=true then tE K b U H1 Q else Q (.bl false) H1) rl e1 fun fp1 H1 p=>?_;cases c with
 | true =>
  rw[if_pos rfl] at e2 |-;exact⟨Z1,O,fp1,p.rel0,x,Z',e2,fun v H2 p2=>k v H2 (p2.pre p)⟩
 | false =>
  simp at e2;obtain⟨rfl,rfl⟩:=e2;rw[if_neg Bool.false_ne_true];exact k _ H1 ⟨[],fp1,p,Nh (.bl _)⟩
theorem V1{a:ME}{Q:VK}(h:tE K (notM a) U H Q):tE K a U H fun x H1=>∃c,x=.bl c/\Q (.bl (!c)) H1:=by
 obtain⟨Z,O,fp,rl,x,Z',e,k⟩:=h;simp only[notM,map_eq_some_iff] at e;obtain⟨⟨c,Z1⟩,e1,e2⟩:=e;cases e2;exact Od (Q:=fun c H1=>Q (.bl (!c)) H1) rl e1 fun fp1 H1 p=>k _ H1 ⟨[],fp1,p,Nh (.bl _)⟩
theorem RRs.vals:∀{rs:List R} {vs:List V} {as:List A} {L:List Addr},RRs K N H U vs rs L->J.vals rs=some as->Ar K N H vs as L:=by
 intro _l;induction _l with
 | nil =>
  intro _m;cases _m with
  | nil =>
   intro as L q e;simp only[J.vals,Option.some.injEq] at e;subst e;simp only[RRs] at q;simp only[Ar];exact q
  | cons _ _ =>
   intro _ _ q _;simp only[RRs] at q
 | cons r rs ih =>
  intro _m;cases _m with
  | nil =>
   intro _ _ q _;simp only[RRs] at q
  | cons v vs =>
   intro as L q e;cases r with
   | ref i=>simp[J.vals] at e
   | val a =>
    simp only[J.vals,map_eq_some_iff] at e;obtain⟨as',e2,rfl⟩:=e;simp only[RRs] at q;obtain⟨L1,L2,rfl,q1,q2⟩:=q;simp only[Ar];exact⟨L1,L2,rfl,q1,ih q2 e2⟩
theorem Dp{p:Addr}{o:HO}(h:H p=none):DL H (upd H p o):=fun b o' e=>by
 rw[Au (Dl e h)]; exact e
theorem Post.more{L':List Addr}(x:Post K O fp H Z Z1 U σ1 L fp1 H1)(s:DL H1 H2)(nd:L'.Nodup)(h:∀p∈L',p∈L\/(H1 p=none/\H2 p≠none)):Post K O fp H Z Z1 U σ1 L' fp1 H2 where
 rel:=x.rel.grow s (fun p z=>by
   rcases z with z|z
   .exact .inl (.inl z)
   .rcases h p z with q|q
    .exact .inl (.inr q)
    .exact .inr q.1) fun p z=>by
   have key:H1 p≠none->H2 p≠none:=fun n q=>by
    cases e:H1 p with
    | none=>exact n e
    | some o=>rw[s p o e] at q; cases q
   rcases z with z|z
   .exact key (x.rel.al p (.inr (.inl z)))
   .rcases h p z with q|q
    .exact key (x.rel.al p (.inr (.inr q)))
    .exact q.2
 nd:=nd
 lo:=fun p hp z=>by
  rcases h p hp with q|q
  .exact x.lo p q z
  .exact x.rel.al p (.inr (.inl z)) q.1
 new:=fun p hp=>by
  rcases hp with hp|hp
  .rcases h p hp with q|q
   .exact x.new p (.inl q)
   .cases e:H p with
    | none=>exact .inr rfl
    | some o =>
     by_cases hf:Fp fp p
     .exact .inl hf
     .have:=x.kept p o e (.inl hf)
      rw[q.1] at this; cases this
  .exact x.new p (.inr hp)
 kept:=x.kept.trans (DL.kept (L:=fun _=>False) s) fun _ z=>z.elim
 ln:=x.ln
 stab:=x.stab
theorem V0{m:MA}{Q:VK}(h:tE K (lstM m) U H Q):Xd (tA K m) U H Q:=by
 obtain⟨Z,O,fp,rl,x,Z',e,k⟩:=h;simp only[lstM,bind_eq_some_iff] at e;obtain⟨⟨rs,Z1⟩,e1,as,e2,e3⟩:=e;split at e3
 .rename_i hz
  cases e3;refine⟨Z,O,fp,rl,rs,_,e1,fun vs H1 yy=>?_⟩
  obtain⟨L,fp1,p,q⟩:=yy;have q':=q.vals e2;have hl:=q'.len;refine⟨by rw[hl]; exact hz,fun a ha=>k _ _ ?_⟩;have s:=Dp (o:=.lst vs) ha;have nL:a∉L:=fun z=>p.rel.al a (.inr (.inr z)) ha;refine⟨a::L,fp1,p.more s (nodup_cons.mpr ⟨nL,p.nd⟩) (fun b hb=>?_),?_⟩
  .rcases mem_cons.mp hb with rfl|hb
   .exact .inr ⟨ha,by rw[AN]; simp⟩
   .exact .inl hb
  .show AA _ _ _ _ _ _
   rw[AA];refine⟨a,vs,L,rfl,rfl,AN,by rw[hl]; exact hz,q'.tr (M:=fun _=>False) (fun _ z=>z.elim) (DL.kept s) (fun b z=>?_) fun _ _ z=>z⟩;rcases z with z|z|z
   .exact .inl (.inl z)
   .exact .inl (.inr (.inl z))
   .rcases mem_cons.mp z with rfl|z
    .exact .inr ha
    .exact .inl (.inr (.inr z))
 .cases e3
end
noncomputable def Pu(K:Frag)(O:Addr->Prop)(fp:Nat->List Addr)(H:Hp)(Z:Ro)(U:St)(D:Ends):Fl->Prop
 | .next Z'=>∀σ' fp' H',Post K O fp H Z Z' U σ' [] fp' H'->D.nx σ' H'
 | .brk Z'=>∀σ' fp' H',Post K O fp H Z Z' U σ' [] fp' H'->D.bk σ' H'
 | .cnt Z'=>∀σ' fp' H',Post K O fp H Z Z' U σ' [] fp' H'->D.ct σ' H'
 | .ret a Z'=>∀σ' v L fp' H',Post K O fp H Z Z' U σ' L fp' H'->AA K (NN fp' (ad O L)) H' v a L->D.rt v H'
noncomputable def tS(K:Frag)(m:MS):TS:=fun D U H=>∃Z O fp,Rel K Z U H O fp/\∃fl,m Z=some fl/\Pu K O fp H Z U D fl
section
variable{K:Frag}{Z Z' Z1 Z2:Ro}{U σ' σ1 σ2:St}{H H' H1 H2:Hp}{O O' N:Addr->Prop}{fp fp' fp1 fp2:Nat->List Addr}{L L1 L2:List Addr}{D:Ends}
theorem Pu.pre{fl:Fl}(x:Post K O fp H Z Z1 U σ1 [] fp1 H1)(w:Pu K O fp H Z U D fl):Pu K O fp1 H1 Z1 σ1 D fl:=by
 cases fl with
 | next Z'=>exact fun σ' fp' H' p=>w σ' fp' H' (x.next p)
 | brk Z'=>exact fun σ' fp' H' p=>w σ' fp' H' (x.next p)
 | cnt Z'=>exact fun σ' fp' H' p=>w σ' fp' H' (x.next p)
 | ret a Z'=>exact fun σ' v L fp' H' p q=>w σ' v L fp' H' (x.next p) q
theorem Tv(h:tS K AK D U H):T6 D U H:=by
 obtain⟨Z,O,fp,rl,fl,e,w⟩:=h;cases e;exact w U fp H rl.post
theorem Wd{a b:MS}(h:tS K (Ax a b) D U H):We (tS K a) (tS K b) D U H:=by
 obtain⟨Z,O,fp,rl,fl,e,w⟩:=h;simp only[Ax,bind_eq_some_iff] at e;obtain⟨f1,e1,e2⟩:=e;refine⟨Z,O,fp,rl,f1,e1,?_⟩;cases f1 with
 | next Z1=>exact fun σ1 fp1 H1 p=>⟨Z1,O,fp1,p.rel0,fl,e2,w.pre p⟩
 | brk Z1=>cases e2; exact w
 | cnt Z1=>cases e2; exact w
 | ret a Z1=>cases e2; exact w
theorem Xi{c:MT}{a b:MS}(h:tS K (ifS c a b) D U H):V4 (tT K c) (tS K a) (tS K b) D U H:=by
 obtain⟨Z,O,fp,rl,fl,e,w⟩:=h;simp only[ifS,bind_eq_some_iff] at e;obtain⟨⟨c,Z1⟩,e1,e2⟩:=e;refine⟨Z,O,fp,rl,c,Z1,e1,fun fp1 H1 p=>?_⟩;cases c with
 | true =>
  simp at e2;rw[if_pos rfl];exact⟨Z1,O,fp1,p.rel0,fl,e2,w.pre p⟩
 | false =>
  simp at e2;rw[if_neg Bool.false_ne_true];exact⟨Z1,O,fp1,p.rel0,fl,e2,w.pre p⟩
theorem V8{m:ME}(h:tS K (Hq m) D U H):JO (tE K m) D U H:=by
 obtain⟨Z,O,fp,rl,fl,e,w⟩:=h;simp only[Hq,map_eq_some_iff] at e;obtain⟨⟨r,Z1⟩,e1,e2⟩:=e;cases e2;exact⟨Z,O,fp,rl,r,Z1,e1,fun v H1 ⟨L,fp1,p,q⟩=>w U fp1 H1 p.drop0⟩
theorem Wc{m:ME}(h:tS K (retS m) D U H):Xh (tE K m) D U H:=by
 obtain⟨Z,O,fp,rl,fl,e,w⟩:=h;simp only[retS,bind_eq_some_iff,map_eq_some_iff] at e;obtain⟨⟨r,Z1⟩,e1,⟨a,Z2⟩,e2,e3⟩:=e;cases e3;refine⟨Z,O,fp,rl,r,Z1,e1,fun v H1 yy=>?_⟩;obtain⟨L,fp1,p,q⟩:=yy;obtain⟨L2,fp2,p2,q2⟩:=OQ p q e2;exact w U v L2 fp2 H1 p2 q2
theorem PX{i:Nat}(h:free Z i=true):i<Z.length/\∀st a,Z[i]? = some (some (st,a))->st=.own:=by
 unfold free at h;split at h
 .rename_i e
  exact⟨AB e,fun st a e'=>by rw[e] at e'; cases e'⟩
 .rename_i a e
  exact⟨AB e,fun st a e'=>by rw[e] at e'; cases e'; rfl⟩
 .cases h
theorem Post.store{i:Nat}{v:V}{a:A}{σ1:St}(x:Post K O fp H Z Z1 U σ1 (L1++L2) fp1 H1)(hf:free Z1 i=true)(q:AA K (NN fp1 (ad O (L1++L2))) H1 v a L1):
  Post K O fp H Z (Z1.set i (some (.own,a))) U (σ1.set i (some v)) L2 (pt fp1 i L1) H1:=by
 obtain⟨hi,ho⟩:=PX hf;have nd:=nodup_append.mp x.nd;have nn:∀p,NN (pt fp1 i L1) (ad O L2) p->NN fp1 (ad O (L1++L2)) p:=fun p z=>by
  rcases z with ⟨j,z⟩|z|z
  .rcases BM z with ⟨_,z⟩|⟨_,z⟩
   .exact .inr (.inr (mem_append_left _ z))
   .exact .inl ⟨j,z⟩
  .exact .inr (.inl z)
  .exact .inr (.inr (mem_append_right _ z))
 refine⟨x.rel.set (O':=ad O L2) hi (fun p z=>nn p (.inr z)) (fun p hp=>.inr (.inr (mem_append_left _ hp))) nd.1 (fun p hp j _ z=>x.rel.off j p z (.inr (mem_append_left _ hp))) (fun p hp z=>?_)
  (fun j p _ h z=>x.rel.off j p h (z.imp id (mem_append_right _))) (fun st a' e=>by cases e; exact⟨v,rfl,DD nn q⟩) (fun e=>by cases e),nd.2.1,fun p hp=>x.lo p (mem_append_right _ hp),fun p hp=>?_,x.kept,by rw[length_set]; exact x.ln,fun j st a' h n=>?_⟩
 .rcases z with z|z
  .exact x.lo p (mem_append_left _ hp) z
  .exact nd.2.2 p hp p z rfl
 .rcases hp with hp|⟨j,hp⟩
  .exact x.new p (.inl (mem_append_right _ hp))
  .rcases BM hp with ⟨_,z⟩|⟨_,z⟩
   .exact x.new p (.inl (mem_append_left _ z))
   .exact x.new p (.inr ⟨j,z⟩)
 .obtain⟨a2,h2,e2,f2⟩:=x.stab j st a' h n
  have hj:j≠i:=by
   rintro rfl;exact n (ho st a2 h2)
  exact⟨a2,by rw[List.getElem?_set_ne (Ne.symm hj)]; exact h2,by rw[List.getElem?_set_ne (Ne.symm hj)]; exact e2,f2⟩
theorem JC{v:V}{r:R}{a:A}(x:Post K O fp H Z Z1 U U L fp1 H1)(q:RR K (NN fp1 (ad O L)) H1 U v r L)(e:keep Z1 r=some (a,Z2)):
  ∃L2 fp2,Post K O fp H Z Z2 U U L2 fp2 H1/\AA K (NN fp2 (ad O L2)) H1 v a L2:=by
 cases r with
 | val b =>
  simp only[keep,Option.some.injEq] at e;cases e;exact⟨L,fp1,x,q⟩
 | ref i =>
  simp only[keep,map_eq_some_iff] at e;obtain⟨⟨d,Z3⟩,e,e'⟩:=e;cases e';obtain⟨fp2,p,q2⟩:=EU x q e;exact⟨[],fp2,p,EY q2⟩
theorem Ru{i:Nat}{m:ME}(h:tS K (Ay i m) D U H):Rm (tE K m) (HV i) D U H:=by
 obtain⟨Z,O,fp,rl,fl,e,w⟩:=h;simp only[Ay,bind_eq_some_iff] at e;obtain⟨⟨r,Z1⟩,e1,⟨a,Z2⟩,e2,e3⟩:=e;split at e3
 .rename_i hf
  cases e3;refine⟨Z,O,fp,rl,r,Z1,e1,fun v H1 yy=>?_⟩
  obtain⟨L,fp1,p,q⟩:=yy;obtain⟨L2,fp2,p2,q2⟩:=JC p q e2;exact w _ _ H1 (Post.store (L1:=L2) (L2:=[]) (by rw[append_nil]; exact p2) hf (by rw[append_nil]; exact q2))
 .cases e3
noncomputable def FY:List Nat->TGs
 | []=>WA
 | i::is=>TN (HV i) (FY is)
theorem Pg{Q:St->Hp->Prop}:∀{is:List Nat} {as:List A} {vs:List V} {Z1 Z2:Ro} {σ1:St} {fp1:Nat->List Addr} {L:List Addr},Post K O fp H Z Z1 U σ1 L fp1 H1->Ar K (NN fp1 (ad O L)) H1 vs as L->CH is as Z1=some Z2 ->
  (∀σ' fp',Post K O fp H Z Z2 U σ' [] fp' H1->Q σ' H1)->FY is vs σ1 H1 Q:=by
 intro _l;induction _l with
 | nil =>
  intro _m;cases _m with
  | nil =>
   intro vs Z1 Z2 σ1 fp1 L x q e k;cases vs with
   | cons v vs=>simp only[Ar] at q
   | nil =>
    simp only[CH,Option.some.injEq] at e;subst e;exact⟨rfl,k σ1 fp1 x.drop0⟩
  | cons _ _ =>
   intro _ _ _ _ _ _ _ _ e _;simp[CH] at e
 | cons i is ih =>
  intro _m;cases _m with
  | nil =>
   intro _ _ _ _ _ _ _ _ e _;simp[CH] at e
  | cons a as =>
   intro vs Z1 Z2 σ1 fp1 L x q e k;cases vs with
   | nil=>simp only[Ar] at q
   | cons v vs =>
    simp only[Ar] at q;obtain⟨L1,L2,rfl,q1,q2⟩:=q;simp only[CH] at e;split at e
    .rename_i hf
     refine⟨v,vs,rfl,?_⟩;have p:=x.store hf q1;refine ih p (Wk (fun p z=>?_) q2) e k;rcases z with ⟨j,z⟩|z|z
     .rcases BM z with ⟨_,z⟩|⟨_,z⟩
      .exact .inr (.inr (mem_append_left _ z))
      .exact .inl ⟨j,z⟩
     .exact .inr (.inl z)
     .exact .inr (.inr (mem_append_right _ z))
    .cases e
theorem Nr:∀{is:List Nat} {as:List A} {Z1 Z2:Ro},CH is as Z1=some Z2->is.length=as.length:=by
 intro _l;induction _l with
 | nil =>
  intro _m;cases _m with
  | nil =>
   intro _ _ _;exact rfl
  | cons _ _ =>
   intro _ _ e;simp[CH] at e
 | cons i is ih =>
  intro _m;cases _m with
  | nil =>
   intro _ _ e;simp[CH] at e
  | cons a as =>
   intro _ _ e;simp only[CH] at e;split at e
   .simp[ih e]
   .cases e
theorem Rv{n:Nat}{c:MT}{b:MS}(h:tS K (K1 n c b) D U H):Rw (tT K c) (tS K b) D U H:=by
 obtain⟨Z,O,fp,rl,fl,e,w⟩:=h;refine⟨fun n σ' H'=>∃Z' fp',Post K O fp H Z Z' U σ' [] fp' H'/\Er c b n Z'=some fl,⟨n,Z,fp,rl.post,e⟩,?_⟩;rintro n σ1 H1 ⟨Z1,fp1,p1,e1⟩;cases n with
 | zero=>simp[Er] at e1
 | succ n =>
  simp only[Er,bind_eq_some_iff] at e1;obtain⟨⟨c,Z2⟩,e2,e3⟩:=e1;refine⟨Z1,O,fp1,p1.rel0,c,Z2,e2,fun fp2 H2 p2=>?_⟩;have p12:=p1.next p2;cases c with
  | false =>
   simp at e3;subst e3;dsimp only;rw[if_neg Bool.false_ne_true];exact w _ _ _ p12
  | true =>
   simp only[if_true,bind_eq_some_iff] at e3;obtain⟨f,e4,e5⟩:=e3;dsimp only;rw[if_pos rfl];refine⟨_,fun σ' H' z=>⟨n,Nat.lt_succ_self n,z⟩,Z2,O,fp2,p12.rel0,f,e4,?_⟩;cases f with
   | next Z3=>exact fun σ' fp' H' p=>⟨Z3,fp',p12.next p,e5⟩
   | cnt Z3=>exact fun σ' fp' H' p=>⟨Z3,fp',p12.next p,e5⟩
   | brk Z3 =>
    cases e5;exact fun σ' fp' H' p=>w σ' fp' H' (p12.next p)
   | ret a Z3 =>
    cases e5;exact fun σ' v L fp' H' p q=>w σ' v L fp' H' (p12.next p) q
end
noncomputable def ItR(J:It)(C:(Addr->Prop)->Hp->Prop)(ds:List D):Prop:=∀N H,C N H->(∀i,i<ds.length->J.go i H)/\(∀i,ds.length<=i->J.stop i H)/\∀i x H' d,J.yld i H x H'->ds[i]? = some d->DL H H'/\RepA N H' x d
noncomputable def Xw(H H':Hp):Prop:=∀p xs,H p=some (.tup xs)->H' p=some (.tup xs)
noncomputable def ItP(K:Frag)(O:Addr->Prop)(fp:Nat->List Addr)(H:Hp)(Z Z':Ro)(U:St)(ds:List D)(n:Option Nat)(J:It)(H':Hp):Prop:=
 ∃r v a L fp',Post K O fp H Z Z' U U L fp' H'/\RR K (NN fp' (ad O L)) H' U v r L/\n=nameOf r/\peek Z' r=some a/\ItR J (fun N H=>(∃L,AA K N H v a L)/\Xw H' H) ds
noncomputable def tI(K:Frag)(m:MI):TI:=fun U H R=>∃Z O fp,Rel K Z U H O fp/\∃ds n Z',m Z=some (ds,n,Z')/\∀J H',ItP K O fp H Z Z' U ds n J H'->R J H'
section
variable{K:Frag}{Z Z' Z1 Z2:Ro}{U σ' σ1 σ2:St}{H H' H1 H2:Hp}{O O' N:Addr->Prop}{fp fp' fp1 fp2:Nat->List Addr}{L L1 L2:List Addr}
theorem EA{n:Option Nat}{j:Nat}:(lock Z n)[j]? = match Z[j]? with
  | some (some (st,a))=>some (some (if n=some j then .ro else st,a))
  | x=>x:=by
 cases n with
 | none =>
  simp only[lock];split<;>simp_all
 | some i =>
  simp only[lock];split
  .rename_i st a e
   by_cases h:j=i
   .subst h
    rw[List.getElem?_set_self (AB e),e];simp
   .rw[List.getElem?_set_ne (Ne.symm h)]
    split
    .have:¬(some i=some j):=fun z=>h (Option.some.inj z).symm
     simp[this, *]
    .rfl
  .rename_i hn
   by_cases h:j=i
   .subst h
    split
    .rename_i st a e
     exact absurd e (hn st a)
    .rfl
   .split
    .have:¬(some i=some j):=fun z=>h (Option.some.inj z).symm
     simp[this, *]
    .rfl
theorem Rel.lock{n:Option Nat}(r:Rel K Z U H O fp):Rel K (J.lock Z n) U H O fp where
 len:=by
  rw[<- r.len];cases n with
  | none=>rfl
  | some i=>simp only[J.lock]; split<;>simp
 slot:=fun i st a e=>by
  rw[EA] at e;split at e
  .rename_i st' a' e'
   simp only[Option.some.injEq,Prod.mk.injEq] at e;obtain⟨_,rfl⟩:=e;exact r.slot i _ _ e'
  .exact r.slot i _ _ e
 out:=fun i h=>r.out i fun st a e=>h (if n=some i then .ro else st) a (by rw[EA,e])
 nd:=r.nd
 inj:=r.inj
 off:=r.off
 al:=r.al
theorem Post.unlock{n:Option Nat}{a:A}(hn:∀i,n=some i->∃st,Z1[i]? = some (some (st,a)))(x:Post K O fp1 H1 (J.lock Z1 n) Z2 σ1 σ2 L fp2 H2):Post K O fp1 H1 Z1 (J.unlock Z1 Z2 n) σ1 σ2 L fp2 H2:=by
 cases n with
 | none=>exact x
 | some i =>
  obtain⟨st,e⟩:=hn i rfl;obtain⟨a',e2,es,ea⟩:=x.stab i .ro a (by rw[EA,e]; simp) (by decide);cases ea rfl;have eu:J.unlock Z1 Z2 (some i)=Z2.set i (some (st,a)):=by simp only[J.unlock,e]
  rw[eu];have get:∀j st' b,(Z2.set i (some (st,a)))[j]? = some (some (st',b))->∃st'',Z2[j]? = some (some (st'',b)):=fun j st' b q=>by
   by_cases h:j=i
   .subst h
    rw[List.getElem?_set_self (AB e2)] at q;cases q;exact⟨_,e2⟩
   .rw[List.getElem?_set_ne (Ne.symm h)] at q
    exact⟨_,q⟩
  refine⟨⟨by rw[length_set]; exact x.rel.len,fun j st' b q=>?_,fun j h=>?_,x.rel.nd,x.rel.inj,x.rel.off,x.rel.al⟩,x.nd,x.lo,x.new,x.kept,x.ln,fun j st' b q hs=>?_⟩
  .obtain⟨st'',q⟩:=get j st' b q
   exact x.rel.slot j _ _ q
  .refine x.rel.out j fun st' b q=>?_
   by_cases hj:j=i
   .subst hj
    exact h st a (List.getElem?_set_self (AB e2))
   .exact h st' b (by rw[List.getElem?_set_ne (Ne.symm hj)]; exact q)
  .by_cases hj:j=i
   .subst hj
    rw[e] at q;cases q;exact⟨a,List.getElem?_set_self (AB e2),es,fun _=>rfl⟩
   .have q':(J.lock Z1 (some i))[j]? = some (some (st',b)):=by
     rw[EA,q];have:¬(some i=some j):=fun z=>hj (Option.some.inj z).symm;simp[this]
    obtain⟨b',q2,s2,f2⟩:=x.stab j st' b q' hs;exact⟨b',by rw[List.getElem?_set_ne (Ne.symm hj)]; exact q2,s2,f2⟩
noncomputable def P1(K:Frag)(is:List Nat):Bool->TG
 | true=>HV (is.headD 0)
 | false=>WC K is.length (FY is)
theorem RI{is:List Nat}{one:Bool}{d:D}{x:V}{Q:St->Hp->Prop}(p:Post K O fp H Z Z1 U σ1 [] fp1 H1)(q:RepA (NN fp1 O) H1 x d)(e:Gj is one d Z1=some Z2)(k:∀σ' fp',Post K O fp H Z Z2 U σ' [] fp' H1->Q σ' H1):
  P1 K is one x σ1 H1 Q:=by
 have q0:RepA (NN fp1 (ad O [])) H1 x d:=EZ (fun p z=>G2.mp z) q;cases one with
 | true =>
  unfold Gj at e
  match is,e with
  | [i],e =>
   dsimp only at e;split at e
   .rename_i hf
    cases e;exact k _ _ (Post.store (L1:=[]) (L2:=[]) p hf (EY (K:=K) q0))
   .cases e
  | [],e=>simp at e
  | _::_::_,e=>simp at e
 | false =>
  unfold Gj at e;dsimp only at e;cases d with
  | tup ds =>
   dsimp only at e;cases q0 with
   | tup h hz hl hr =>
    refine⟨_,_,rfl,.inl (.inl h),?_,Pg p (Ar.of (Av.mk hl hr)) e k⟩;have:=Nr e;rw[length_map] at this;rw[hl,this]
  | _=>simp at e
theorem VU{r:R}{v:V}{a:A}{n:Option Nat}(hn:n=nameOf r)(hr:Rel K Z1 U H1 (ad O L) fp1)(q:RR K (NN fp1 (ad O L)) H1 U v r L)(e:peek Z1 r=some a)(p:Post K (ad O L) fp1 H1 (J.lock Z1 n) Z2 U σ2 [] fp2 H2):
  ∃L',AA K (NN fp2 (ad O L)) H2 v a L':=by
 cases r with
 | val b =>
  simp only[peek,Option.some.injEq] at e;subst e;refine⟨L,AA.tr (M:=Fp fp1) (fun p z=>.inl z) p.kept (fun x z=>?_) (fun x hx z=>?_) q⟩
  .rcases z with z|z
   .exact(p.new x (.inr z)).imp (fun y=>.inl y) id
   .exact .inl (.inr z)
  .obtain⟨i,hi⟩:=z
   exact hr.off i x hi (.inr hx)
 | ref i =>
  subst hn;simp only[peek] at e;split at e
  .rename_i st b hb
   cases e;obtain⟨a',e2,es,ea⟩:=p.stab i .ro a (by rw[EA,hb]; simp[nameOf]) (by decide);cases ea rfl;obtain⟨v',h1,h2⟩:=p.rel0.slot i _ _ e2;rw[es,q.2] at h1;cases h1;exact⟨_,h2⟩
  .cases e
theorem Wa{is:List Nat}{one:Bool}{it:MI}{b:MS}{D:Ends}(h:tS K (Ej is one it b) D U H):Xc (tI K it) (P1 K is one) (tS K b) D U H:=by
 obtain⟨Z,O,fp,rl,fl,e,w⟩:=h;simp only[Ej,bind_eq_some_iff,map_eq_some_iff] at e;obtain⟨⟨ds,n,Z1⟩,e1,f,e2,e3⟩:=e;subst e3;refine⟨Z,O,fp,rl,ds,n,Z1,e1,fun J H1 yy=>?_⟩;obtain⟨r,v,a,L,fp1,p1,q1,hn,ha,hJ⟩:=yy;have hlk:∀i,n=some i->∃st,Z1[i]? = some (some (st,a)):=fun i hi=>by
  rw[hn] at hi;cases r with
  | val b=>simp[nameOf] at hi
  | ref j =>
   simp only[nameOf,Option.some.injEq] at hi;subst hi;simp only[peek] at ha;split at ha
   .rename_i st b hb
    cases ha;exact⟨st,hb⟩
   .cases ha
 have rl1:Rel K (lock Z1 n) U H1 (ad O L) fp1:=p1.rel.lock
 -- what is wanted of the loop's end
 have w1:Pu K (ad O L) fp1 H1 (lock Z1 n) U D f:=by
  have un:∀{Z2:Ro} {σ2:St} {L2:List Addr} {fp2:Nat->List Addr} {H2:Hp},Post K (ad O L) fp1 H1 (lock Z1 n) Z2 U σ2 L2 fp2 H2->Post K O fp H Z (unlock Z1 Z2 n) U σ2 L2 fp2 H2:=fun y=>(p1.then (y.unlock hlk)).drop;cases f with
  | next Z2=>exact fun σ' fp' H' p=>w σ' fp' H' (un p)
  | brk Z2=>exact fun σ' fp' H' p=>w σ' fp' H' (un p)
  | cnt Z2=>exact fun σ' fp' H' p=>w σ' fp' H' (un p)
  | ret b Z2=>exact fun σ' v L2 fp' H' p q=>w σ' v L2 fp' H' (un p) (DD (fun x z=>by
    rcases z with z|z|z
    .exact .inl z
    .exact .inr (.inl (.inl z))
    .exact .inr (.inr z)) q)
 refine⟨fun i m σ' H'=>m=ds.length-i/\i<=ds.length/\∃Z' fp',Post K (ad O L) fp1 H1 (lock Z1 n) Z' U σ' [] fp' H'/\forL is one b (ds.drop i) Z'=some f,⟨ds.length,by simp,zero_le _,lock Z1 n,fp1,rl1.post,by simpa using e2⟩,?_⟩;rintro i m σ2 H2 ⟨rfl,hi,Z2,fp2,p2,e2⟩;obtain⟨L',src⟩:=VU hn p1.rel q1 ha p2;obtain⟨go,stop,yld⟩:=hJ _ _ ⟨⟨L',src⟩,fun _ _ h=>p2.kept _ _ h (.inr rfl)⟩;by_cases hlt:i<ds.length
 .refine .inr ⟨go i hlt,_,fun σ' H' z=>⟨ds.length-(i+1),by omega,rfl,hlt,z⟩,fun x H3 y=>?_⟩
  have hd:ds[i]? = some ds[i]:=by simp[hlt]
  obtain⟨sm,qx⟩:=yld i x H3 _ y hd;rw[List.drop_eq_getElem_cons hlt] at e2;simp only[forL,bind_eq_some_iff] at e2;obtain⟨Z3,e3,g,e4,e5⟩:=e2;have p3:Post K (ad O L) fp1 H1 (lock Z1 n) Z2 U σ2 [] fp2 H3:=p2.more sm nodup_nil (fun p hp=>by simp at hp);refine RI p3 qx e3 fun σ4 fp4 p4=>?_;refine⟨Z3,ad O L,fp4,p4.rel0,g,e4,?_⟩;cases g with
  | next Z5=>exact fun σ' fp' H' p=>⟨Z5,fp',p4.next p,e5⟩
  | cnt Z5=>exact fun σ' fp' H' p=>⟨Z5,fp',p4.next p,e5⟩
  | brk Z5 =>
   cases e5;exact fun σ' fp' H' p=>w1 σ' fp' H' (p4.next p)
  | ret c Z5 =>
   cases e5;exact fun σ' v L fp' H' p q=>w1 σ' v L fp' H' (p4.next p) q
 .have:i=ds.length:=by omega
  subst this;simp only[List.drop_length,forL,Option.some.injEq] at e2;subst e2;exact .inl ⟨stop _ (le_refl _),w1 _ _ _ p2⟩
theorem Fd{v:V}{a:A}{ds:List D}(q:AA K N H v a L)(e:AQ a=some ds):∃p vs,v=.ref p/\(SqL K H p vs\/SqT K H p vs)/\Av N H vs ds:=by
 cases a with
 | fz d =>
  rw[AA] at q;obtain⟨rfl,q⟩:=q;cases d with
  | lst es =>
   simp only[AQ,Option.some.injEq] at e;subst e;cases q with
   | lst h hz hn hl hr=>exact⟨_,_,rfl,.inl (.inl (.inl h)),Av.mk hl hr⟩
  | tup es =>
   simp only[AQ,Option.some.injEq] at e;subst e;cases q with
   | tup h hz hl hr=>exact⟨_,_,rfl,.inr (.inl (.inl h)),Av.mk hl hr⟩
  | _=>simp[AQ] at e
 | lst as =>
  simp only[AQ] at e;rw[AA] at q;obtain⟨p,vs,L',rfl,rfl,h,hz,hs⟩:=q;exact⟨p,vs,rfl,.inl (.inl (.inl h)),(hs.fzs e).2⟩
 | scr ns =>
  simp only[AQ,Option.some.injEq] at e;subst e;rw[AA] at q;obtain⟨p,rfl,rfl,h,hz⟩:=q;refine⟨p,_,rfl,.inl (h H fun _ _ z=>z),Av.mk (by simp) fun i v d e1 e2=>?_⟩;rw[List.getElem?_map] at e1 e2;cases q:ns[i]? with
  | none=>rw[q] at e1; cases e1
  | some k =>
   rw[q] at e1 e2;cases e1; cases e2;exact .int k
 | _=>simp[AQ] at e
noncomputable def P9:A->Bool
 | .fz (.tup _)=>true
 | _=>false
theorem F6{v:V}{a:A}{ds:List D}(q:AA K N H v a L)(e:AQ a=some ds):∃p vs,v=.ref p/\(if P9 a then SqT K H p vs else SqL K H p vs)/\Av N H vs ds:=by
 cases a with
 | fz d =>
  rw[AA] at q;obtain⟨rfl,q⟩:=q;cases d with
  | lst es =>
   simp only[AQ,Option.some.injEq] at e;subst e;cases q with
   | lst h hz hn hl hr=>exact⟨_,_,rfl,.inl (.inl h),Av.mk hl hr⟩
  | tup es =>
   simp only[AQ,Option.some.injEq] at e;subst e;cases q with
   | tup h hz hl hr=>exact⟨_,_,rfl,.inl (.inl h),Av.mk hl hr⟩
  | _=>simp[AQ] at e
 | lst as =>
  simp only[AQ] at e;rw[AA] at q;obtain⟨p,vs,L',rfl,rfl,h,hz,hs⟩:=q;exact⟨p,vs,rfl,.inl (.inl h),(hs.fzs e).2⟩
 | scr ns =>
  obtain⟨p,vs,e1,e2,e3⟩:=Fd q e;rw[AA] at q;obtain⟨p',rfl,rfl,h,hz⟩:=q;cases e1;refine⟨p,_,rfl,h H fun _ _ z=>z,?_⟩;simp only[AQ,Option.some.injEq] at e;subst e;refine Av.mk (by simp) fun i v d e1 e2=>?_;rw[List.getElem?_map] at e1 e2;cases q:ns[i]? with
  | none=>rw[q] at e1; cases e1
  | some k =>
   rw[q] at e1 e2;cases e1; cases e2;exact .int k
 | _=>simp[AQ] at e
noncomputable def WG(K:Frag)(tl:TE):TI:=fun U H R=>tl U H fun x H1=>∃a,x=.ref a/\(((∃xs,SqL K H1 a xs)/\R (Itl K a) H1)\/((∃xs,SqT K H1 a xs)/\R (Itt K a) H1))
theorem Uo{vs:List V}{ds:List D}(q:Av N H vs ds){i:Nat}(h:i<ds.length):∃x,vs[i]? = some x:=⟨vs[i]'(by rw[q.len]; exact h),by simp⟩
theorem V2{m:ME}{R:It->Hp->Prop}(h:tI K (By m) U H R):WG K (tE K m) U H R:=by
 obtain⟨Z,O,fp,rl,ds,n,Z',e,k⟩:=h;simp only[By,bind_eq_some_iff,map_eq_some_iff] at e;obtain⟨⟨r,Z1⟩,e1,a,e2,ds',e3,e4⟩:=e;cases e4;refine⟨Z,O,fp,rl,r,Z1,e1,fun v H1 yy=>?_⟩;obtain⟨L,fp1,p,q⟩:=yy;obtain⟨L',q'⟩:=p.rel.peek q e2;obtain⟨pa,vs,rfl,hk,_⟩:=F6 q' e3;refine⟨pa,rfl,?_⟩;cases hT:P9 a with
 | false =>
  rw[hT] at hk;refine .inl ⟨⟨vs,hk⟩,k _ _ ⟨r,.ref pa,a,L,fp1,p,q,rfl,e2,fun N H2 yy=>?_⟩⟩;obtain⟨⟨L2,q2⟩,_⟩:=yy;obtain⟨pb,ws,e5,hk2,hd⟩:=F6 q2 e3;cases e5;rw[hT] at hk2;have hk2:SqL K H2 pa ws:=hk2;refine⟨fun i hi=>?_,fun i hi=>⟨ws,hk2,by rw[hd.len]; exact hi⟩,fun i x H' d y e=>?_⟩
  .obtain⟨x,hx⟩:=Uo hd hi
   exact⟨ws,x,hk2,hx⟩
  .obtain⟨rfl,y⟩:=y
   exact⟨fun _ _ z=>z,hd.get i x d (y ws hk2) e⟩
 | true =>
  rw[hT] at hk;refine .inr ⟨⟨vs,hk⟩,k _ _ ⟨r,.ref pa,a,L,fp1,p,q,rfl,e2,fun N H2 yy=>?_⟩⟩;obtain⟨⟨L2,q2⟩,_⟩:=yy;obtain⟨pb,ws,e5,hk2,hd⟩:=F6 q2 e3;cases e5;rw[hT] at hk2;have hk2:SqT K H2 pa ws:=hk2;refine⟨fun i hi=>?_,fun i hi=>⟨ws,hk2,by rw[hd.len]; exact hi⟩,fun i x H' d y e=>?_⟩
  .obtain⟨x,hx⟩:=Uo hd hi
   exact⟨ws,x,hk2,hx⟩
  .obtain⟨rfl,y⟩:=y
   exact⟨fun _ _ z=>z,hd.get i x d (y ws hk2) e⟩
end
noncomputable def Wi(K:Frag):Nat->TU
 | 0=>Pp
 | n+1=>fun v H vs=>∃a,v=.ref a/\SqT K H a vs/\vs.length=n+1
noncomputable def sh(n:Nat)(fp:Nat->List Addr):Nat->List Addr:=fun j=>if j<n then [] else fp (j-n)
section
variable{K:Frag}{Z Z' Z1 Z2:Ro}{U σ' σ1 σ2:St}{H H' H1 H2:Hp}{O O' N:Addr->Prop}{fp fp' fp1 fp2:Nat->List Addr}{L L1:List Addr}
theorem NQ{n:Nat}{p:Addr}:Fp (sh n fp) p↔Fp fp p:=by
 constructor
 .rintro ⟨j,h⟩
  unfold sh at h;split at h
  .simp at h
  .exact⟨_,h⟩
 .rintro ⟨j,h⟩
  refine⟨j+n,?_⟩;unfold sh;rw[if_neg (by lia),Nat.add_sub_cancel];exact h
theorem QA{n:Nat}{p:Addr}:NN (sh n fp) O p↔NN fp O p:=or_congr NQ Iff.rfl
theorem Rel.block{vs:List V}{bs:List D}(r:Rel K Z U H O fp)(q:Av (NN fp O) H vs bs):Rel K (bs.map own++Z) (vs.map some++U) H O (sh bs.length fp) where
 len:=by simp[r.len,q.len]
 slot:=fun i st a e=>by
  by_cases hi:i<bs.length
  .rw[List.getElem?_append_left (by simpa using hi),List.getElem?_map] at e
   have hb:bs[i]? = some bs[i]:=by simp[hi]
   rw[hb] at e;simp only[map_some,own,Option.some.injEq,Prod.mk.injEq] at e;obtain⟨rfl,rfl⟩:=e;have hv:vs[i]? = some (vs[i]'(by rw[q.len]; exact hi)):=by simp
   refine⟨_,by rw[List.getElem?_append_left (by simpa[q.len] using hi),List.getElem?_map,hv]; rfl,?_⟩;simp only[sh,hi,if_true];exact EY (EZ (fun p z=>QA.mp z) (q.get i _ _ hv hb))
  .rw[List.getElem?_append_right (by simpa using hi),length_map] at e
   obtain⟨v,e1,q1⟩:=r.slot _ _ _ e;refine⟨v,by rw[List.getElem?_append_right (by simpa[q.len] using hi),length_map,q.len]; exact e1,?_⟩;simp only[sh,hi,if_false];exact DD (fun p z=>QA.mp z) q1
 out:=fun i h=>by
  unfold sh;split
  .rfl
  .rename_i hi
   exact r.out _ fun st a e=>h st a (by rw[List.getElem?_append_right (by simpa using hi),length_map]; exact e)
 nd:=fun i=>by
  unfold sh;split
  .exact nodup_nil
  .exact r.nd _
 inj:=fun i j p h1 h2=>by
  unfold sh at h1 h2;split at h1
  .simp at h1
  .split at h2
   .simp at h2
   .have:=r.inj _ _ p h1 h2
    lia
 off:=fun i p h=>by
  unfold sh at h;split at h
  .simp at h
  .exact r.off _ p h
 al:=fun p z=>r.al p (QA.mp z)
theorem Post.unblock{vs:List V}{bs:List D}(hl:vs.length=bs.length)(x:Post K O (sh bs.length fp) H (bs.map own++Z) Z2 (vs.map some++U) (vs.map some++U) L fp2 H2):Post K O fp H Z (Z2.drop bs.length) U U L (fun j=>fp2 (j+bs.length)) H2 where
 rel:=by
  have nn:∀p,NN (fun j=>fp2 (j+bs.length)) (ad O L) p->NN fp2 (ad O L) p:=fun p z=>z.imp (fun⟨j,h⟩=>⟨_,h⟩) id;have hlen:=x.rel.len;rw[length_append,length_map,hl] at hlen;refine⟨by rw[length_drop,hlen]; lia,fun i st a e=>?_,fun i h=>?_,fun i=>x.rel.nd _,fun i j p h1 h2=>?_,fun i p h=>x.rel.off _ p h,fun p z=>x.rel.al p (nn p z)⟩
  .rw[List.getElem?_drop] at e
   obtain⟨v,e1,q⟩:=x.rel.slot _ _ _ e;refine⟨v,?_,DD nn (by rw[add_comm]; exact q)⟩;rw[List.getElem?_append_right (by rw[length_map]; lia),length_map] at e1;rw[<- e1];congr 1;lia
  .exact x.rel.out _ fun st a e=>h st a (by rw[List.getElem?_drop,add_comm]; exact e)
  .have:=x.rel.inj _ _ p h1 h2
   lia
 nd:=x.nd
 lo:=x.lo
 new:=fun p hp=>(x.new p (hp.imp id fun⟨j,h⟩=>⟨_,h⟩)).imp NQ.mp id
 kept:=x.kept.mono fun p z=>NQ.mp z
 ln:=rfl
 stab:=fun j st a h n=>by
  have e:(bs.map own++Z)[j+bs.length]? = some (some (st,a)):=by rw[List.getElem?_append_right (by simp),length_map,Nat.add_sub_cancel]; exact h
  obtain⟨a',e1,_,f⟩:=x.stab _ _ _ e n;exact⟨a',by rw[List.getElem?_drop,add_comm]; exact e1,rfl,f⟩
theorem Post.updT{p:Addr}{o:HO}{ys:List V}(x:Post K O fp H Z Z1 U σ1 L fp1 H1)(hp:p∈L)(hn:H p=none)(hy:H1 p=some (.lst ys)):Post K O fp H Z Z1 U σ1 L fp1 (upd H1 p o):=by
 have off:∀i,p∉fp1 i:=fun i z=>x.rel.off i p z (.inr hp);have alp:∀q,H1 q≠none->upd H1 p o q≠none:=fun q z=>by
  by_cases e:q=p
  .subst e; rw[AN]; simp
  .rw[Au e]; exact z
 have k:Kept (fun q=>q=p) H1 (upd H1 p o):=fun b u e c=>by
  by_cases hb:b=p
  .subst hb
   rcases c with c|c
   .exact absurd rfl c
   .rw[hy] at e; cases e; cases c
  .rw[Au hb]; exact e
 refine⟨⟨x.rel.len,fun i st a e=>?_,x.rel.out,x.rel.nd,x.rel.inj,x.rel.off,fun q z=>alp q (x.rel.al q z)⟩,x.nd,x.lo,x.new,fun b u e c=>?_,x.ln,x.stab⟩
 .obtain⟨v,e1,q⟩:=x.rel.slot i st a e
  exact⟨v,e1,q.tr (M:=fun q=>q=p) (fun b z=>by rw[z]; exact .inr (.inr hp)) k (fun b z=>.inl z) fun b hb z=>off i (z ▸ hb)⟩
 .have hb:b≠p:=fun z=>by rw[z,hn] at e; cases e
  rw[Au hb];exact x.kept b u e c
theorem EE{p:Addr}{o:HO}{ys:List V}(hy:H p=some (.lst ys)):Kept (fun q=>q=p) H (upd H p o):=fun b u e c=>by
 by_cases hb:b=p
 .subst hb
  rcases c with c|c
  .exact absurd rfl c
  .rw[hy] at e; cases e; cases c
 .rw[Au hb]; exact e
theorem Post.ds{vs:List V}{ds:List D}(x:Post K O fp H Z Z1 U σ1 L fp1 H1)(q:Av (NN fp O) H vs ds):Av (NN fp1 (ad O L)) H1 vs ds:=
 q.tr (M:=Fp fp) (fun p z=>.inl z) x.kept fun p z=>by
  rcases z with z|z|z
  .exact(x.new p (.inr z)).imp (fun y=>.inl y) id
  .exact .inl (.inr z)
  .exact(x.new p (.inl z)).imp (fun y=>.inl y) id
theorem Ha:∀{vs ws:List V} {ds es:List D},Av N H vs ds->Av N H ws es->Av N H (vs++ws) (ds++es)
 | [],_,[],_,_,q=>q
 | [],_,_::_,_,r,_=>by simp only[Av] at r
 | _::_,_,[],_,r,_=>by simp only[Av] at r
 | v::vs,ws,d::ds,es,r,q=>⟨r.1,Ha r.2 q⟩
theorem Sz{n:Nat}{d:D}{bs:List D}{x:V}(q:RepA N H x d)(e:OY n d=some bs):∃vs,Wi K n x H vs/\Av N H vs bs:=by
 cases n with
 | zero =>
  simp only[OY,Option.some.injEq] at e;subst e;exact⟨[x],rfl,q,trivial⟩
 | succ n =>
  simp only[OY] at e;cases d with
  | tup ds =>
   dsimp only at e;split at e
   .rename_i hl
    cases e;cases q with
    | tup h hz hl' hr=>exact⟨_,⟨_,rfl,.inl (.inl h),by rw[hl']; exact hl⟩,Av.mk hl' hr⟩
   .cases e
  | _=>simp at e
theorem Ti{r:R}{v:V}{a:A}{n:Option Nat}{Lt:List Addr}(hn:n=nameOf r)(hr:Rel K Z1 U H1 (ad O L) fp1)(q:RR K (NN fp1 (ad O L)) H1 U v r L)(e:peek Z1 r=some a)(p:Post K (ad O L) fp1 H1 (J.lock Z1 n) Z2 U σ2 Lt fp2 H2):
  ∃L',AA K (NN fp2 (ad (ad O L) Lt)) H2 v a L':=by
 cases r with
 | val b =>
  simp only[peek,Option.some.injEq] at e;subst e;refine⟨L,AA.tr (M:=Fp fp1) (fun p z=>.inl z) p.kept (fun x z=>?_) (fun x hx z=>?_) q⟩
  .rcases z with z|z|z
   .exact(p.new x (.inr z)).imp (fun y=>.inl y) id
   .exact .inl (.inr z)
   .exact(p.new x (.inl z)).imp (fun y=>.inl y) id
  .obtain⟨i,hi⟩:=z
   exact hr.off i x hi (.inr hx)
 | ref i =>
  subst hn;simp only[peek] at e;split at e
  .rename_i st b hb
   cases e;obtain⟨a',e2,es,ea⟩:=p.stab i .ro a (by rw[EA,hb]; simp[nameOf]) (by decide);cases ea rfl;obtain⟨v',h1,h2⟩:=p.rel.slot i _ _ e2;rw[es,q.2] at h1;cases h1;exact⟨_,h2⟩
  .cases e
theorem HC{it:MI}{pat:Nat}{c:MT}{e:ME}{Q:VK}(h:tE K (AI it pat c e) U H Q):tLc (tI K it) (Wi K pat) (tT K c) (tE K e) U H Q:=by
 obtain⟨Z,O,fp,rl,x,Z',h0,k⟩:=h;simp only[AI,bind_eq_some_iff] at h0;obtain⟨⟨ds,n,Z1⟩,e1,h0⟩:=h0;split at h0
 case isFalse=>cases h0
 rename_i hz;simp only[map_eq_some_iff] at h0;obtain⟨⟨es,Zf⟩,e2,e3⟩:=h0;cases e3;refine⟨Z,O,fp,rl,ds,n,Z1,e1,fun J H1 yy acc hacc=>?_⟩;obtain⟨r,v,a,L,fp1,p1,q1,hn,ha,hJ⟩:=yy;have hlk:∀i,n=some i->∃st,Z1[i]? = some (some (st,a)):=fun i hi=>by
  rw[hn] at hi;cases r with
  | val b=>simp[nameOf] at hi
  | ref j =>
   simp only[nameOf,Option.some.injEq] at hi;subst hi;simp only[peek] at ha;split at ha
   .rename_i st b hb
    cases ha;exact⟨st,hb⟩
   .cases ha
 have rl1:Rel K (lock Z1 n) U H1 (ad O L) fp1:=p1.rel.lock;have st0:Post K (ad O L) fp1 H1 (lock Z1 n) (lock Z1 n) U U [acc] fp1 (upd H1 acc (.lst [])):=rl1.post.more (Dp hacc) (by simp) fun p hp=>by
  have:p=acc:=by simpa using hp
  subst this;exact .inr ⟨hacc,by rw[AN]; simp⟩
 refine⟨fun i m ys H'=>m=ds.length-i/\i<=ds.length/\H' acc=some (.lst ys)/\ys.length<=i/\∃Z' fp' done rest,Post K (ad O L) fp1 H1 (lock Z1 n) Z' U U [acc] fp' H'/\Av (NN fp' (ad (ad O L) [acc])) H' ys done/\FL pat c e (ds.drop i) Z'=some (rest,Zf)/\es=done++rest,
  ⟨ds.length,by simp,zero_le _,AN,by simp,lock Z1 n,fp1,[],es,st0,trivial,by simpa using e2,rfl⟩,?_⟩
 rintro i m ys H2 ⟨rfl,hi,hy,hyl,Z2,fp2,done,rest,p2,qd,e2,ees⟩;refine⟨hy,?_⟩;obtain⟨L',src⟩:=Ti hn p1.rel q1 ha p2;have offacc:∀j,acc∉fp2 j:=fun j z=>p2.rel.off j acc z (.inr (by simp));by_cases hlt:i<ds.length
 .obtain⟨go,stop,yld⟩:=hJ _ _ ⟨⟨L',src⟩,fun _ _ h=>p2.kept _ _ h (.inr rfl)⟩
  refine .inr ⟨go i hlt,fun x H3 y=>?_⟩;have hd:ds[i]? = some ds[i]:=by simp[hlt]
  obtain⟨sm,qx0⟩:=yld i x H3 _ y hd;have qx:RepA (NN fp2 (ad (ad O L) [acc])) H3 x ds[i]:=qx0;have p3:Post K (ad O L) fp1 H1 (lock Z1 n) Z2 U U [acc] fp2 H3:=p2.more sm p2.nd fun p hp=>.inl hp;have hy3:H3 acc=some (.lst ys):=sm _ _ hy;have qd3:Av (NN fp2 (ad (ad O L) [acc])) H3 ys done:=qd.tr (M:=fun _=>False) (fun _ z=>z.elim) (DL.kept sm) fun p z=>.inl z;rw[List.drop_eq_getElem_cons hlt] at e2;simp only[FL,bind_eq_some_iff] at e2;obtain⟨bs,eb,⟨b,Z3⟩,ec,e4⟩:=e2;obtain⟨vs,hu,hvs⟩:=Sz (K:=K) qx eb;have rb:=p3.rel.block hvs;refine⟨vs,hu,_,_,_,rb,b,Z3,ec,fun fp4 H4 p4=>?_⟩;have keep:∀{Z5:Ro} {fp5:Nat->List Addr} {H5:Hp},Post K (ad (ad O L) [acc]) (sh bs.length fp2) H3 (bs.map own++Z2) Z5 (vs.map some++U) (vs.map some++U) [] fp5 H5 ->
    H5 acc=some (.lst ys)/\Post K (ad O L) fp1 H1 (lock Z1 n) (Z5.drop bs.length) U U [acc] (fun j=>fp5 (j+bs.length)) H5/\Av (NN (fun j=>fp5 (j+bs.length)) (ad (ad O L) [acc])) H5 ys done:=fun {Z5 fp5 H5} p5=>by
   have u:=p5.unblock hvs.len;refine⟨p5.kept _ _ hy3 (.inl fun z=>?_),p3.then u,IW (fun p z=>G2.mpr z) (u.ds qd3)⟩;obtain⟨j,z⟩:=NQ.mp z;exact offacc j z
  cases b with
  | false =>
   simp only[false_eq_true,if_false] at e4;dsimp only;rw[if_neg Bool.false_ne_true];obtain⟨h1,h2,h3⟩:=keep p4;exact⟨ds.length-(i+1),by lia,rfl,hlt,h1,by lia,_,_,done,rest,h2,h3,e4,ees⟩
  | true =>
   simp only[if_true,bind_eq_some_iff,map_eq_some_iff] at e4;obtain⟨⟨r5,Z5⟩,e5,⟨d6,Z6⟩,e6,⟨rest',Z7⟩,e7,e8⟩:=e4;cases e8;dsimp only;rw[if_pos rfl];refine⟨Z3,_,fp4,p4.rel0,r5,Z5,e5,fun y H5 yy=>?_⟩;obtain⟨L5,fp5,p5,q5⟩:=yy;obtain⟨fp6,p6,q6⟩:=EU p5 q5 e6;obtain⟨h1,h2,h3⟩:=keep (p4.next p6);have hacc1:H1 acc=none:=hacc;refine⟨h1,lt_of_lt_of_le (Nat.lt_of_le_of_lt hyl hlt) hz,ds.length-(i+1),by lia,rfl,hlt,AN,by simp; lia,_,_,done++[d6],rest',h2.updT (by simp) hacc1 h1,?_,e7,by rw[ees]; simp⟩;have tr:∀{ws:List V} {fs:List D},Av (NN (fun j=>fp6 (j+bs.length)) (ad (ad O L) [acc])) H5 ws fs->Av (NN (fun j=>fp6 (j+bs.length)) (ad (ad O L) [acc])) (upd H5 acc (.lst (ys++[y]))) ws fs:=fun q =>
    q.tr (M:=fun q=>q=acc) (fun b z=>by rw[z]; exact .inr (.inr (by simp))) (EE h1) fun p z=>.inl z
   refine tr (Ha h3 ⟨EZ (fun p z=>?_) q6,trivial⟩);exact G2.mpr (z.imp (fun⟨j,q⟩=>⟨_,q⟩) id)
 .have:i=ds.length:=by lia
  subst this;obtain⟨go,stop,yld⟩:=hJ _ _ ⟨⟨L',src⟩,fun _ _ h=>p2.kept _ _ h (.inr rfl)⟩;simp only[List.drop_length,FL,Option.some.injEq,Prod.mk.injEq] at e2;obtain⟨rfl,rfl⟩:=e2;refine .inl ⟨stop _ (le_refl _),k _ _ ?_⟩;have p3:=(p1.then (p2.unlock hlk)).drop;refine⟨[acc],fp2,p3,?_⟩;show AA _ _ _ _ _ _;rw[AA];rw[append_nil] at ees;subst ees;refine⟨acc,ys,[],rfl,rfl,hy,le_trans hyl hz,Ar.of (IW (fun p z=>?_) qd)⟩;rcases z with z|z|z
  .exact .inl z
  .exact .inr (.inl (.inl z))
  .exact .inr (.inr z)
end
noncomputable def Ea:List (Own×A)->List A->Ro
 | (st,_)::args,a::as=>(if st=.own then none else some (st,a))::Ea args as
 | [],_=>[]
 | _::_,[]=>[]
noncomputable def Wn(K:Frag)(O:Addr->Prop)(fp:Nat->List Addr)(H:Hp)(args:List (Own×A))(as':List A)(vs:List V)(a:A)(v:V)(H':Hp):Prop:=
 ∃L fp',Post K O fp H (args.map some) (Ea args as') (vs.map some) (vs.map some) L fp' H'/\AA K (NN fp' (ad O L)) H' v a L
noncomputable def spJ(K:Frag)(Φ:Fn)(np:Nat):Sp:=fun vs H Q _=>∃args O fp,vs.length=np/\Rel K (args.map some) (vs.map some) H O fp/\∃a as',Φ args=some (a,as')/\∀v H',Wn K O fp H args as' vs a v H'->Q v H'
theorem Iu:∀{args:List (Own×A)} {as:List A} {j:Nat} {st:Own} {a:A},(Ea args as)[j]? = some (some (st,a))->∃a0,args[j]? = some (st,a0)/\st≠.own/\as[j]? = some a
 | [],_,j,st,a,h=>by simp[Ea] at h
 | _::_,[],j,st,a,h=>by simp[Ea] at h
 | (st0,a0)::args,b::as,0,st,a,h=>by
  simp only[Ea,List.getElem?_cons_zero,Option.some.injEq] at h;split at h
  .cases h
  .rename_i hs
   cases h;exact⟨a0,rfl,hs,rfl⟩
 | (st0,a0)::args,b::as,j+1,st,a,h=>by
  simp only[Ea,List.getElem?_cons_succ] at h;obtain⟨a1,h1,h2,h3⟩:=Iu h;exact⟨a1,by simpa using h1,h2,by simpa using h3⟩
theorem HW:∀{args:List (Own×A)} {as:List A} {j:Nat} {st:Own} {a0 a:A},args[j]? = some (st,a0)->st≠.own->as[j]? = some a->(Ea args as)[j]? = some (some (st,a))
 | [],_,j,st,a0,a,h,_,_=>by simp at h
 | _::_,[],j,st,a0,a,_,_,h=>by simp at h
 | (st0,b0)::args,b::as,0,st,a0,a,h,hs,h2=>by
  simp at h h2;obtain⟨rfl,rfl⟩:=h;subst h2;simp[Ea,hs]
 | (st0,b0)::args,b::as,j+1,st,a0,a,h,hs,h2=>by
  simp only[Ea,List.getElem?_cons_succ];exact HW (by simpa using h) hs (by simpa using h2)
theorem Iv:∀{args:List (Own×A)} {as:List A},(Ea args as).length=min args.length as.length
 | [],_=>by simp[Ea]
 | _::_,[]=>by simp[Ea]
 | (st,_)::args,a::as=>by simp[Ea,Iv]
section
variable{K:Frag}{Z Z' Z1 Z2:Ro}{U σ' σ1 σ2:St}{H H' H1 H2:Hp}{O O' N:Addr->Prop}{fp fp' fp1 fp2:Nat->List Addr}{L L1:List Addr}
theorem L6{args:List (Own×A)}{vs:List V}{n:Nat}(hl:vs.length=args.length)(x:Post K O fp H (args.map some++List.replicate n none) Z' (vs.map some++List.replicate n none) σ' L fp' H'):
  ∃fp2,Post K O fp H (args.map some) (Ea args ((Z'.take args.length).map G6)) (vs.map some) (vs.map some) L fp2 H'/\∀p,NN fp2 (ad O L) p->NN fp' (ad O L) p:=by
 have hlen:args.length <= Z'.length:=by
  have:=x.rel.len;have:=x.ln;simp at this;lia
 have a0:∀{j:Nat} {st:Own} {a:A},args[j]? = some (st,a)->(args.map some++List.replicate n (none:Slot))[j]? = some (some (st,a)):=fun {j st a} e=>by
  rw[List.getElem?_append_left (by simpa using AB e),List.getElem?_map,e]; rfl
 have v0:∀{j:Nat},j<args.length->(vs.map some++List.replicate n (none:Option V))[j]? = (vs.map some)[j]?:=fun {j} h=>by
  rw[List.getElem?_append_left (by rw[length_map,hl]; exact h)]
 -- where a lent name stands
 have key:∀{j:Nat} {st:Own} {a:A},args[j]? = some (st,a)->st≠.own->∃a',Z'[j]? = some (some (st,a'))/\σ'[j]? = (vs.map some)[j]?/\(st=.ro->a'=a)/\((Z'.take args.length).map G6)[j]? = some a':=fun {j st a} e h=>by
  obtain⟨a',e1,e2,e3⟩:=x.stab j st a (a0 e) h;refine⟨a',e1,by rw[e2,v0 (AB e)],e3,?_⟩;rw[List.getElem?_map,List.getElem?_take_of_lt (AB e),e1];rfl
 let fp2:Nat->List Addr:=fun j=>match (Ea args ((Z'.take args.length).map G6))[j]? with
  | some (some _)=>fp' j
  | _=>[]
 have sub:∀j p,p∈fp2 j->p∈fp' j/\∃st a,(Ea args ((Z'.take args.length).map G6))[j]? = some (some (st,a)):=fun j p h=>by
  simp only[fp2] at h;split at h
  .rename_i y e
   exact⟨h,y.1,y.2,e⟩
  .simp at h
 have nn:∀p,NN fp2 (ad O L) p->NN fp' (ad O L) p:=fun p z=>z.imp (fun⟨j,q⟩=>⟨j,(sub j p q).1⟩) id;refine⟨fp2,⟨⟨?_,fun j st a e=>?_,fun j h=>?_,fun j=>?_,fun i j p h1 h2=>x.rel.inj i j p (sub i p h1).1 (sub j p h2).1,fun j p h=>x.rel.off j p (sub j p h).1,fun p z=>x.rel.al p (nn p z)⟩,x.nd,x.lo,fun p hp=>x.new p (hp.imp id fun⟨j,q⟩=>⟨j,(sub j p q).1⟩),x.kept,rfl,fun j st a e h=>?_⟩,nn⟩
 .rw[Iv]; simp[hl]; lia
 .obtain⟨a0,e1,e2,e3⟩:=Iu e
  obtain⟨a',e4,e5,_,e6⟩:=key e1 e2;rw[e3] at e6; cases e6;obtain⟨v,e7,q⟩:=x.rel.slot j st a e4;refine⟨v,by rw[<- e5]; exact e7,?_⟩;have:fp2 j=fp' j:=by simp only[fp2,e]
  rw[this];exact DD nn q
 .simp only[fp2]
  split
  .rename_i y e
   exact absurd e (h y.1 y.2)
  .rfl
 .simp only[fp2]
  split
  .exact x.rel.nd j
  .exact nodup_nil
 .rw[List.getElem?_map] at e
  cases q:args[j]? with
  | none=>rw[q] at e; cases e
  | some y =>
   rw[q] at e;cases e;obtain⟨a',e4,e5,e6,e7⟩:=key q h;exact⟨a',HW q h e7,rfl,e6⟩
theorem Rel.start{args:List (Own×A)}{vs:List V}(r:Rel K (args.map some) (vs.map some) H O fp)(n:Nat):Rel K (args.map some++List.replicate n none) (vs.map some++List.replicate n none) H O fp where
 len:=by have:=r.len; simp at this |-; exact this
 slot:=fun i st a e=>by
  by_cases hi:i<args.length
  .rw[List.getElem?_append_left (by simpa using hi)] at e
   obtain⟨v,e1,q⟩:=r.slot i st a e;exact⟨v,by rw[List.getElem?_append_left (by simpa using AB e1)]; exact e1,q⟩
  .rw[List.getElem?_append_right (by simpa using hi),List.getElem?_replicate] at e
   split at e<;>cases e
 out:=fun i h=>r.out i fun st a e=>h st a (by rw[List.getElem?_append_left (by simpa using AB e)]; exact e)
 nd:=r.nd
 inj:=r.inj
 off:=r.off
 al:=r.al
theorem J0{np nn:Nat}{b:MS}{vs:List V}{Q:VK}{E:XK}(h:spJ K (fnM np nn b) np vs H Q E):tS K b { nx:=fun _ H'=>Q .non H',rt:=Q } (vs.map some++List.replicate (nn-np) none) H:=by
 obtain⟨args,O,fp,hl,rl,a,as',e,k⟩:=h;have hl2:vs.length=args.length:=by have:=rl.len; simp at this; exact this.symm
 simp only[fnM] at e;split at e
 .rename_i ha
  simp only[bind_eq_some_iff] at e;obtain⟨f,e1,e2⟩:=e;refine⟨_,O,fp,rl.start (nn-np),f,e1,?_⟩;cases f with
  | next Z' =>
   cases e2;intro σ' fp' H' p;obtain⟨fp2,p2,_⟩:=L6 hl2 p;rw[ha] at p2;exact k _ _ ⟨[],fp2,p2,EY .non⟩
  | ret b Z' =>
   cases e2;intro σ' v L fp' H' p q;obtain⟨fp2,p2,n2⟩:=L6 hl2 p;rw[ha] at p2;exact k _ _ ⟨L,fp2,p2,DD n2 q⟩
  | brk Z'=>cases e2
  | cnt Z'=>cases e2
 .cases e
theorem RRs.split:∀{rs:List R} {vs:List V} {L:List Addr},RRs K N H U vs rs L->L.Nodup->∃Ls:Nat->List Addr,(∀j v r,vs[j]? = some v->rs[j]? = some r->RR K N H U v r (Ls j))/\(∀j p,p∈Ls j->p∈L)/\(∀j,(Ls j).Nodup) /\
  (∀i j p,p∈Ls i->p∈Ls j->i=j)/\vs.length=rs.length/\∀j,rs.length<=j->Ls j=[]:=by
 intro _l;induction _l with
 | nil =>
  intro _m;cases _m with
  | nil =>
   intro L q nd;exact⟨fun _=>[],fun j v r h=>by simp at h,fun j p h=>by simp at h,fun _=>nodup_nil,fun i j p h=>by simp at h,rfl,fun _ _=>rfl⟩
  | cons _ _ =>
   intro _ q _;simp only[RRs] at q
 | cons r rs ih =>
  intro _m;cases _m with
  | nil =>
   intro _ q _;simp only[RRs] at q
  | cons v vs =>
   intro L q nd;simp only[RRs] at q;obtain⟨L1,L2,rfl,q1,q2⟩:=q;obtain⟨n1,n2,n3⟩:=nodup_append.mp nd;obtain⟨Ls,h1,h2,h3,h4,h5,h6⟩:=ih q2 n2;refine⟨fun j=>match j with|0=>L1|j+1=>Ls j,fun j w s e1 e2=>?_,fun j p h=>?_,fun j=>?_,fun i j p e1 e2=>?_,by simp[h5],fun j hj=>?_⟩
   .cases j with
    | zero=>simp at e1 e2; subst e1; subst e2; exact q1
    | succ j=>exact h1 j w s (by simpa using e1) (by simpa using e2)
   .cases j with
    | zero=>exact mem_append_left _ h
    | succ j=>exact mem_append_right _ (h2 j p h)
   .cases j with
    | zero=>exact n1
    | succ j=>exact h3 j
   .cases i with
    | zero =>
     cases j with
     | zero=>rfl
     | succ j=>exact absurd rfl (n3 p e1 p (h2 j p e2))
    | succ i =>
     cases j with
     | zero=>exact absurd rfl (n3 p e2 p (h2 i p e1))
     | succ j=>rw[h4 i j p e1 e2]
   .cases j with
    | zero=>simp at hj
    | succ j=>exact h6 j (by simpa using hj)
theorem EB:∀{rs:List R} {j i:Nat},rs[j]? = some (.ref i)->i∈refs rs
 | [],j,i,h=>by simp at h
 | .ref k::rs,0,i,h=>by simp at h; subst h; simp[refs]
 | .val a::rs,0,i,h=>by simp at h
 | .ref k::rs,j+1,i,h=>by simp only[refs]; exact mem_cons_of_mem _ (EB (by simpa using h))
 | .val a::rs,j+1,i,h=>by simp only[refs]; exact EB (by simpa using h)
theorem IF:∀{rs:List R},(refs rs).Nodup->∀{i j k:Nat},rs[i]? = some (.ref k)->rs[j]? = some (.ref k)->i=j
 | [],_,i,j,k,h,_=>by simp at h
 | .val a::rs,nd,0,_,_,h,_=>by simp at h
 | .val a::rs,nd,_+1,0,_,_,h=>by simp at h
 | .val a::rs,nd,i+1,j+1,k,h1,h2=>by
  have e:=IF (rs:=rs) nd (i:=i) (j:=j) (k:=k) (by simpa using h1) (by simpa using h2);rw[e]
 | .ref a::rs,nd,0,0,_,_,_=>rfl
 | .ref a::rs,nd,0,j+1,k,h1,h2=>by
  simp at h1; subst h1;simp only[refs,nodup_cons] at nd;exact absurd (EB (by simpa using h2)) nd.1
 | .ref a::rs,nd,i+1,0,k,h1,h2=>by
  simp at h2; subst h2;simp only[refs,nodup_cons] at nd;exact absurd (EB (by simpa using h1)) nd.1
 | .ref a::rs,nd,i+1,j+1,k,h1,h2=>by
  simp only[refs,nodup_cons] at nd;have e:=IF (rs:=rs) nd.2 (i:=i) (j:=j) (k:=k) (by simpa using h1) (by simpa using h2);rw[e]
theorem IK{i k:Nat}{a:A}:(KP Z k a)[i]? = if i=k then (match Z[i]? with|some (some (st,_))=>some (some (st,a))|x=>x) else Z[i]?:=by
 unfold KP;split
 .rename_i st b e
  by_cases h:i=k
  .subst h
   rw[List.getElem?_set_self (AB e),if_pos rfl,e]
  .rw[List.getElem?_set_ne (Ne.symm h),if_neg h]
 .rename_i hn
  by_cases h:i=k
  .subst h
   rw[if_pos rfl];split
   .rename_i st b e
    exact absurd e (hn st b)
   .rfl
  .rw[if_neg h]
theorem Et:∀{rs:List R} {as:List A} {Z:Ro} {i:Nat},i∉refs rs->(back rs as Z)[i]? = Z[i]?
 | [],as,Z,i,_=>by cases as<;>rfl
 | .ref k::rs,[],Z,i,_=>rfl
 | .val k::rs,[],Z,i,_=>rfl
 | .ref k::rs,a::as,Z,i,h=>by
  simp only[refs,mem_cons,not_or] at h;simp only[back];rw[Et h.2,IK,if_neg h.1]
 | .val k::rs,a::as,Z,i,h=>by
  simp only[refs] at h;simp only[back];exact Et h
theorem Gi:∀{rs:List R} {as:List A} {Z:Ro} {i j:Nat} {st:Own} {b a:A},(refs rs).Nodup->rs[j]? = some (.ref i)->as[j]? = some a -> Z[i]? = some (some (st,b))->(back rs as Z)[i]? = some (some (st,a))
 | [],as,Z,i,j,st,b,a,_,h,_,_=>by simp at h
 | _::_,[],Z,i,j,st,b,a,_,_,h,_=>by simp at h
 | .ref k::rs,c::as,Z,i,0,st,b,a,nd,h1,h2,h3=>by
  simp at h1 h2;subst h1; subst h2;simp only[refs,nodup_cons] at nd;simp only[back];rw[Et nd.1,IK,if_pos rfl,h3]
 | .val k::rs,c::as,Z,i,0,st,b,a,nd,h1,h2,h3=>by simp at h1
 | .ref k::rs,c::as,Z,i,j+1,st,b,a,nd,h1,h2,h3=>by
  simp only[refs,nodup_cons] at nd;simp only[back];have hk:i≠k:=by
   rintro rfl;exact nd.1 (EB (by simpa using h1))
  exact Gi nd.2 (by simpa using h1) (by simpa using h2) (by rw[IK,if_neg hk]; exact h3)
 | .val k::rs,c::as,Z,i,j+1,st,b,a,nd,h1,h2,h3=>by
  simp only[refs] at nd;simp only[back];exact Gi nd (by simpa using h1) (by simpa using h2) h3
theorem HH:∀{rs:List R} {as:List A} {Z:Ro},(back rs as Z).length=Z.length
 | [],as,Z=>by cases as<;>rfl
 | .ref k::rs,[],Z=>rfl
 | .val k::rs,[],Z=>rfl
 | .ref k::rs,a::as,Z=>by
  simp only[back];rw[HH];unfold KP;split<;>simp
 | .val k::rs,a::as,Z=>by simp only[back]; exact HH
theorem args_get:∀{rs:List R} {args:List (Own×A)},Ce Z rs=some args->args.length=rs.length/\∀(j:Nat) (r:R),rs[j]? = some r->∃y,args[j]? = some y/\DN Z r=some y:=by
 intro _l;induction _l with
 | nil =>
  intro args h;simp only[Ce,Option.some.injEq] at h;subst h;exact⟨rfl,fun j r h=>by simp at h⟩
 | cons r rs ih =>
  intro args h;simp only[Ce,bind_eq_some_iff,map_eq_some_iff] at h;obtain⟨y,h1,ys,h2,rfl⟩:=h;obtain⟨e1,e2⟩:=ih h2;refine⟨by simp[e1],fun j s hj=>?_⟩;cases j with
  | zero=>simp at hj; subst hj; exact⟨y,rfl,h1⟩
  | succ j=>exact e2 j s (by simpa using hj)
theorem Es{i:Nat}{y:Own×A}(h:DN Z (.ref i)=some y):∃st,Z[i]? = some (some (st,y.2))/\y.1≠.own/\(st=.ro->y.1=.ro):=by
 simp only[DN] at h;split at h
 .rename_i a e
  cases h;exact⟨_,e,fun z=>(by cases z),fun _=>rfl⟩
 .rename_i st a hn e
  cases h;refine⟨_,e,fun z=>(by cases z),fun z=>?_⟩
  exact(hn z).elim
 .cases h
end
section
variable{K:Frag}{Z Z' Z1 Z2:Ro}{U σ' σ1 σ2:St}{H H' H1 H2:Hp}{O O' N:Addr->Prop}{fp fp' fp1 fp2:Nat->List Addr}{L L1:List Addr}
noncomputable def fpC(rs:List R)(Ls fp1:Nat->List Addr):Nat->List Addr:=fun j=>match rs[j]? with
 | some (.val _)=>Ls j
 | some (.ref i)=>fp1 i
 | none=>[]
noncomputable def ixR(rs:List R)(i:Nat):Option Nat:=rs.findIdx? fun r=>match r with
 | .ref k=>k==i
 | .val _=>false
theorem Gy{rs:List R}{i j:Nat}(h:ixR rs i=some j):rs[j]? = some (.ref i):=by
 unfold ixR at h;obtain⟨hj,h1,_⟩:=List.findIdx?_eq_some_iff_getElem.mp h;cases e:rs[j] with
 | val a=>rw[e] at h1; simp at h1
 | ref k =>
  rw[e] at h1;have:k=i:=by simpa using h1
  subst this;rw[List.getElem?_eq_getElem hj,e]
theorem Gx{rs:List R}{i:Nat}(h:ixR rs i=none):i∉refs rs:=by
 unfold ixR at h;rw[List.findIdx?_eq_none_iff] at h;intro hm;have:∀{rs:List R},i∈refs rs->R.ref i∈rs:=by
  intro rs;induction rs with
  | nil=>intro h; simp[refs] at h
  | cons r rs ih =>
   intro h;cases r with
   | val a=>simp only[refs] at h; exact mem_cons_of_mem _ (ih h)
   | ref k =>
    simp only[refs,mem_cons] at h;rcases h with rfl|h
    .exact mem_cons_self
    .exact mem_cons_of_mem _ (ih h)
 have:=h _ (this hm);simp at this
theorem Oa{Φ:Fn}{np:Nat}{m:MA}{Q:VK}{E:XK}(hnp:∀args y,Φ args=some y->args.length=np)(h:tE K (Af Φ m) U H Q):Mg (spJ K Φ np) [] E (tA K m) U H Q:=by
 obtain⟨Z,O,fp,rl,x,Z',e,k⟩:=h;simp only[Af,bind_eq_some_iff] at e;obtain⟨⟨rs,Z1⟩,e1,args,e2,e3⟩:=e;split at e3
 case isFalse=>cases e3
 rename_i hnd;simp only[map_eq_some_iff] at e3;obtain⟨⟨a,as'⟩,e3,e4⟩:=e3;cases e4;refine⟨Z,O,fp,rl,rs,Z1,e1,fun vs H1 yy=>?_⟩;obtain⟨L,fp1,p,q⟩:=yy;obtain⟨Ls,s1,s2,s3,s4,s5,s6⟩:=q.split p.nd;obtain⟨g1,g2⟩:=args_get e2;rw[append_nil];have rs_of:∀{j:Nat} {y:Own×A},args[j]? = some y->∃r v,rs[j]? = some r/\vs[j]? = some v/\DN Z1 r=some y:=fun {j y} hy=>by
  have hj:j<rs.length:=by rw[<- g1]; exact AB hy
  obtain⟨y',h1,h2⟩:=g2 j rs[j] (by simp[hj]);rw[hy] at h1; cases h1;exact⟨rs[j],vs[j]'(by rw[s5]; exact hj),by simp[hj],by simp,h2⟩
 -- what goes with the call
 have fpc:∀j pp,pp∈fpC rs Ls fp1 j->(∃a,rs[j]? = some (.val a)/\pp∈Ls j)\/(∃i,rs[j]? = some (.ref i)/\pp∈fp1 i):=fun j pp hp=>by
  unfold fpC at hp;split at hp
  .rename_i a e; exact .inl ⟨a,e,hp⟩
  .rename_i i e; exact .inr ⟨i,e,hp⟩
  .simp at hp
 have cN:∀pp,Fp (fpC rs Ls fp1) pp->NN fp1 (ad O L) pp:=fun pp ⟨j,hp⟩=>by
  rcases fpc j pp hp with ⟨_,_,hp⟩|⟨i,_,hp⟩
  .exact .inr (.inr (s2 j pp hp))
  .exact .inl ⟨i,hp⟩
 have oN:∀pp,O pp->¬Fp (fpC rs Ls fp1) pp:=fun pp ho ⟨j,hp⟩=>by
  rcases fpc j pp hp with ⟨_,_,hp⟩|⟨i,_,hp⟩
  .exact p.lo pp (s2 j pp hp) ho
  .exact p.rel.off i pp hp (.inl ho)
 have kN:∀i pp,pp∈fp1 i->i∉refs rs->¬Fp (fpC rs Ls fp1) pp:=fun i pp hp hi ⟨j,hq⟩=>by
  rcases fpc j pp hq with ⟨_,_,hq⟩|⟨i',hr,hq⟩
  .exact p.rel.off i pp hp (.inr (s2 j pp hq))
  .have:=p.rel.inj i i' pp hp hq
   subst this;exact hi (EB hr)
 let OC:Addr->Prop:=fun pp=>NN fp1 (ad O L) pp/\¬Fp (fpC rs Ls fp1) pp
 have cNN:∀pp,NN (fpC rs Ls fp1) OC pp->NN fp1 (ad O L) pp:=fun pp z=>z.elim (cN pp) fun z=>z.1;have relC:Rel K (args.map some) (vs.map some) H1 OC (fpC rs Ls fp1):=by
  refine⟨by simp[g1,s5],fun j st b hb=>?_,fun j h=>?_,fun j=>?_,fun i j pp h1 h2=>?_,fun j pp hp z=>z.2 ⟨j,hp⟩,fun pp z=>p.rel.al pp (cNN pp z)⟩
  .rw[List.getElem?_map] at hb
   cases hy:args[j]? with
   | none=>rw[hy] at hb; cases hb
   | some y =>
    rw[hy] at hb;cases hb;obtain⟨r,v,hr,hv,ha⟩:=rs_of hy;refine⟨v,by rw[List.getElem?_map,hv]; rfl,DD cNN ?_⟩;have q1:=s1 j v r hv hr;cases r with
    | val c =>
     simp only[DN,Option.some.injEq] at ha;cases ha;have:fpC rs Ls fp1 j=Ls j:=by simp[fpC,hr]
     rw[this];exact q1
    | ref i =>
     obtain⟨st',h1,h2,_⟩:=Es ha;obtain⟨v',h3,h4⟩:=p.rel.slot i _ _ h1;rw[q1.2] at h3; cases h3;have:fpC rs Ls fp1 j=fp1 i:=by simp[fpC,hr]
     rw[this];exact h4
  .unfold fpC
   split
   .rename_i c e
    obtain⟨y,hy,_⟩:=g2 j _ e;exact absurd (by rw[List.getElem?_map,hy]; rfl) (h y.1 y.2)
   .rename_i c e
    obtain⟨y,hy,_⟩:=g2 j _ e;exact absurd (by rw[List.getElem?_map,hy]; rfl) (h y.1 y.2)
   .rfl
  .unfold fpC
   split
   .exact s3 j
   .exact p.rel.nd _
   .exact nodup_nil
  .rcases fpc i pp h1 with ⟨c1,r1,z1⟩|⟨i1,r1,z1⟩
   .rcases fpc j pp h2 with ⟨c2,r2,z2⟩|⟨i2,r2,z2⟩
    .exact s4 i j pp z1 z2
    .exact absurd (.inr (s2 i pp z1)) (p.rel.off i2 pp z2)
   .rcases fpc j pp h2 with ⟨c2,r2,z2⟩|⟨i2,r2,z2⟩
    .exact absurd (.inr (s2 j pp z2)) (p.rel.off i1 pp z1)
    .have:=p.rel.inj i1 i2 pp z1 z2
     subst this;exact IF hnd r1 r2
 refine⟨args,OC,fpC rs Ls fp1,by rw[s5,<- g1]; exact hnp _ _ e3,relC,a,as',e3,fun v H2 ⟨L',fpD,pc,qc⟩=>k v H2 ?_⟩
 -- behind the call
 have hlen:rs.length<=as'.length:=by
  have:=pc.rel.len;rw[Iv] at this;simp at this;lia
 let fp2:Nat->List Addr:=fun i=>match ixR rs i with
  | some j=>fpD j
  | none=>fp1 i
 have fp2c:∀i pp,pp∈fp2 i->(∃j,rs[j]? = some (.ref i)/\pp∈fpD j)\/(i∉refs rs/\pp∈fp1 i):=fun i pp hp=>by
  simp only[fp2] at hp;split at hp
  .rename_i j e; exact .inl ⟨j,Gy e,hp⟩
  .rename_i e; exact .inr ⟨Gx e,hp⟩
 have oOC:∀pp,O pp->OC pp:=fun pp z=>⟨.inr (.inl z),oN pp z⟩;have fOC:∀i pp,pp∈fp1 i->i∉refs rs->OC pp:=fun i pp hp hi=>⟨.inl ⟨i,hp⟩,kN i pp hp hi⟩;have nD:∀pp,NN fp2 (ad O L') pp->NN fpD (ad OC L') pp:=fun pp z=>by
  rcases z with ⟨i,z⟩|z|z
  .rcases fp2c i pp z with ⟨j,_,z⟩|⟨hi,z⟩
   .exact .inl ⟨j,z⟩
   .exact .inr (.inl (fOC i pp z hi))
  .exact .inr (.inl (oOC pp z))
  .exact .inr (.inr z)
 have hnew:∀pp,(pp∈L'\/Fp fpD pp)->NN fp1 (ad O L) pp\/H1 pp=none:=fun pp z=>(pc.new pp z).imp (cN pp) id;have back1:∀pp,(Fp (fpC rs Ls fp1) pp\/H1 pp=none)->Fp fp pp\/H pp=none:=fun pp z=>by
  rcases z with ⟨j,z⟩|z
  .rcases fpc j pp z with ⟨_,_,z⟩|⟨i,_,z⟩
   .exact p.new pp (.inl (s2 j pp z))
   .exact p.new pp (.inr ⟨i,z⟩)
  .cases e:H pp with
   | none=>exact .inr rfl
   | some o =>
    by_cases hf:Fp fp pp
    .exact .inl hf
    .rw[p.kept pp o e (.inl hf)] at z; cases z
 have slot2:∀i st b,(back rs as' Z1)[i]? = some (some (st,b))->(∃j,ixR rs i=some j/\rs[j]? = some (.ref i)/\as'[j]? = some b/\∃c,Z1[i]? = some (some (st,c)))\/(ixR rs i=none/\i∉refs rs/\Z1[i]? = some (some (st,b))):=fun i st b hb=>by
  cases e:ixR rs i with
  | some j =>
   have hr:=Gy e;have hj:j<rs.length:=AB hr;obtain⟨y,hy,ha⟩:=g2 j _ hr;obtain⟨st',h1,_,_⟩:=Es ha;have hb':=Gi (as:=as') (a:=as'[j]'(by lia)) hnd hr (by simp) h1;rw[hb] at hb';cases hb';exact .inl ⟨j,rfl,hr,by simp,_,h1⟩
  | none =>
   have hi:=Gx e;rw[Et hi] at hb;exact .inr ⟨rfl,hi,hb⟩
 have rel2:Rel K (back rs as' Z1) U H2 (ad O L') fp2:=by
  refine⟨by rw[HH]; exact p.rel.len,fun i st b hb=>?_,fun i h=>?_,fun i=>?_,fun i1 i2 pp h1 h2=>?_,fun i pp h z=>?_,fun pp z=>pc.rel.al pp (nD pp z)⟩
  .rcases slot2 i st b hb with ⟨j,ej,hr,hb2,c,hc⟩|⟨ej,hi,hb2⟩
   .obtain⟨y,hy,ha⟩:=g2 j _ hr
    obtain⟨st',h1,h2,_⟩:=Es ha;obtain⟨v',h3,h4⟩:=pc.rel.slot j _ _ (HW (st:=y.1) (a0:=y.2) hy h2 hb2);have hv:vs[j]? = some v':=by
     rw[List.getElem?_map] at h3;cases e:vs[j]? with
     | none=>rw[e] at h3; cases h3
     | some w=>rw[e] at h3; cases h3; rfl
    have q1:=s1 j v' _ hv hr;have:fp2 i=fpD j:=by simp only[fp2,ej]
    exact⟨v',q1.2,by rw[this]; exact DD nD h4⟩
   .obtain⟨v',h3,h4⟩:=p.rel.slot i _ _ hb2
    have:fp2 i=fp1 i:=by simp only[fp2,ej]
    refine⟨v',h3,?_⟩;rw[this];refine h4.tr (M:=Fp (fpC rs Ls fp1)) cN pc.kept (fun pp z=>?_) fun pp hp=>kN i pp hp hi;rcases z with ⟨i',z⟩|z|z
    .rcases fp2c i' pp z with ⟨j,_,z⟩|⟨_,z⟩
     .exact hnew pp (.inr ⟨j,z⟩)
     .exact .inl (.inl ⟨i',z⟩)
    .exact .inl (.inr (.inl z))
    .exact hnew pp (.inl z)
  .simp only[fp2]
   split
   .rename_i j ej
    have hr:=Gy ej;have hj:j<rs.length:=AB hr;obtain⟨y,hy,ha⟩:=g2 j _ hr;obtain⟨st',h1,_,_⟩:=Es ha;exact absurd (Gi (as:=as') (a:=as'[j]'(by lia)) hnd hr (by simp) h1) (h _ _)
   .rename_i ej
    exact p.rel.out i fun st b hb=>h st b (by rw[Et (Gx ej)]; exact hb)
  .simp only[fp2]
   split
   .exact pc.rel.nd _
   .exact p.rel.nd _
  .rcases fp2c i1 pp h1 with ⟨j1,r1,z1⟩|⟨r1,z1⟩
   .rcases fp2c i2 pp h2 with ⟨j2,r2,z2⟩|⟨r2,z2⟩
    .have:=pc.rel.inj j1 j2 pp z1 z2
     subst this;rw[r1] at r2; cases r2; rfl
    .exact absurd (.inl (fOC i2 pp z2 r2)) (pc.rel.off j1 pp z1)
   .rcases fp2c i2 pp h2 with ⟨j2,r2,z2⟩|⟨r2,z2⟩
    .exact absurd (.inl (fOC i1 pp z1 r1)) (pc.rel.off j2 pp z2)
    .exact p.rel.inj i1 i2 pp z1 z2
  .rcases fp2c i pp h with ⟨j,r1,z1⟩|⟨r1,z1⟩
   .exact pc.rel.off j pp z1 (z.imp (oOC pp) id)
   .rcases z with z|z
    .exact p.rel.off i pp z1 (.inl z)
    .exact pc.lo pp z (fOC i pp z1 r1)
 refine⟨L',fp2,⟨rel2,pc.nd,fun pp hp z=>pc.lo pp hp (oOC pp z),fun pp hp=>?_,p.kept.trans pc.kept fun pp z=>back1 pp (.inl z),rfl,p.stab.trans fun i st b hb hs=>?_⟩,DD nD qc⟩
 .rcases hp with hp|⟨i,hp⟩
  .exact back1 pp (pc.new pp (.inl hp))
  .rcases fp2c i pp hp with ⟨j,_,z⟩|⟨_,z⟩
   .exact back1 pp (pc.new pp (.inr ⟨j,z⟩))
   .exact p.new pp (.inr ⟨i,z⟩)
 .cases e:ixR rs i with
  | none=>exact⟨b,by rw[Et (Gx e)]; exact hb,rfl,fun _=>rfl⟩
  | some j =>
   have hr:=Gy e;have hj:j<rs.length:=AB hr;obtain⟨y,hy,ha⟩:=g2 j _ hr;obtain⟨st',h1,h2,h3⟩:=Es ha;rw[hb] at h1; cases h1;refine⟨_,Gi (as:=as') (a:=as'[j]'(by lia)) hnd hr (by simp) hb,rfl,fun z=>?_⟩;obtain⟨a',h4,_,h5⟩:=pc.stab j y.1 y.2 (by rw[List.getElem?_map,hy]; rfl) h2;obtain⟨_,_,_,h6⟩:=Iu h4;have:as'[j]? = some (as'[j]'(by lia)):=by simp
   rw[this] at h6;have e5:=h5 (h3 z);have e6:as'[j]'(by lia)=a':=Option.some.inj h6;rw[e6,e5]
end
end J
end
section
namespace J
open PySem PySem.Spec PyProof.Rows L2
noncomputable def JE(X:Cx)(e:Expr)(m:ME):Prop:=PE X e (tE X.K m)
noncomputable def JT(X:Cx)(e:Expr)(m:MT):Prop:=PT X e (tT X.K m)
noncomputable def JW(X:Cx)(e:Expr)(m:MT):Prop:=PW X e (tT X.K m)
noncomputable def JA(X:Cx)(es:List Expr)(m:MA):Prop:=PA X es (tA X.K m)
noncomputable def JI(X:Cx)(tg e:Expr)(m:MI):Prop:=PI X tg e (tI X.K m)
noncomputable def JS(X:Cx)(s:Stmt)(m:MS):Prop:=PS X s (tS X.K m)
noncomputable def JSs(X:Cx)(s:List Stmt)(m:MS):Prop:=PSs X s (tS X.K m)
section
variable{X:Cx}{a b c e:Expr}{es:List Expr}{m m1 m2 m3:ME}{ms:MA}{mt mt2:MT}{mi:MI}{p pos pos':Pos}{x:Str}{s:Stmt}{ss:List Stmt}{w1 w2:MS}
theorem AM{t t':TE}(h:PE X e t)(w:∀U H Q,t' U H Q->t U H Q):PE X e t':=fun pins s U H Q I q=>h pins s U H Q I (w U H Q q)
theorem GJ{t t':TT}(h:PT X e t)(w:∀U H Q,t' U H Q->t U H Q):PT X e t':=fun pins s U H Q I q=>h pins s U H Q I (w U H Q q)
theorem SV{t t':TT}(h:PW X e t)(w:∀U H Q,t' U H Q->t U H Q):PW X e t':=fun wh pins s U H Q I q=>h wh pins s U H Q I (w U H Q q)
theorem NZ{t t':TA}(h:PA X es t)(w:∀U H Q,t' U H Q->t U H Q):PA X es t':=fun pp pins s U H Q I q=>h pp pins s U H Q I (w U H Q q)
theorem Cv{t t':TS}(h:PS X s t)(w:∀D U H,t' D U H->t D U H):PS X s t':=fun pins s U H D I q=>h pins s U H D I (w D U H q)
theorem GI{t t':TS}(h:PSs X ss t)(w:∀D U H,t' D U H->t D U H):PSs X ss t':=fun pins s U H D I q=>h pins s U H D I (w D U H q)
theorem HA{tg:Expr}{t t':TI}(h:PI X tg e t)(w:∀U H R,t' U H R->t U H R):PI X tg e t':=fun pins s U H R I q=>h pins s U H R I (w U H R q)
theorem Ff(i:Nat)(hN:X.N[i]? = some x)(hv:Vis X.env.scope x)(hd:(x==("__debug__" : Str))=false)(hcd:(x==("__classdict__" : Str))=false):JE X (.Name x pos) (Aa i):=AM (IC hN hv hd hcd) fun _ _ _ h=>Rr h
theorem Al{i:Int}{j:Nat}:JE X (.Constant (.int i) j pos) (Ae (.int i)):=AM Vh fun _ _ _ h=>KY (fun _ _=>.int i) h
theorem DY{b:Bool}{j:Nat}:JE X (.Constant (.bool b) j pos) (Ae (.bl b)):=AM WU fun _ _ _ h=>KY (fun _ _=>.bl b) h
theorem A9{z:Str}{j:Nat}(hz:z.length<=sizeLine):JE X (.Constant (.str z) j pos) (Ae (.str z)):=AM Vt fun _ _ _ h=>KY (fun _ _=>.str z hz) h
theorem Kh{n:Int}(G:GInt X.mg x n)(hg:Gl X x)(hd:(x==("__debug__" : Str))=false):JE X (.Name x pos) (Ae (.int n)):=AM (SF G rfl hg hd) fun _ _ _ h=>KY (fun _ _=>.int n) h
theorem Az(h:JE X e m):JE X e (Aj m):=AM h fun _ _ _ h=>Rp h
theorem Ag:JA X [] Ad:=NZ D4 fun _ _ _ h=>IU h
theorem Ac(hs:starEach (e::es) X.env=(false,eval e X.env)::starEach es X.env)(h:JE X e m)(t:JA X es ms):JA X (e::es) (Ab m ms):=NZ (Cu h t hs) fun _ _ _ h=>FE h
noncomputable def r1L(r:V->Hp->VK->Prop):List V->Hp->VK->Prop:=fun xs H Q=>∃x,xs=[x]/\r x H Q
noncomputable def r2L(r:R2):List V->Hp->VK->Prop:=fun xs H Q=>∃x y,xs=[x,y]/\r x y H Q
noncomputable def m1L(m:ME):MA:=Ab m Ad
noncomputable def m2L(m m':ME):MA:=Ab m (Ab m' Ad)
theorem two{K:Frag}{f:List A->Option A}{r:R2}(ok:OpN K f (r2L r)){U:L2.St}{H:Hp}{Q:VK}(h:tE K (opM f (m2L m1 m2)) U H Q):tOp r (tE K m1) (tE K m2) U H Q:=by
 have h1:=FE (Ob ok h);refine tE.mono h1 fun v H1 h2=>tE.mono (FE h2) fun u H2 h3=>?_;obtain⟨x,y,e,q⟩:=IU h3;cases e;exact q
theorem one{K:Frag}{f:List A->Option A}{r:V->Hp->VK->Prop}(ok:OpN K f (r1L r)){U:L2.St}{H:Hp}{Q:VK}(h:tE K (opM f (m1L m)) U H Q):tUn r (tE K m) U H Q:=by
 refine tE.mono (FE (Ob ok h)) fun v H1 h2=>?_;obtain⟨x,e,q⟩:=IU h2;cases e;exact q
theorem AD{op:Operator}{f:List A->Option A}{r:R2}(ok:OpN X.K f (r2L r))(ho:OpR X (binaryOp op) r)(ha:JE X a m1)(hb:JE X b m2):JE X (.BinOp a op b pos) (opM f (m2L m1 m2)):=AM (WW ho ha hb) fun _ _ _ h=>two ok h
theorem Dj{op:CmpOp}{f:List A->Option A}{r:R2}(ok:OpN X.K f (r2L r))(ho:OpR X (compareOp op) r)(hm:behindInMarks op b=false)(ha:JE X a m1)(hb:JE X b m2):JE X (.Compare a [op] [b] pos) (opM f (m2L m1 m2)):=AM (SD ho ha hb hm) fun _ _ _ h=>two ok h
theorem Cp{op:CmpOp}{f:List A->Option A}{r:R2}(ok:OpN X.K f (r2L r))(ho:OpR X (compareOp op) r)(hm:behindInMarks op b=false)(ha:JE X a m1)(hb:JE X b m2):JT X (.Compare a [op] [b] pos) (Aw (opM f (m2L m1 m2))):=
 GJ (SR ho ha hb hm) fun _ _ _ h=>two ok (KZ h)
theorem AV{f:List A->Option A}{r:R2}(ok:OpN X.K f (r2L r))(ho:IxR X r)(hs:NG b)(ha:JE X a m1)(hb:JE X b m2):JE X (.Subscript a b pos) (opM f (m2L m1 m2)):=AM (WV ho ha hb hs) fun _ _ _ h=>two ok h
theorem AF{id:String}{f:List A->Option A}{r:List V->Hp->VK->Prop}(ok:OpN X.K f r)(hc:B9 X (.builtin id) r)(hm:X.mg x=none)(hv:bootBuiltins x=some (.builtin id))(hn:x ≠ "__name__")(hdb:(x==("__debug__" : Str))=false)(hg:Gl X x)(he:starEach (e::es) X.env=(false,eval e X.env)::starEach es X.env)(hpl:(backTo pos (starEach es X.env)).any (·.1)=false)(ha:JA X (e::es) ms):JE X (.Call (.Name x p) (e::es) [] pos) (opM f ms):=
 AM (OZ hc hm hv hn hdb hg he hpl ha) fun _ _ _ h=>Ob ok h
theorem HZ{T:String}{f:List A->Option A}{r:List V->Hp->VK->Prop}(ok:OpN X.K f r)(hc:B9 X (.type T) r)(hm:X.mg x=none)(hv:bootBuiltins x=some (.type T))(hn:x ≠ "__name__")(hdb:(x==("__debug__" : Str))=false)(hg:Gl X x)(he:starEach (e::es) X.env=(false,eval e X.env)::starEach es X.env)(hpl:(backTo pos (starEach es X.env)).any (·.1)=false)(ha:JA X (e::es) ms):JE X (.Call (.Name x p) (e::es) [] pos) (opM f ms):=
 AM (O0 hc hm hv hn hdb hg he hpl ha) fun _ _ _ h=>Ob ok h
theorem ET{op:BoolOp}(h:JE X a m):JE X (.BoolOp op [a] pos) m:=Vs h
theorem Ek(ha:JE X a m1)(hb:JE X (.BoolOp .And (b::es) pos) m2):JE X (.BoolOp .And (a::b::es) pos) (andM m1 m2):=AM (Ve ha hb) fun _ _ _ h=>VY h
theorem UK(ha:JE X a m1):JE X (.UnaryOp .Not a pos) (notM m1):=AM (Vr ha) fun _ _ _ h=>V1 h
theorem BL(he:∀whole,isTrue e X.env whole=(do let v <- whole; standAt e.pos; holding [v] (truthy v)))(h:JE X e m):JT X e (Aw m):=GJ (SS he h) fun _ _ _ h=>KZ h
theorem Ib(ha:JT X a mt):JW X (.BoolOp .Or [a] pos) mt:=VG ha
theorem JB(ha:JT X a mt)(hb:JW X (.BoolOp .Or (b::es) pos) mt2):JW X (.BoolOp .Or (a::b::es) pos) (orT mt mt2):=SV (WY ha hb) fun _ _ _ h=>Xj h
theorem Gz(h:JW X e mt):JT X e mt:=h.pt
theorem B6(ha:JT X a mt):JT X (.UnaryOp .Not a pos) (BF mt):=GJ (VE ha) fun _ _ _ h=>Wf h
theorem Rn{K:Frag}{f g:List A->Option A}{r r':R2}(ok:OpN K f (r2L r))(ok':OpN K g (r2L r')){U:L2.St}{H:Hp}{Q:VK}(h:tE K (Hm f g m1 m2 m3) U H Q):Nv r r' (tE K m1) (tE K m2) (tE K m3) U H Q:=by
 obtain⟨Z,O,fp,rl,y,Z',h0,k⟩:=h;simp only[Hm,bind_eq_some_iff] at h0;obtain⟨⟨r1,Z1⟩,e1,⟨r2,Z2⟩,e2,as,e3,z,e4,kb,e5,e6⟩:=h0;refine⟨Z,O,fp,rl,r1,Z1,e1,fun v1 H1 yy=>?_⟩;obtain⟨L1,fp1,p1,q1⟩:=yy;refine⟨Z1,ad O L1,fp1,p1.rel,r2,Z2,e2,fun v2 H2 yy=>?_⟩;obtain⟨L2,fp2,p2,q2⟩:=yy;have p12:=p1.then p2;have q1':=p2.rr p1.rel q1 fun _ z=>z;have q2':RR K (NN fp2 (ad O (L1++L2))) H2 U v2 r2 L2:=by
  have e:ad (ad O L1) L2=ad O (L1++L2):=funext fun p=>propext JV;rw[<- e];exact q2
 have hs:JU K (NN fp2 (ad O (L1++L2))) H2 [v1,v2] as:=p12.rel.peeks (rs:=[r1,r2]) (L:=L1++L2) ⟨L1,L2,rfl,q1',L2,[],by simp,q2',rfl⟩ e3;have key:=ok _ H2 [v1,v2] as z (fun u H3=>∃kk,u=.bl kk/\if kk=true then tE K m3 U H3 fun w H4=>r' v2 w H4 Q else Q (.bl false) H3) hs e4 ?_
 .obtain⟨x',y',e,q⟩:=key
  cases e;exact q
 intro u H3 o;obtain⟨sm,L3,q3,nd3,nw3⟩:=o;have hb:=Q1 q3 e5;refine⟨kb,hb,?_⟩;have p3:Post K O fp H Z Z2 U U (L1++L2) fp2 H3:=p12.more sm p12.nd fun p hp=>.inl hp;cases kb with
 | false =>
  rw[if_neg Bool.false_ne_true];simp at e6;obtain⟨rfl,rfl⟩:=e6;exact k _ H3 ⟨[],fp2,p3.drop0,Nh (.bl _)⟩
 | true =>
  rw[if_pos rfl];simp only[if_true,bind_eq_some_iff,map_eq_some_iff] at e6;obtain⟨⟨r3,Z3⟩,e7,bs,e8,z2,e9,e10⟩:=e6;cases e10;refine⟨Z2,ad O (L1++L2),fp2,p3.rel,r3,Z3,e7,fun v3 H4 yy=>?_⟩;obtain⟨L4,fp4,p4,q4⟩:=yy;have p34:=p3.then p4;have q2'':RR K (NN fp2 (ad O (L1++L2))) H3 U v2 r2 L2:=by
   cases r2 with
   | ref i=>exact q2'
   | val a=>exact AA.tr (M:=fun _=>False) (fun _ z=>z.elim) (DL.kept sm) (fun p z=>.inl z) (fun _ _ z=>z) q2'
  have q2f:=p4.rr p3.rel q2'' fun p z=>mem_append_right _ z;have q4':RR K (NN fp4 (ad O ((L1++L2)++L4))) H4 U v3 r3 L4:=by
   have e:ad (ad O (L1++L2)) L4=ad O ((L1++L2)++L4):=funext fun p=>propext JV;rw[<- e];exact q4
  have hs2:JU K (NN fp4 (ad O ((L1++L2)++L4))) H4 [v2,v3] bs:=p34.rel.peeks (rs:=[r2,r3]) (L:=L2++L4) ⟨L2,L4,rfl,q2f,L4,[],by simp,q4',rfl⟩ e8;obtain⟨x',y',e,q⟩:=ok' _ H4 [v2,v3] bs z2 Q hs2 e9 fun u H5 o=>k u H5 (p34.out o);cases e;exact q
theorem ML{op op':CmpOp}{f g:List A->Option A}{r r':R2}(ok:OpN X.K f (r2L r))(ok':OpN X.K g (r2L r'))(ho:OpR X (compareOp op) r)(ho':OpR X (compareOp op') r')(hm:lastMarks [op,op'] [b,c]=false)(ha:JE X a m1)(hb:JE X b m2)(hc:JE X c m3):
  JE X (.Compare a [op,op'] [b,c] pos) (Hm f g m1 m2 m3):=AM (QH ho ho' ha hb hc hm) fun _ _ _ h=>Rn ok ok' h
theorem UM{op op':CmpOp}{f g:List A->Option A}{r r':R2}(ok:OpN X.K f (r2L r))(ok':OpN X.K g (r2L r'))(ho:OpR X (compareOp op) r)(ho':OpR X (compareOp op') r')(hm:lastMarks [op,op'] [b,c]=false)(ha:JE X a m1)(hb:JE X b m2)(hc:JE X c m3):
  JT X (.Compare a [op,op'] [b,c] pos) (Aw (Hm f g m1 m2 m3)):=GJ (QV ho ho' ha hb hc hm) fun _ _ _ h=>Rn ok ok' (KZ h)
theorem Co(h:JA X es ms):JE X (.List es pos) (lstM ms):=AM (Vq h) fun _ _ _ h=>V0 h
theorem Aq{P:Program}{w:World}{K:Frag}{mg:Str->Option Value}{base:Heap}{CX:CXT}{k j:Nat}{ps:List Str}{Φ:Fn}{np:Nat}{E:XK}(D:Def P w K mg base CX k x ps (spJ K Φ np))(hnp:∀args y,Φ args=some y->args.length=np)(hP:X.prog=P)(hw:X.w=w)(hK:X.K=K)(hm:X.mg=mg)(hb:X.base=base)(hr:Room j X.A)(hkj:k<=j)(hx:Passes CX X E)(hdb:(x==("__debug__" : Str))=false)(hg:Gl X x)(he:starEach (e::es) X.env=(false,eval e X.env)::starEach es X.env)(hpl:(backTo pos (starEach es X.env)).any (·.1)=false)(ha:JA X (e::es) ms):JE X (.Call (.Name x p) (e::es) [] pos) (Af Φ ms):=by
 subst hP hw hK hm hb;exact AM (Vg D hr hkj hx ha hg hdb he hpl) fun _ _ _ h=>Oa hnp h
noncomputable def JEc(X:Cx)(own:List Str)(scope:Scope)(e:Expr)(m:ME):Prop:=∀C s H fp pins,JE (cxC X own scope C s H fp pins) e m
noncomputable def JTc(X:Cx)(own:List Str)(scope:Scope)(ifs:List Expr)(m:MT):Prop:=∀C s H fp pins,PTs (cxC X own scope C s H fp pins) ifs (tT X.K m)
theorem Cs{own:List Str}{scope:Scope}:JTc X own scope [] Cz:=fun C s H fp pins=>fun _ _ _ H _ I h=>by
 obtain⟨Z,O,fp,r,x,Z',e,k⟩:=h;cases e;exact N4 _ _ _ H _ I (k fp H r.post)
theorem Fz{own:List Str}{scope:Scope}(h:∀C s H fp pins,JT (cxC X own scope C s H fp pins) c mt):JTc X own scope [c] mt:=fun C s H fp pins=>SU (h C s H fp pins)
theorem Sv{own N:List Str}{sc sco:Scope}(hok:Ct own N sc sco=true):∀y∈own,y∉N:=fun y hy=>by
 simp only[Ct,and_eq_true,all_eq_true] at hok;have:=hok.2 y hy;simpa using this
theorem Cn{scope:Scope}{iter elt:Expr}{ifs:List Expr}{px:Pos}(hok:Ct [x] X.N scope X.env.scope=true)(hc:X.calm=true)(hn:X.N.Nodup)(hx:scope.names.lookup x=some .local)(hs:∀z,foldedSetIterable iter X.env z=pure z)(hi:JI X (.Name x px) iter mi)(ht:JTc X [x] scope ifs mt)(he:JEc X [x] scope elt m):
  JE X (.ListComp elt [⟨.Name x px,iter,ifs,0⟩] scope pos) (AI mi 0 mt m):=
 AM (Vp (te:=tE X.K m) hok hc ⟨hn⟩ rfl hx hs hi ht (fun C s H fp pins=>he C s H fp pins)) fun _ _ _ h=>HC h
theorem UI{scope:Scope}{iter elt:Expr}{ifs:List Expr}{px py pt':Pos}{y:Str}{k:Nat}(hok:Ct [x,y] X.N scope X.env.scope=true)(hc:X.calm=true)(hn:X.N.Nodup)(hxy:x≠y)(hx:scope.names.lookup x=some .local)(hy:scope.names.lookup y=some .local)(hs:∀z,foldedSetIterable iter X.env z=pure z)(hi:JI X (.Tuple [.Name x px,.Name y py] k pt') iter mi)(ht:JTc X [x,y] scope ifs mt)(he:JEc X [x,y] scope elt m):
  JE X (.ListComp elt [⟨.Tuple [.Name x px,.Name y py] k pt',iter,ifs,0⟩] scope pos) (AI mi 2 mt m):=by
 have nw:=Sv hok;refine AM (TX (un:=Wi X.K 2) hc hok hi (te:=tE X.K m) (fun C s H fp pins=>?_) ht (fun C s H fp pins=>he C s H fp pins) hs) fun _ _ _ h=>HC h;have P:=QK (X:=cxC X [x,y] scope C s H fp pins) (px:=px) (py:=py) (pos:=pt') (k:=k) hc rfl rfl (nodup_cons.mpr ⟨by
  intro z;rcases mem_cons.mp z with z|z
  .exact hxy z
  .exact nw x (by simp) z,nodup_cons.mpr ⟨nw y (by simp),hn⟩⟩) (lookup_relabel_local hx) (lookup_relabel_local hy)
 intro pins' s' σ0 U H' v u vs h0 I r hu;obtain⟨a,rfl,hq,hl⟩:=hu;obtain⟨v1,v2,rfl⟩:=Sa hl;exact P pins' s' σ0 U H' _ u _ h0 I r ⟨a,v1,v2,rfl,hq,rfl⟩
theorem Vw{tg l:Expr}{tl:TE}(hl:PE X l tl):PI X tg l (WG X.K tl):=by
 intro pins s U H R I h;refine thn (hl pins s U H _ I h) fun v s1 yy=>?_;obtain⟨y,H1,I1,r1,q1⟩:=yy;obtain⟨a,e,q1⟩:=q1;subst e;cases r1;rcases q1 with ⟨⟨xs,hq⟩,q⟩|⟨⟨xs,hq⟩,q⟩
 .obtain⟨its,rv,p,hz⟩:=I1.list hq
  refine wpAny_pyIter_list p.isList ?_;refine⟨s1.heap.objs.size,[s1.heap.objs.size],_,_,H1,rfl,I1.kept (t':=s1.toks) fun b o e=>Heap.get?_push_of_some _ e,Po a _,⟨_,Heap.get?_push_size _ rfl,rfl,rfl⟩,fun b hb=>?_,q⟩;have e:b=s1.heap.objs.size:=by simpa using hb
  subst e;exact I1.fpOk (le_refl _) (I1.hok.fresh (le_refl _))
 .obtain⟨its,rv,p,hz⟩:=I1.tuple hq
  refine wpAny_pyIter_tuple (show s1.heap.IsTuple a its.toArray from p) ?_;refine⟨s1.heap.objs.size,[s1.heap.objs.size],_,_,H1,rfl,I1.kept (t':=s1.toks) fun b o e=>Heap.get?_push_of_some _ e,NA a _,⟨_,Heap.get?_push_size _ rfl,rfl,rfl⟩,fun b hb=>?_,q⟩;have e:b=s1.heap.objs.size:=by simpa using hb
  subst e;exact I1.fpOk (le_refl _) (I1.hok.fresh (le_refl _))
theorem DZ{tg:Expr}(h:JE X e m):JI X tg e (By m):=HA (Vw h) fun _ _ _ h=>V2 h
theorem V3{K:Frag}{U:L2.St}{H:Hp}{R:It->Hp->Prop}(h:tI K (CO m) U H R):WH (tE K m) U H R:=by
 obtain⟨Z,O,fp,rl,ds,n,Z',e,k⟩:=h;simp only[CO,bind_eq_some_iff] at e;obtain⟨⟨r,Z1⟩,e1,e2⟩:=e;dsimp only at e2;split at e2
 .rename_i z
  split at e2
  .rename_i hz
   cases e2;refine⟨Z,O,fp,rl,_,_,e1,fun v H1 yy=>?_⟩
   obtain⟨L,fp1,p,q⟩:=yy;have q':AA K (NN fp1 (ad O L)) H1 v (.fz (.str z)) L:=q;rw[AA] at q';obtain⟨rfl,q'⟩:=q';cases q';refine⟨z,rfl,k _ _ ⟨.val (.fz .non),.non,.fz .non,[],fp1,p,EY (K:=K) .non,rfl,rfl,fun N H2 _=>?_⟩⟩;have hl:(Eo z).length=z.cps.size:=by simp[Eo]
   refine⟨fun i hi=>by show i<z.cps.size; lia,fun i hi=>by show z.cps.size<=i; lia,fun i v H' d y e=>?_⟩;obtain⟨rfl,c,hc,rfl⟩:=y;refine⟨fun _ _ z=>z,?_⟩;have:d=.str ⟨#[c]⟩:=by
    simp only[Eo,List.getElem?_map] at e;have hc':z.cps.toList[i]? = some c:=by simpa using hc
    rw[hc'] at e;cases e;rfl
   subst this;exact .str _ (by show 1<=sizeLine; decide)
  .cases e2
 .cases e2
theorem F7{tg:Expr}(h:JE X e m):JI X tg e (CO m):=HA (Vx h) fun _ _ _ h=>V3 h
theorem Oc{K:Frag}{U:L2.St}{H:Hp}{R:It->Hp->Prop}(h:tI K (Bm m) U H R):P7 (Cd (tE K m) FI) U H R:=by
 obtain⟨Z,O,fp,rl,ds,n,Z',e,k⟩:=h;simp only[Bm,bind_eq_some_iff] at e;obtain⟨⟨r,Z1⟩,e1,e2⟩:=e;dsimp only at e2;split at e2
 .rename_i j
  split at e2
  .rename_i hz
   cases e2;refine⟨Z,O,fp,rl,_,_,e1,fun v H1 yy=>?_⟩
   obtain⟨L,fp1,p,q⟩:=yy;have q':AA K (NN fp1 (ad O L)) H1 v (.fz (.int j)) L:=q;rw[AA] at q';obtain⟨rfl,q'⟩:=q';cases q';refine⟨j,rfl,hz.1,hz.2,k _ _ ⟨.val (.fz .non),.non,.fz .non,[],fp1,p,EY (K:=K) .non,rfl,rfl,fun N H2 _=>?_⟩⟩;have hl:(CU 0 j.toNat).length=j.toNat:=by simp[CU]
   refine⟨fun i hi=>by show i<j.toNat; lia,fun i hi=>by show j.toNat<=i; lia,fun i v H' d y e=>?_⟩;obtain⟨rfl,rfl⟩:=y;refine⟨fun _ _ z=>z,?_⟩;have hi:i<j.toNat:=by have:=AB e; lia
   simp only[CU,List.getElem?_map,List.getElem?_range hi,map_some,Option.some.injEq] at e;subst e;exact .int _
  .cases e2
 .cases e2
theorem C8{tg:Expr}(hg:Gl X "range")(hm:X.mg "range" = none)(hs:starEach [a] X.env=[(false,eval a X.env)])(h:JE X a m):JI X tg (.Call (.Name "range" p) [a] [] pos) (Bm m):=HA (O2 hg hm (Cu h D4 hs) hs) fun _ _ _ h=>Oc h
theorem A8:JSs X [] AK:=GI SO fun _ _ _ h=>Tv h
theorem Ak(h:JS X s w1):JSs X [s] w1:=SQ h
theorem Ah(h:JS X s w1)(t:JSs X ss w2):JSs X (s::ss) (Ax w1 w2):=GI (IE h t) fun _ _ _ h=>Wd h
theorem Ia:JS X s Fs:=fun _ _ _ _ _ _ y=>by
 obtain⟨_,_,_,_,_,h,_⟩:=y;cases h
theorem MQ(hs:swapsWith e none pos.line X.env=pure false)(h:JE X e m):JS X (.Expr e pos) (Hq m):=Cv (HB h hs) fun _ _ _ h=>V8 h
theorem AE(h:JE X e m):JS X (.Return (some e) pos) (retS m):=Cv (VC h) fun _ _ _ h=>Wc h
theorem BR{st st':List Stmt}(hc:JT X c mt)(ha:JSs X st w1)(hb:JSs X st' w2):JS X (.If c st st' pos) (ifS mt w1 w2):=Cv (TY hc ha hb) fun _ _ _ h=>Xi h
theorem AJ(i:Nat)(hN:X.N.Nodup)(hi:X.N[i]? = some x)(hx:Loc X.env.scope x)(hf:X.fn x=true)(hs:swapsWith e (some (.Name x pos')) pos.line X.env=pure false)(h:JE X e m):JS X (.Assign [.Name x pos'] e pos) (Ay i m):=
 Cv (VD hN hi hx h hs (.inl hf)) fun _ _ _ h=>Ru h
theorem Ly{st:List Stmt}(n:Nat)(hp:PassesOwn (model X.prog X.w) X.A X.env X.xe)(hc:JT X c mt)(hb:JSs X st w1):JS X (.While c st [] pos) (K1 n mt w1):=Cv (QU hp hc hb) fun _ _ _ h=>Rv h
theorem D0{tg iter:Expr}{st:List Stmt}{is:List Nat}{one:Bool}(hp:PassesOwn (model X.prog X.w) X.A X.env X.xe)(hc:X.calm=true)(hi:JI X tg iter mi)(hg:PG X tg (P1 X.K is one))(hb:JSs X st w1)(hs:∀y,foldedSetIterable iter X.env y=pure y):JS X (.For tg iter st [] pos) (Ej is one mi w1):=Cv (VB hp hc hi hg hb hs) fun _ _ _ h=>Wa h
theorem Em(i:Nat)(hN:X.N.Nodup)(hi:X.N[i]? = some x)(hx:Loc X.env.scope x)(hf:X.fn x=true):PG X (.Name x pos) (P1 X.K [i] true):=Hz hN hi hx (.inl hf)
theorem SJ:PGs X [] (FY []):=N2
theorem LW(i:Nat){is:List Nat}(hN:X.N.Nodup)(hi:X.N[i]? = some x)(hx:Loc X.env.scope x)(hf:X.fn x=true)(t:PGs X es (FY is))(hs:(assignEach (.Name x pos::es) X.env).map (·.2)=assign (.Name x pos) X.env::(assignEach es X.env).map (·.2)):PGs X (.Name x pos::es) (FY (i::is)):=ID (Hz hN hi hx (.inl hf)) t hs
theorem SI{is:List Nat}{k:Nat}(hc:X.calm=true)(h:PGs X es (FY is))(hn:(assignEach es X.env).length=is.length)(hst:(assignEach es X.env).findIdx? (·.1)=none):PG X (.Tuple es k pos) (P1 X.K is false):=QJ hc h hn hst
end
end J
end
section
namespace L2
open PySem PySem.Spec PyProof.Rows
section
variable{P:Program}{w:World}{H:Hp}{s:Shared}{N N':Addr->Prop}
theorem LY(hok:HOk P w H s.heap){A:Around}{n:Nat}{x y:V}{d e:D}{v u:Value}(r:RepA N H x d)(q:RepA N' H y e)(rx:RelV x v)(ry:RelV y u)(hs:Sh n d)(hu:A.units+n<cLine):SeqAt.RcNeAt A s v u (!eqD d e):=by
 cases r with
 | non =>
  cases rx;cases q with
  | non=>cases ry; exact SeqAt.RcNeAt.none_none
  | bl b=>cases ry; exact SeqAt.RcNeAt.none_bool b
  | int b=>obtain⟨t,rfl⟩:=ry; exact SeqAt.RcNeAt.none_int b t
  | str b=>obtain⟨t,rfl⟩:=ry; exact SeqAt.RcNeAt.none_str b t
  | lst h=>cases ry; obtain⟨its,_,hl⟩:=A1 hok h; exact SeqAt.RcNeAt.none_list hl (lt0 hu)
  | tup h=>cases ry; obtain⟨its,_,hl⟩:=Bn hok h; exact SeqAt.RcNeAt.none_tuple hl (lt0 hu)
 | bl a =>
  cases rx;cases q with
  | non=>cases ry; exact SeqAt.RcNeAt.bool_none a
  | bl b=>cases ry; exact SeqAt.RcNeAt.bool_bool a b
  | int b=>obtain⟨t,rfl⟩:=ry; exact SeqAt.RcNeAt.bool_int a b t
  | str b=>obtain⟨t,rfl⟩:=ry; exact SeqAt.RcNeAt.bool_str a b t
  | lst h=>cases ry; obtain⟨its,_,hl⟩:=A1 hok h; exact SeqAt.RcNeAt.bool_list a hl (lt0 hu)
  | tup h=>cases ry; obtain⟨its,_,hl⟩:=Bn hok h; exact SeqAt.RcNeAt.bool_tuple a hl (lt0 hu)
 | int a =>
  obtain⟨t',rfl⟩:=rx;cases q with
  | non=>cases ry; exact SeqAt.RcNeAt.int_none a t'
  | bl b=>cases ry; exact SeqAt.RcNeAt.int_bool a t' b
  | int b=>obtain⟨t,rfl⟩:=ry; exact SeqAt.RcNeAt.int_int a t' b t
  | str b=>obtain⟨t,rfl⟩:=ry; exact SeqAt.RcNeAt.int_str a t' b t
  | lst h=>cases ry; obtain⟨its,_,hl⟩:=A1 hok h; exact SeqAt.RcNeAt.int_list a t' hl (lt0 hu)
  | tup h=>cases ry; obtain⟨its,_,hl⟩:=Bn hok h; exact SeqAt.RcNeAt.int_tuple a t' hl (lt0 hu)
 | str a =>
  obtain⟨t',rfl⟩:=rx;cases q with
  | non=>cases ry; exact SeqAt.RcNeAt.str_none a t'
  | bl b=>cases ry; exact SeqAt.RcNeAt.str_bool a t' b
  | int b=>obtain⟨t,rfl⟩:=ry; exact SeqAt.RcNeAt.str_int a t' b t
  | str b=>obtain⟨t,rfl⟩:=ry; exact SeqAt.RcNeAt.str_str a t' b t
  | lst h=>cases ry; obtain⟨its,_,hl⟩:=A1 hok h; exact SeqAt.RcNeAt.str_list a t' hl (lt0 hu)
  | tup h=>cases ry; obtain⟨its,_,hl⟩:=Bn hok h; exact SeqAt.RcNeAt.str_tuple a t' hl (lt0 hu)
 | @lst a vs ds h hz hn hl hr =>
  cases rx;obtain⟨its,rv,hil⟩:=A1 hok h;cases hs with
  | @lst n _ hs =>
   cases q with
   | non=>cases ry; exact SeqAt.RcNeAt.list_none hil (lt0 hu)
   | bl b=>cases ry; exact SeqAt.RcNeAt.list_bool b hil (lt0 hu)
   | int b=>obtain⟨t,rfl⟩:=ry; exact SeqAt.RcNeAt.list_int b t hil (lt0 hu)
   | str b=>obtain⟨t,rfl⟩:=ry; exact SeqAt.RcNeAt.list_str b t hil (lt0 hu)
   | @lst a' vs' es h' hz' hn' hl' hr' =>
    cases ry;obtain⟨its',rv',hil'⟩:=A1 hok h';have l1:=rv.length;have l2:=rv'.length;rw[Ex];by_cases hlen:ds.length=es.length
    .rw[DU hlen,show ds.length=its.toArray.size by simp; lia]
     refine SeqAt.RcNeAt.lists hil hil' (by simp; lia) (lt0 hu) (Ez rv rv' hl hl' fun i v d v' e u u' e1 e2 e3 e4 ru ru'=>?_);exact J8 hok (hr i v d e1 e2) (hr' i v' e e3 e4) ru ru' (hs d (List.mem_of_getElem? e2)) (lt1 hu)
    .have:C0 ds es=false:=by
      cases q:C0 ds es with
      | false=>rfl
      | true=>exact absurd (DV q) hlen
     rw[this];exact SeqAt.RcNeAt.lists_lengths hil hil' (by simp; lia) (lt0 hu)
   | tup h' =>
    cases ry;obtain⟨its',_,hl'⟩:=Bn hok h';exact SeqAt.RcNeAt.list_tuple hil hl' (lt0 hu)
 | @tup a vs ds h hz hl hr =>
  cases rx;obtain⟨its,rv,hil⟩:=Bn hok h;cases hs with
  | @tup n _ hs =>
   cases q with
   | non=>cases ry; exact SeqAt.RcNeAt.tuple_none hil (lt0 hu)
   | bl b=>cases ry; exact SeqAt.RcNeAt.tuple_bool b hil (lt0 hu)
   | int b=>obtain⟨t,rfl⟩:=ry; exact SeqAt.RcNeAt.tuple_int b t hil (lt0 hu)
   | str b=>obtain⟨t,rfl⟩:=ry; exact SeqAt.RcNeAt.tuple_str b t hil (lt0 hu)
   | @tup a' vs' es h' hz' hl' hr' =>
    cases ry;obtain⟨its',rv',hil'⟩:=Bn hok h';have l1:=rv.length;have l2:=rv'.length;have q:=SeqAt.RcNeAt.tuples (A:=A) hil hil' (lt0 hu) (Ez rv rv' hl hl' fun i v d v' e u u' e1 e2 e3 e4 ru ru'=>J8 hok (hr i v d e1 e2) (hr' i v' e e3 e4) ru ru' (hs d (List.mem_of_getElem? e2)) (lt1 hu))
    rw[Ey];by_cases hlen:ds.length=es.length
    .have e1:(its.toArray.size==its'.toArray.size)=true:=by simp; lia
     have e2:min its.toArray.size its'.toArray.size=ds.length:=by simp; lia
     rw[e1,e2,Bool.and_true,<- DU hlen] at q;exact q
    .have e1:(its.toArray.size==its'.toArray.size)=false:=by simp; lia
     have e3:C0 ds es=false:=by
      cases q:C0 ds es with
      | false=>rfl
      | true=>exact absurd (DV q) hlen
     rw[e1,Bool.and_false] at q;rw[e3];exact q
   | lst h' =>
    cases ry;obtain⟨its',_,hl'⟩:=A1 hok h';exact SeqAt.RcNeAt.tuple_list hil hl' (lt0 hu)
end
section
variable{X:Cx}{k:Nat}
noncomputable def VJ:R2:=fun x y H Q=>∃d e,Rep H x d/\Rep H y e/\Sh 16 d/\Q (.bl (!eqD d e)) H
theorem Kw(hr:Room k X.A):OpR X (compareOp .NotEq) VJ:=by
 intro pins s U H x y v u Q I rx ry h;obtain⟨d,e,r1,r2,hs,q⟩:=h;exact EqBoolInt.of_rcne (LY I.hok r1 r2 rx ry hs (by have:=hr.units; lia)) ⟨.bl _,H,I,rfl,q⟩
end
end L2
namespace J
open PySem PySem.Spec PyProof.Rows L2
section
variable{K:Frag}{N:Addr->Prop}{H H':Hp}{L:List Addr}{v:V}{a:A}
theorem GK{d:D}:AA K N H v (.fz d) L↔L=[]/\RepA N H v d:=by rw[AA]
theorem Bq{i:Int}(h:AA K N H v (.fz (.int i)) L):v=.int i:=by
 obtain⟨_,h⟩:=GK.mp h;cases h; rfl
theorem CG{z:Str}(h:AA K N H v (.fz (.str z)) L):v=.str z/\z.length<=sizeLine:=by
 obtain⟨_,h⟩:=GK.mp h;cases h with
 | str z hz=>exact⟨rfl,hz⟩
theorem G7{d:D}(h:RepA N H v d):K3 K N H (.fz d) v H:=⟨fun _ _ z=>z,[],EY (K:=K) (EZ (fun p z=>z.elim id fun q=>by simp at q) h),nodup_nil,fun _ h=>by simp at h⟩
theorem Ds{i:Int}:K3 K N H (.fz (.int i)) (.int i) H:=G7 (.int i)
theorem Dn{b:Bool}:K3 K N H (.fz (.bl b)) (.bl b) H:=G7 (.bl b)
theorem GH{z:Str}(h:z.length<=sizeLine):K3 K N H (.fz (.str z)) (.str z) H:=G7 (.str z h)
theorem Hy{p:Addr}{vs:List V}{ds:List D}(hp:H p=none)(hz:vs.length<=sizeLine)(q:Av N H vs ds):K3 K N H (.lst (ds.map A.fz)) (.ref p) (upd H p (.lst vs)):=by
 have sm:=Dp (o:=.lst vs) hp;refine⟨sm,[p],?_,by simp,fun b hb=>by simp at hb; rw[hb]; exact hp⟩;rw[AA];refine⟨p,vs,[],rfl,rfl,AN,hz,Ar.of (q.tr (M:=fun _=>False) (fun _ z=>z.elim) (DL.kept sm) fun b z=>?_)⟩;rcases z with z|z
 .exact .inl z
 .simp at z; subst z; exact .inr hp
noncomputable def fzU:A->Option D
 | .fz d=>some d
 | .lst _ | .tup _ | .scr _ | .dic _ | .opq _ _=>none
noncomputable def BW:D->Option Int
 | .int i=>some i
 | .non | .bl _ | .str _ | .lst _ | .tup _=>none
noncomputable def BQ:D->Option Str
 | .str z=>some z
 | .non | .bl _ | .int _ | .lst _ | .tup _=>none
noncomputable def A6(a:A):Option Int:=(fzU a).bind BW
noncomputable def Bo(a:A):Option Str:=(fzU a).bind BQ
theorem Kd{a:A}{d:D}(h:fzU a=some d):a=.fz d:=by
 cases a with
 | fz d'=>cases h; rfl
 | _=>cases h
theorem A7{a:A}{i:Int}(h:A6 a=some i):a=.fz (.int i):=by
 obtain⟨d,h1,h2⟩:=bind_eq_some_iff.mp h;cases Kd h1;cases d with
 | int j=>cases h2; rfl
 | _=>cases h2
theorem Cw{a:A}{z:Str}(h:Bo a=some z):a=.fz (.str z):=by
 obtain⟨d,h1,h2⟩:=bind_eq_some_iff.mp h;cases Kd h1;cases d with
 | str j=>cases h2; rfl
 | _=>cases h2
noncomputable def on1(f:A->Option A):List A->Option A
 | []=>none
 | [a]=>f a
 | _::_::_=>none
noncomputable def on2(f:A->A->Option A):List A->Option A
 | []=>none
 | [_]=>none
 | [a,b]=>f a b
 | _::_::_::_=>none
noncomputable def on3(f:A->A->A->Option A):List A->Option A
 | []=>none
 | [_]=>none
 | [_,_]=>none
 | [a,b,c]=>f a b c
 | _::_::_::_::_=>none
theorem D3{f:A->Option A}{as:List A}{c:A}(h:on1 f as=some c):∃a,as=[a]/\f a=some c:=by
 cases as with
 | nil=>cases h
 | cons a as=>cases as with
  | nil=>exact⟨a,rfl,h⟩
  | cons b as=>cases h
theorem BZ{f:A->A->Option A}{as:List A}{c:A}(h:on2 f as=some c):∃a b,as=[a,b]/\f a b=some c:=by
 cases as with
 | nil=>cases h
 | cons a as=>cases as with
  | nil=>cases h
  | cons b as=>cases as with
   | nil=>exact⟨a,b,rfl,h⟩
   | cons b as=>cases h
noncomputable def EL:A->Option (List (Key×D))
 | .dic kvs=>some kvs
 | .fz _ | .lst _ | .tup _ | .scr _ | .opq _ _=>none
theorem RP{a:A}{kvs:List (Key×D)}(h:EL a=some kvs):a=.dic kvs:=by
 cases a with
 | dic k=>cases h; rfl
 | _=>cases h
noncomputable def Fi:A->Option Unit
 | .fz .non=>some ()
 | .fz (.bl _) | .fz (.int _) | .fz (.str _) | .fz (.lst _) | .fz (.tup _) | .lst _ | .tup _ | .scr _ | .dic _ | .opq _ _=>none
noncomputable def FH(C:Int->Int->Bool)(g:Int->Int->Int):List A->Option A:=on2 fun a b=>(A6 a).bind fun i=>(A6 b).bind fun j=>if C i j then some (.fz (.int (g i j))) else none
noncomputable def Hh(g:Int->Int->Bool):List A->Option A:=on2 fun q1 q2=>(A6 q1).bind fun i=>(A6 q2).bind fun j=>some (.fz (.bl (g i j)))
theorem cons_of{xs:List V}{a:A}{as:List A}(h:JU K N H xs (a::as)):∃x t L1,xs=x::t/\AA K N H x a L1/\JU K N H t as:=by
 cases xs with
 | nil=>cases h
 | cons x t =>
  obtain⟨⟨L,h⟩,q⟩:=h;exact⟨x,t,L,rfl,h,q⟩
theorem Dm{xs:List V}{a:A}(h:JU K N H xs [a]):∃x L1,xs=[x]/\AA K N H x a L1:=by
 obtain⟨x,t,L1,rfl,h1,q⟩:=cons_of h;cases t with
 | nil=>exact⟨x,L1,rfl,h1⟩
 | cons y t=>cases q
theorem Bl{xs:List V}{a b:A}(h:JU K N H xs [a,b]):∃x y L1 L2,xs=[x,y]/\AA K N H x a L1/\AA K N H y b L2:=by
 obtain⟨x,t,L1,rfl,h1,q⟩:=cons_of h;obtain⟨y,L2,rfl,h2⟩:=Dm q;exact⟨x,y,L1,L2,rfl,h1,h2⟩
theorem GC{C:Int->Int->Bool}{C':Int->Int->Prop}{g:Int->Int->Int}(hC:∀i j,C i j=true->C' i j):OpN K (FH C g) (r2L (rI C' fun i j=>.int (g i j))):=by
 intro N H xs as b Q hs e k
 replace e:=BZ e
 obtain⟨a1,b1,rfl,e⟩:=e;simp only[bind_eq_some_iff] at e;obtain⟨i,ei,j,ej,e⟩:=e;cases A7 ei;cases A7 ej;split at e
 .rename_i hc
  cases e;obtain⟨x,y,L1,L2,rfl,h1,h2⟩:=Bl hs;cases Bq h1;cases Bq h2;exact⟨_,_,rfl,i,j,rfl,rfl,hC i j hc,k _ _ Ds⟩
 .cases e
theorem Ij{g:Int->Int->Int}:OpN K (FH (fun _ _=>true) g) (r2L (rI0 fun i j=>.int (g i j))):=by
 intro N H xs as b Q hs e k
 replace e:=BZ e
 obtain⟨a1,b1,rfl,e⟩:=e;simp only[bind_eq_some_iff] at e;obtain⟨i,ei,j,ej,e⟩:=e;cases A7 ei;cases A7 ej;rw[if_pos trivial] at e;cases e;obtain⟨x,y,L1,L2,rfl,h1,h2⟩:=Bl hs;cases Bq h1;cases Bq h2;exact⟨_,_,rfl,i,j,rfl,rfl,k _ _ Ds⟩
theorem LK{g:Int->Int->Bool}:OpN K (Hh g) (r2L (rI0 fun i j=>.bl (g i j))):=by
 intro N H xs as b Q hs e k
 replace e:=BZ e
 obtain⟨q1,q2,rfl,e⟩:=e
 replace e:=bind_eq_some_iff.mp e
 obtain⟨i,eq1,e⟩:=e;cases A7 eq1;clear eq1
 replace e:=bind_eq_some_iff.mp e
 obtain⟨j,eq2,e⟩:=e;cases A7 eq2;clear eq2;cases e;obtain⟨x,y,L1,L2,rfl,h1,h2⟩:=Bl hs;cases Bq h1;cases Bq h2;exact⟨_,_,rfl,i,j,rfl,rfl,k _ _ Dn⟩
noncomputable def Ep:=FH (fun _ _=>true) fun i j=>i-j
noncomputable def E8:=FH (fun _ j=>decide (0<j/\j<1073741824)) fun i j=>i / j
noncomputable def Jb:=FH (fun _ j=>decide (0<j)) fun i j=>i % j
noncomputable def O4:=FH (fun i j=>decide (0<=j/\j<=1000000/\i.natAbs<2 ^ 64)) fun i j=>i ^ j.toNat
noncomputable def Fq:=FH (fun i j=>decide (0<=j/\j<=1000000/\i.natAbs<2 ^ 64)) fun i j=>i*2 ^ j.toNat
noncomputable def IP:=FH (fun _ j=>decide (0<=j)) fun i j=>i / 2 ^ j.toNat
noncomputable def E4:=FH (fun _ _=>true) fun i j=>Builtin.bitAnd i j
noncomputable def J1:=FH (fun _ _=>true) fun i j=>Builtin.bitOr i j
noncomputable def gtA:=Hh fun i j=>decide (j<i)
noncomputable def geA:=Hh fun i j=>decide (j<=i)
theorem Ku:OpN K E8 (r2L (rI T9 fun i j=>.int (i / j))):=GC fun i j h=>by simpa[T9] using h
theorem Ik:OpN K Jb (r2L (rI (fun _ j=>0<j) fun i j=>.int (i % j))):=GC fun i j h=>by simpa using h
theorem U4:OpN K O4 (r2L (rI Oh fun i j=>.int (i ^ j.toNat))):=GC fun i j h=>by simpa[Oh] using h
theorem M8:OpN K Fq (r2L (rI Oh fun i j=>.int (i*2 ^ j.toNat))):=GC fun i j h=>by simpa[Oh] using h
theorem U5:OpN K IP (r2L (rI (fun _ j=>0<=j) fun i j=>.int (i / 2 ^ j.toNat))):=GC fun i j h=>by simpa using h
noncomputable def Cq:A->Option (List D)
 | .fz (.lst ds)=>some ds
 | .lst as=>fzs as
 | .fz .non | .fz (.bl _) | .fz (.int _) | .fz (.str _) | .fz (.tup _) | .tup _ | .scr _ | .dic _ | .opq _ _=>none
theorem CT{ds:List D}(q:AA K N H v a L)(e:Cq a=some ds):∃p vs,v=.ref p/\H p=some (.lst vs)/\vs.length<=sizeLine/\Av N H vs ds:=by
 cases a with
 | fz d =>
  obtain⟨_,q⟩:=GK.mp q;cases d with
  | lst es =>
   simp only[Cq,Option.some.injEq] at e;subst e;cases q with
   | lst h hz hn hl hr=>exact⟨_,_,rfl,h,hz,Av.mk hl hr⟩
  | _=>simp[Cq] at e
 | lst as =>
  simp only[Cq] at e;rw[AA] at q;obtain⟨p,vs,L',rfl,rfl,h,hz,hs⟩:=q;exact⟨p,vs,rfl,h,hz,(hs.fzs e).2⟩
 | _=>simp[Cq] at e
noncomputable def AL:List A->Option A:=on2 fun a b=>((A6 a).bind fun i=>(A6 b).map fun j=>A.fz (.int (i+j))).or (((Bo a).bind fun x=>(Bo b).bind fun y=>if x.length+y.length<=LIM then some (.fz (.str (x++y))) else none).or ((Cq a).bind fun xs=>(Cq b).bind fun ys=>if xs.length+ys.length<=LIM then some (.lst ((xs++ys).map A.fz)) else none))
theorem Md(x y:Str):(x++y).length=x.length+y.length:=strLen_append x y
theorem Bw:OpN K AL (r2L fun x y H Q=>(rI0 (fun i j=>.int (i+j))) x y H Q\/(∃i j,x=.str i/\y=.str j/\i.length+j.length<=sizeLine/\Q (.str (i++j)) H)\/VH x y H Q):=by
 intro N H xs as b Q hs e k
 replace e:=BZ e
 obtain⟨a,b,rfl,e⟩:=e;rcases or_eq_some_iff.mp e with e|⟨_,e⟩
 .simp only[bind_eq_some_iff,map_eq_some_iff] at e
  obtain⟨i,ei,j,ej,rfl⟩:=e;cases A7 ei;cases A7 ej;obtain⟨x,y,L1,L2,rfl,h1,h2⟩:=Bl hs;cases Bq h1;cases Bq h2;exact⟨_,_,rfl,.inl ⟨i,j,rfl,rfl,k _ _ Ds⟩⟩
 .rcases or_eq_some_iff.mp e with e|⟨_,e⟩
  .simp only[bind_eq_some_iff] at e
   obtain⟨i,ei,j,ej,e9⟩:=e;cases Cw ei;cases Cw ej;split at e9
   .rename_i hz
    cases e9;obtain⟨x,y,L1,L2,rfl,h1,h2⟩:=Bl hs;obtain⟨rfl,_⟩:=CG h1;obtain⟨rfl,_⟩:=CG h2;exact⟨_,_,rfl,.inr (.inl ⟨i,j,rfl,rfl,hz,k _ _ (GH (by rw[Md]; exact hz))⟩)⟩
   .cases e9
  .simp only[bind_eq_some_iff] at e
   obtain⟨ds,e1,es,e2,e3⟩:=e;split at e3
   .rename_i hz
    cases e3;obtain⟨x,y,L1,L2,rfl,h1,h2⟩:=Bl hs;obtain⟨p,vs,rfl,hp,z1,q1⟩:=CT h1 e1;obtain⟨p',vs',rfl,hp',z2,q2⟩:=CT h2 e2;have hl:(vs++vs').length<=sizeLine:=by rw[length_append,q1.len,q2.len]; exact hz
    exact⟨_,_,rfl,.inr (.inr ⟨p,p',vs,vs',rfl,rfl,hp,hp',by rw[length_append] at hl; exact hl,fun q hq=>k _ _ (Hy hq hl (Ha q1 q2))⟩)⟩
   .cases e3
theorem A3{X:Cx}:OpR X (binaryOp .Add) (fun x y H Q=>(rI0 (fun i j=>.int (i+j))) x y H Q\/(∃i j,x=.str i/\y=.str j/\i.length+j.length<=sizeLine/\Q (.str (i++j)) H)\/VH x y H Q):=U6.or (Na.or U8)
noncomputable def G1:List A->Option A:=on2 fun q1 q2=>(A6 q1).bind fun i=>(A6 q2).bind fun j=>if (-(2 ^ 64)<i/\i<2 ^ 64)\/(-(2 ^ 64)<j/\j<2 ^ 64) then some (.fz (.int (i*j))) else none
theorem Il:OpN K G1 (r2L (rI RD fun i j=>.int (i*j))):=by
 intro N H xs as b Q hs e k
 replace e:=BZ e
 obtain⟨q1,q2,rfl,e⟩:=e
 replace e:=bind_eq_some_iff.mp e
 obtain⟨i,eq1,e⟩:=e;cases A7 eq1;clear eq1
 replace e:=bind_eq_some_iff.mp e
 obtain⟨j,eq2,e⟩:=e;cases A7 eq2;clear eq2;split at e
 .rename_i hc
  cases e;obtain⟨x,y,L1,L2,rfl,h1,h2⟩:=Bl hs;cases Bq h1;cases Bq h2;exact⟨_,_,rfl,i,j,rfl,rfl,hc,k _ _ Ds⟩
 .cases e
noncomputable def XE:List A->Option A:=on1 fun q1=>(A6 q1).bind fun i=>some (.fz (.int (-i)))
mutual
noncomputable def shB:Nat->D->Bool
 | _,.non=>true
 | _,.bl _=>true
 | _,.int _=>true
 | _,.str _=>true
 | 0,.lst _=>false
 | 0,.tup _=>false
 | n+1,.lst ds=>IM n ds
 | n+1,.tup ds=>IM n ds
noncomputable def IM:Nat->List D->Bool
 | _,[]=>true
 | n,d::ds=>shB n d&&IM n ds
end
mutual
theorem Nt:∀{n:Nat} {d:D},shB n d=true->Sh n d
 | _,.non,_=>.non
 | _,.bl b,_=>.bl b
 | _,.int i,_=>.int i
 | _,.str x,_=>.str x
 | 0,.lst _,h=>by simp[shB] at h
 | 0,.tup _,h=>by simp[shB] at h
 | n+1,.lst ds,h=>.lst (KQ (by simpa[shB] using h))
 | n+1,.tup ds,h=>.tup (KQ (by simpa[shB] using h))
theorem KQ:∀{n:Nat} {ds:List D},IM n ds=true->∀d∈ds,Sh n d
 | _,[],_,d,hd=>by simp at hd
 | n,e::ds,h,d,hd=>by
  simp only[IM,and_eq_true] at h;rcases mem_cons.mp hd with q|hd
  .rw[q]; exact Nt h.1
  .exact KQ h.2 d hd
end
noncomputable def eqA:List A->Option A:=on2 fun a b=>(er a).bind fun d=>(er b).bind fun e=>if shB 16 d then some (.fz (.bl (eqD d e))) else none
noncomputable def neA:List A->Option A:=on2 fun a b=>(er a).bind fun d=>(er b).bind fun e=>if shB 16 d then some (.fz (.bl (!eqD d e))) else none
theorem IG{d:D}(q:AA K N H v a L)(e:er a=some d):Rep H v d:=(AA.er q e).rep
theorem FQ:OpN K eqA (r2L XH):=by
 intro N H xs as b Q hs e k
 replace e:=BZ e
 obtain⟨a,b,rfl,e⟩:=e;simp only[bind_eq_some_iff] at e;obtain⟨d,e1,d',e2,e3⟩:=e;split at e3
 .rename_i hz
  cases e3;obtain⟨x,y,L1,L2,rfl,h1,h2⟩:=Bl hs;exact⟨_,_,rfl,d,d',IG h1 e1,IG h2 e2,Nt hz,k _ _ Dn⟩
 .cases e3
theorem LP:OpN K neA (r2L VJ):=by
 intro N H xs as b Q hs e k
 replace e:=BZ e
 obtain⟨a,b,rfl,e⟩:=e;simp only[bind_eq_some_iff] at e;obtain⟨d,e1,d',e2,e3⟩:=e;split at e3
 .rename_i hz
  cases e3;obtain⟨x,y,L1,L2,rfl,h1,h2⟩:=Bl hs;exact⟨_,_,rfl,d,d',IG h1 e1,IG h2 e2,Nt hz,k _ _ Dn⟩
 .cases e3
noncomputable def ltA:List A->Option A:=on2 fun a b=>((A6 a).bind fun i=>(A6 b).map fun j=>A.fz (.bl (decide (i<j)))).or ((Bo a).bind fun x=>(Bo b).map fun y=>A.fz (.bl (decide (x.cps.toList<y.cps.toList))))
noncomputable def leA:List A->Option A:=on2 fun a b=>((A6 a).bind fun i=>(A6 b).map fun j=>A.fz (.bl (decide (i<=j)))).or ((Bo a).bind fun x=>(Bo b).map fun y=>A.fz (.bl (!decide (y.cps.toList<x.cps.toList))))
theorem LO:OpN K ltA (r2L T2):=by
 intro N H xs as b Q hs e k
 replace e:=BZ e
 obtain⟨a,b,rfl,e⟩:=e;rcases or_eq_some_iff.mp e with e|⟨_,e⟩
 .simp only[bind_eq_some_iff,map_eq_some_iff] at e
  obtain⟨i,ei,j,ej,rfl⟩:=e;cases A7 ei;cases A7 ej;obtain⟨x,y,L1,L2,rfl,h1,h2⟩:=Bl hs;cases Bq h1;cases Bq h2;exact⟨_,_,rfl,.inl ⟨i,j,rfl,rfl,k _ _ Dn⟩⟩
 .simp only[bind_eq_some_iff,map_eq_some_iff] at e
  obtain⟨i,ei,j,ej,rfl⟩:=e;cases Cw ei;cases Cw ej;obtain⟨x,y,L1,L2,rfl,h1,h2⟩:=Bl hs;obtain⟨rfl,_⟩:=CG h1;obtain⟨rfl,_⟩:=CG h2;exact⟨_,_,rfl,.inr ⟨i,j,rfl,rfl,k _ _ Dn⟩⟩
theorem GD:OpN K leA (r2L T1):=by
 intro N H xs as b Q hs e k
 replace e:=BZ e
 obtain⟨a,b,rfl,e⟩:=e;rcases or_eq_some_iff.mp e with e|⟨_,e⟩
 .simp only[bind_eq_some_iff,map_eq_some_iff] at e
  obtain⟨i,ei,j,ej,rfl⟩:=e;cases A7 ei;cases A7 ej;obtain⟨x,y,L1,L2,rfl,h1,h2⟩:=Bl hs;cases Bq h1;cases Bq h2;exact⟨_,_,rfl,.inl ⟨i,j,rfl,rfl,k _ _ Dn⟩⟩
 .simp only[bind_eq_some_iff,map_eq_some_iff] at e
  obtain⟨i,ei,j,ej,rfl⟩:=e;cases Cw ei;cases Cw ej;obtain⟨x,y,L1,L2,rfl,h1,h2⟩:=Bl hs;obtain⟨rfl,_⟩:=CG h1;obtain⟨rfl,_⟩:=CG h2;exact⟨_,_,rfl,.inr ⟨i,j,rfl,rfl,k _ _ Dn⟩⟩
noncomputable def CA:D->Bool
 | .lst _=>false
 | .tup _=>false
 | .non | .bl _ | .int _ | .str _=>true
theorem NP{d:D}(r:RepA N H v d)(h:CA d=true):FN v=true:=by
 cases r with
 | lst=>simp[CA] at h
 | tup=>simp[CA] at h
 | _=>rfl
theorem Uq{x y:V}{d e:D}(r:RepA N H x d)(q:RepA N H y e)(hd:CA d=true)(he:CA e=true):eqV x y=eqD d e:=by
 cases r with
 | lst=>simp[CA] at hd
 | tup=>simp[CA] at hd
 | _ =>
  cases q with
  | lst=>simp[CA] at he
  | tup=>simp[CA] at he
  | _=>rfl
noncomputable def inD(d:D)(ds:List D):Bool:=ds.any fun e=>eqD e d
theorem P8{x:V}{d:D}(r:RepA N H x d)(hd:CA d=true):∀{vs:List V} {ds:List D},Av N H vs ds->ds.all CA=true->vs.all FN=true/\inV x vs=inD d ds
 | [],[],_,_=>⟨rfl,rfl⟩
 | [],_::_,q,_=>by simp only[Av] at q
 | _::_,[],q,_=>by simp only[Av] at q
 | v::vs,e::ds,q,h=>by
  simp only[all_cons,and_eq_true] at h;obtain⟨h1,h2⟩:=P8 r hd q.2 h.2;refine⟨by simp[NP q.1 h.1,h1],?_⟩;simp only[inV,inD,any_cons] at h2 |-;rw[h2,Uq q.1 r h.1 hd]
noncomputable def inA(neg:Bool):List A->Option A:=on2 fun a b=>((Bo a).bind fun x=>(Bo b).map fun y=>A.fz (.bl (if neg then !(!(Builtin.Str.occurrences y x 0 y.length 1).isEmpty) else !(Builtin.Str.occurrences y x 0 y.length 1).isEmpty))).or ((fzU a).bind fun d=>(AQ b).bind fun ds=>if CA d&&ds.all CA then some (.fz (.bl (if neg then !inD d ds else inD d ds))) else none)
theorem Ii(neg:Bool):OpN K (inA neg) (r2L fun x y H Q=>rIn K neg x y H Q\/∃i j,x=.str i/\y=.str j/\Q (.bl (if neg then !(!(Builtin.Str.occurrences j i 0 j.length 1).isEmpty) else !(Builtin.Str.occurrences j i 0 j.length 1).isEmpty)) H):=by
 intro N H xs as b Q hs e k
 replace e:=BZ e
 obtain⟨a,b,rfl,e⟩:=e;rcases or_eq_some_iff.mp e with e|⟨_,e⟩
 .simp only[bind_eq_some_iff,map_eq_some_iff] at e
  obtain⟨i,ei,j,ej,rfl⟩:=e;cases Cw ei;cases Cw ej;obtain⟨x,y,L1,L2,rfl,h1,h2⟩:=Bl hs;obtain⟨rfl,_⟩:=CG h1;obtain⟨rfl,_⟩:=CG h2;exact⟨_,_,rfl,.inr ⟨i,j,rfl,rfl,k _ _ Dn⟩⟩
 .simp only[bind_eq_some_iff] at e
  obtain⟨d,ed,ds,e1,e2⟩:=e;cases Kd ed;split at e2
  .rename_i hz
   cases e2;simp only[and_eq_true] at hz;obtain⟨x,y,L1,L2,rfl,h1,h2⟩:=Bl hs;obtain⟨_,h1⟩:=GK.mp h1;obtain⟨p,vs,rfl,hp,q⟩:=Fd h2 e1;obtain⟨f1,f2⟩:=P8 h1 hz.1 q hz.2;refine⟨_,_,rfl,.inl ⟨p,vs,rfl,hp,NP h1 hz.1,f1,?_⟩⟩;rw[f2];exact k _ _ Dn
  .cases e2
theorem Io{X:Cx}:OpR X (compareOp .In) (fun x y H Q=>rIn X.K false x y H Q\/∃i j,x=.str i/\y=.str j/\Q (.bl (if false=true then !(!(Builtin.Str.occurrences j i 0 j.length 1).isEmpty) else !(Builtin.Str.occurrences j i 0 j.length 1).isEmpty)) H):=OU.or OV
theorem JH{X:Cx}:OpR X (compareOp .NotIn) (fun x y H Q=>rIn X.K true x y H Q\/∃i j,x=.str i/\y=.str j/\Q (.bl (if true=true then !(!(Builtin.Str.occurrences j i 0 j.length 1).isEmpty) else !(Builtin.Str.occurrences j i 0 j.length 1).isEmpty)) H):=Kx.or Ky
noncomputable def ixA:List A->Option A:=on2 fun a b=>(A6 b).bind fun i=>((Bo a).bind fun z=>(atI z.cps.toList i).map fun c=>A.fz (.str ⟨#[c]⟩)).or ((AQ a).bind fun ds=>(atI ds i).map A.fz)
theorem Uj{vs:List V}{ds:List D}{i:Int}{d:D}(q:Av N H vs ds)(e:atI ds i=some d):∃v,atI vs i=some v/\RepA N H v d:=by
 unfold atI at e |-;rw[q.len];simp only[bind_eq_some_iff] at e |-;obtain⟨j,e1,e2⟩:=e;obtain⟨v,hv⟩:=Uo q (AB e2);exact⟨v,⟨j,e1,hv⟩,q.get j v d hv e2⟩
theorem AW:OpN K ixA (r2L (rIx K)):=by
 intro N H xs as b Q hs e k
 replace e:=BZ e
 obtain⟨a,b,rfl,e⟩:=e;obtain⟨i,ei,e8⟩:=bind_eq_some_iff.mp e;cases A7 ei;rcases or_eq_some_iff.mp e8 with e|⟨_,e⟩
 .simp only[bind_eq_some_iff,map_eq_some_iff] at e
  obtain⟨z,ez,c,e1,rfl⟩:=e;cases Cw ez;obtain⟨x,y,L1,L2,rfl,h1,h2⟩:=Bl hs;obtain⟨rfl,hz⟩:=CG h1;cases Bq h2;exact⟨_,_,rfl,.inr (.inr ⟨z,i,c,rfl,rfl,hz,e1,k _ _ (GH (by show 1<=sizeLine; decide))⟩)⟩
 .simp only[bind_eq_some_iff,map_eq_some_iff] at e
  obtain⟨ds,e1,d,e2,rfl⟩:=e;obtain⟨x,y,L1,L2,rfl,h1,h2⟩:=Bl hs;cases Bq h2;obtain⟨p,vs,rfl,hp,q⟩:=Fd h1 e1;obtain⟨v,hv,q2⟩:=Uj q e2;rcases hp with hp|hp
  .exact⟨_,_,rfl,.inl ⟨p,vs,i,v,rfl,rfl,hp,hv,k _ _ (G7 q2)⟩⟩
  .exact⟨_,_,rfl,.inr (.inl ⟨p,vs,i,v,rfl,rfl,hp,hv,k _ _ (G7 q2)⟩)⟩
noncomputable def Bv:List A->Option A:=on1 fun a=>((Bo a).map fun z=>A.fz (.int z.length)).or ((AQ a).map fun ds=>A.fz (.int ds.length))
theorem BY:OpN K Bv (W4 K):=by
 intro N H xs as b Q hs e k
 replace e:=D3 e
 obtain⟨a,rfl,e⟩:=e;rcases or_eq_some_iff.mp e with e|⟨_,e⟩
 .obtain⟨z,ez,rfl⟩:=map_eq_some_iff.mp e
  cases Cw ez;obtain⟨x,L1,rfl,h1⟩:=Dm hs;obtain⟨rfl,hz⟩:=CG h1;exact .inr ⟨z,rfl,hz,k _ _ Ds⟩
 .obtain⟨ds,e1,rfl⟩:=map_eq_some_iff.mp e
  obtain⟨x,L1,rfl,h1⟩:=Dm hs;obtain⟨p,vs,rfl,hp,q⟩:=Fd h1 e1;refine .inl ⟨p,vs,rfl,hp,?_⟩;rw[q.len];exact k _ _ Ds
theorem AX{X:Cx}:B9 X (.builtin "len") (W4 X.K):=J2.or J3
noncomputable def Mp:List A->Option A:=on1 fun q1=>(A6 q1).bind fun i=>some (.fz (.int (if i<0 then -i else i)))
theorem QC:OpN K Mp (fun xs H Q=>∃i,xs=[.int i]/\Q (.int (if i<0 then -i else i)) H):=by
 intro N H xs as b Q hs e k
 replace e:=D3 e
 obtain⟨q1,rfl,e⟩:=e
 replace e:=bind_eq_some_iff.mp e
 obtain⟨i,eq1,e⟩:=e;cases A7 eq1;clear eq1;cases e;obtain⟨x,L1,rfl,h1⟩:=Dm hs;cases Bq h1;exact⟨i,rfl,k _ _ Ds⟩
noncomputable def MZ:List A->Option A:=on2 fun q1 q2=>(A6 q1).bind fun i=>(A6 q2).bind fun j=>some (.fz (.int (if j > i then j else i)))
noncomputable def M0:List A->Option A:=on2 fun q1 q2=>(A6 q1).bind fun i=>(A6 q2).bind fun j=>some (.fz (.int (if j<i then j else i)))
theorem U2:OpN K MZ (fun xs H Q=>∃i j,xs=[.int i,.int j]/\Q (.int (if j > i then j else i)) H):=by
 intro N H xs as b Q hs e k
 replace e:=BZ e
 obtain⟨q1,q2,rfl,e⟩:=e
 replace e:=bind_eq_some_iff.mp e
 obtain⟨i,eq1,e⟩:=e;cases A7 eq1;clear eq1
 replace e:=bind_eq_some_iff.mp e
 obtain⟨j,eq2,e⟩:=e;cases A7 eq2;clear eq2;cases e;obtain⟨x,y,L1,L2,rfl,h1,h2⟩:=Bl hs;cases Bq h1;cases Bq h2;exact⟨i,j,rfl,k _ _ Ds⟩
theorem U3:OpN K M0 (fun xs H Q=>∃i j,xs=[.int i,.int j]/\Q (.int (if j<i then j else i)) H):=by
 intro N H xs as b Q hs e k
 replace e:=BZ e
 obtain⟨q1,q2,rfl,e⟩:=e
 replace e:=bind_eq_some_iff.mp e
 obtain⟨i,eq1,e⟩:=e;cases A7 eq1;clear eq1
 replace e:=bind_eq_some_iff.mp e
 obtain⟨j,eq2,e⟩:=e;cases A7 eq2;clear eq2;cases e;obtain⟨x,y,L1,L2,rfl,h1,h2⟩:=Bl hs;cases Bq h1;cases Bq h2;exact⟨i,j,rfl,k _ _ Ds⟩
noncomputable def Dx:List D->Option (List Bool)
 | []=>some []
 | .bl b::ds=>(Dx ds).map (b :: ·)
 | _::_=>none
theorem K8:∀{vs:List V} {ds:List D} {bs:List Bool},Av N H vs ds->Dx ds=some bs->vs=DO bs:=by
 intro _l;induction _l with
 | nil =>
  intro _m;cases _m with
  | nil =>
   intro bs _ e;simp[Dx] at e; subst e; rfl
  | cons _ _ =>
   intro _ q _;simp only[Av] at q
 | cons v vs ih =>
  intro _m;cases _m with
  | nil =>
   intro _ q _;simp only[Av] at q
  | cons d ds =>
   intro bs q e;cases d with
   | bl b =>
    simp only[Dx,map_eq_some_iff] at e;obtain⟨bs',e1,rfl⟩:=e;have:=ih q.2 e1;obtain⟨q1,_⟩:=q;cases q1;subst this;rfl
   | _=>simp[Dx] at e
noncomputable def DM:List A->Option A:=on1 fun a=>(Cq a).bind fun ds=>(Dx ds).map fun bs=>.fz (.bl (bs.all id))
noncomputable def FF:List A->Option A:=on1 fun a=>(Cq a).bind fun ds=>(Dx ds).map fun bs=>.fz (.bl (bs.any id))
theorem Ga:OpN K DM (XF K):=by
 intro N H xs as b Q hs e k
 replace e:=D3 e
 obtain⟨a,rfl,e⟩:=e;simp only[bind_eq_some_iff,map_eq_some_iff] at e;obtain⟨ds,e1,bs,e2,rfl⟩:=e;obtain⟨x,L1,rfl,h1⟩:=Dm hs;obtain⟨p,vs,rfl,hp,hz,q⟩:=CT h1 e1;cases K8 q e2;exact⟨p,bs,rfl,.inl (.inl hp),k _ _ Dn⟩
theorem M5:OpN K FF (XG K):=by
 intro N H xs as b Q hs e k
 replace e:=D3 e
 obtain⟨a,rfl,e⟩:=e;simp only[bind_eq_some_iff,map_eq_some_iff] at e;obtain⟨ds,e1,bs,e2,rfl⟩:=e;obtain⟨x,L1,rfl,h1⟩:=Dm hs;obtain⟨p,vs,rfl,hp,hz,q⟩:=CT h1 e1;cases K8 q e2;exact⟨p,bs,rfl,.inl (.inl hp),k _ _ Dn⟩
noncomputable def Ie:List A->Option A:=on1 fun a=>(AQ a).bind fun ds=>if ds.length<=LIM then some (.lst (ds.map A.fz)) else none
theorem Sm:OpN K Ie (SW K):=by
 intro N H xs as b Q hs e k
 replace e:=D3 e
 obtain⟨a,rfl,e⟩:=e;simp only[bind_eq_some_iff] at e;obtain⟨ds,e1,e2⟩:=e;split at e2
 .rename_i hz
  cases e2;obtain⟨x,L1,rfl,h1⟩:=Dm hs;obtain⟨p,vs,rfl,hp,q⟩:=Fd h1 e1;exact⟨p,vs,rfl,hp,fun l hl=>k _ _ (Hy hl (by rw[q.len]; exact hz) q)⟩
 .cases e2
noncomputable def CM(f:D->Bool):List A->Option A:=on1 fun a=>(er a).map fun d=>.fz (.bl (f d))
theorem UZ{T:String}{f:D->Bool}:OpN K (CM f) (r1L fun x H Q=>∃d,Rep H x d/\Q (.bl (f d)) H):=by
 intro N H xs as b Q hs e k
 replace e:=D3 e
 obtain⟨a,rfl,e⟩:=e;simp only[map_eq_some_iff] at e;obtain⟨d,e1,rfl⟩:=e;obtain⟨x,L1,rfl,h1⟩:=Dm hs;exact⟨x,rfl,d,IG h1 e1,k _ _ Dn⟩
theorem IV{T:String}{f:D->Bool}{m:ME}{U:L2.St}{Q:VK}(h:tE K (opM (CM f) (m1L m)) U H Q):tCB (rIs T f) (Cd (tE K m) (Cd (tC (.ty T)) FI)) U H Q:=by
 have h2:=one (UZ (T:=T)) h;exact tE.mono h2 fun x H1 ⟨d,r,q⟩=>⟨x,d,rfl,r,q⟩
end
end J
end
section
namespace L2
open PySem PySem.Spec PyProof.Rows
section
variable{X:Cx}
noncomputable def SX:V->Option Int->Option Int->Hp->VK->Prop:=fun x lo hi H Q=>∃z,x=.str z/\z.length<=sizeLine/\Q (.str (Txt.slice z lo hi)) H
theorem Ri:SlR X SX:=by
 intro pins s U H x v vl vu lo hi sl Q I rx hs pl pu h;obtain⟨z,rfl,hz,q⟩:=h;obtain⟨t,rfl⟩:=rx;refine⟨"str",_,F.slot_str_getitem.lookup,typeIs_str _ _ _,?_⟩;have fin:∀t' k,EP X pins U Q (.str (Txt.slice z lo hi) t') { s with toks:=k }:=fun t' k=>⟨.str _,H,I.tok k,⟨_,rfl⟩,q⟩;obtain⟨o,ho,hc,hd⟩:=hs;cases pl with
 | none =>
  cases pu with
  | none=>exact wpAny_getItem_str_slice (l:=none) (u:=none) (st:=none) ⟨o,ho,hc,hd⟩ rfl (post_val_or_str ⟨le_trans (slice_le z _ _) hz,fun t' k=>fin t' k⟩)
  | int j tj=>exact wpAny_getItem_str_slice (l:=none) (u:=some (j,tj)) (st:=none) ⟨o,ho,hc,hd⟩ rfl (post_val_or_str ⟨le_trans (slice_le z _ _) hz,fun t' k=>fin t' k⟩)
 | int i ti =>
  cases pu with
  | none=>exact wpAny_getItem_str_slice (l:=some (i,ti)) (u:=none) (st:=none) ⟨o,ho,hc,hd⟩ rfl (post_val_or_str ⟨le_trans (slice_le z _ _) hz,fun t' k=>fin t' k⟩)
  | int j tj=>exact wpAny_getItem_str_slice (l:=some (i,ti)) (u:=some (j,tj)) (st:=none) ⟨o,ho,hc,hd⟩ rfl (post_val_or_str ⟨le_trans (slice_le z _ _) hz,fun t' k=>fin t' k⟩)
end
end L2
namespace J
open PySem PySem.Spec PyProof.Rows L2
section
variable{X:Cx}{a b c e:Expr}{es:List Expr}{m m1 m2 m3:ME}{ms:MA}{p pos pos' p2 apos cpos q:Pos}{x:Str}
variable{K:Frag}{H:Hp}{U:L2.St}
theorem UG(hg:Gl X "isinstance")(hg2:Gl X "int")(B:Blt X.mg X.K)(he:starEach [a,.Name "int" q] X.env=[(false,eval a X.env),(false,eval (.Name "int" q) X.env)])(he2:starEach [.Name "int" q] X.env=[(false,eval (.Name "int" q) X.env)])(ha:JE X a m):
  JE X (.Call (.Name "isinstance" p) [a,.Name "int" q] [] pos) (opM (CM isInt) (m1L m)):=AM (Vj hg hg2 B he he2 ha) fun _ _ _ h=>IV h
theorem UE(hg:Gl X "isinstance")(hg2:Gl X "bool")(B:Blt X.mg X.K)(he:starEach [a,.Name "bool" q] X.env=[(false,eval a X.env),(false,eval (.Name "bool" q) X.env)])(he2:starEach [.Name "bool" q] X.env=[(false,eval (.Name "bool" q) X.env)])(ha:JE X a m):
  JE X (.Call (.Name "isinstance" p) [a,.Name "bool" q] [] pos) (opM (CM isBool) (m1L m)):=AM (Vi hg hg2 B he he2 ha) fun _ _ _ h=>IV h
theorem MN(hg:Gl X "isinstance")(hg2:Gl X "list")(B:Blt X.mg X.K)(he:starEach [a,.Name "list" q] X.env=[(false,eval a X.env),(false,eval (.Name "list" q) X.env)])(he2:starEach [.Name "list" q] X.env=[(false,eval (.Name "list" q) X.env)])(ha:JE X a m):
  JE X (.Call (.Name "isinstance" p) [a,.Name "list" q] [] pos) (opM (CM Eg) (m1L m)):=AM (Vk hg hg2 B he he2 ha) fun _ _ _ h=>IV h
theorem Qf(hg:Gl X "isinstance")(hg2:Gl X "tuple")(B:Blt X.mg X.K)(he:starEach [a,.Name "tuple" q] X.env=[(false,eval a X.env),(false,eval (.Name "tuple" q) X.env)])(he2:starEach [.Name "tuple" q] X.env=[(false,eval (.Name "tuple" q) X.env)])(ha:JE X a m):
  JE X (.Call (.Name "isinstance" p) [a,.Name "tuple" q] [] pos) (opM (CM isTup) (m1L m)):=AM (Vm hg hg2 B he he2 ha) fun _ _ _ h=>IV h
theorem MO(hg:Gl X "isinstance")(hg2:Gl X "str")(B:Blt X.mg X.K)(he:starEach [a,.Name "str" q] X.env=[(false,eval a X.env),(false,eval (.Name "str" q) X.env)])(he2:starEach [.Name "str" q] X.env=[(false,eval (.Name "str" q) X.env)])(ha:JE X a m):
  JE X (.Call (.Name "isinstance" p) [a,.Name "str" q] [] pos) (opM (CM isStr) (m1L m)):=AM (Vn hg hg2 B he he2 ha) fun _ _ _ h=>IV h
noncomputable def slF(x:A)(lo hi:Option Int):Option A:=match x with
 | .fz (.str z)=>some (.fz (.str (Txt.slice z lo hi)))
 | _=>none
noncomputable def Jl:List A->Option A:=on2 fun x q2=>(A6 q2).bind fun j=>slF x none (some j)
noncomputable def Jm:List A->Option A:=on2 fun x q2=>(A6 q2).bind fun i=>slF x (some i) none
theorem Rh{N:Addr->Prop}{v:V}{a b:A}{L:List Addr}{lo hi:Option Int}{Q:VK}(h:AA K N H v a L)(e:slF a lo hi=some b)(k:∀u H',K3 K N H b u H'->Q u H'):SX v lo hi H Q:=by
 unfold slF at e;split at e
 .rename_i z
  cases e;obtain⟨rfl,hz⟩:=CG h;exact⟨z,rfl,hz,k _ _ (GH (le_trans (slice_le z _ _) hz))⟩
 .cases e
theorem R3(ha:JE X a m1)(hb:JE X b m2):JE X (.Subscript a (.Slice none (some b) none p2) pos) (opM Jl (m2L m1 m2)):=by
 refine AM (IB Ri ha KA (KC hb)) fun U H Q h=>?_;have ok:OpN X.K Jl (r2L fun x y H Q=>∃j,y=.int j/\SX x none (some j) H Q):=by
  intro N H xs as b Q hs e k
  replace e:=BZ e
  obtain⟨x,q2,rfl,e⟩:=e
  replace e:=bind_eq_some_iff.mp e
  obtain⟨j,eq2,e⟩:=e;cases A7 eq2;clear eq2;obtain⟨x,y,L1,L2,rfl,h1,h2⟩:=Bl hs;cases Bq h2;exact⟨_,_,rfl,j,rfl,Rh h1 e k⟩
 exact tE.mono (two ok h) fun x H1 h1=>tE.mono h1 fun y H2 ⟨j,e,q⟩=>⟨j,e,q⟩
theorem R4(ha:JE X a m1)(hb:JE X b m2):JE X (.Subscript a (.Slice (some b) none none p2) pos) (opM Jm (m2L m1 m2)):=by
 refine AM (IB Ri ha (KC hb) KA) fun U H Q h=>?_;have ok:OpN X.K Jm (r2L fun x y H Q=>∃j,y=.int j/\SX x (some j) none H Q):=by
  intro N H xs as b Q hs e k
  replace e:=BZ e
  obtain⟨x,q2,rfl,e⟩:=e
  replace e:=bind_eq_some_iff.mp e
  obtain⟨j,eq2,e⟩:=e;cases A7 eq2;clear eq2;obtain⟨x,y,L1,L2,rfl,h1,h2⟩:=Bl hs;cases Bq h2;exact⟨_,_,rfl,j,rfl,Rh h1 e k⟩
 exact tE.mono (two ok h) fun x H1 h1=>tE.mono h1 fun y H2 ⟨j,e,q⟩=>⟨j,e,q⟩
noncomputable def Dc:List D->Option (List Str)
 | []=>some []
 | .str z::ds=>(Dc ds).map (z :: ·)
 | _::_=>none
theorem N9{N:Addr->Prop}:∀{vs:List V} {ds:List D} {zs:List Str},Av N H vs ds->Dc ds=some zs->vs=zs.map V.str:=by
 intro _l;induction _l with
 | nil =>
  intro _m;cases _m with
  | nil =>
   intro zs _ e;simp[Dc] at e; subst e; rfl
  | cons _ _ =>
   intro _ q _;simp only[Av] at q
 | cons v vs ih =>
  intro _m;cases _m with
  | nil =>
   intro _ q _;simp only[Av] at q
  | cons d ds =>
   intro zs q e;cases d with
   | str z =>
    simp only[Dc,map_eq_some_iff] at e;obtain⟨zs',e1,rfl⟩:=e;have:=ih q.2 e1;obtain⟨q1,_⟩:=q;cases q1;subst this;rfl
   | _=>simp[Dc] at e
theorem P4(zs:List Str):(glue zs).length=(zs.map (·.length)).sum:=by
 show(glue zs).cps.size=_;simp[glue,List.length_flatten,Function.comp_def];rfl
theorem Td{sep:Str}(h:sep.length=0):sep=("" : Str):=by
 cases sep with
 | mk c =>
  have:c = #[]:=Array.eq_empty_of_size_eq_zero h;subst this;decide +kernel
noncomputable def CN(f:Str->List A->Option A)(m:ME)(ms:MA):ME:=fun Z=>(m Z).bind fun p=>match p.1 with
 | .val (.fz (.str z))=>(ms p.2).bind fun q=>(peeks q.2 q.1).bind fun as=>(f z as).map fun a=>(.val a,q.2)
 | _=>none
theorem Rq{f:Str->List A->Option A}{r:V->List V->Hp->VK->Prop}{Q:VK}(ok:∀z,z.length<=sizeLine->OpN K (f z) fun xs H Q=>r (.str z) xs H Q)(h:tE K (CN f m ms) U H Q):tBM K "str" r (tE K m) (tA K ms) U H Q:=by
 obtain⟨Z,O,fp,rl,y,Z',h0,k⟩:=h;simp only[CN,bind_eq_some_iff] at h0;obtain⟨⟨r1,Z1⟩,e1,h0⟩:=h0;dsimp only at h0;split at h0
 .rename_i z
  simp only[bind_eq_some_iff,map_eq_some_iff] at h0;obtain⟨⟨rs,Z2⟩,e2,as,e3,c,e4,e5⟩:=h0;cases e5;refine⟨Z,O,fp,rl,_,Z1,e1,fun v H1 yy=>?_⟩;obtain⟨L,fp1,p,q⟩:=yy;obtain⟨rfl,hz⟩:=CG (K:=K) q;have p':=p.drop0;refine⟨rfl,Z1,O,fp1,p'.rel0,rs,Z2,e2,fun vs H2 yy=>?_⟩;obtain⟨L2,fp2,p2,q2⟩:=yy;exact ok z hz _ H2 vs as c Q (p2.rel.peeks q2 e3) e4 fun u H3 o=>k u H3 ((p2.out o).pre p')
 .cases h0
noncomputable def BI(sep:Str):List A->Option A:=on1 fun b=>if sep.length=0 then (Cq b).bind fun ds=>(Dc ds).bind fun zs=>if (zs.map (·.length)).sum<=16777216 then some (.fz (.str (glue zs))) else none else none
theorem Sl(sep:Str)(hz:sep.length<=sizeLine):OpN K (BI sep) fun xs H Q=>rJoin K (.str sep) xs H Q:=by
 intro N H xs as b Q hs e k
 replace e:=D3 e
 obtain⟨b,rfl,e⟩:=e;split at e
 .rename_i h0
  simp only[bind_eq_some_iff] at e;obtain⟨ds,e1,zs,e2,e3⟩:=e;split at e3
  .rename_i hl
   cases e3;obtain⟨x,L1,rfl,h1⟩:=Dm hs;obtain⟨p,vs,rfl,hp,hz',q⟩:=CT h1 e1;cases N9 q e2;cases Td h0;refine⟨_,p,zs,rfl,rfl,.inl (.inl hp),?_,?_⟩
   .have:("" : Str).length=0:=by decide +kernel
    rw[this,Nat.mul_zero,Nat.add_zero];exact hl
   .rw[MP]
    exact k _ _ (GH (by rw[P4]; exact hl))
  .cases e3
 .cases e
theorem Fy(hbase:attributeBase a "join" X.env (eval a X.env)=eval a X.env)(hline:(apos.endLine==cpos.line)=true)(B:Blt X.mg X.K)(hs:starEach [e] X.env=[(false,eval e X.env)])(ha:JE X a m1)(he:JE X e m2):
  JE X (.Call (.Attribute a "join" apos) [e] [] cpos) (CN BI m1 (m1L m2)):=by
 refine AM (SG rfl B hbase hline hs ha he) fun U H Q h=>?_;exact tE.mono (Rq Sl h) fun x H1 ⟨ty,q⟩=>⟨ty,FE q |> fun q=>tE.mono q fun y H2 q=>IU q⟩
noncomputable def F5(z:Str):List A->Option A:=on1 fun q1=>(Bo q1).bind fun y=>if 0<=Txt.find z y then some (.fz (.int (Txt.find z y))) else none
theorem QE(z:Str)(hz:z.length<=sizeLine):OpN K (F5 z) fun xs H Q=>Ng (.str z) xs H Q:=by
 intro N H xs as b Q hs e k
 replace e:=D3 e
 obtain⟨q1,rfl,e⟩:=e
 replace e:=bind_eq_some_iff.mp e
 obtain⟨y,eq1,e⟩:=e;cases Cw eq1;clear eq1;split at e
 .rename_i h0
  cases e;obtain⟨x,L1,rfl,h1⟩:=Dm hs;obtain⟨rfl,_⟩:=CG h1;exact⟨z,y,rfl,rfl,h0,k _ _ Ds⟩
 .cases e
theorem Qe(hbase:attributeBase a "index" X.env (eval a X.env)=eval a X.env)(hline:(apos.endLine==cpos.line)=true)(B:Blt X.mg X.K)(hc:X.calm=true)(hs:starEach [e] X.env=[(false,eval e X.env)])(ha:JE X a m1)(he:JE X e m2):
  JE X (.Call (.Attribute a "index" apos) [e] [] cpos) (CN F5 m1 (m1L m2)):=by
 refine AM (QI rfl B hc hbase hline hs ha he) fun U H Q h=>?_;exact tE.mono (Rq QE h) fun x H1 ⟨ty,q⟩=>⟨ty,FE q |> fun q=>tE.mono q fun y H2 q=>IU q⟩
noncomputable def Hi:List D->Option (List Int)
 | []=>some []
 | .int z::ds=>(Hi ds).map (z :: ·)
 | _::_=>none
theorem RX{N:Addr->Prop}:∀{vs:List V} {ds:List D} {zs:List Int},Av N H vs ds->Hi ds=some zs->vs=zs.map V.int:=by
 intro _l;induction _l with
 | nil =>
  intro _m;cases _m with
  | nil =>
   intro zs _ e;simp[Hi] at e; subst e; rfl
  | cons _ _ =>
   intro _ q _;simp only[Av] at q
 | cons v vs ih =>
  intro _m;cases _m with
  | nil =>
   intro _ q _;simp only[Av] at q
  | cons d ds =>
   intro zs q e;cases d with
   | int z =>
    simp only[Hi,map_eq_some_iff] at e;obtain⟨zs',e1,rfl⟩:=e;have:=ih q.2 e1;obtain⟨q1,_⟩:=q;cases q1;subst this;rfl
   | _=>simp[Hi] at e
end
section
variable{K:Frag}{Z Z' Z1 Z2:Ro}{U σ' σ1 σ2:L2.St}{H H' H1 H2:Hp}{O O' N:Addr->Prop}{fp fp' fp1 fp2:Nat->List Addr}{L L1:List Addr}
theorem Post.mut{i:Nat}{st:Own}{a a':A}{v:V}{p:Addr}{o:HO}{vs:List V}{L':List Addr}(x:Post K O fp H Z Z1 U U L fp1 H1)(hi : Z1[i]? = some (some (st,a)))(hst:st≠.ro)(hv : U[i]? = some (some v))(hp:p∈fp1 i)(hy:H1 p=some (.lst vs))(hL:∀q∈L',q∈fp1 i\/q∈L)(nd:L'.Nodup)(hr:AA K (NN fp1 (ad O L)) (upd H1 p o) v a' L'):Post K O fp H Z (Z1.set i (some (st,a'))) U U [] (pt fp1 i L') (upd H1 p o):=by
 have alp:∀q,H1 q≠none->upd H1 p o q≠none:=fun q z=>by
  by_cases e:q=p
  .subst e; rw[AN]; simp
  .rw[Au e]; exact z
 have k:=EE (o:=o) hy
 -- first the heap,then the slot
 have nn:∀q,NN (pt fp1 i L') (ad O []) q->NN fp1 (ad O L) q:=fun q z=>by
  rcases z with ⟨j,z⟩|z|z
  .rcases BM z with ⟨_,z⟩|⟨_,z⟩
   .rcases hL q z with z|z
    .exact .inl ⟨i,z⟩
    .exact .inr (.inr z)
   .exact .inl ⟨j,z⟩
  .exact .inr (.inl z)
  .simp at z
 have dis:∀q∈L',∀j,j≠i->q∉fp1 j:=fun q hq j hj z=>by
  rcases hL q hq with w|w
  .exact hj (x.rel.inj j i q z w)
  .exact x.rel.off j q z (.inr w)
 refine⟨⟨by rw[length_set]; exact x.rel.len,fun j st' b e=>?_,fun j h=>?_,fun j=>?_,fun j1 j2 q h1 h2=>?_,fun j q h z=>?_,fun q z=>alp q (x.rel.al q (nn q z))⟩,nodup_nil,fun q h=>by simp at h,fun q h=>?_,fun b u e c=>?_,rfl,fun j st' b e h=>?_⟩
 .by_cases hj:j=i
  .subst hj
   rw[List.getElem?_set_self (AB hi)] at e;cases e;exact⟨v,hv,by rw[FC]; exact DD nn hr⟩
  .rw[List.getElem?_set_ne (Ne.symm hj)] at e
   obtain⟨w,e1,q⟩:=x.rel.slot j _ _ e;refine⟨w,e1,?_⟩;rw[Hj hj];exact q.tr (M:=fun q=>q=p) (fun b z=>by rw[z]; exact .inl ⟨i,hp⟩) k (fun b z=>.inl (nn b z)) fun b hb z=>hj (x.rel.inj j i p (z ▸ hb) hp)
 .by_cases hj:j=i
  .subst hj
   exact absurd (List.getElem?_set_self (AB hi)) (h st a')
  .rw[Hj hj]
   exact x.rel.out j fun st' b e=>h st' b (by rw[List.getElem?_set_ne (Ne.symm hj)]; exact e)
 .by_cases hj:j=i
  .subst hj; rw[FC]; exact nd
  .rw[Hj hj]; exact x.rel.nd j
 .rcases BM h1 with ⟨e1,z1⟩|⟨e1,z1⟩
  .rcases BM h2 with ⟨e2,z2⟩|⟨e2,z2⟩
   .rw[e1,e2]
   .exact absurd z2 (dis q z1 j2 e2)
  .rcases BM h2 with ⟨e2,z2⟩|⟨e2,z2⟩
   .exact absurd z1 (dis q z2 j1 e1)
   .exact x.rel.inj j1 j2 q z1 z2
 .have z':=JX.mp z
  rcases BM h with ⟨_,z1⟩|⟨_,z1⟩
  .rcases hL q z1 with w|w
   .exact x.rel.off i q w (.inl z')
   .exact x.lo q w z'
  .exact x.rel.off j q z1 (.inl z')
 .rcases h with h|⟨j,h⟩
  .simp at h
  .rcases BM h with ⟨_,z1⟩|⟨_,z1⟩
   .rcases hL q z1 with w|w
    .exact x.new q (.inr ⟨i,w⟩)
    .exact x.new q (.inl w)
   .exact x.new q (.inr ⟨j,z1⟩)
 .have e1:=x.kept b u e c
  by_cases hb:b=p
  .subst hb
   rw[hy] at e1;cases e1;rcases c with c|c
   .rcases x.new b (.inr ⟨i,hp⟩) with z|z
    .exact absurd z c
    .rw[e] at z; cases z
   .cases c
  .rw[Au hb]; exact e1
 .obtain⟨b',e1,_,f⟩:=x.stab j st' b e h
  by_cases hj:j=i
  .subst hj
   rw[hi] at e1;cases e1;exact⟨a',List.getElem?_set_self (AB hi),rfl,fun z=>absurd z hst⟩
  .exact⟨b',by rw[List.getElem?_set_ne (Ne.symm hj)]; exact e1,rfl,f⟩
theorem Ar.app:∀{vs ws:List V} {as bs:List A} {L1 L2:List Addr},Ar K N H vs as L1->Ar K N H ws bs L2->Ar K N H (vs++ws) (as++bs) (L1++L2)
 | [],ws,[],bs,L1,L2,r,q=>by
  simp only[Ar] at r;subst r;exact q
 | [],_,_::_,_,_,_,r,_=>by simp only[Ar] at r
 | _::_,_,[],_,_,_,r,_=>by simp only[Ar] at r
 | v::vs,ws,a::as,bs,L1,L2,r,q=>by
  simp only[Ar] at r;obtain⟨M1,M2,rfl,h1,h2⟩:=r;simp only[cons_append,Ar];exact⟨M1,M2++L2,by simp,h1,Ar.app h2 q⟩
noncomputable def Ef(Z:Ro)(i:Nat):Option (Own×List A):=match Z[i]? with
 | some (some (.ro,_))=>none
 | some (some (st,.lst as))=>some (st,as)
 | _=>none
theorem ER{i:Nat}{st:Own}{as:List A}(h:Ef Z i=some (st,as)): Z[i]? = some (some (st,.lst as))/\st≠.ro:=by
 unfold Ef at h;split at h
 .cases h
 .rename_i st' as' hn e
  cases h;exact⟨e,fun z=>hn z⟩
 .cases h
noncomputable def CZ(i:Nat)(m:ME):MS:=fun Z=>(Ef Z i).bind fun _=>(m Z).bind fun p=>(keep p.2 p.1).bind fun q=>(Ef q.2 i).bind fun h=>if h.2.length<LIM then some (.next (q.2.set i (some (h.1,.lst (h.2++[q.1]))))) else none
theorem V6{i:Nat}{m:ME}{D:Ends}(h:tS K (CZ i m) D U H):JO (tBM K "list" N5 (Pm i) (Cd (tE K m) FI)) D U H:=by
 obtain⟨Z,O,fp,rl,fl,e,w⟩:=h;simp only[CZ,bind_eq_some_iff] at e;obtain⟨⟨st0,as0⟩,e0,⟨r,Z1⟩,e1,⟨a,Z2⟩,e2,⟨st,as⟩,e3,e4⟩:=e;split at e4
 .rename_i hz
  cases e4;obtain⟨g0,_⟩:=ER e0;obtain⟨v,hv,q0⟩:=rl.slot i _ _ g0;rw[AA] at q0;obtain⟨p0,vs0,_,rfl,_,hp0,_,_⟩:=q0;refine⟨_,hv,.inl ⟨rfl,vs0,.inl (.inl hp0)⟩,Z,O,fp,rl,r,Z1,e1,fun y H1 yy=>?_⟩
  obtain⟨L,fp1,p,q⟩:=yy;obtain⟨L2,fp2,p2,q2⟩:=JC p q e2;obtain⟨g,gst⟩:=ER e3;obtain⟨v',hv',qi⟩:=p2.rel.slot i _ _ g;rw[hv] at hv'; cases hv';rw[AA] at qi;obtain⟨pa,vs,L',e5,e6,hp,hz',hs⟩:=qi;cases e5;have hlen:=hs.len;refine⟨p0,vs,y,rfl,rfl,hp,by rw[hlen]; exact hz,w _ _ _ (p2.mut (a':=.lst (as++[a])) (L':=p0::(L'++L2)) g gst hv (by rw[e6]; simp) hp (fun b hb=>?_) ?_ ?_)⟩
  .rcases mem_cons.mp hb with rfl|hb
   .rw[e6]; simp
   .rcases mem_append.mp hb with hb|hb
    .rw[e6]; simp[hb]
    .exact .inr hb
  .have n1:=p2.rel.nd i
   rw[e6] at n1;have n2:(p0::L').Nodup:=n1;have:((p0::L')++L2).Nodup:=nodup_append.mpr ⟨n2,p2.nd,fun b hb c hc e=>by
    subst e;exact p2.rel.off i b (by rw[e6]; exact hb) (.inr hc)⟩
   simpa using this
  .rw[AA]
   have k:=EE (o:=.lst (vs++[y])) hp;have pn:NN fp2 (ad O L2) p0:=.inl ⟨i,by rw[e6]; simp⟩;have n1:=p2.rel.nd i;rw[e6] at n1;have h1:Ar K (NN fp2 (ad O L2)) (upd H1 p0 (.lst (vs++[y]))) vs as L':=hs.tr (M:=fun b=>b=p0) (fun b z=>z ▸ pn) k (fun b z=>.inl z) fun b hb z=>by
    subst z;exact(nodup_cons.mp n1).1 hb
   have h2:AA K (NN fp2 (ad O L2)) (upd H1 p0 (.lst (vs++[y]))) y a L2:=q2.tr (M:=fun b=>b=p0) (fun b z=>z ▸ pn) k (fun b z=>.inl z) fun b hb z=>by
    subst z;exact p2.rel.off i b (by rw[e6]; simp) (.inr hb)
   have h3:Ar K (NN fp2 (ad O L2)) (upd H1 p0 (.lst (vs++[y]))) [y] [a] L2:=by
    simp only[Ar];exact⟨L2,[],by simp,h2,rfl⟩
   refine⟨p0,vs++[y],L'++L2,rfl,rfl,AN,?_,Ar.app h1 h3⟩;rw[length_append,hlen];exact hz
 .cases e4
noncomputable def FG(i:Nat)(m:ME):MS:=fun Z=>(Ef Z i).bind fun _=>(m Z).bind fun p=>(peek p.2 p.1).bind fun b=>(Cq b).bind fun ds=>(Ef p.2 i).bind fun h=>if h.2.length+ds.length<=LIM then some (.next (p.2.set i (some (h.1,.lst (h.2++ds.map A.fz))))) else none
theorem V9{i:Nat}{m:ME}{D:Ends}(h:tS K (FG i m) D U H):JO (tBM K "list" N6 (Pm i) (Cd (tE K m) FI)) D U H:=by
 obtain⟨Z,O,fp,rl,fl,e,w⟩:=h;simp only[FG,bind_eq_some_iff] at e;obtain⟨⟨st0,as0⟩,e0,⟨r,Z1⟩,e1,bb,e2,ds,e2',⟨st,as⟩,e3,e4⟩:=e;split at e4
 .rename_i hz
  cases e4;obtain⟨g0,_⟩:=ER e0;obtain⟨v,hv,q0⟩:=rl.slot i _ _ g0;rw[AA] at q0;obtain⟨p0,vs0,_,rfl,_,hp0,_,_⟩:=q0;refine⟨_,hv,.inl ⟨rfl,vs0,.inl (.inl hp0)⟩,Z,O,fp,rl,r,Z1,e1,fun y H1 yy=>?_⟩
  obtain⟨L,fp1,p,q⟩:=yy;obtain⟨Lb,qb⟩:=p.rel.peek q e2;obtain⟨pb,ws,rfl,hpb,hzb,qd⟩:=CT qb e2';have p2:=p.drop0;obtain⟨g,gst⟩:=ER e3;obtain⟨v',hv',qi⟩:=p2.rel.slot i _ _ g;rw[hv] at hv'; cases hv';rw[AA] at qi;obtain⟨pa,vs,L',e5,e6,hp,hz',hs⟩:=qi;cases e5;have hlen:=hs.len;have hl2:vs.length+ws.length<=sizeLine:=by rw[hlen,qd.len]; exact hz
  refine⟨p0,pb,vs,ws,rfl,rfl,hp,hpb,hl2,w _ _ _ (p2.mut (a':=.lst (as++ds.map A.fz)) (L':=p0::L') g gst hv (by rw[e6]; simp) hp (fun b hb=>.inl (by rw[e6]; exact hb)) (by have:=p2.rel.nd i; rw[e6] at this; exact this) ?_)⟩;rw[AA];have k:=EE (o:=.lst (vs++ws)) hp;have pn:NN fp1 (ad O []) p0:=.inl ⟨i,by rw[e6]; simp⟩;have n1:=p2.rel.nd i;rw[e6] at n1;have h1:Ar K (NN fp1 (ad O [])) (upd H1 p0 (.lst (vs++ws))) vs as L':=hs.tr (M:=fun b=>b=p0) (fun b z=>z ▸ pn) k (fun b z=>.inl z) fun b hb z=>by
   subst z;exact(nodup_cons.mp n1).1 hb
  have h2:Av (NN fp1 (ad O [])) (upd H1 p0 (.lst (vs++ws))) ws ds:=(IW (fun b z=>z.imp id fun y=>y.imp id fun y=>by simp at y) qd).tr (M:=fun b=>b=p0) (fun b z=>z ▸ pn) k fun b z=>.inl z;refine⟨p0,vs++ws,L',rfl,rfl,AN,by rw[length_append]; exact hl2,?_⟩;have:=Ar.app h1 (Ar.of h2);rw[append_nil] at this;exact this
 .cases e4
noncomputable def Ji(i:Nat)(mk me:ME):MS:=fun Z=>(me Z).bind fun p=>(share p.2 p.1).bind fun s=>(Ef s.2 i).bind fun _=>(mk s.2).bind fun t=>match t.1 with
 | .val (.fz (.int k))=>(Ef t.2 i).bind fun h=>(ixN h.2.length k).map fun j=>.next (t.2.set i (some (h.1,.lst (h.2.set j (.fz s.1)))))
 | _=>none
theorem Ar.setFz:∀{vs:List V} {as:List A} {L:List Addr} {j:Nat} {v:V} {d:D},Ar K N H vs as L->RepA N H v d->∃L',Ar K N H (vs.set j v) (as.set j (.fz d)) L'/\(∀q∈L',q∈L)/\(L.Nodup->L'.Nodup)
 | [],[],L,j,v,d,r,_=>⟨L,by simpa using r,fun _ h=>h,id⟩
 | [],_::_,_,_,_,_,r,_=>by simp only[Ar] at r
 | _::_,[],_,_,_,_,r,_=>by simp only[Ar] at r
 | x::vs,a::as,L,0,v,d,r,q=>by
  simp only[Ar] at r;obtain⟨M1,M2,rfl,h1,h2⟩:=r;refine⟨M2,?_,fun b h=>mem_append_right _ h,fun h=>(nodup_append.mp h).2.1⟩;simp only[set_cons_zero,Ar];exact⟨[],M2,rfl,EY q,h2⟩
 | x::vs,a::as,L,j+1,v,d,r,q=>by
  simp only[Ar] at r;obtain⟨M1,M2,rfl,h1,h2⟩:=r;obtain⟨L',g1,g2,g3⟩:=Ar.setFz (j:=j) h2 q;refine⟨M1++L',?_,fun b h=>?_,fun h=>?_⟩
  .simp only[set_cons_succ,Ar]
   exact⟨M1,L',rfl,h1,g1⟩
  .rcases mem_append.mp h with h|h
   .exact mem_append_left _ h
   .exact mem_append_right _ (g2 b h)
  .obtain⟨n1,n2,n3⟩:=nodup_append.mp h
   exact nodup_append.mpr ⟨n1,g3 n2,fun b hb c hc e=>n3 b hb c (g2 c hc) e⟩
theorem Wb{i:Nat}{mk me:ME}{D:Ends}(h:tS K (Ji i mk me) D U H):Rm (tE K me) (WB (Pm i) (tE K mk) T3) D U H:=by
 obtain⟨Z,O,fp,rl,fl,e,w⟩:=h;simp only[Ji,bind_eq_some_iff] at e;obtain⟨⟨r,Z1⟩,e1,⟨d,Z2⟩,e2,⟨st0,as0⟩,e0,⟨r3,Z3⟩,e3,e4⟩:=e;dsimp only at e4;split at e4
 .rename_i kk
  simp only[bind_eq_some_iff,map_eq_some_iff] at e4;obtain⟨⟨st,as⟩,e5,j,e6,e7⟩:=e4;cases e7;refine⟨Z,O,fp,rl,r,Z1,e1,fun y H1 yy=>?_⟩;obtain⟨L,fp1,p,q⟩:=yy;obtain⟨fp2,p2,q2⟩:=EU p q e2;obtain⟨g0,_⟩:=ER e0;obtain⟨v,hv,q0⟩:=p2.rel.slot i _ _ g0;rw[AA] at q0;obtain⟨p0,vs0,_,rfl,_,hp0,_,_⟩:=q0;refine⟨_,hv,Z2,O,fp2,p2.rel0,_,Z3,e3,fun y2 H2 yy=>?_⟩;obtain⟨L3,fp3,p3,q3⟩:=yy;cases Bq (K:=K) q3;have p4:=(p2.next p3).drop0;obtain⟨g,gst⟩:=ER e5;obtain⟨v',hv',qi⟩:=p4.rel.slot i _ _ g;rw[hv] at hv'; cases hv';rw[AA] at qi;obtain⟨pa,vs,L',e8,e9,hp,hz',hs⟩:=qi;cases e8;have hlen:=hs.len;have qy:RepA (NN fp3 (ad O [])) H2 y d:=(EZ (fun b z=>G2.mpr z) q2).tr (M:=Fp fp2) (fun b z=>.inl z) p3.kept fun b z=>by
   rcases z with z|z|z
   .exact(p3.new b (.inr z)).imp (fun y=>.inl y) id
   .exact .inl (.inr z)
   .simp at z
  have k:=EE (o:=.lst (vs.set j y)) hp;have pn:NN fp3 (ad O []) p0:=.inl ⟨i,by rw[e9]; simp⟩;have n1:=p4.rel.nd i;rw[e9] at n1;have h1:Ar K (NN fp3 (ad O [])) (upd H2 p0 (.lst (vs.set j y))) vs as L':=hs.tr (M:=fun b=>b=p0) (fun b z=>z ▸ pn) k (fun b z=>.inl z) fun b hb z=>by
   subst z;exact(nodup_cons.mp n1).1 hb
  have h2:RepA (NN fp3 (ad O [])) (upd H2 p0 (.lst (vs.set j y))) y d:=qy.tr (M:=fun b=>b=p0) (fun b z=>z ▸ pn) k fun b z=>.inl z;obtain⟨L4,g1,g2,g3⟩:=Ar.setFz (j:=j) h1 h2;refine⟨p0,vs,kk,j,rfl,rfl,hp,by rw[hlen]; exact e6,w _ _ _ (p4.mut (a':=.lst (as.set j (.fz d))) (L':=p0::L4) g gst hv (by rw[e9]; simp) hp (fun b hb=>?_) ?_ ?_)⟩
  .rcases mem_cons.mp hb with rfl|hb
   .exact .inl (by rw[e9]; simp)
   .exact .inl (by rw[e9]; simp[g2 b hb])
  .exact nodup_cons.mpr ⟨fun z=>(nodup_cons.mp n1).1 (g2 _ z),g3 (nodup_cons.mp n1).2⟩
  .rw[AA]
   exact⟨p0,vs.set j y,L4,rfl,rfl,AN,by rw[length_set]; exact hz',g1⟩
 .cases e4
end
section
variable{X:Cx}{a b c e:Expr}{es:List Expr}{m m1 m2 m3:ME}{ms:MA}{p pos pos' p2 apos cpos q npos:Pos}{x:Str}
theorem H0(i:Nat)(hN:X.N[i]? = some x)(hv:Vis X.env.scope x)(hd:(x==("__debug__" : Str))=false)(hcd:(x==("__classdict__" : Str))=false)(hbase:attributeBase (.Name x npos) "append" X.env (eval (.Name x npos) X.env)=eval (.Name x npos) X.env)(hline:(apos.endLine==cpos.line)=true)(hs:starEach [e] X.env=[(false,eval e X.env)])(hw:swapsWith (.Call (.Attribute (.Name x npos) "append" apos) [e] [] cpos) none pos.line X.env=pure false)(he:JE X e m):JS X (.Expr (.Call (.Attribute (.Name x npos) "append" apos) [e] [] cpos) pos) (CZ i m):=
 Cv (HB (N0 PySem.F.plainAttrs_list PySem.F.slot_list_append PySem.F.type_list_append G0 (IC hN hv hd hcd) (Cu he D4 hs) hbase (by rw[hs]; rfl) hline hs rfl) hw) fun _ _ _ h=>V6 h
theorem Qk(i:Nat)(hN:X.N[i]? = some x)(hv:Vis X.env.scope x)(hd:(x==("__debug__" : Str))=false)(hcd:(x==("__classdict__" : Str))=false)(hbase:attributeBase (.Name x npos) "extend" X.env (eval (.Name x npos) X.env)=eval (.Name x npos) X.env)(hline:(apos.endLine==cpos.line)=true)(hs:starEach [e] X.env=[(false,eval e X.env)])(hw:swapsWith (.Call (.Attribute (.Name x npos) "extend" apos) [e] [] cpos) none pos.line X.env=pure false)(he:JE X e m):JS X (.Expr (.Call (.Attribute (.Name x npos) "extend" apos) [e] [] cpos) pos) (FG i m):=
 Cv (HB (N0 PySem.F.plainAttrs_list PySem.F.slot_list_extend PySem.F.type_list_extend OR (IC hN hv hd hcd) (Cu he D4 hs) hbase (by rw[hs]; rfl) hline hs rfl) hw) fun _ _ _ h=>V9 h
theorem MU(i:Nat)(hN:X.N[i]? = some x)(hv:Vis X.env.scope x)(hd:(x==("__debug__" : Str))=false)(hcd:(x==("__classdict__" : Str))=false)(ha:∀v,assign (.Subscript (.Name x npos) b pos') X.env v=(do
   let ov <- holding [v] (eval (.Name x npos) X.env)
   let iv <- holding [v,ov] (eval b X.env)
   standAt pos'
   holding [v,ov,iv] (setItem ov iv v)
   release [v,ov,iv] []))(hs:swapsWithSole [.Subscript (.Name x npos) b pos'] e pos.line X.env=pure false)(hw:swappedStores [.Subscript (.Name x npos) b pos'] e X.env=pure none)(h1:(assignEach [.Subscript (.Name x npos) b pos'] X.env).map (·.2)=[assign (.Subscript (.Name x npos) b pos') X.env])(hk:JE X b m1)(he:JE X e m2):JS X (.Assign [.Subscript (.Name x npos) b pos'] e pos) (Ji i m1 m2):=
 Cv (VA he (Vv (IC hN hv hd hcd) hk set_list ha) hs hw h1) fun _ _ _ h=>Wb h
end
end J
end
section
namespace PySem
open Sem (wp)
theorem JD.miss_keys:typeLookup (.type "list") "keys" = pure none:=am_miss_of_fast dK
theorem JD.entry_loop:entryFor table "dict.update.loop" = some Builtin.«dict.update.loop»:=entryFor_of_tree (by kernel_rfl)
theorem JD.plain_loop:plainId "dict.update.loop" = true:=by decide +kernel
theorem JD.getAttrQ_miss{prog:Program}{w:World}{A:Around}{E:Value->Shared->Prop}{s:Shared}{a:Addr}{o:Obj}{xs:Array Value}{k:Nat}{name:Str}{Q:Option Value->Shared->Prop}(hx:s.heap.get? a=some o)(hc:o.cls=.type "list")(hdat:o.data=.seq xs k)(hd:o.dict=none)(hmiss:typeLookup (.type "list") name=pure none)(hname:(["__module__","__name__","__qualname__","__doc__","__annotations__"]:List Str).contains name=false)(hA:A.handled=none)(h:∀h' tk e,Heap.NewExcOf s.heap h' e "AttributeError" -> Q none { s with heap:=h',toks:=tk })(hsz:name.length+100<=sizeLine:=by size_fits):
  wpAny (model prog w) A (getAttr? (.ref a) name) Q E s:=by
 obtain⟨c,dct,dat,sl⟩:=o;simp only at hc hdat hd;subst hc hdat hd;obtain⟨hp,g,d,tk,os⟩:=s;have hT:∀tk',(⟨hp,g,d,tk',os⟩:Shared).TypeIs (.ref a) "list" := fun _=>⟨_,hx,rfl⟩;have f1:=sub_AttributeError;have f3:=F.slot_list_getattribute.lookup;have f4:=F.slot_list_getattribute.bind (.ref a);have f5:=am_list_getattr_none;unfold getAttr? getAttrBy? getAttrBy;repeat (any_goals (first|assumption|exact hT _|((with_reducible show wpAny _ _ (call (Value.builtin "list.__getattribute__") _ _) _ _ _); refine call_meets F.slot_list_getattribute (hT _) am_entry_list_getattribute (F.args_list_getattribute_2 _ _) (meets_getattribute_miss_list a xs k sl name _ hmiss hname hsz) ⟨hx,hA,fun h' tk' e hx'=>?_⟩)|wp_step))
 obtain⟨t',u',he⟩:=hx'.there;show wpAny _ _ (getattributeRaised _ _ _ _ _ _ _) _ _ _;unfold getattributeRaised;repeat (any_goals (first|assumption|wp_step))
 exact h _ _ _ hx'.of
theorem JD.dict_keep{prog:Program}{w:World}{Kk:Type}[DecidableEq Kk]{knd:KeyKind prog w Kk}{h h':Heap}{d:Addr}{kvs:List (Kk×Value)}(hd:h.DictOf knd d kvs)(k:∀o,h.get? d=some o->h'.get? d=some o):h'.DictOf knd d kvs:=by
 obtain⟨o,es,ep,ho,r⟩:=hd;exact⟨o,es,ep,k o ho,r⟩
section
variable{prog:Program}{w:World}{Kk:Type}[DecidableEq Kk]{knd:KeyKind prog w Kk}{A:Around}{E:Value->Shared->Prop}{R:Result->Shared->Prop}
theorem JD.pairItems{s:Shared}{t:Addr}{its:Array Value}{Q:List Value->Shared->Prop}(ht:PyProof.Rows.IsTup s.heap t its)(h:Q its.toList s):wpAny (model prog w) A (Builtin.Dict.pairItems (.ref t)) Q E s:=by
 obtain⟨o,ho,hc,n,hd⟩:=ht;unfold Builtin.Dict.pairItems;refine wpAny_bind (wpAny_typeOf (T := "tuple") ⟨o,ho,hc⟩ ?_);rw[if_pos (by decide)];unfold seqItems?;refine wpAny_bind (wpAny_bind (wpAny_load ho ?_));rw[hd];exact wpAny_pure (wpAny_pure h)
theorem JD.stored_new{kvs:List (Kk×Value)}{i:Nat}(hi:i<kvs.length)(nd:(kvs.map (·.1)).Nodup):stored (kvs.take i) (kvs[i]).1 (kvs[i]).2=kvs.take (i+1):=by
 unfold stored;rw[if_neg]
 .rw[List.take_succ,List.getElem?_eq_getElem hi]
  rfl
 .intro h
  rw[List.any_eq_true] at h;obtain⟨x,hx,he⟩:=h;obtain⟨j,hj,rfl⟩:=mem_iff_getElem.mp hx;rw[length_take] at hj;have hj':j<i:=by lia
  have e1:(kvs.take i)[j]=kvs[j]:=by simp
  rw[e1] at he;have e2:(kvs[j]).1=(kvs[i]).1:=by simpa using he
  have n:=pairwise_iff_getElem.mp nd j i (by simpa using(by lia:j<kvs.length)) (by simpa using hi) hj';simp at n;exact n e2
theorem JD.loop{I l d:Addr}{items:Array Value}{kvs:List (Kk×Value)}(hA:A.handled=none)(hIl:l≠I)(hId:d≠I)(hld:d≠l)(hsz:kvs.length<=sizeLine)(hnd:(kvs.map (·.1)).Nodup)(hlen:items.size=kvs.length)(ts:Nat->Addr)(hit:∀i (h:i<kvs.length),items[i]? = some (.ref (ts i)))(htd:∀i,i<kvs.length->ts i≠d/\ts i≠I):
  ∀(k i:Nat) (s:Shared) (tk:Tok),kvs.length-i=k->i<=kvs.length->s.heap.IsListIter I l i->s.heap.IsList l items->s.heap.DictOf knd d (kvs.take i) ->
   (∀j (h:j<kvs.length),∃key,knd.is (kvs[j]).1 key=true/\PyProof.Rows.IsTup s.heap (ts j) #[key,(kvs[j]).2]) ->
   (∀h' tk',h'.DictOf knd d kvs->(∀b o,b≠I->b≠d->s.heap.get? b=some o->h'.get? b=some o)->R (.ok (.ret .none)) { s with heap:=h',toks:=tk' }) ->
   codeAny (model prog w) A (.builtin "dict.update.loop" ⟨[.ref d,.ref I,.int (i:Int) tk,.none],[]⟩) R s:=by
 intro k;induction k with
 | zero =>
  intro i s tk hk hi hst hl hd ht hR;have hin:i=kvs.length:=by lia
  subst hin;refine codeAny_builtin JD.entry_loop ?_;rw[Around.under_plainId JD.plain_loop _];have W:=Walks.list (prog:=prog) (w:=w) (A:=A.in1) (by exact hA) I l hIl items;show wpAny _ A.in1 (pyNext (.ref I) >>= _) _ _ s;refine wpAny_bind (W.done s _ _ ⟨by rw[hlen]; exact hst,hl⟩ fun h' tk' hk'=>?_);have hd':h'.DictOf knd d kvs:=by
   rw[take_length] at hd;exact JD.dict_keep hd fun o e=>hk' d o (by simpa using hId) e
  show wpAny _ _ (Builtin.Dict.addKeywords d [] >>= fun _=>ret Value.none) _ _ _;exact wpAny_bind (wpAny_pure (wpAny_pure (hR h' tk' hd' fun b o hb _ e=>hk' b o (by simpa using hb) e)))
 | succ k ih =>
  intro i s tk hk hi hst hl hd ht hR;have hlt:i<kvs.length:=by lia
  refine codeAny_builtin JD.entry_loop ?_;rw[Around.under_plainId JD.plain_loop _];have W:=Walks.list (prog:=prog) (w:=w) (A:=A.in1) (by exact hA) I l hIl items;show wpAny _ A.in1 (pyNext (.ref I) >>= _) _ _ s;refine wpAny_bind (W.item i s _ _ (by rw[hlen]; exact hlt) ⟨hst,hl⟩ fun v h' tk' hv st' hk'=>?_);rw[hit i hlt] at hv;cases hv;have keepI:∀b o,b≠I->s.heap.get? b=some o->h'.get? b=some o:=fun b o hb e=>hk' b o (by simpa using hb) e;have ht':∀j (h:j<kvs.length),∃key,knd.is (kvs[j]).1 key=true/\PyProof.Rows.IsTup h' (ts j) #[key,(kvs[j]).2]:=fun j h=>by
   obtain⟨key,h1,o,h2,h3⟩:=ht j h;exact⟨key,h1,o,keepI _ o (htd j h).2 h2,h3⟩
  have hd':h'.DictOf knd d (kvs.take i):=JD.dict_keep hd fun o e=>keepI d o hId e;obtain⟨key,hkey,htup⟩:=ht' i hlt;refine wpAny_bind (wpAny_holding ?_);refine wpAny_bind (wpAny_tryCatch (JD.pairItems (s:={ s with heap:=h',toks:=tk' }) htup ?_));show wpAny _ _ (holding [key,(kvs[i]).2] (dictSet d key (kvs[i]).2)) _ _ _;have hl2:(kvs.take i).length<=sizeLine:=by rw[length_take]; lia
  refine wpAny_holding (wpAny_dictSet_pairs (s:={ s with heap:=h',toks:=tk' }) (hsz:=hl2) hkey hd' fun h2 hd2 hs2=>?_);rw[JD.stored_new hlt hnd] at hd2;have keep2:∀b o,b≠d->h'.get? b=some o->h2.get? b=some o:=fun b o hb e=>(hs2.2 b hb).trans e;refine wpAny_pure ⟨plainId_quiet JD.plain_loop _,?_⟩;have e1:rawInt ((i:Int)+1)=.int (((i+1:Nat)):Int) 0:=rfl;rw[e1];refine ih (i+1) { s with heap:=h2,toks:=tk'+1 } 0 (by lia) hlt ?_ ?_ hd2 (fun j h=>?_) fun h3 tk3 hd3 hk3=>?_
  .exact st'.1.at fun o e=>keep2 I o (Ne.symm hId) e
  .exact st'.2.at fun o e=>keep2 l o (Ne.symm hld) e
  .obtain⟨key,h1,o,h2',h3'⟩:=ht' j h
   exact⟨key,h1,o,keep2 _ o (htd j h).1 h2',h3'⟩
  .exact hR h3 tk3 hd3 fun b o hb hb2 e=>hk3 b o hb hb2 (keep2 b o hb2 (keepI b o hb e))
theorem JD.call{s:Shared}{l:Addr}{items:Array Value}{kvs:List (Kk×Value)}{Q:Value->Shared->Prop}{ol:Obj}{nl:Nat}(hA:A.handled=none)(hol:s.heap.get? l=some ol)(hcl:ol.cls=.type "list")(hdl:ol.data=.seq items nl)(hdd:ol.dict=none)(hsz:kvs.length<=sizeLine)(hnd:(kvs.map (·.1)).Nodup)(hlen:items.size=kvs.length)(ts:Nat->Addr)(hit:∀i (h:i<kvs.length),items[i]? = some (.ref (ts i)))(ht:∀j (h:j<kvs.length),∃key,knd.is (kvs[j]).1 key=true/\PyProof.Rows.IsTup s.heap (ts j) #[key,(kvs[j]).2])(h:∀h' tk',h'.DictOf knd s.heap.objs.size kvs->(∀b o,s.heap.get? b=some o->h'.get? b=some o)->Q (.ref s.heap.objs.size) { s with heap:=h',toks:=tk' }):
  wpAny (model prog w) A (call (.type "dict") [.ref l]) Q E s:=by
 refine callType_codes (Q₁:=fun obj s₁=>obj=.ref s.heap.objs.size/\s₁={ s with heap:=s.heap.push { cls:=.type "dict",data:=.dict #[] } }) F.kt_called_dict (F.kt_typeCall_dict_1 _) F.entry_dict_init (kt_code_dict_new _ ⟨rfl,rfl⟩) ?_;rintro obj s₁ ⟨rfl,rfl⟩;have hnew:(s.heap.push { cls:=.type "dict",data:=.dict #[] }).DictOf knd s.heap.objs.size []:=Heap.DictOf.new s.heap;have hol':(s.heap.push { cls:=.type "dict",data:=.dict #[] }).get? l=some ol:=Heap.get?_push_of_some _ hol;have hdo:l≠s.heap.objs.size:=fun e=>absurd (lt_size hol) (by rw[e]; exact lt_irrefl _);have hts:∀i,i<kvs.length->ts i<s.heap.objs.size:=fun i hi=>by
  obtain⟨_,_,o,ho,_⟩:=ht i hi;exact lt_size ho
 refine⟨hnew.typeIs,F.args_dict_init_2 _ _,?_⟩;unfold Builtin.«dict.__init__»;refine wpAny_bind ?_;unfold Builtin.Dict.selfAndRest;refine wpAny_bind (wpAny_notOrdered_dict hnew.typeIs ?_);show wpAny _ _ (pure (s.heap.objs.size,[Value.ref l])) _ _ _;refine wpAny_pure ?_;show wpAny _ _ (Builtin.Dict.updateFrom "dict.__init__" s.heap.objs.size (.ref l) [] .none) _ _ _;unfold Builtin.Dict.updateFrom;refine wpAny_bind (wpAny_typeOf (T := "list") ⟨ol,hol',hcl⟩ ?_);rw[if_pos (by decide)];refine wpAny_bind (JD.getAttrQ_miss hol' hcl hdl hdd JD.miss_keys dK (by exact hA) (fun h1 tk1 e x=>?_) dK);simp only[Option.isNone_none,if_true];have keep1:∀b o,s.heap.get? b=some o->h1.get? b=some o:=fun b o e=>x.keeps b o (Heap.get?_push_of_some _ e);have hbig:s.heap.objs.size<h1.objs.size:=by
  obtain⟨o,_,_,ho,_⟩:=hnew;exact lt_size (x.keeps _ _ ho)
 refine wpAny_bind (wpAny_rule (wpAny_bind (wpAny_pyIter_list (items:=items) ⟨ol,keep1 _ _ hol,hcl,nl,hdl⟩ ?_)));refine wpAny_pure ⟨plainId_quiet JD.plain_loop _,?_⟩;have e1:rawInt 0=.int (((0:Nat)):Int) 0:=rfl;rw[e1];have hIs:∀b,b<h1.objs.size->b≠h1.objs.size:=fun b hb=>ne_of_lt hb;have hl1:l<h1.objs.size:=lt_size (keep1 _ _ hol);refine JD.loop (knd:=knd) (I:=h1.objs.size) (l:=l) (d:=s.heap.objs.size) (kvs:=kvs) (items:=items) (by exact hA) (hIs _ hl1) (hIs _ hbig) (Ne.symm hdo) hsz hnd hlen ts hit (fun i hi=>⟨ne_of_lt (hts i hi),hIs _ (lt_trans (hts i hi) hbig)⟩) kvs.length 0 _ 0 (by lia) (zero_le _) ?_ ?_ ?_ ?_ ?_
 .exact⟨_,Heap.get?_push_size _ rfl,rfl,rfl⟩
 .exact⟨ol,Heap.get?_push_of_some _ (keep1 _ _ hol),hcl,nl,hdl⟩
 .rw[take_zero]
  exact JD.dict_keep hnew fun o e=>Heap.get?_push_of_some _ (x.keeps _ _ e)
 .intro j hj
  obtain⟨key,h1',o,h2,h3⟩:=ht j hj;exact⟨key,h1',o,Heap.get?_push_of_some _ (keep1 _ _ h2),h3⟩
 .intro h' tk' hd' hk'
  refine⟨rfl,h h' tk' hd' fun b o e=>?_⟩;have lt:=lt_size e;exact hk' b o (hIs _ (lt_trans lt hbig)) (ne_of_lt lt) (Heap.get?_push_of_some _ (keep1 _ _ e))
end
end PySem
end
section
namespace L2
open PySem PySem.Spec PyProof.Rows
section
variable{κ:Type}[DecidableEq κ]
noncomputable def Hw(kvs:List (κ×V))(k : κ):Option V:=(kvs.find? fun kv=>decide (kv.1=k)).map (·.2)
theorem Ml{p : κ×V}{r:List (κ×V)}{k : κ}(e:p.1=k):Hw (p::r) k=some p.2:=by simp[Hw,List.find?_cons,e]
theorem Mk{p : κ×V}{r:List (κ×V)}{k : κ}(e:¬p.1=k):Hw (p::r) k=Hw r k:=by simp[Hw,List.find?_cons,e]
theorem KV.val{kvs:List (κ×V)}{vs:List (κ×Value)}(r:KV kvs vs)(k : κ):JQ (Hw kvs k) (valueAt vs k):=by
 unfold KV at r;induction r with
 | nil=>exact True.intro
 | @cons p q ps qs h t ih =>
  obtain⟨h1,h2⟩:=h;by_cases e:p.1=k
  .have e':q.1=k:=h1.symm.trans e
   have b:valueAt (q::qs) k=some q.2:=by simp[valueAt,List.find?_cons,e']
   rw[Ml e,b]; exact h2
  .have e':¬q.1=k:=fun z=>e (h1.trans z)
   have b:valueAt (q::qs) k=valueAt qs k:=by simp[valueAt,List.find?_cons,e']
   rw[Mk e,b]; exact ih
theorem KV.keys{kvs:List (κ×V)}{vs:List (κ×Value)}(r:KV kvs vs):kvs.map (·.1)=vs.map (·.1):=by
 unfold KV at r;induction r with
 | nil=>rfl
 | cons h t ih=>rw[map_cons,map_cons,ih,h.1]
theorem KV.length{kvs:List (κ×V)}{vs:List (κ×Value)}(r:KV kvs vs):kvs.length=vs.length:=Paired.length r
end
theorem Ql{P:Program}{w:World}{k:Key}{u:Value}(r:RelV (kV k) u):(Cc P w).is k u=true:=by
 cases k with
 | inl i=>obtain⟨t,e⟩:=(show ∃t,u=Value.int i t from r); subst e; exact LD P w i t
 | inr x=>obtain⟨t,e⟩:=(show ∃t,u=Value.str x t from r); subst e; exact LF P w x t
theorem Jz{P:Program}{w:World}:∀{ks:List Key} {us:List Value},Vals (ks.map kV) us->ItemsAre (Cc P w) ks us
 | [],_,r=>by rw[map_nil] at r; cases r; exact .nil
 | k::ks,_,r=>by
  rw[map_cons] at r;cases r with
  | cons h t=>exact .cons (Ql h) (Jz t)
noncomputable abbrev KT(H:Hp):List (List Key×V)->List (List Key×Addr×Value)->Prop:=Paired fun p q=>p.1=q.1/\H q.2.1=some (.tup (p.1.map kV))/\RelV p.2 q.2.2
theorem KT.val{H:Hp}{kvs:List (List Key×V)}{xs:List (List Key×Addr×Value)}(r:KT H kvs xs)(k:List Key):JQ (Hw kvs k) ((atKey xs k).map (·.2)):=by
 induction r with
 | nil=>exact True.intro
 | @cons p q ps qs h t ih =>
  obtain⟨h1,_,h2⟩:=h;by_cases e:p.1=k
  .have e':q.1=k:=h1.symm.trans e
   have b:atKey (q::qs) k=some q.2:=by simp[atKey,List.find?_cons,e']
   rw[Ml e,b]; exact h2
  .have e':¬q.1=k:=fun z=>e (h1.trans z)
   have b:atKey (q::qs) k=atKey qs k:=by simp[atKey,List.find?_cons,e']
   rw[Mk e,b]; exact ih
section
variable{P:Program}{w:World}{H:Hp}{h:Heap}{a:Addr}
theorem T4{u:HO}(ok:HOk P w H h)(e:Rd H a u):BN P w H h a u:=e.ok ok
theorem TK{kvs:List (Key×V)}(ok:HOk P w H h)(e:Rd H a (.dK kvs)):kvs.length<=sizeLine/\(a==sysModules)=false/\∃vs,KV kvs vs/\h.DictOf (Cc P w) a vs:=
 show BN P w H h a (.dK kvs) from T4 ok e
theorem Qm{ks:List Key}(ok:HOk P w H h)(e:H a=some (.tup (ks.map kV))):(tupleKind (Cc P w)).is h ks a:=by
 obtain⟨_,its,r,o,h1,h2,n,h3⟩:=(show BN P w H h a (.tup (ks.map kV)) from ok a _ e);exact⟨o,its.toArray,n,h1,h2,h3,by simpa using Jz r⟩
theorem TL{kvs:List (List Key×V)}(ok:HOk P w H h)(e:Rd H a (.dT kvs)):kvs.length<=sizeLine/\(a==sysModules)=false /\
  ∃xs,KT H kvs xs/\h.DictOfH (tupleKind (Cc P w)) a xs:=by
 obtain⟨z,y,xs,r,o,es,ep,h1,h2,h3,h4,h5⟩:=(show BN P w H h a (.dT kvs) from T4 ok e);refine⟨z,y,xs,r,o,es,ep,h1,h2,h3,h4,fun x hx=>?_,h5⟩;have all:∀{l:List (List Key×V)} {m:List (List Key×Addr×Value)},KT H l m->∀x∈m,(tupleKind (Cc P w)).is h x.1 x.2.1:=by
  intro l m q;induction q with
  | nil=>intro x hx; exact nomatch hx
  | @cons p q ps qs hq t ih =>
   intro x hx;rcases mem_cons.mp hx with e|hx
   .subst e
    exact Qm ok (by rw[<- hq.1]; exact hq.2.1)
   .exact ih x hx
 exact all r x hx
end
noncomputable def Mm(H:Hp)(a:Addr)(y:V)(r:Option V):Prop:=
 (∃kvs k,Rd H a (.dK kvs)/\y=kV k/\r=Hw kvs k)\/∃kvs k b,Rd H a (.dT kvs)/\y=.ref b/\H b=some (.tup (k.map kV))/\r=Hw kvs k
theorem Mm.k{H:Hp}{a:Addr}{kvs:List (Key×V)}{k:Key}(e:H a=some (.dK kvs)):Mm H a (kV k) (Hw kvs k):=.inl ⟨kvs,k,.inl e,rfl,rfl⟩
section
variable{X:Cx}{pins:List (Addr×Obj)}{U:St}{H:Hp}{s:Shared}{a:Addr}{y v:V}{u r:Value}{o:Option V}{A:Around}{E:Value->Shared->Prop}
theorem Inv.big(I:Inv X pins U H s):sysModules<s.heap.objs.size:=by
 have h:mainGlobals<s.heap.objs.size:=(I.mod.glob.keeps I.bk).lt;exact lt_trans (by decide) h
theorem Ow{Q:Value->Shared->Prop}(hu:A.units+1<cLine)(I:Inv X pins U H s)(g:Mm H a y (some v))(ry:RelV y u)(h:∀w' s',Inv X pins U H s'->RelV v w'->Q w' s'):
  wpAny (model X.prog X.w) A (getItem (.ref a) u) Q E s:=by
 rcases g with ⟨kvs,k,e,ey,l⟩|⟨kvs,k,b,e,ey,eb,l⟩
 .subst ey
  obtain⟨z,hd,vs,rel,dd⟩:=TK I.hok e;obtain⟨w',hw,rw'⟩:=JQ.some_of (v:=v) (o:=valueAt vs k) (by rw[l]; exact rel.val k);exact wpAny_getItem_of (Ql ry) dd.mapOf hw (h w' _ (I.tok _) rw')
 .subst ey
  cases (show u=Value.ref b from ry);obtain⟨z,hd,xs,rel,dd⟩:=TL I.hok e;obtain⟨w',hw,rw'⟩:=JQ.some_of (v:=v) (o:=(atKey xs k).map (·.2)) (by rw[l]; exact rel.val k);obtain⟨p,hp,hp2⟩:=map_eq_some_iff.mp hw;refine wpAny_getItem_heap (tupleKind_room_in1 hu) (Qm I.hok eb) dd hp ?_;rw[hp2];exact h w' _ (I.tok _) rw'
end
section
variable{X:Cx}{pins:List (Addr×Obj)}{U:St}{H:Hp}{s:Shared}{a:Addr}{kvs:List (Key×V)}{k:Key}{u:Value}{A:Around}{E:Value->Shared->Prop}
end
noncomputable def Ub(i:Expr):Prop:=∀ov iv,subscripted i false ov iv=operate [ov,iv] (getItem ov iv)
theorem Tn{prog:Program}{w:World}{A:Around}{E:Value->Shared->Prop}{s:Shared}{env:Env}{value slice:Expr}{pos:Pos}{T id:String}{Q:Value->Shared->Prop}(hl:typeLookup (.type T) "__getitem__" = pure (some (.builtin id)))(hs:Ub slice)(h:wpAny (model prog w) A (eval value env) (fun o s₁=>wpAny (model prog w) A (eval slice env) (fun i s₂=>s₂.TypeIs o T/\wpAny (model prog w) A (getItem o i) Q E s₂) E s₁) E s):
  wpAny (model prog w) A (eval (.Subscript value slice pos) env) Q E s:=by
 refine Subscript_ (wpAny_mono h (fun o s₁ h₁=>wpAny_mono h₁ (fun i s₂ h₂=>?_) fun _ _ x=>x) fun _ _ x=>x);obtain⟨hT,h₂⟩:=h₂;unfold subscriptTail;refine wpAny_bind ?_;rw[getitemInPython_of_ne hT.not_modules];refine wpAny_bind (wpAny_specialOf hT hl ?_);have fin:wpAny (model prog w) A (subscripted slice false o i) (fun r s₃=>wpAny (model prog w) A (letTemporaryGo value o r >>= fun _=>pure r) Q E s₃) E s₂:=by
  rw[hs o i];exact wpAny_operating (wpAny_mono h₂ (fun r s₃ h₃=>wpAny_bind (wpAny_letTemporaryGo (wpAny_pure h₃))) fun _ _ x=>x)
 first
  | exact wpAny_pure (wpAny_bind fin)
  | exact wpAny_bind (wpAny_pure (wpAny_bind fin))
  | exact wpAny_bind fin
theorem Lf{X:Cx}{pins:List (Addr×Obj)}{U:St}{H:Hp}{s:Shared}{a:Addr}{y:V}{o:Option V}(I:Inv X pins U H s)(g:Mm H a y o):s.TypeIs (.ref a) "dict" := by
 rcases g with ⟨kvs,k,e,_,_⟩|⟨kvs,k,b,e,_,_,_⟩
 .obtain⟨_,_,vs,_,dd⟩:=TK I.hok e
  exact dd.typeIs
 .obtain⟨_,_,xs,_,dd⟩:=TL I.hok e
  exact dd.typeIs
noncomputable def Xb(td ty:TE):TE:=fun U H Q=>td U H fun x H1=>ty U H1 fun y H2=>∃a v,x=.ref a/\Mm H2 a y (some v)/\Q v H2
section
variable{X:Cx}{o i e value:Expr}{pos pos' tpos:Pos}{td ty tv:TE}
theorem SE(hu:X.A.units+1<cLine)(ho:PE X o td)(hi:PE X i ty)(hs:Ub i):PE X (.Subscript o i pos) (Xb td ty):=by
 intro pins s U H Q I h;refine Tn PySem.F.slot_dict_getitem.lookup hs (thn (ho pins s U H _ I h) fun u s1 ⟨x,H1,I1,rx,q1⟩=>thn (hi pins s1 U H1 _ I1 q1) fun iv s2 yy=>?_);obtain⟨y,H2,I2,ry,a,v,ex,g,q2⟩:=yy;subst ex;obtain rfl:u=Value.ref a:=rx;exact⟨Lf I2 g,Ow hu I2 g ry fun w' s3 I3 rw'=>⟨v,H2,I3,rw',q2⟩⟩
end
section
variable{X:Cx}{pos:Pos}
end
structure M1 (X:Cx) (o:Expr) (m:Str) (apos:Pos) (e:Expr) (cpos:Pos):Prop where
 base:attributeBase o m X.env (eval o X.env)=eval o X.env
 few:((backTo cpos (starEach [e] X.env)).all (fun x=>!x.1)&&(backToKw cpos (keywordEach [] X.env)).all (fun x=>x.1.isSome)
  && decide (([e]:List Expr).length+([]:List Keyword).length+(if ([]:List Keyword).isEmpty then 0 else 1)<30))=true
 line:(apos.endLine==cpos.line)=true
 trees:backTo cpos (starEach [e] X.env)=[(false,eval e X.env)]
structure M2 (X:Cx) (o:Expr) (m:Str) (apos:Pos) (e f:Expr) (cpos:Pos):Prop where
 base:attributeBase o m X.env (eval o X.env)=eval o X.env
 few:((backTo cpos (starEach [e,f] X.env)).all (fun x=>!x.1)&&(backToKw cpos (keywordEach [] X.env)).all (fun x=>x.1.isSome)
  && decide (([e,f]:List Expr).length+([]:List Keyword).length+(if ([]:List Keyword).isEmpty then 0 else 1)<30))=true
 line:(apos.endLine==cpos.line)=true
 trees:backTo cpos (starEach [e,f] X.env)=[(false,eval e X.env),(false,eval f X.env)]
section
variable{X:Cx}{pins:List (Addr×Obj)}{U:St}{H:Hp}{s:Shared}{a:Addr}{y d:V}{u r:Value}{o:Option V}{A:Around}{E:Value->Shared->Prop}
end
section
variable{X:Cx}{o e f:Expr}{apos cpos:Pos}{td ty tx:TE}
end
section
variable{X:Cx}{pins:List (Addr×Obj)}{U:St}{H:Hp}{s:Shared}{a:Addr}{kvs:List (Key×V)}{A:Around}{E:Value->Shared->Prop}
end
section
variable{X:Cx}{pins:List (Addr×Obj)}{U:St}{H:Hp}{s:Shared}{a:Addr}{y:V}{u:Value}{A:Around}{E:Value->Shared->Prop}
end
section
variable{X:Cx}
end
section
variable{X:Cx}
noncomputable def JP(K:Frag)(H:Hp):List V->List (Key×V)->Prop:=Paired fun v u=>∃t,v=.ref t/\SqT K H t [kV u.1,u.2]
noncomputable def TZ(K:Frag):List V->Hp->VK->Prop:=fun xs H Q=>∃(p:Addr) (vs:List V) (us:List (Key×V)),xs=[.ref p]/\SqL K H p vs/\JP K H vs us/\(us.map (·.1)).Nodup/\∀l,H l=none->Q (.ref l) (upd H l (.dK us))
theorem Nc{pins:List (Addr×Obj)}{U:St}{H:Hp}{s:Shared}(I:Inv X pins U H s){vs:List V}{us:List (Key×V)}(hp:JP X.K H vs us):∃kvs:List (Key×Value),KV us kvs/\∀(i:Nat) v (h:i<kvs.length),vs[i]? = some v->∃t key,v=.ref t/\(Cc X.prog X.w).is (kvs[i]).1 key=true/\IsTup s.heap t #[key,(kvs[i]).2]:=by
 induction hp with
 | nil=>exact⟨[],.nil,fun i v h=>by simp at h⟩
 | @cons v u vs us r t ih =>
  obtain⟨kvs,h1,h2⟩:=ih;obtain⟨tp,rfl,hq⟩:=r;obtain⟨its,rv,ht,_⟩:=I.tuple hq;obtain⟨k',u',rfl,rk,ru⟩:=rv.two;refine⟨(u.1,u')::kvs,.cons ⟨rfl,ru⟩ h1,fun i w h e=>?_⟩;cases i with
  | zero =>
   simp at e;subst e;exact⟨tp,k',rfl,Ql rk,ht⟩
  | succ i=>exact h2 i w (by simpa using h) (by simpa using e)
theorem HL(hc:X.calm=true):B9 X (.type "dict") (TZ X.K):=by
 intro pins s U H xs us' Q I r h;obtain⟨p,vs,us,rfl,hq,hp,nd,q⟩:=h;obtain⟨u,rfl,ru⟩:=r.one;cases ru;obtain⟨its,rv,pl,hz⟩:=I.list hq;obtain⟨kvs,hkv,hall⟩:=Nc I hp;have l1:vs.length=us.length:=hp.length;have l2:us.length=kvs.length:=hkv.length;have l3:=rv.length;obtain⟨ol,nl,hol,hcl,hdd,hdl⟩:=pl;have keys:kvs.map (·.1)=us.map (·.1):=hkv.keys.symm;have key:∀(i:Nat) (h:i<kvs.length),∃t key,vs[i]? = some (.ref t)/\its.toArray[i]? = some (.ref t)/\(Cc X.prog X.w).is (kvs[i]).1 key=true/\IsTup s.heap t #[key,(kvs[i]).2]:=fun i h=>by
  have hv:vs[i]? = some (vs[i]'(by lia)):=by simp
  obtain⟨t,key,e1,e2,e3⟩:=hall i _ h hv;obtain⟨u,hu,ru⟩:=rv.get hv;rw[e1] at hv ru;cases ru;exact⟨t,key,hv,by simpa using hu,e2,e3⟩
 refine JD.call (knd:=Cc X.prog X.w) (kvs:=kvs) (items:=its.toArray) (I.ok.hd hc) hol hcl hdl hdd (by lia) (by rw[keys]; exact nd) (by simp; lia) (fun i=>match vs[i]? with|some (.ref t)=>t|_=>0) (fun i h=>?_) (fun i h=>?_) fun h' tk' hd hk=>?_
 .obtain⟨t,key,e1,e2,e3,e4⟩:=key i h
  rw[e1];exact e2
 .obtain⟨t,key,e1,e2,e3,e4⟩:=key i h
  rw[e1];exact⟨key,e3,e4⟩
 .have hS:(s.heap.objs.size==sysModules)=false:=by
   have:=I.big;have hne:s.heap.objs.size≠sysModules:=fun z=>by rw[z] at this; exact lt_irrefl _ this
   simpa using hne
  have hlz:us.length<=sizeLine:=by lia
  refine⟨.ref s.heap.objs.size,_,I.laid (t':=tk') (o:=.dK us) hk (le_refl _) ?_,rfl,q _ (I.hok.fresh (le_refl _))⟩;exact⟨hlz,hS,kvs,hkv,hd⟩
end
end L2
namespace J
open PySem PySem.Spec PyProof.Rows L2
section
variable{X:Cx}{a b c e:Expr}{es:List Expr}{m m1 m2 m3:ME}{ms:MA}{p pos pos' p2 apos cpos q npos:Pos}{x:Str}
variable{K:Frag}{N:Addr->Prop}{H:Hp}{U:L2.St}{v:V}{L:List Addr}
noncomputable def Ja:D->Option Key
 | .int i=>some (.inl i)
 | .str z=>some (.inr z)
 | .non | .bl _ | .lst _ | .tup _=>none
noncomputable def Gf:List D->Option (List (Key×D))
 | []=>some []
 | .tup [k,d]::ds=>(Ja k).bind fun k=>(Gf ds).map ((k,d) :: ·)
 | _::_=>none
noncomputable def Gs:List A->Option A:=on1 fun a=>(Cq a).bind fun ds=>(Gf ds).bind fun kvs=>if (kvs.map (·.1)).Nodup then some (.dic kvs) else none
theorem Qn{d:D}{k:Key}(r:RepA N H v d)(e:Ja d=some k):v=kV k:=by
 cases d with
 | int i=>simp only[Ja,Option.some.injEq] at e; subst e; cases r; rfl
 | str z=>simp only[Ja,Option.some.injEq] at e; subst e; cases r; rfl
 | _=>simp[Ja] at e
theorem QF:∀{vs:List V} {ds:List D} {kvs:List (Key×D)},Av N H vs ds->Gf ds=some kvs->∃us:List (Key×V),JP K H vs us/\Paired (fun(u:Key×V) (k:Key×D)=>u.1=k.1/\RepA N H u.2 k.2) us kvs:=by
 intro _l;induction _l with
 | nil =>
  intro _m;cases _m with
  | nil =>
   intro kvs _ e;simp only[Gf,Option.some.injEq] at e;subst e;exact⟨[],.nil,.nil⟩
  | cons _ _ =>
   intro _ q _;simp only[Av] at q
 | cons v vs ih =>
  intro _m;cases _m with
  | nil =>
   intro _ q _;simp only[Av] at q
  | cons d ds =>
   intro kvs q e;unfold Gf at e;split at e
   .rename_i h; cases h
   .rename_i k' d' ds' h
    cases h;simp only[bind_eq_some_iff,map_eq_some_iff] at e;obtain⟨k,e1,kvs',e2,rfl⟩:=e;obtain⟨us,h1,h2⟩:=ih q.2 e2;have q1:=q.1;cases q1 with
    | @tup a ws _ hh hz hl hr =>
     obtain⟨w1,w2,rfl⟩:=Sa hl;have r1:=hr 0 w1 k' rfl rfl;have r2:=hr 1 w2 d' rfl rfl;have ek:=Qn r1 e1;refine⟨(k,w2)::us,.cons ⟨a,rfl,.inl (.inl ?_)⟩ h1,.cons ⟨rfl,r2⟩ h2⟩;rw[hh,ek]
   .cases e
theorem LU{us:List (Key×V)}{kvs:List (Key×D)}(hp:Paired (fun(u:Key×V) (k:Key×D)=>u.1=k.1/\RepA N H u.2 k.2) us kvs):us.map (·.1)=kvs.map (·.1):=by
 induction hp with
 | nil=>rfl
 | cons r t ih=>rw[map_cons,map_cons,r.1,ih]
theorem NW:OpN K Gs (TZ K):=by
 intro N H xs as b Q hs e k
 replace e:=D3 e
 obtain⟨a,rfl,e⟩:=e;simp only[bind_eq_some_iff] at e;obtain⟨ds,e1,kvs,e2,e3⟩:=e;split at e3
 .rename_i hn
  cases e3;obtain⟨x,L1,rfl,h1⟩:=Dm hs;obtain⟨p,vs,rfl,hp,hz,q⟩:=CT h1 e1;obtain⟨us,g1,g2⟩:=QF (K:=K) q e2;refine⟨p,vs,us,rfl,.inl (.inl hp),g1,by rw[LU g2]; exact hn,fun l hl=>k _ _ ?_⟩
  have sm:=Dp (o:=.dK us) hl;refine⟨sm,[l],?_,by simp,fun b hb=>by simp at hb; rw[hb]; exact hl⟩;rw[AA];have hlen:us.length<=sizeLine:=by
   have:=Paired.length g1;lia
  refine⟨l,us,rfl,rfl,AN,hlen,Paired.mapQ g2 fun u kd r=>⟨r.1,r.2.tr (M:=fun _=>False) (fun _ z=>z.elim) (DL.kept sm) fun b z=>?_⟩⟩;rcases z with z|z
  .exact .inl z
  .simp at z; subst z; exact .inr hl
 .cases e3
noncomputable def Pq(kvs:List (Key×D))(k:Key):Option D:=(kvs.find? fun kv=>decide (kv.1=k)).map (·.2)
theorem Wj{k:Key}{us:List (Key×V)}{kvs:List (Key×D)}(hp:Paired (fun(u:Key×V) (k:Key×D)=>u.1=k.1/\RepA N H u.2 k.2) us kvs){d:D}(e:Pq kvs k=some d):∃v,Hw us k=some v/\RepA N H v d:=by
 induction hp with
 | nil=>simp[Pq] at e
 | @cons u kd us kvs r t ih =>
  simp only[Pq,Hw,List.find?_cons] at e |-;by_cases h:kd.1=k
  .have h':u.1=k:=r.1.trans h
   simp only[h,decide_true,map_some,Option.some.injEq] at e;simp only[h',decide_true,map_some,Option.some.injEq,exists_eq_left'];subst e;exact r.2
  .have h':¬u.1=k:=fun z=>h (r.1.symm.trans z)
   simp only[h,decide_false] at e;simp only[h',decide_false];exact ih e
noncomputable def GU:List A->Option A:=on2 fun q1 q2=>(EL q1).bind fun kvs=>(fzU q2).bind fun d=>(Ja d).bind fun k=>(Pq kvs k).map A.fz
theorem UY:OpN K GU (r2L fun x y H Q=>∃a v,x=.ref a/\Mm H a y (some v)/\Q v H):=by
 intro N H xs as b Q hs e k
 replace e:=BZ e
 obtain⟨q1,q2,rfl,e⟩:=e
 replace e:=bind_eq_some_iff.mp e
 obtain⟨kvs,eq1,e⟩:=e;cases RP eq1;clear eq1
 replace e:=bind_eq_some_iff.mp e
 obtain⟨d,eq2,e⟩:=e;cases Kd eq2;clear eq2;simp only[bind_eq_some_iff,map_eq_some_iff] at e;obtain⟨ky,e1,d',e2,rfl⟩:=e;obtain⟨x,y,L1,L2,rfl,h1,h2⟩:=Bl hs;rw[AA] at h1;obtain⟨a,us,rfl,rfl,ha,hz,hp⟩:=h1;obtain⟨_,h2⟩:=GK.mp h2;cases Qn h2 e1;obtain⟨v,hv,rv⟩:=Wj hp e2;refine⟨_,_,rfl,a,v,rfl,?_,k _ _ (G7 rv)⟩;rw[<- hv];exact Mm.k ha
theorem MM{k:Nat}(hr:Room k X.A)(hs:Ub b)(ha:JE X a m1)(hb:JE X b m2):JE X (.Subscript a b pos) (opM GU (m2L m1 m2)):=by
 refine AM (SE (WE hr) ha hb hs) fun U H Q h=>?_;exact tE.mono (two UY h) fun x H1 h1=>tE.mono h1 fun y H2 h2=>h2
end
section
variable{P:Program}{w:World}{K:Frag}{mg:Str->Option Value}{base:Heap}
theorem Bt{x qual:Str}{st:Stmt}{f:Addr}{fd:FuncData}{N ps:List Str}{k:Nat}{m:MS}(F:Fun K x qual st f fd)(S:FnScope N ps (As st))(hb:∀(cdv:Value) (A:Around) (outer:List Env) (s:Shared) (H:Hp) (E:XK),Room k (A.deeper (envOfC qual (As st) s.heap.objs.size f cdv))->JSs (Bx CX0 P w K mg base N qual (As st) f cdv A outer s H E).nox (BV st) m):
  FnOk P w K mg base CX0 (k+1) f fd ps (spJ K (fnM ps.length N.length m) ps.length):=by
 refine F.ok S (fun vs H Q E h=>?_) fun cdv A outer s H vs Q E hr h=>⟨_,hb cdv A outer s H E hr,?_⟩
 .obtain⟨_,_,_,h,_⟩:=h
  exact h
 .have hl:vs.length=ps.length:=by
   obtain⟨_,_,_,h,_⟩:=h;exact h
  have:=J0 h;unfold L2.start;rw[hl];exact this
theorem Ap{np nn:Nat}{b:MS}:∀args y,fnM np nn b args=some y->args.length=np:=fun args y e=>by
 unfold fnM at e;split at e
 .rename_i h; exact h
 .cases e
theorem UR{Φ:Fn}{H:Hp}{a:Addr}{ns:List Int}{as':List A}{E:XK}(hl:ns.length<=63)(hO:RE H)(hS:SqL K H a (ns.map V.int))(e : Φ [(.ro,.scr ns)]=some (.fz (.bl true),as')):spJ K Φ 1 [.ref a] H (fun v _=>v=.bl true) E:=by
 refine⟨[(.ro,.scr ns)],fun _=>False,fun _=>[],rfl,⟨rfl,fun i st b h=>?_,fun _ _=>rfl,fun _=>nodup_nil,fun i j p h=>by simp at h,fun i p h=>by simp at h,fun p z=>?_⟩,_,_,e,fun v H' ⟨L,fp',p,q⟩=>?_⟩
 .cases i with
  | zero =>
   simp at h;obtain⟨rfl,rfl⟩:=h;refine⟨.ref a,rfl,?_⟩;rw[AA];refine⟨a,rfl,rfl,fun H' k=>?_,le_trans hl (by decide)⟩;rcases hS with (h|⟨o,h⟩)|h
   .rcases hO a with z|⟨o,xs,z⟩|⟨ps,z⟩
    .rw[z] at h; cases h
    .rw[z] at h; cases h
    .rw[z] at h; cases h
   .exact .inl (.inr ⟨o,k _ _ h⟩)
   .exact .inr h
  | succ i=>simp at h
 .rcases z with ⟨i,z⟩|z
  .simp at z
  .exact z.elim
 .exact Q1 q rfl
end
end J
end
section
namespace J
open PySem PySem.Spec PyProof.Rows L2
noncomputable def moves:List R->Ro->Option (List A×Ro)
 | [],Z=>some ([],Z)
 | r::rs,Z=>(move Z r).bind fun p=>(moves rs p.2).map fun q=>(p.1::q.1,q.2)
noncomputable def FJ(m:MA):ME:=fun Z=>(m Z).bind fun p=>(moves p.1 p.2).bind fun q=>if q.1.length<=LIM then some (.val (mkT q.1),q.2) else none
section
variable{K:Frag}{Z Z' Z1 Z2:Ro}{U σ' σ1 σ2:L2.St}{H H' H1 H2:Hp}{O O' N:Addr->Prop}{fp fp' fp1 fp2:Nat->List Addr}{L L1:List Addr}
theorem Post.perm{L':List Addr}(x:Post K O fp H Z Z1 U σ1 L fp1 H1)(h:∀p,p∈L'↔p∈L)(nd:L'.Nodup):Post K O fp H Z Z1 U σ1 L' fp1 H1:=
 ⟨x.rel.congr fun p=>or_congr Iff.rfl (h p).symm,nd,fun p hp=>x.lo p ((h p).mp hp),fun p hp=>x.new p (hp.imp (h p).mp id),x.kept,x.ln,x.stab⟩
theorem Post.give{i:Nat}{a:A}{v:V}(x:Post K O fp H Z Z1 U U L fp1 H1)(ha : Z1[i]? = some (some (.own,a)))(hv : U[i]? = some (some v)):
  Post K O fp H Z (Z1.set i none) U U (L++fp1 i) (pt fp1 i []) H1/\AA K (NN fp1 (ad O L)) H1 v a (fp1 i)/\∀p,NN (pt fp1 i []) (ad O (L++fp1 i)) p↔NN fp1 (ad O L) p:=by
 obtain⟨v',hv',q⟩:=x.rel.slot i _ _ ha;rw[hv] at hv'; cases hv';have nn:∀p,NN (pt fp1 i []) (ad O (L++fp1 i)) p↔NN fp1 (ad O L) p:=fun p=>by
  constructor
  .intro z
   rcases z with ⟨j,z⟩|z|z
   .rcases BM z with ⟨_,z⟩|⟨_,z⟩
    .simp at z
    .exact .inl ⟨j,z⟩
   .exact .inr (.inl z)
   .rcases mem_append.mp z with z|z
    .exact .inr (.inr z)
    .exact .inl ⟨i,z⟩
  .intro z
   rcases z with ⟨j,z⟩|z|z
   .by_cases hj:j=i
    .subst hj; exact .inr (.inr (mem_append_right _ z))
    .exact .inl ⟨j,by rw[Hj hj]; exact z⟩
   .exact .inr (.inl z)
   .exact .inr (.inr (mem_append_left _ z))
 have nd:(L++fp1 i).Nodup:=nodup_append.mpr ⟨x.nd,x.rel.nd i,fun a ha b hb e=>by subst e; exact x.rel.off i a hb (.inr ha)⟩;have R:=x.rel.set (i:=i) (s:=none) (o:=some v) (L:=[]) (O':=ad O (L++fp1 i)) (AB ha) (fun p z=>(nn p).mp (.inr z)) (fun p hp=>by simp at hp) nodup_nil (fun p hp=>by simp at hp) (fun p hp=>by simp at hp)
  (fun j p hj h z=>by
   rcases z with z|z
   .exact x.rel.off j p h (.inl z)
   .rcases mem_append.mp z with z|z
    .exact x.rel.off j p h (.inr z)
    .exact hj (x.rel.inj j i p h z)) (fun st a e=>by cases e) (fun _=>rfl)
 rw[IL hv] at R;refine⟨⟨R,nd,fun p hp z=>?_,fun p hp=>?_,x.kept,rfl,fun j st a' h n=>?_⟩,q,nn⟩
 .rcases mem_append.mp hp with hp|hp
  .exact x.lo p hp z
  .exact x.rel.off i p hp (.inl z)
 .rcases hp with hp|⟨j,hp⟩
  .rcases mem_append.mp hp with hp|hp
   .exact x.new p (.inl hp)
   .exact x.new p (.inr ⟨i,hp⟩)
  .rcases BM hp with ⟨_,z⟩|⟨_,z⟩
   .simp at z
   .exact x.new p (.inr ⟨j,z⟩)
 .obtain⟨a2,h2,_,f2⟩:=x.stab j st a' h n
  refine⟨a2,?_,rfl,f2⟩;rw[List.getElem?_set_ne]
  .exact h2
  .rintro rfl
   rw[ha] at h2; cases h2; exact n rfl
theorem RRs.weak(h:∀p,O' p->N p):∀{vs:List V} {rs:List R} {L:List Addr},RRs K N H U vs rs L->RRs K O' H U vs rs L
 | [],[],_,q=>q
 | [],_::_,_,q=>by simp only[RRs] at q
 | _::_,[],_,q=>by simp only[RRs] at q
 | v::vs,r::rs,L,q=>by
  simp only[RRs] at q |-;obtain⟨L1,L2,rfl,h1,h2⟩:=q;refine⟨L1,L2,rfl,?_,RRs.weak h h2⟩;cases r with
  | val a=>exact DD h h1
  | ref i=>exact h1
theorem M3:∀{rs:List R} {vs:List V} {as:List A} {Z1 Z2:Ro} {fp1:Nat->List Addr} {Lacc L:List Addr},Post K O fp H Z Z1 U U (Lacc++L) fp1 H1->RRs K (NN fp1 (ad O (Lacc++L))) H1 U vs rs L->moves rs Z1=some (as,Z2) ->
  ∃L2 fp2,Post K O fp H Z Z2 U U (Lacc++L2) fp2 H1/\Ar K (NN fp2 (ad O (Lacc++L2))) H1 vs as L2/\∀p,NN fp2 (ad O (Lacc++L2)) p↔NN fp1 (ad O (Lacc++L)) p:=by
 intro _l;induction _l with
 | nil =>
  intro _m;cases _m with
  | nil =>
   intro as Z1 Z2 fp1 Lacc L x q e;simp only[moves,Option.some.injEq,Prod.mk.injEq] at e;obtain⟨rfl,rfl⟩:=e;simp only[RRs] at q;subst q;exact⟨[],fp1,x,by simp[Ar],fun p=>Iff.rfl⟩
  | cons _ _ =>
   intro _ _ _ _ _ _ _ q _;simp only[RRs] at q
 | cons r rs ih =>
  intro _m;cases _m with
  | nil =>
   intro _ _ _ _ _ _ _ q _;simp only[RRs] at q
  | cons v vs =>
   intro as Z1 Z2 fp1 Lacc L x q e;simp only[RRs] at q;obtain⟨L1,L2,rfl,h1,h2⟩:=q;simp only[moves,bind_eq_some_iff,map_eq_some_iff] at e;obtain⟨⟨a,Z3⟩,e1,⟨as',Z4⟩,e2,e3⟩:=e;cases e3;cases r with
   | val b =>
    simp only[move,Option.some.injEq,Prod.mk.injEq] at e1;obtain⟨rfl,rfl⟩:=e1;rw[<- append_assoc] at x h1 h2;obtain⟨L3,fp3,p3,q3,n3⟩:=ih (Lacc:=Lacc++L1) x h2 e2;rw[append_assoc] at p3 q3 n3;refine⟨L1++L3,fp3,p3,?_,fun p=>by rw[n3 p,append_assoc]⟩;simp only[Ar];exact⟨L1,L3,rfl,DD (fun p z=>by have:=(n3 p).mp z; rw[append_assoc]; rw[append_assoc] at this; exact this) h1,q3⟩
   | ref i =>
    obtain⟨rfl,hv⟩:=h1;rw[nil_append] at x h2;simp only[move] at e1;split at e1
    .rename_i a' ha
     cases e1;obtain⟨g1,g2,g3⟩:=x.give ha hv;have nd:((Lacc++fp1 i)++L2).Nodup:=by
      have:=g1.nd;rw[append_assoc] at this |-;exact(List.perm_append_comm.append_left Lacc).nodup this
     have g1':Post K O fp H Z (Z1.set i none) U U ((Lacc++fp1 i)++L2) (pt fp1 i []) H1:=g1.perm (fun p=>by simp; exact⟨fun z=>by rcases z with z|z|z; exact .inl z; exact .inr (.inr z); exact .inr (.inl z),fun z=>by rcases z with z|z|z; exact .inl z; exact .inr (.inr z); exact .inr (.inl z)⟩) nd;have nn:∀p,NN (pt fp1 i []) (ad O ((Lacc++fp1 i)++L2)) p↔NN fp1 (ad O (Lacc++L2)) p:=fun p=>by
      rw[<- g3 p];refine or_congr Iff.rfl (or_congr Iff.rfl ?_);simp;exact⟨fun z=>by rcases z with z|z|z; exact .inl z; exact .inr (.inr z); exact .inr (.inl z),fun z=>by rcases z with z|z|z; exact .inl z; exact .inr (.inr z); exact .inr (.inl z)⟩
     obtain⟨L3,fp3,p3,q3,n3⟩:=ih (Lacc:=Lacc++fp1 i) g1' (RRs.weak (fun p z=>(nn p).mp z) h2) e2;rw[append_assoc] at p3 q3 n3;refine⟨fp1 i++L3,fp3,p3,?_,fun p=>by rw[n3 p,nn p]; simp⟩;simp only[Ar];exact⟨fp1 i,L3,rfl,DD (fun p z=>(nn p).mp ((n3 p).mp z)) g2,q3⟩
    .cases e1
theorem Tr{m:MA}{Q:VK}(h:tE K (FJ m) U H Q):Xk (tA K m) U H Q:=by
 obtain⟨Z,O,fp,rl,x,Z',e,k⟩:=h;simp only[FJ,bind_eq_some_iff] at e;obtain⟨⟨rs,Z1⟩,e1,⟨as,Z2⟩,e2,e3⟩:=e;split at e3
 .rename_i hz
  cases e3;refine⟨Z,O,fp,rl,rs,_,e1,fun vs H1 yy=>?_⟩
  obtain⟨L,fp1,p,q⟩:=yy;obtain⟨L2,fp2,p2,q',_⟩:=M3 (Lacc:=[]) p q e2;rw[nil_append] at p2 q';have hl:=q'.len;refine⟨by rw[hl]; exact hz,fun a ha=>k _ _ ?_⟩;have s:=Dp (o:=.tup vs) ha;have q2:Ar K (NN fp2 (ad O L2)) (upd H1 a (.tup vs)) vs as L2:=q'.tr (M:=fun _=>False) (fun _ z=>z.elim) (DL.kept s) (fun p z=>.inl z) fun _ _ z=>z;show Jo _ _ _ _ _ _ _ (.val (mkT as)) _ _;unfold mkT;split
  .rename_i ds hd
   obtain⟨rfl,qd⟩:=q2.fzs hd;exact⟨[],fp2,p2.more s nodup_nil (fun p hp=>by simp at hp),Nh (Q4 AN (by rw[hl]; exact hz) qd)⟩
  .refine⟨L2,fp2,p2.more s p2.nd (fun p hp=>.inl hp),?_⟩
   show AA _ _ _ _ _ _;rw[AA];exact⟨a,vs,rfl,AN,by rw[hl]; exact hz,q2⟩
 .cases e3
end
section
variable{X:Cx}{a b c e:Expr}{es:List Expr}{m m1 m2 m3:ME}{ms:MA}{p pos pos' p2 apos cpos q npos:Pos}{x:Str}{K:Frag}
theorem Ki{k:Nat}(h:JA X es ms):JE X (.Tuple es k pos) (FJ ms):=AM (Vu h) fun _ _ _ h=>Tr h
theorem Im:OpN K Ep (r2L (rI0 fun i j=>.int (i-j))):=Ij
theorem Sk:OpN K E4 (r2L (rI0 fun i j=>.int (Builtin.bitAnd i j))):=Ij
theorem UX:OpN K J1 (r2L (rI0 fun i j=>.int (Builtin.bitOr i j))):=Ij
theorem WM:OpN K gtA (r2L (rI0 fun i j=>.bl (decide (j<i)))):=LK
theorem WL:OpN K geA (r2L (rI0 fun i j=>.bl (decide (j<=i)))):=LK
end
end J
end
section
namespace L2
open PySem PySem.Spec PyProof.Rows
section
variable{X:Cx}{pins:List (Addr×Obj)}{U:St}{H:Hp}{s:Shared}{h':Heap}
theorem Inv.turnedT{t':Nat}{T:Addr}{xs:List V}{ch:List Addr}(I:Inv X pins U H s)(hf:∀b∈ch,D9 X pins H b)(k:∀b o,b∉ch->s.heap.get? b=some o->h'.get? b=some o)(hT:s.heap.objs.size<=T)(new:BN X.prog X.w (upd H T (.tup xs)) h' T (.tup xs)):Inv X pins U (upd H T (.tup xs)) { s with heap:=h',toks:=t' }:=by
 have hn:H T=none:=I.hok.fresh hT;have nch:∀b u,H b=some u->b∉ch:=fun b u e z=>by rw[(hf b z).1] at e; cases e
 have neT:∀b u,H b=some u->b≠T:=fun b u e z=>by rw[z,hn] at e; cases e
 refine I.step (g':=s.gens) (d':=s.drawn) (ch:=ch) (fun b hb=>?_) (fun b o _ _ hc e _=>k b o hc e) (fun b o _ _ hc e _=>⟨o.slots,k b o hc e⟩) (fun b o hc e n=>?_)
  (fun b o hc e=>⟨o,k b o hc e⟩) (fun b xs e=>by rw[Au (neT b _ e)]; exact e) (fun b o u e=>by rw[Au (neT b _ e)]; exact e) (fun b ps e=>⟨#[],by rw[Au (neT b _ e),e]; simp⟩) (fun m hm=>?_) (fun b u e=>?_) I.bare
 .obtain⟨f0,f1,f2,f3,f4,f5⟩:=hf b hb
  exact⟨f3,f1,f4,f5⟩
 .rw[Au (ne_of_lt (lt_of_lt_of_le (lt_size e) hT))]; exact n
 .obtain⟨o,es,ep,ho,r⟩:=hm
  exact⟨o,es,ep,k _ o (fun z=>(hf _ z).2.1 rfl) ho,r⟩
 .by_cases hb:b=T
  .subst hb; rw[AN] at e; cases e; exact new
  .rw[Au hb] at e
   refine(I.hok b u e).stay (fun c v hc q=>k c v ?_ q) (fun c q=>by rw[Au (neT c _ q)]; exact q) fun c ys q=>by rw[Au (neT c _ q)]; exact q
   rcases hc with z|z
   .rw[z]; exact nch b u e
   .exact nch c _ z
end
noncomputable def Ite(z:Str):It:=⟨fun i _=>i<z.cps.size,fun i H v H'=>∃c T,z.cps[i]? = some c/\H T=none/\v=.ref T/\H'=upd H T (.tup [.int i,.str ⟨#[c]⟩]),fun i _=>z.cps.size<=i⟩
theorem Jv{P:Program}{w:World}{A:Around}(hh:A.handled=none)(it:Addr)(z:Str)(t:Tok):Draws P w A it [it] z.cps.size (fun i v=>∃c u,z.cps[i]? = some c/\v=.str ⟨#[c]⟩ u) (fun i h=>h.IsStrIter it (strIterType z) z t i):=by
 cases ha:z.cps.all (· < 128)
 .have e:strIterType z = "str_iterator" := by simp[strIterType,ha]
  rw[e];exact Draws.strWide hh it z t
 .have e:strIterType z = "str_ascii_iterator" := by simp[strIterType,ha]
  rw[e];exact Draws.strAscii hh it z t
theorem Pn{P:Program}{w:World}{K:Frag}{ts:List Expr}{k:Nat}{pos:Pos}(e it:Addr)(hne:e≠it)(z:Str)(t:Tok):
  Turn P w K (.Tuple ts k pos) (Ite z) [e,it] e (fun i h=>i<=z.cps.size/\(∃old,IsEnum h e it ((i:Nat):Int) old)/\h.IsStrIter it (strIterType z) z t i) where
 mem:=by simp
 obj:=fun i h st b hb=>by
  obtain⟨_,⟨old,he⟩,o,ho,c,d⟩:=st;simp only[mem_cons,not_mem_nil,or_false] at hb;rcases hb with rfl|rfl
  .exact⟨_,he,fun v q=>by cases q⟩
  .exact⟨o,ho,fun v q=>by rw[d] at q; cases q⟩
 keep:=fun i h h' st kk=>by
  obtain⟨le,⟨old,he⟩,o,ho,r⟩:=st;exact⟨le,⟨old,kk e (by simp) _ he⟩,o,kk it (by simp) _ ho,r⟩
 item:=by
  intro X hP hw hK hc i pins s U H E I hf st hg;subst hP hw hK;obtain⟨le,⟨old,he⟩,hs⟩:=st;have D:=Jv (P:=X.prog) (w:=X.w) (A:=X.A.in1) (I.ok.hd hc) it z t;have elt:e<s.heap.objs.size:=lt_size he;have ilt:it<s.heap.objs.size:=by obtain⟨o,ho,_⟩:=hs; exact lt_size ho
  refine wpAny_pyNext_enum_itemD D he hs hg hne (by simpa using hne) fun x h1 tk hx ho hs1 hT hsz hk=>?_;obtain⟨c,u,hcc,rfl⟩:=hx;refine⟨_,rfl,wpAny_letOwnedTupleGo_enum ho fun h2 he2 hs2=>?_⟩;have hs2':Heap.SameBut e h1 h2:=hs2;have g2:h2.get? s.heap.objs.size=some { cls:=.type "tuple",data:=.seq #[.int i tk,.str ⟨#[c]⟩ u] }:=(hs2'.2 _ (ne_of_gt elt)).trans hT;have I2:Inv X pins U (upd H s.heap.objs.size (.tup [.int i,.str ⟨#[c]⟩])) { s with heap:=h2,toks:=tk+1 }:=by
   refine I.turnedT (ch:=[e,it]) hf (fun b o hb q=>?_) (le_refl _) ?_
   .simp only[mem_cons,not_mem_nil,or_false,not_or] at hb
    exact(hs2'.2 b hb.1).trans (hk b o hb.1 hb.2 q)
   .exact⟨by show 2<=sizeLine; decide,[.int i tk,.str ⟨#[c]⟩ u],.cons ⟨_,rfl⟩ (.cons ⟨_,rfl⟩ .nil),_,g2,rfl,_,rfl⟩
  refine⟨.ref s.heap.objs.size,_,I2,rfl,⟨c,_,hcc,I.hok.fresh (le_refl _),rfl,rfl⟩,⟨hg,⟨_,by simpa using he2⟩,?_⟩,fun b hb=>?_⟩
  .obtain⟨o,ho1,r⟩:=hs1
   exact⟨o,(hs2'.2 it (Ne.symm hne)).trans ho1,r⟩
  .have hlt:b<s.heap.objs.size:=by
    simp only[mem_cons,not_mem_nil,or_false] at hb;rcases hb with rfl|rfl
    .exact elt
    .exact ilt
   rw[Au (ne_of_lt hlt)];exact(hf b hb).1
 done:=by
  intro X hP hw hK hc i pins s U H E I hf st hg;subst hP hw hK;obtain⟨le,⟨old,he⟩,hs⟩:=st;have D:=Jv (P:=X.prog) (w:=X.w) (A:=X.A.in1) (I.ok.hd hc) it z t;have hg':z.cps.size<=i:=hg;obtain⟨f0,f1,f2,f3,f4,f5⟩:=hf it (by simp);have e0:i=z.cps.size:=by lia
  subst e0;exact wpAny_pyNext_enum_endD D he hs fun h1 eb=>⟨rfl,I.turned (t':=s.toks) (fun b o hb q=>eb b o hb q) f0 f1 f3 f4 f5⟩
 self:=fun _ _ _ _ _ st h=>by
  obtain⟨_,⟨old,he⟩,_⟩:=st;exact wpAny_pyIter_enum he h
section
variable{X:Cx}
noncomputable def TQ(tl:TA):TI:=fun U H R=>tl U H fun vs H1=>∃z,vs=[.str z]/\R (Ite z) H1
theorem SK{ts:List Expr}{k:Nat}{tpos:Pos}{a:Expr}{ta:TA}{p pos:Pos}(hg:Gl X "enumerate")(hm:X.mg "enumerate" = none)(ha:PA X [a] ta)(hs:starEach [a] X.env=[(false,eval a X.env)]):
  PI X (.Tuple ts k tpos) (.Call (.Name "enumerate" p) [a] [] pos) (TQ ta):=by
 intro pins s U H R I h;refine Call_ (F9 I hg hm boot_enumerate (PyProof.Rows.callWith_type1 (thn (ha pos pins s U H _ I h) fun us s1 yy=>?_) hs rfl));obtain⟨vs,H1,I1,r1,q1⟩:=yy;obtain⟨z,e,q⟩:=q1;subst e;obtain⟨u,rfl,ru⟩:=r1.one;obtain⟨t,rfl⟩:=ru;refine call_enumerate_str fun h1 he hit hsz hk=>?_;refine wpAny_pyIter_enum he ?_;have I2:Inv X pins U H1 { s1 with heap:=h1 }:=I1.kept (t':=s1.toks) hk;refine⟨_,[s1.heap.objs.size+1,s1.heap.objs.size],_,_,H1,rfl,I2,Pn _ _ (Nat.succ_ne_self _) z t,⟨zero_le _,⟨_,he⟩,hit⟩,fun b hb=>?_,q⟩;simp only[mem_cons,not_mem_nil,or_false] at hb;rcases hb with rfl|rfl
 .exact I1.fpOk (le_succ _) (I1.hok.fresh (le_succ _))
 .exact I1.fpOk (le_refl _) (I1.hok.fresh (le_refl _))
end
end L2
namespace J
open PySem PySem.Spec PyProof.Rows L2
section
variable{X:Cx}{a b c e:Expr}{es:List Expr}{m m1 m2 m3:ME}{ms:MA}{p pos pos' p2 apos cpos q npos:Pos}{x:Str}
variable{K:Frag}{N:Addr->Prop}{H:Hp}{U:L2.St}{v:V}{L:List Addr}
noncomputable def FP(z:Str):List D:=(List.range z.cps.size).map fun(i:Nat)=>D.tup [.int (i:Int),.str ⟨#[z.cps.getD i 0]⟩]
noncomputable def Gu(m:ME):MI:=fun Z=>(m Z).bind fun p=>match p.1 with
 | .val (.fz (.str z))=>if z.length<=LIM then some (FP z,none,p.2) else none
 | _=>none
theorem Ts{R:It->Hp->Prop}(h:tI K (Gu m) U H R):TQ (Cd (tE K m) FI) U H R:=by
 obtain⟨Z,O,fp,rl,ds,n,Z',e,k⟩:=h;simp only[Gu,bind_eq_some_iff] at e;obtain⟨⟨r,Z1⟩,e1,e2⟩:=e;dsimp only at e2;split at e2
 .rename_i z
  split at e2
  .rename_i hz
   cases e2;refine⟨Z,O,fp,rl,_,_,e1,fun v H1 yy=>?_⟩
   obtain⟨L,fp1,p,q⟩:=yy;have q':AA K (NN fp1 (ad O L)) H1 v (.fz (.str z)) L:=q;rw[AA] at q';obtain⟨rfl,q'⟩:=q';cases q';refine⟨z,rfl,k _ _ ⟨.val (.fz .non),.non,.fz .non,[],fp1,p,EY (K:=K) .non,rfl,rfl,fun N H2 _=>?_⟩⟩;have hl:(FP z).length=z.cps.size:=by simp[FP]
   refine⟨fun i hi=>by show i<z.cps.size; lia,fun i hi=>by show z.cps.size<=i; lia,fun i v H' d y e=>?_⟩;obtain⟨c,T,hc,hT,rfl,rfl⟩:=y;have hi:i<z.cps.size:=by have:=AB e; lia
   have hd:d=.tup [.int i,.str ⟨#[c]⟩]:=by
    have ec:z.cps.getD i 0=c:=by
     rw[Array.getD_eq_getD_getElem?,hc]; rfl
    simp only[FP,List.getElem?_map,List.getElem?_range hi,map_some,Option.some.injEq] at e;rw[<- e,ec]
   subst hd;refine⟨Dp hT,.tup AN (by show 2<=sizeLine; decide) rfl fun j v d h1 h2=>?_⟩
   match j with
   | 0=>simp at h1 h2; subst h1 h2; exact .int _
   | 1=>simp at h1 h2; subst h1 h2; exact .str _ (by show 1<=sizeLine; decide)
   | j+2=>simp at h1
  .cases e2
 .cases e2
theorem R5{ts:List Expr}{tk:Nat}{tpos:Pos}(hg:Gl X "enumerate")(hm:X.mg "enumerate" = none)(hs:starEach [a] X.env=[(false,eval a X.env)])(h:JE X a m):JI X (.Tuple ts tk tpos) (.Call (.Name "enumerate" p) [a] [] pos) (Gu m):=HA (SK hg hm (Cu h D4 hs) hs) fun _ _ _ h=>Ts h
end
end J
end
section
namespace Sg
open PySem
section
variable{P:Program}{w:World}{A:Around}{E:Value->Shared->Prop}{s:Shared}
end
section
variable{P:Program}{w:World}{A:Around}{E:Value->Shared->Prop}
end
section
variable{P:Program}{w:World}{A:Around}{E:Value->Shared->Prop}{s:Shared}
end
section
variable{P:Program}{w:World}{A:Around}{E:Value->Shared->Prop}{s:Shared}
end
section
variable{P:Program}{w:World}{A:Around}{E:Value->Shared->Prop}{s:Shared}
end
end Sg
end
section
namespace Sg
open PySem PyProof.Rows
section
variable{P:Program}{w:World}{A:Around}{E:Value->Shared->Prop}{s:Shared}
end
section
variable{P:Program}{w:World}{A:Around}{E:Value->Shared->Prop}{s:Shared}
end
end Sg
end
section
namespace L2
open PySem PySem.Spec PyProof.Rows Sg
section
variable{X:Cx}
end
end L2
namespace J
open PySem PySem.Spec PyProof.Rows L2 Sg
section
variable{X:Cx}{a b c e:Expr}{es:List Expr}{m m1 m2 m3:ME}{ms:MA}{p pos pos' p2 apos cpos q npos:Pos}{x:Str}
variable{K:Frag}{N:Addr->Prop}{H:Hp}{U:L2.St}{v:V}{L:List Addr}
end
end J
end
section
namespace J
open PySem PySem.Spec PyProof.Rows L2
section
variable{K:Frag}{Z Z' Z1 Z2:Ro}{U σ' σ1 σ2:L2.St}{H H' H1 H2:Hp}{O O' N:Addr->Prop}{fp fp' fp1 fp2:Nat->List Addr}{L L1:List Addr}
noncomputable def Oq(i:Nat):MS:=fun Z=>(Ef Z i).bind fun h=>some (.next (Z.set i (some (h.1,.lst []))))
theorem V7{i:Nat}{D:Ends}(h:tS K (Oq i) D U H):JO (Xa K "list" QY (Pm i)) D U H:=by
 obtain⟨Z,O,fp,rl,fl,e,w⟩:=h;simp only[Oq,bind_eq_some_iff,Option.some.injEq] at e;obtain⟨⟨st,as⟩,e0,e1⟩:=e;subst e1;obtain⟨g,gst⟩:=ER e0;obtain⟨v,hv,q0⟩:=rl.slot i _ _ g;rw[AA] at q0;obtain⟨p0,vs0,L',rfl,e6,hp0,_,_⟩:=q0;refine⟨_,hv,.inl ⟨rfl,vs0,.inl (.inl hp0)⟩,p0,vs0,rfl,rfl,hp0,w _ _ _ (rl.post.mut (a':=.lst []) (L':=[p0]) g gst hv (by rw[e6]; simp) hp0 (fun b hb=>?_) (by simp) ?_)⟩
 .simp at hb
  subst hb;rw[e6];simp
 .rw[AA]
  exact⟨p0,[],[],rfl,rfl,AN,zero_le _,by simp only[Ar]⟩
end
section
variable{X:Cx}{a b c e:Expr}{es:List Expr}{m m1 m2 m3:ME}{ms:MA}{p pos pos' p2 apos cpos q npos:Pos}{x:Str}
theorem UL(i:Nat)(hN:X.N[i]? = some x)(hv:Vis X.env.scope x)(hd:(x==("__debug__" : Str))=false)(hcd:(x==("__classdict__" : Str))=false)(hbase:attributeBase (.Name x npos) "clear" X.env (eval (.Name x npos) X.env)=eval (.Name x npos) X.env)(hline:(apos.endLine==cpos.line)=true)(hw:swapsWith (.Call (.Attribute (.Name x npos) "clear" apos) [] [] cpos) none pos.line X.env=pure false):JS X (.Expr (.Call (.Attribute (.Name x npos) "clear" apos) [] [] cpos) pos) (Oq i):=
 Cv (HB (Vf PySem.F.plainAttrs_list PySem.F.slot_list_clear PySem.F.type_list_clear Qw (IC hN hv hd hcd) hbase hline) hw) fun _ _ _ h=>V7 h
end
end J
end
section
namespace L2
open PySem PySem.Spec PyProof.Rows
theorem DC{env:Env}:∀{names:List (Str×NameKind)} {x:Str},names.lookup x=some .cell ->
  (names.map fun(n,k)=>if (k==NameKind.free&&env.scope.kind==.function&&env.kindOf n==some .cell) then (n,NameKind.cell) else (n,k)).lookup x=some .cell
 | [],_,h=>by simp at h
 | (n,k)::r,x,h=>by
  have ih:=@DC env r x;show List.lookup x ((if (k==NameKind.free&&env.scope.kind==.function&&env.kindOf n==some .cell)=true then (n,NameKind.cell) else (n,k))::_)=_;cases hx:x==n with
  | true =>
   simp only[lookup_cons,hx] at h;cases h;simp[lookup_cons,hx]
  | false =>
   simp only[lookup_cons,hx] at h;split<;>(simp only[lookup_cons,hx]; exact ih h)
noncomputable def FO(x:Str)(N:List Str)(sc sco:Scope):Bool:=
 N.all (fun y=>match sc.names.lookup y with
  | some .local=>false
  | some .cell=>false
  | some .free=>sco.names.lookup y==some .cell || sco.names.lookup y==some .free
  | _=>true) &&
 sc.names.all (fun y=>(y.2 != .cell || y.1==x)&&(y.2 != .free || sco.names.lookup y.1==some .cell || sco.names.lookup y.1==some .free)&&(y.2 != .local || sc.names.lookup y.1==some .local)) &&
 (sc.kind==.function)&&!N.contains x&&(sc.names.filter (fun y=>y.2==.cell)==[(x,.cell)])&&(sc.names.lookup x==some .cell)
theorem PH{h:Heap}:∀{names:List (Str×NameKind)} {acc:List (Str×Addr)} {n:Nat},names.filter (fun y=>y.2==.cell)=[]->cellsFrom n names acc=acc/\pushCells h names=h
 | [],_,_,_=>⟨rfl,rfl⟩
 | (y,k)::r,acc,n,e=>by
  cases hk:(k==NameKind.cell) with
  | true=>simp[hk] at e
  | false =>
   have e':r.filter (fun y=>y.2==.cell)=[]:=by simpa[hk] using e
   have ih:=PH (h:=h) (acc:=acc) (n:=n) e';unfold cellsFrom pushCells;simp only[hk,false_eq_true,if_false];exact ih
theorem Mu{h:Heap}{x:Str}:∀{names:List (Str×NameKind)} {acc:List (Str×Addr)} {n:Nat},names.filter (fun y=>y.2==.cell)=[(x,.cell)]->cellsFrom n names acc=(x,n)::acc/\pushCells h names=h.push { cls:=.type "cell",data:=.cell none }
 | [],_,_,e=>by simp at e
 | (y,k)::r,acc,n,e=>by
  cases hk:(k==NameKind.cell) with
  | true =>
   rw[List.filter_cons_of_pos (by simpa using hk)] at e;have e1:=(List.cons.inj e).1;have e2:=(List.cons.inj e).2;have ey:y=x:=(Prod.mk.inj e1).1;subst ey;have ih:=PH (h:=h.push { cls:=.type "cell",data:=.cell none }) (acc:=(y,n)::acc) (n:=n+1) e2;unfold cellsFrom pushCells;simp only[hk,if_true];exact ih
  | false =>
   have e':r.filter (fun y=>y.2==.cell)=[(x,.cell)]:=by simpa[hk] using e
   have ih:=Mu (h:=h) (acc:=acc) (n:=n) e';unfold cellsFrom pushCells;simp only[hk,false_eq_true,if_false];exact ih
theorem Sf{M:Model}{A:Around}{E:Value->Shared->Prop}{s:Shared}{scope:Scope}{globals:Addr}{cl:List (Str×Addr)}{qual:Str}{env:Env}{x:Str}{Q:Env->Shared->Prop}(hf:scope.names.filter (fun y=>y.2==.cell)=[(x,.cell)])(h:∀h1,h1.Ns s.heap.objs.size (fun _=>none)->h1.IsCell (s.heap.objs.size+1) none->(∀b o,s.heap.get? b=some o->h1.get? b=some o)->Q (newEnv scope s.heap.objs.size globals ((x,s.heap.objs.size+1)::cl) qual none .none (some env) builtinsNs) { s with heap:=h1 }):
  wpAny M A (newFunctionEnv scope globals cl [] qual none .none (some env)) Q E s:=by
 simp only[newFunctionEnv,Option.isSome_some,if_true];refine wpAny_bind (wpAny_alloc ?_);refine wpAny_bind (wpAny_layCells _ (fun name kind cells=>by cases hkc:kind==NameKind.cell<;>simp[hkc]) _ _ _ _ ?_);have z:({ s with heap:=s.heap.push { cls:=.type "dict",data:=.dict #[] } }:Shared).heap.objs.size=s.heap.objs.size+1:=size_push ..;rw[z,(Mu (h:=({ s with heap:=s.heap.push { cls:=.type "dict",data:=.dict #[] } }:Shared).heap) hf).1,(Mu (acc:=cl) (n:=0) hf).2];refine wpAny_bind ?_;rw[List.forIn_nil];refine wpAny_pure (wpAny_pure (h _ ((Heap.Ns.new s.heap (.type "dict")).keeps fun b o e=>Heap.get?_push_of_some _ e) ⟨{ cls:=.type "cell",data:=.cell none },?_,rfl⟩ fun b o e=>Heap.get?_push_of_some _ (Heap.get?_push_of_some _ e)));rw[<- z];exact Heap.get?_push_size _ rfl
section
variable{X:Cx}{pins:List (Addr×Obj)}{U:St}{H:Hp}{s:Shared}
noncomputable abbrev cxK(X:Cx)(x:Str)(scope:Scope)(C:Addr)(s:Shared)(H:Hp)(fp:List Addr)(pins:List (Addr×Obj)):Cx:=
 cxD X [x] scope C ((x,C+1)::clo X.env.cells scope.names []) (fun y=>y==x) s H fp pins
theorem FO.free{x:Str}{scope:Scope}(hok:FO x X.N scope X.env.scope=true)(I:Inv X pins U H s):∀y∈scope.names,(y.2==NameKind.free)=true->(X.env.cells.lookup y.1).isSome=true:=fun y hy hf=>by
 simp only[FO,and_eq_true,all_eq_true] at hok;have:=(hok.1.1.1.1.2 y hy).1.2;have hf':y.2=.free:=by simpa using hf
 rw[hf'] at this;simp only[bne_self_eq_false,Bool.false_or,or_eq_true] at this;obtain⟨c,hc⟩:=I.ok.has y.1 (this.elim (fun z=>.inl (by simpa[Env.kindOf] using z)) fun z=>.inr (by simpa[Env.kindOf] using z));rw[hc]; rfl
theorem MH{x:Str}{scope:Scope}{fp:List Addr}{h1:Heap}{t':Nat}(hok:FO x X.N scope X.env.scope=true)(I:Inv X pins U H s)(f2:∀b∈fp,D9 X pins H b)(fo:∀b∈fp,∃o,s.heap.get? b=some o)(hns:h1.Ns s.heap.objs.size fun _=>none)(hce:h1.IsCell (s.heap.objs.size+1) none)(hk:∀b o,s.heap.get? b=some o->h1.get? b=some o):
  Inv (cxK X x scope s.heap.objs.size s H fp pins) [] ([none]++U) H { s with heap:=h1,toks:=t' }:=by
 have hfree:=FO.free hok I;simp only[FO,and_eq_true,all_eq_true] at hok;obtain⟨⟨⟨⟨⟨hN,hS⟩,hkd⟩,hxN⟩,hfil⟩,hxc⟩:=hok;have hkind:scope.kind=.function:=by simpa using hkd
 have hxc:scope.names.lookup x=some .cell:=by simpa using hxc
 have sub:∀y c,(clo X.env.cells scope.names []).lookup y=some c->X.env.cells.lookup y=some c:=fun y c e=>by
  rcases J6 hfree e with z|z
  .simp at z
  .exact z
 have old:∀y c,(clo X.env.cells scope.names []).lookup y=some c->c<s.heap.objs.size:=fun y c e=>by
  obtain⟨v,q⟩:=I.cell y c (sub y c e);exact q.lt
 have ltS:∀{b:Addr} {o:Obj},s.heap.get? b=some o->b≠s.heap.objs.size:=fun e=>ne_of_lt (lt_size e);have cases1:∀y c,((x,s.heap.objs.size+1)::clo X.env.cells scope.names []).lookup y=some c->(y=x/\c=s.heap.objs.size+1)\/(y≠x/\(clo X.env.cells scope.names []).lookup y=some c):=fun y c e=>by
  rw[lookup_cons] at e;cases hy:(y==x) with
  | true =>
   rw[hy] at e;exact .inl ⟨by simpa using hy,(Option.some.inj e).symm⟩
  | false =>
   rw[hy] at e;exact .inr ⟨by simpa using hy,e⟩
 have isFree:∀y,y≠x->((relabel scope X.env).names.lookup y=some .cell\/(relabel scope X.env).names.lookup y=some .free)->scope.names.lookup y=some .free:=fun y hyx hx'=>by
  rcases hx' with z|z
  .rcases Bf z with z|z
   .have:=(hS _ (PySem.mem_of_lookup z)).1.1
    simp at this;exact absurd this hyx
   .exact z.2
  .rcases Bf z with z|z
   .exact z
   .cases z.1
 have has1:∀y,((relabel scope X.env).names.lookup y=some .cell\/(relabel scope X.env).names.lookup y=some .free)->∃c,((x,s.heap.objs.size+1)::clo X.env.cells scope.names []).lookup y=some c:=fun y hy=>by
  rw[lookup_cons];cases hyx:(y==x) with
  | true=>exact⟨_,rfl⟩
  | false=>exact Gk (isFree y (by simpa using hyx) hy)
 have ne1:∀y c,(clo X.env.cells scope.names []).lookup y=some c->c≠s.heap.objs.size+1:=fun y c e=>ne_of_lt (Nat.lt_succ_of_lt (old y c e));refine⟨⟨I.ok.mod,hkind,I.ok.glob,I.ok.blt,le_refl _,fun y z c e1 e2=>?_,has1,fun y c hy e=>?_,I.ok.hd,I.ok.frames,.inl rfl,fun b hb=>?_,I.bs,le_trans I.ok.bsz I.sz,fun b o e hb=>?_,fun b hb hz=>?_,I.stack,I.stkFree,I.tabs⟩,
  rfl,I.bare,Un.kept hk,⟨_,hns,fun i y v e1 e2 e3=>?_⟩,fun y c e=>?_,I.hok.fresh (le_refl _),fun y c e=>?_,fun p hp=>?_,I.hok.kept hk,?_⟩
 .rcases cases1 y c e1 with ⟨rfl,rfl⟩|⟨_,q1⟩<;>rcases cases1 z _ e2 with ⟨rfl,q⟩|⟨_,q2⟩
  .rfl
  .exact absurd rfl (ne1 z _ q2)
  .exact absurd q (ne1 y _ q1)
  .exact I.ok.inj y z c (sub y c q1) (sub z c q2)
 .have hy':y=x:=by simpa using hy
  rcases cases1 y c e with ⟨_,rfl⟩|⟨n,_⟩
  .exact le_succ _
  .exact absurd hy' n
 .refine⟨fun z=>?_,fun y c e z=>?_⟩
  .obtain⟨o,e⟩:=fo b hb
   exact ltS e z
  .rcases cases1 y c e with ⟨_,rfl⟩|⟨_,q⟩
   .obtain⟨o,e⟩:=fo b hb
    have:=lt_size e;rw[<- z] at this;exact absurd this (Nat.not_lt.mpr (le_succ _))
   .exact(f2 b hb).2.2.2.2.1 y c (sub y c q) z
 .obtain⟨_,_,_,f4,_⟩:=f2 b hb
  rcases f4 with f4|f4
  .exact I.ok.noex b o e f4
  .have:=lt_of_lt_of_le (lt_size e) (le_trans I.ok.bsz f4)
   exact absurd this (lt_irrefl _)
 .obtain⟨_,f1,f3,_⟩:=f2 b hb
  rcases mem_cons.mp (I.stkSub b hz) with z|z
  .exact f1 z
  .exact f3 z
 .cases i with
  | zero=>simp at e2
  | succ i =>
   have e1':X.N[i]? = some y:=e1;have e2' : U[i]? = some (some v):=e2;have hyx:y≠x:=fun z=>by
    subst z;simp at hxN;exact hxN (List.mem_of_getElem? e1')
   have hx:=hN y (List.mem_of_getElem? e1');have q:scope.names.lookup y=some .free:=by
    rcases e3 with z|z
    .rcases Bf z with z|z
     .rw[z] at hx; cases hx
     .cases z.1
    .exact isFree y hyx z
   rw[q] at hx;simp only[or_eq_true] at hx;have hx2:X.env.scope.names.lookup y=some .cell\/X.env.scope.names.lookup y=some .free:=hx.elim (fun z=>.inl (by simpa using z)) fun z=>.inr (by simpa using z);obtain⟨m,_,hl⟩:=I.loc;obtain⟨u,r,l⟩:=hl _ y v e1' e2' (.inr hx2);refine⟨u,r,?_⟩;obtain⟨c',hc'⟩:=Gk (cells:=X.env.cells) (cs:=[]) q;rcases l with ⟨k,_⟩|⟨k,c,hc,o,ho,hd⟩
   .have k':X.env.scope.names.lookup y=some .local:=k
    rcases hx2 with z|z<;>(rw[k'] at z; cases z)
   .have ec:=sub y c' hc'
    have ec':c'=c:=Option.some.inj (ec.symm.trans hc);rw[ec'] at hc';refine .inr ⟨?_,c,?_,o,hk c o ho,hd⟩
    .rcases e3 with z|z
     .rcases Bf z with z|z
      .rw[q] at z; cases z
      .cases z.1
     .exact z
    .show((x,s.heap.objs.size+1)::clo X.env.cells scope.names []).lookup y=some c
     rw[lookup_cons,show(y==x)=false by simpa using hyx];exact hc'
 .rcases cases1 y c e with ⟨_,rfl⟩|⟨_,q⟩
  .exact⟨none,hce⟩
  .obtain⟨v,o,ho,hd⟩:=I.cell y c (sub y c q)
   exact⟨v,o,hk c o ho,hd⟩
 .rcases cases1 y c e with ⟨_,rfl⟩|⟨_,q⟩
  .exact I.hok.fresh (le_succ _)
  .exact I.freeC y c (sub y c q)
 .have hp':p∈X.pn++pins:=by simpa using hp
  obtain⟨e,n,ne,nf,d⟩:=I.pin p hp';refine⟨hk _ _ e,n,ltS e,fun hz=>?_,d⟩;rcases mem_cons.mp (I.stkSub p.1 hz) with z|z
  .exact ne z
  .exact nf z
 .show([none]++U).length=([x]++X.N).length
  simp[I.len]
theorem Vo{x:Str}{scope:Scope}{iter elt:Expr}{ifs:List Expr}{px pos:Pos}{wi:TI}{tc:TT}{te:TE}(hc:X.calm=true)(hn:X.N.Nodup)(hok:FO x X.N scope X.env.scope=true)(hi:PI X (.Name x px) iter wi)(ht:∀C s H fp pins,PTs (cxK X x scope C s H fp pins) ifs tc)(he:∀C s H fp pins,PE (cxK X x scope C s H fp pins) elt te)(hs:∀z,foldedSetIterable iter X.env z=pure z):PE X (.ListComp elt [⟨.Name x px,iter,ifs,0⟩] scope pos) (tLc wi Pp tc te):=by
 have hok':=hok;simp only[FO,and_eq_true,all_eq_true] at hok';obtain⟨⟨⟨⟨⟨hN,hS⟩,hkd⟩,hxN⟩,hfil⟩,hxc⟩:=hok';have hkind:scope.kind=.function:=by simpa using hkd
 have hfil:scope.names.filter (fun y=>y.2==.cell)=[(x,.cell)]:=by simpa using hfil
 have hxc:scope.names.lookup x=some .cell:=by simpa using hxc
 have hxN:x∉X.N:=by simpa using hxN
 have rl:(relabel scope X.env).names.lookup x=some .cell:=DC hxc;intro pins s U H Q I h;rw[eval_ListComp];refine wpAny_comprehension_free (use:=none) rfl hs (Mv (FO.free hok I)) hkind (fun y hy hl=>?_) ?_
 .have:=(hS y hy).2
  rw[hl] at this;simpa using this
 refine thn (hi pins s U H _ I h) fun v s1 h1=>thn h1 fun itv s2 h2=>?_;obtain⟨it,fp,tn,J,H2,e,I2,T,st2,f2,q⟩:=h2;subst e;obtain⟨W,w0,turn⟩:=q s2.heap.objs.size I2.fresh;refine wpAny_newObj_type (hd:=by size_fits) ?_;have I3:Inv X pins U (upd H2 s2.heap.objs.size (.lst [])) { s2 with heap:=s2.heap.push { cls:=.type "list",data:=.seq ([]:List Value).toArray } }:=I2.lnew (its:=[]) (t':=s2.toks) .nil (zero_le _);have st3:tn 0 (s2.heap.push { cls:=.type "list",data:=.seq ([]:List Value).toArray }):=T.keep _ _ _ st2 fun b _ o e=>Heap.get?_push_of_some _ e;have f3:∀b∈fp,D9 X pins (upd H2 s2.heap.objs.size (.lst [])) b:=fun b hb=>by
  obtain⟨o,e,_⟩:=T.obj _ _ st2 b hb;exact⟨by rw[Au (ne_of_lt (lt_size e))]; exact(f2 b hb).1,(f2 b hb).2⟩
 refine Sf hfil fun h1 hns hce hk=>?_;have I0:=MH (t':=s2.toks) hok I3 f3 (fun b hb=>let⟨o,e,_⟩:=T.obj _ _ st3 b hb; ⟨o,e⟩) hns hce hk;refine L7 (own:=[x]) (iter:=iter) (pos:=pos) (U:=U) (un:=Pp) (acc:=s2.heap.objs.size) (Q:=Q) (R:=compPost (model X.prog X.w) X.A X.xe none (EP X pins U Q) (.ref s2.heap.objs.size) (s2.heap.push { cls:=.type "list",data:=.seq ([]:List Value).toArray }).objs.size)
  hc ?_ (ht _ _ _ _ _) (he _ _ _ _ _) I3 T st3 f3 W w0 turn (fun s' σ' H' J' q'=>?_) hk I0
 .intro pins s σ0 U H v u vs hl I r h
  obtain⟨o,rfl⟩:=R9 hl;cases h;exact wpAny_assign_Name (ED (i:=0) I (nodup_cons.mpr ⟨hxN,hn⟩) rfl (.inr rl) r (fun s' I'=>⟨rfl,I'⟩) (.inl (by simp)))
 .obtain⟨m,hn,_⟩:=J'.loc
  exact⟨m,hn,fun h' hs'=>⟨.ref s2.heap.objs.size,H',Fc I3 f3 J' hs',rfl,q'⟩⟩
end
section
variable{P:Program}{w:World}{A:Around}{E:Value->Shared->Prop}{s:Shared}
theorem nx{n k j:Nat}(h:k≠j:=by decide):n+k≠n+j:=fun e=>h (Nat.add_left_cancel e)
end
end L2
namespace L2
open PySem PySem.Spec PyProof.Rows
section
variable{X:Cx}
end
end L2
namespace J
open PySem PySem.Spec PyProof.Rows L2
section
variable{X:Cx}{a b c e:Expr}{es:List Expr}{m m1 m2 m3:ME}{ms:MA}{p pos pos' p2 apos cpos q npos:Pos}{x:Str}
variable{K:Frag}{N:Addr->Prop}{H:Hp}{U:L2.St}{v:V}{L:List Addr}
theorem R7{scope:Scope}:∀C s H fp pins,PTs (cxK X x scope C s H fp pins) [] (tT X.K Cz):=fun C s H fp pins=>fun _ _ _ H _ I h=>by
 obtain⟨Z,O,fp,r,x,Z',e,k⟩:=h;cases e;exact N4 _ _ _ H _ I (k fp H r.post)
theorem UJ{scope:Scope}{iter elt:Expr}{ifs:List Expr}{px:Pos}{mi:MI}{mt:MT}(hok:FO x X.N scope X.env.scope=true)(hc:X.calm=true)(hn:X.N.Nodup)(hs:∀z,foldedSetIterable iter X.env z=pure z)(hi:JI X (.Name x px) iter mi)(ht:∀C s H fp pins,PTs (cxK X x scope C s H fp pins) ifs (tT X.K mt))(he:∀C s H fp pins,JE (cxK X x scope C s H fp pins) elt m):JE X (.ListComp elt [⟨.Name x px,iter,ifs,0⟩] scope pos) (AI mi 0 mt m):=
 AM (Vo (te:=tE X.K m) hc hn hok hi ht (fun C s H fp pins=>he C s H fp pins) hs) fun _ _ _ h=>HC h
end
end J
end
section
namespace Ug
open PySem Sg
section
variable{P:Program}{w:World}{A:Around}{E:Value->Shared->Prop}{s:Shared}
end
section
variable{P:Program}{w:World}{A:Around}{E:Value->Shared->Prop}
end
section
variable{P:Program}{w:World}{A:Around}{E:Value->Shared->Prop}{s:Shared}
end
section
variable{P:Program}{w:World}{A:Around}{E:Value->Shared->Prop}{s:Shared}
end
section
variable{P:Program}{w:World}{A:Around}{E:Value->Shared->Prop}{s:Shared}
end
end Ug
end
section
namespace Ug
open PySem Sg PyProof.Rows
section
variable{P:Program}{w:World}{A:Around}{E:Value->Shared->Prop}{s:Shared}
end
end Ug
end
section
namespace L2
open PySem PySem.Spec PyProof.Rows Sg
section
variable{X:Cx}
theorem Pt:∀{us:List Value} {ys:List Str},StrsAre us ys->Vals (ys.map V.str) us:=fun h=>by
 induction h with
 | nil=>exact .nil
 | cons x t h ih=>exact .cons ⟨t,rfl⟩ ih
noncomputable def QZ(K:Frag):List V->Hp->VK->Prop:=fun xs H Q=>∃(p:Addr) (ns:List Str),xs=[.ref p]/\SqL K H p (ns.map V.str)/\ns.length<64/\∀(l:Addr) (ns':List Str),H l=none->ns'.Perm ns->sortedS ns'=true->Q (.ref l) (upd H l (.lst (ns'.map V.str)))
theorem J5:B9 X (.builtin "sorted") (QZ X.K):=by
 intro pins s U H xs us Q I r h;obtain⟨p,ns,rfl,hq,hl,q⟩:=h;obtain⟨u,rfl,ru⟩:=r.one;cases ru;obtain⟨its,rv,pl,hz⟩:=I.list hq;have hlen:=rv.length;rw[length_map] at hlen;refine sorted_strs pl.isList (Gg rv) (by lia) fun out ns' a1 a2 a3=>?_;obtain⟨e,he⟩:=sortedAll_at s.heap its out;have hfr:H (s.heap.objs.size+1)=none:=I.hok.fresh (le_succ _);have hl':ns'.length<=sizeLine:=by
  have:=a2.length_eq;have h64:64<=sizeLine:=by decide
  lia
 refine⟨.ref (s.heap.objs.size+1),_,I.laid (t':=s.toks) (o:=.lst (ns'.map V.str)) (fun b ob q=>sortedAll_old q) (le_succ _) ?_,rfl,q _ ns' hfr a2 a3⟩;refine⟨by rw[length_map]; exact hl',out.toList,e,Pt a1,?_⟩;rw[he]
end
end L2
namespace J
open PySem PySem.Spec PyProof.Rows L2 Sg
section
variable{X:Cx}{a b c e:Expr}{es:List Expr}{m m1 m2 m3:ME}{ms:MA}{p pos pos' p2 apos cpos q npos:Pos}{x:Str}
variable{K:Frag}{N:Addr->Prop}{H:Hp}{U:L2.St}{v:V}{L:List Addr}
noncomputable def leS(a b:Str):Bool:=!decide (b.cps.toList<a.cps.toList)
noncomputable def IQ(zs:List Str):List Str:=zs.mergeSort leS
theorem JG(a b c:Str)(h1:leS a b=true)(h2:leS b c=true):leS a c=true:=by
 simp only[leS,not_eq_true',decide_eq_false_iff_not] at *;exact fun h=>h1 (List.lt_of_le_of_lt (not_lt.mp h2) h)
theorem ON(a b:Str):(leS a b || leS b a)=true:=by
 simp only[leS,or_eq_true,not_eq_true',decide_eq_false_iff_not];by_cases h:b.cps.toList<a.cps.toList
 .exact .inr fun h2=>List.lt_irrefl _ (lt_trans h h2)
 .exact .inl h
theorem Qt(a b:Str)(h1:leS a b=true)(h2:leS b a=true):a=b:=by
 simp only[leS,not_eq_true',decide_eq_false_iff_not] at *;have e:=List.le_antisymm (not_lt.mp h2) (not_lt.mp h1);cases a; cases b;simp only[Str.mk.injEq];exact(Array.toList_inj.mp e).symm
theorem JJ:∀(p:Str) (l:List Str),risingS p l=true->(p::l).Pairwise fun a b=>leS a b=true
 | p,[],_=>by simp
 | p,x::r,h=>by
  have h':(!ltCps x.cps.toList p.cps.toList&&risingS x r)=true:=h;rw[and_eq_true,ltCps_eq] at h';have ih:=JJ x r h'.2;have hx:leS p x=true:=h'.1;refine pairwise_cons.mpr ⟨fun y hy=>?_,ih⟩;rcases mem_cons.mp hy with rfl|hy
  .exact hx
  .exact JG _ _ _ hx ((pairwise_cons.mp ih).1 y hy)
theorem Pj:∀{l:List Str},sortedS l=true->l.Pairwise fun a b=>leS a b=true
 | [],_=>.nil
 | x::r,h=>JJ x r h
theorem Rj{xs ys:List Str}(pm:xs.Perm ys)(h:sortedS xs=true):xs=IQ ys:=
 (pm.trans (List.mergeSort_perm ys _).symm).eq_of_pairwise (fun a b _ _ h1 h2=>Qt a b h1 h2) (Pj h) (List.pairwise_mergeSort JG ON ys)
theorem L0:∀(zs:List Str),(∀z∈zs,z.length<=sizeLine)->Av N H (zs.map V.str) (zs.map D.str)
 | [],_=>trivial
 | z::zs,h=>⟨.str z (h z (by simp)),L0 zs fun y hy=>h y (by simp[hy])⟩
theorem IS:∀{vs:List V} {zs:List Str},Av N H vs (zs.map D.str)->∀z∈zs,z.length<=sizeLine
 | _,[],_,z,hz=>by simp at hz
 | [],_::_,q,_,_=>by simp only[map_cons,Av] at q
 | v::vs,y::zs,q,z,hz=>by
  obtain⟨q1,q2⟩:=q;rcases mem_cons.mp hz with rfl|hz
  .cases q1; assumption
  .exact IS q2 z hz
theorem Me:∀{ds:List D} {zs:List Str},Dc ds=some zs->ds=zs.map D.str
 | [],zs,e=>by simp[Dc] at e; subst e; rfl
 | d::ds,zs,e=>by
  cases d with
  | str z =>
   simp only[Dc,map_eq_some_iff] at e;obtain⟨zs',e1,rfl⟩:=e;rw[Me e1]; rfl
  | _=>simp[Dc] at e
noncomputable def EV:List A->Option A:=on1 fun a=>(Cq a).bind fun ds=>(Dc ds).bind fun zs=>if zs.length<64 then some (.lst (((IQ zs).map D.str).map A.fz)) else none
theorem M9:OpN K EV (QZ K):=by
 intro N H xs as b Q hs e k
 replace e:=D3 e
 obtain⟨a,rfl,e⟩:=e;simp only[bind_eq_some_iff] at e;obtain⟨ds,e1,zs,e2,e3⟩:=e;split at e3
 .rename_i hl
  cases e3;obtain⟨x,L1,rfl,h1⟩:=Dm hs;obtain⟨p,vs,rfl,hp,hz',q⟩:=CT h1 e1;have ed:=Me e2;subst ed;have sh:=IS q;cases N9 q e2;refine⟨p,zs,rfl,.inl (.inl hp),hl,fun l ns' hl2 pm pw=>k _ _ ?_⟩
  have e:=Rj pm pw;subst e;have hlen:(IQ zs).length=zs.length:=List.length_mergeSort zs;refine Hy hl2 ?_ (L0 _ fun z hz=>sh z (pm.mem_iff.mp hz));rw[length_map,hlen];have:64<=sizeLine:=by decide
  lia
 .cases e3
noncomputable def GP(m:ME):MT:=fun Z=>(m Z).bind fun p=>match p.1 with
 | .val (.fz (.str z))=>some (!decide (z.length=0),p.2)
 | _=>none
theorem Tw{Q:Bool->Hp->Prop}(h:tT K (GP m) U H Q):tE K m U H fun x H1=>∃k,Ud K x H1 k/\Q k H1:=by
 obtain⟨Z,O,fp,rl,x,Z',e,k⟩:=h;simp only[GP,bind_eq_some_iff] at e;obtain⟨⟨r,Z1⟩,e1,e2⟩:=e;dsimp only at e2;split at e2
 .rename_i z
  cases e2;refine⟨Z,O,fp,rl,_,_,e1,fun v H1 yy=>?_⟩
  obtain⟨L,fp1,p,q⟩:=yy;have q':AA K (NN fp1 (ad O L)) H1 v (.fz (.str z)) L:=q;obtain⟨rfl,hz⟩:=CG q';refine⟨!decide (z.length=0),⟨hz,?_⟩,k fp1 H1 p.drop0⟩;by_cases h0:z.length=0
  .simp[h0]
  .have:((z.length:Int) != 0)=true:=by simp; lia
   rw[this]; simp[h0]
 .cases e2
theorem NU(he:∀whole,isTrue e X.env whole=(do let v <- whole; standAt e.pos; holding [v] (truthy v)))(h:JE X e m):JT X e (GP m):=GJ (QW h he) fun _ _ _ h=>Tw h
end
end J
end
section
namespace Lm
open PySem PyProof.Rows
noncomputable def ltT(a b:Str):Prop:=a.cps.toList<b.cps.toList
noncomputable def Hl(kf:Nat->Str)(n i:Nat):Prop:=∀j,j<n->¬ltT (kf j) (kf i)/\(j<i->ltT (kf i) (kf j))
theorem OP{a b c:Str}(h1:ltT a b)(h2:ltT b c):ltT a c:=lt_trans h1 h2
theorem Km(a:Str):¬ltT a a:=List.lt_irrefl _
theorem Sb{a b c:Str}(h1:ltT a b)(h2:¬ltT c b):ltT a c:=by
 have:a.cps.toList<c.cps.toList:=Decidable.byContradiction fun h=>h2 (List.lt_of_le_of_lt (not_lt.mp h) h1);exact this
noncomputable abbrev Kp(h h':Heap):Prop:=∀b o,h.get? b=some o->h'.get? b=some o
section
variable{prog:Program}{w:World}{A:Around}{E:Value->Shared->Prop}{s:Shared}{h₀:Heap}{l q I S:Addr}{vs:List Value}{R:Result->Shared->Prop}{Q:Value->Shared->Prop}
noncomputable def Turn(prog:Program)(w:World)(A:Around)(s:Shared)(h₀:Heap)(q:Addr)(vs:List Value)(kf:Nat->Str):Prop:=
 ∀(i:Nat) (v:Value),vs[i]? = some v->∀(h:Heap) (tk:Nat),Kp h₀ h->∀Q':Value->Shared->Prop,(∀h2 tk2 t2,Kp h h2->Q' (.str (kf i) t2) { s with heap:=h2,toks:=tk2 }) ->
  wpAny (model prog w) A (call (.ref q) [v]) Q' (fun _ _=>False) { s with heap:=h,toks:=tk }
theorem GS{kf:Nat->Str}{i j:Nat}(hb:Hl kf (j+1) i)(hij:i<=j):(ltT (kf (j+1)) (kf i)->Hl kf (j+1+1) (j+1))/\(¬ltT (kf (j+1)) (kf i)->Hl kf (j+1+1) i):=by
 constructor
 .intro h j' hj'
  by_cases e:j'=j+1
  .subst e; exact⟨Km _,fun z=>absurd z (lt_irrefl _)⟩
  .have b:=hb j' (by omega)
   exact⟨fun z=>b.1 (OP z h),fun _=>Sb h b.1⟩
 .intro h j' hj'
  by_cases e:j'=j+1
  .subst e; exact⟨h,fun z=>by omega⟩
  .exact hb j' (by omega)
theorem loop(kf:Nat->Str)(hh:A.handled=none)(hl:h₀.IsList l vs.toArray)(hlI:l≠I)(hSI:S≠I)(h0S:h₀.get? S=none)(h0I:h₀.get? I=none)(turn:Turn prog w A.in1 s h₀ q vs kf)(hR:∀i v h' tk',vs[i]? = some v->Hl kf vs.length i->Kp h₀ h'->R (.ok (.ret v)) { s with heap:=h',toks:=tk' }):
  ∀(r j i:Nat) (h:Heap) (tk:Nat) (vb:Value) (tb:Tok) (c:Nat),vs.length-(j+1)=r->j+1<=vs.length->Kp h₀ h ->
   h.get? S=some (seqObj "list" #[vb,.str (kf i) tb] c)->h.IsListIter I l (j+1)->vs[i]? = some vb->i<=j->Hl kf (j+1) i ->
   codeAny (model prog w) A (.builtin "min.loop" ⟨[.ref I,.ref q,.ref S],[]⟩) R { s with heap:=h,toks:=tk }:=by
 have hname:(toString "min" ++ toString ".loop" : String) = "min.loop" := by decide
 have W:=Walks.list (prog:=prog) (w:=w) (A:=A.in1) hh I l hlI vs.toArray;have hsz:vs.toArray.size=vs.length:=size_toArray ..;have ne0:∀{b o},h₀.get? b=some o->b≠S/\b≠I:=fun e=>⟨fun z=>(by rw[z,h0S] at e; cases e),fun z=>(by rw[z,h0I] at e; cases e)⟩;have lst:∀{h:Heap},Kp h₀ h->h.IsList l vs.toArray:=fun k=>let⟨o,e,r⟩:=hl; ⟨o,k _ _ e,r⟩;intro r;induction r with
 | zero =>
  intro j i h tk vb tb c hr hj F nS hit hvb hij hbest;have hin:j+1=vs.length:=by omega
  refine codeAny_builtin PySem.F.entry_min_loop ?_;rw[Around.under_plainId PySem.F.plain_min_loop _];show wpAny _ A.in1 (seqItems? (.ref S) >>= _) _ _ _;refine wpAny_bind (wpAny_seqItems nS rfl ?_);show wpAny _ A.in1 (tryCatch (pyNext (.ref I)) _ >>= _) _ _ _;refine wpAny_bind (wpAny_tryCatch (W.done _ _ _ ⟨by rw[hsz,<- hin]; exact hit,lst F⟩ fun h' tk' hk'=>?_));have hS':=hk' S _ (by simpa using hSI) nS;have s1:=Heap.SameBut.update h' S (Obj.mapSeq fun _=>(#[]:Array Value));show wpAny _ A.in1 (updateSeq S (fun _=>#[]) >>= _) _ _ _;refine wpAny_bind ?_;refine wpAny_updateSeq hS' rfl (wpAny_bind (wpAny_letGo (wpAny_pure ?_)));refine hR i vb _ _ hvb (by rw[<- hin]; exact hbest) fun b o e=>?_;obtain⟨n1,n2⟩:=ne0 e;exact(s1.2 b n1).trans (hk' b o (by simpa using n2) (F b o e))
 | succ r ih =>
  intro j i h tk vb tb c hr hj F nS hit hvb hij hbest;have hlt:j+1<vs.length:=by omega
  refine codeAny_builtin PySem.F.entry_min_loop ?_;rw[Around.under_plainId PySem.F.plain_min_loop _];show wpAny _ A.in1 (seqItems? (.ref S) >>= _) _ _ _;refine wpAny_bind (wpAny_seqItems nS rfl ?_);show wpAny _ A.in1 (tryCatch (pyNext (.ref I)) _ >>= _) _ _ _;refine wpAny_bind (wpAny_tryCatch (W.item (j+1) _ _ _ (by rw[hsz]; exact hlt) ⟨hit,lst F⟩ fun v h' tk' hP hst' hk'=>?_));have hv:vs[j+1]? = some v:=by simpa using hP
  have F1:Kp h₀ h':=fun b o e=>hk' b o (by simpa using(ne0 e).2) (F b o e);have nS1:=hk' S _ (by simpa using hSI) nS;show wpAny _ A.in1 (tryCatch (holding [v] (call (.ref q) [v])) _ >>= _) _ _ _;refine wpAny_bind (wpAny_tryCatch (wpAny_holding (wpAny_mono (turn (j+1) v hv h' tk' F1 (fun x s''=>∃h2 tk2 t2,x=.str (kf (j+1)) t2/\s''={ s with heap:=h2,toks:=tk2 }/\Kp h' h2) fun h2 tk2 t2 k2=>⟨h2,tk2,t2,rfl,rfl,k2⟩) (fun x s'' he=>?_) fun _ _ hF=>hF.elim)));obtain⟨h2,tk2,t2,rfl,rfl,k2⟩:=he;have F2:Kp h₀ h2:=fun b o e=>k2 b o (F1 b o e);have nS2:=k2 _ _ nS1;obtain⟨oI,hoI,hoc,hod⟩:=id hst'.1;have hit2:h2.IsListIter I l (j+1+1):=⟨oI,k2 _ _ hoI,hoc,hod⟩;show wpAny _ A.in1 (tryCatch (holding [v,.str (kf (j+1)) t2] (richCompare .Lt (.str (kf (j+1)) t2) (.str (kf i) tb) >>= _)) _ >>= _) _ _ _;refine wpAny_bind (wpAny_tryCatch (wpAny_holding (wpAny_bind (PyProof.Rows.lt_str ?_))));refine wpAny_bind (wpAny_holding (wpAny_truthy_bool ?_));refine wpAny_bind (wpAny_letGo (wpAny_pure ?_));by_cases hb':(kf (j+1)).cps.toList<(kf i).cps.toList
  .have s1:=Heap.SameBut.update h2 S (Obj.mapSeq fun _=>#[v,.str (kf (j+1)) t2])
   obtain⟨c2,hc2⟩:∃c2,(h2.update S (Obj.mapSeq fun _=>#[v,.str (kf (j+1)) t2])).get? S=some (seqObj "list" #[v,.str (kf (j+1)) t2] c2):=⟨_,get?_update_seq nS2 fun _=>#[v,.str (kf (j+1)) t2]⟩;simp only[hb',decide_true,if_true];refine wpAny_bind ?_;refine wpAny_updateSeq nS2 rfl (wpAny_bind (wpAny_letGo ?_));rw[hname];exact wpAny_pure ⟨plainId_quiet PySem.F.plain_min_loop _,ih (j+1) (j+1) _ _ v t2 c2 (by omega) hlt (fun b o e=>(s1.2 b (ne0 e).1).trans (F2 b o e)) hc2 ⟨oI,(s1.2 I hSI.symm).trans (k2 _ _ hoI),hoc,hod⟩ hv (le_refl _) ((GS hbest hij).1 hb')⟩
  .simp only[hb',decide_false,false_eq_true,if_false]
   refine wpAny_bind (wpAny_letGo ?_);rw[hname];exact wpAny_pure ⟨plainId_quiet PySem.F.plain_min_loop _,ih (j+1) i _ _ vb tb c (by omega) hlt F2 nS2 hit2 hvb (by omega) ((GS hbest hij).2 hb')⟩
theorem Sd(kf:Nat->Str)(hh:A.handled=none)(hl:s.heap.IsList l vs.toArray)(hne:0<vs.length)(turn:Turn prog w A.in1 s s.heap q vs kf)(hQ:∀i v h' tk',vs[i]? = some v->Hl kf vs.length i->Kp s.heap h'->Q v { s with heap:=h',toks:=tk' }):
  wpAny (model prog w) A (call (.builtin "min") [.ref l] [(Str.ofString "key",.ref q)]) Q E s:=by
 have hname:(toString "min" ++ toString ".loop" : String) = "min.loop" := by decide
 obtain⟨ol,hol,_⟩:=id hl;have hll:l<s.heap.objs.size:=lt_size hol;refine kmk_tree PySem.F.kind_min PySem.F.plain_min PySem.F.entry_min (kmk_min_key _ _) ?_;show wpAny _ A.in1 (Builtin.Builtins.bindParams "min" ["key","default"] 0 ⟨[],[(Str.ofString "key",.ref q)]⟩ >>= _) _ _ s;refine wpAny_bind (wpAny_of_eq (show Builtin.Builtins.bindParams "min" ["key","default"] 0 ⟨[],[(Str.ofString "key",.ref q)]⟩=pure [some (.ref q),none] from rfl) ?_);refine wpAny_bind (wpAny_pure ?_);refine wpAny_bind (wpAny_pyIter_list hl ?_);refine wpAny_bind (wpAny_newList ?_ (zero_le _));rw[hname];generalize hH:(s.heap.push { cls:=.type "list_iterator",data:=.fields #[.ref l,.int 0 0] })=H1;have z1:H1.objs.size=s.heap.objs.size+1:=by rw[<- hH]; exact size_push' ..
 have k1:Kp s.heap H1:=by rw[<- hH]; exact fun b o e=>Heap.get?_push_of_some _ e
 have gI0:H1.get? s.heap.objs.size=some { cls:=.type "list_iterator",data:=.fields #[.ref l,.int 0 0] }:=by rw[<- hH]; exact Heap.get?_push_size _ rfl
 have hlI:l≠s.heap.objs.size:=ne_of_lt hll;have hSI:H1.objs.size≠s.heap.objs.size:=by rw[z1]; exact ne_of_gt (Nat.lt_succ_self _)
 have h0I:s.heap.get? s.heap.objs.size=none:=Heap.get?_none_of_le (le_refl _);have h0S:s.heap.get? H1.objs.size=none:=Heap.get?_none_of_le (by rw[z1]; exact le_succ _);have gS:(H1.push (seqObj "list" #[] 0)).get? H1.objs.size=some (seqObj "list" #[] 0):=Heap.get?_push_size _ rfl;have k2:Kp s.heap (H1.push (seqObj "list" #[] 0)):=fun b o e=>Heap.get?_push_of_some _ (k1 b o e);have gI:(H1.push (seqObj "list" #[] 0)).get? s.heap.objs.size=some { cls:=.type "list_iterator",data:=.fields #[.ref l,.int 0 0] }:=Heap.get?_push_of_some _ gI0;refine wpAny_pure ⟨plainId_quiet PySem.F.plain_min_loop _,?_⟩;have W:=Walks.list (prog:=prog) (w:=w) (A:=A.in1) hh s.heap.objs.size l hlI vs.toArray;have hsz:vs.toArray.size=vs.length:=size_toArray ..;refine codeAny_builtin PySem.F.entry_min_loop ?_;rw[Around.under_plainId PySem.F.plain_min_loop _];show wpAny _ A.in1 (seqItems? (.ref _) >>= _) _ _ _;refine wpAny_bind (wpAny_seqItems gS rfl ?_);show wpAny _ A.in1 (tryCatch (pyNext (.ref s.heap.objs.size)) _ >>= _) _ _ _;refine wpAny_bind (wpAny_tryCatch (W.item 0 _ _ _ (by rw[hsz]; exact hne) ⟨⟨_,gI,rfl,rfl⟩,(let⟨o,e,r⟩:=hl; ⟨o,k2 _ _ e,r⟩)⟩ fun v h' tk' hP hst' hk'=>?_));have hv:vs[0]? = some v:=by simpa using hP
 have F1:Kp s.heap h':=fun b o e=>hk' b o (by simpa using ne_of_lt (lt_size e)) (k2 b o e);have nS1:=hk' _ _ (by simpa using hSI) gS;obtain⟨oI',hoI',hoc,hod⟩:=id hst'.1;show wpAny _ A.in1 (tryCatch (holding [v] (call (.ref q) [v])) _ >>= _) _ _ _;refine wpAny_bind (wpAny_tryCatch (wpAny_holding (wpAny_mono (turn 0 v hv h' tk' F1 (fun x s''=>∃h2 tk2 t2,x=.str (kf 0) t2/\s''={ s with heap:=h2,toks:=tk2 }/\Kp h' h2) fun h2 tk2 t2 k2=>⟨h2,tk2,t2,rfl,rfl,k2⟩) (fun x s'' he=>?_) fun _ _ hF=>hF.elim)));obtain⟨h2,tk2,t2,rfl,rfl,k3⟩:=he;have nS2:=k3 _ _ nS1;have s1:=Heap.SameBut.update h2 H1.objs.size (Obj.mapSeq fun _=>#[v,.str (kf 0) t2]);obtain⟨c2,hc2⟩:∃c2,(h2.update H1.objs.size (Obj.mapSeq fun _=>#[v,.str (kf 0) t2])).get? H1.objs.size=some (seqObj "list" #[v,.str (kf 0) t2] c2):=⟨_,get?_update_seq nS2 fun _=>#[v,.str (kf 0) t2]⟩;show wpAny _ A.in1 (updateSeq H1.objs.size (fun _=>#[v,.str (kf 0) t2]) >>= _) _ _ _;refine wpAny_bind (wpAny_updateSeq nS2 rfl ?_);rw[hname];refine wpAny_pure ⟨plainId_quiet PySem.F.plain_min_loop _,?_⟩;refine loop (s:=s) (h₀:=s.heap) (l:=l) (vs:=vs) kf hh hl hlI hSI h0S h0I turn hQ (vs.length-1) 0 0 _ _ v t2 c2 rfl hne (fun b o e=>(s1.2 b (fun z=>?_)).trans (k3 b o (F1 b o e))) hc2 ⟨oI',(s1.2 _ hSI.symm).trans (k3 _ _ hoI'),hoc,hod⟩ hv (le_refl _) fun j hj=>?_
 .rw[z,h0S] at e; cases e
 .have:j=0:=by omega
  subst this;exact⟨Km _,fun z=>absurd z (lt_irrefl _)⟩
end
end Lm
end
section
namespace L2
open PySem PySem.Spec PyProof.Rows PySem.W
section
variable{X:Cx}{pins:List (Addr×Obj)}{U:St}{H:Hp}{s:Shared}{h':Heap}
theorem Inv.tabled{t':Nat}{P c':Addr}{ps:Array Value}(I:Inv X pins U H s)(eP:H P=some (.tbl ps))(hx:∀b o,b≠P->s.heap.get? b=some o->h'.get? b=some o)(hP:∃o,h'.get? P=some o)(hc:s.heap.objs.size<=c')(hok:HOk X.prog X.w (upd H c' (.own P)) h'):Inv X pins U (upd H c' (.own P)) { s with heap:=h',toks:=t' }:=by
 have hn:H c'=none:=I.hok.fresh hc;have neP:∀b,H b=none->b≠P:=fun b e z=>by rw[z,eP] at e; cases e
 have neC:∀b u,H b=some u->b≠c':=fun b u e z=>by rw[z,hn] at e; cases e
 refine I.step (g':=s.gens) (d':=s.drawn) (ch:=[]) (fun b hb=>by simp at hb) (fun b o _ _ _ e n=>hx b o (neP b n) e) (fun b o _ _ _ e n=>⟨o.slots,hx b o (neP b n) e⟩) (fun b o _ e n=>?_)
  (fun b o _ e=>?_) (fun b xs e=>by rw[Au (neC b _ e)]; exact e) (fun b o u e=>by rw[Au (neC b _ e)]; exact e) (fun b qs e=>⟨#[],by rw[Au (neC b _ e),e]; simp⟩) (fun m hm=>?_) hok I.bare
 .rw[Au (ne_of_lt (lt_of_lt_of_le (lt_size e) hc))]; exact n
 .by_cases hb:b=P
  .rw[hb]; exact hP
  .exact⟨o,hx b o hb e⟩
 .obtain⟨o,es,ep,ho,r⟩:=hm
  exact⟨o,es,ep,hx _ o (neP _ I.free) ho,r⟩
theorem Mr{pos pos':Pos}{v c:Value}(l:List Value)(h:TriplesOk l)(e:codeAmong pos (l++[rawInt pos'.line,rawInt pos'.col,v])=some c):codeAmong pos l=some c\/c=v:=by
 fun_induction TriplesOk l with
 | case1 =>
  simp only[nil_append,codeAmong,rawInt] at e;split at e
  .exact .inr (Option.some.inj e).symm
  .cases e
 | case2 a t b u x rest ih =>
  simp only[cons_append,codeAmong] at e |-;split at e
  .rename_i q
   rw[if_pos q]; exact .inl e
  .rename_i q
   rw[if_neg q]; exact ih h e
 | case3=>exact h.elim
theorem MG{P:Program}{w:World}{h h':Heap}{b c':Addr}{ps qs:Array Value}{pos:Pos}{q:Str}(hok:HOk P w H h)(eP:H b=some (.tbl ps))(gP:h.get? b=some { cls:=.none,data:=.fields qs })(tr:TriplesOk qs.toList)(hx:∀a o,a≠b->h.get? a=some o->h'.get? a=some o)(hP:h'.get? b=some { cls:=.none,data:=.fields (qs ++ #[rawInt pos.line,rawInt pos.col,.ref c']) })(hc:h.objs.size<=c')(hr:h'.CodeRec (.ref c') q)(hq:ps[0]? = some (.str q 0)):
  HOk P w (upd H c' (.own b)) h':=fun a u e=>by
 have hn:H c'=none:=hok.fresh hc;have neC:∀a u,H a=some u->a≠c':=fun a u e z=>by rw[z,hn] at e; cases e
 obtain⟨c2,oc,vs,t,e2,g1,g2,g3⟩:=hr;cases e2;by_cases ha:a=c'
 .subst ha; rw[AN] at e; cases e; exact⟨oc,g1⟩
 .rw[Au ha] at e
  by_cases hb:a=b
  .subst hb
   rw[eP] at e; cases e;obtain⟨qs',gP',_,f⟩:=hok a _ eP;rw[gP] at gP'; cases gP';refine⟨_,hP,by rw[Array.toList_append]; exact TriplesOk_snoc _ _ _ _ tr,fun pos' c hcc=>?_⟩;rw[Array.toList_append] at hcc;rcases Mr _ tr hcc with z|z
   .obtain⟨c3,oc3,vs3,t3,q3,f1,f2,f3,f4⟩:=f pos' c z
    have nb:c3≠a:=fun z=>by rw[z,eP] at f2; cases f2
    exact⟨c3,oc3,vs3,t3,q3,f1,by rw[Au (neC _ _ f2)]; exact f2,hx _ _ nb f3,f4⟩
   .exact⟨c',oc,vs,t,q,z,AN,g1,g2,g3,hq⟩
  .refine(hok a u e).stay (fun d v hd q=>hx d v (fun z=>?_) q) (fun d q=>by rw[Au (neC d _ q)]; exact q) fun d xs q=>by rw[Au (neC d _ q)]; exact q
   rcases hd with hd|hd
   .exact hb (hd ▸ z)
   .rw[z,eP] at hd; cases hd
noncomputable abbrev R8(params:Arguments)(body:Expr)(scope:Scope)(cl:List (Str×Addr))(pm:Value)(c':Addr)(ctv:Value):Obj:=kla_obj "<lambda>" BX params body scope cl pm c' ctv
theorem Qq{params:Arguments}{body:Expr}{scope:Scope}{pos:Pos}{c P:Addr}{cl:List (Str×Addr)}{Q:Value->Shared->Prop}(I:Inv X pins U H s)(hcode:X.env.code=.ref c)(ht:tabIn X.K Be=some (c,P))(hh:codeHdIn X.K c P=true)(hq:X.env.qual ++ "<lambda>" = BX)(hdef:defaultsOf params X.env=([],[]))(hcl:closureFor scope X.env=pure cl)(h:∀f c' pm ctv h' tk H2,Inv X pins U H2 { s with heap:=h',toks:=tk }->DL H H2->h'.get? f=some (R8 params body scope cl pm c' ctv)->h'.CodeRec (.ref c') BX->Q (.ref f) { s with heap:=h',toks:=tk }):
  wpAny (model X.prog X.w) X.A (eval (.Lambda params body scope pos) X.env) Q X.xe s:=by
 obtain⟨ps,eP,e0⟩:=I.tabs c P ht;obtain⟨qs,gP,tr,fc⟩:=I.hok P _ eP;have C:CodeHd s.heap c P:=codeHd_of_K I.kIn hh;obtain⟨bm,ob,b1,b2,b3,b4,b5,b6⟩:=I.mod.bmain;have g3:=I.bk _ _ b3;have hgs:s.heap.Ns mainGlobals X.mg:=I.mod.glob.keeps I.bk;have hgP:mainGlobals≠P:=fun q=>by
  obtain⟨o,es,ep,e,hd,_⟩:=hgs;rw[q,gP] at e; cases e; cases hd
 have hbP:bm≠P:=fun q=>by rw[q,gP] at g3; cases g3; cases b4
 have hbG:bm≠mainGlobals:=fun q=>by
  obtain⟨o,es,ep,e,hd,_⟩:=hgs;rw[q,e] at g3; cases g3; rw[hd] at b6; cases b6
 have hba:s.heap.BuiltinsAt X.mg P:=⟨bm,ob,b1,b2,hbG,hbP,g3,b4,b5,b6⟩;refine kla_eval hdef ?_;rw[hq];cases hnf:codeAmong pos qs.toList with
 | none =>
  refine kla_makeFunction hcl I.ok.glob hgs hcode C gP tr hnf hgP hba fun c' ctv h1 tk hx hge hlt hrec htb=>?_;have ok2:=MG (q:=BX) I.hok eP gP tr hx htb hge hrec e0;have I2:=I.tabled (t':=tk) eP hx ⟨_,htb⟩ hge ok2;have I3:Inv X pins U (upd H c' (.own P)) { s with heap:=h1.push (R8 params body scope cl ((X.mg "__name__").getD .none) c' ctv),toks:=tk }:=I2.kept (t':=tk) fun b o e=>Heap.get?_push_of_some _ e;refine h _ c' _ ctv _ tk _ I3 (J.Dp (I.hok.fresh hge)) (Heap.get?_push_size _ rfl) ?_;obtain⟨c2,oc,vs,t,e1,e2,e3⟩:=hrec;exact⟨c2,oc,vs,t,e1,Heap.get?_push_of_some _ e2,e3⟩
 | some cv =>
  obtain⟨c',oc,vs,t,q,rfl,f2,f3,f4,f5,f6⟩:=fc pos cv hnf;rw[e0] at f6;have hqq:q=BX:=by
   have:=Option.some.inj f6;cases this; rfl
  subst hqq;refine kla_makeFunctionHit hcl I.ok.glob hgs hcode C gP tr hnf hba fun ctv h1 tk hk hsz=>?_;have I3:Inv X pins U H { s with heap:=h1.push (R8 params body scope cl ((X.mg "__name__").getD .none) c' ctv),toks:=tk }:=I.kept (t':=tk) fun b o e=>Heap.get?_push_of_some _ (hk b o e);exact h _ c' _ ctv _ tk _ I3 (fun _ _ e=>e) (Heap.get?_push_size _ rfl) ⟨c',oc,vs,t,rfl,Heap.get?_push_of_some _ (hk _ _ f3),f4,f5⟩
end
theorem Qp{prog:Program}{w:World}{A:Around}{E:Value->Shared->Prop}{s:Shared}{Q:Value->Shared->Prop}{f c' cr:Addr}{x y:Str}{p1 p2 p3:Pos}{params:Arguments}{scope:Scope}{pm ctv:Value}{z:Str}{t ti:Tok}{i:Int}{c:Nat}(hroom:A.depth<recursionLimit)(hnl:s.heap.NoLimit)(ho:s.heap.get? f=some (R8 params (.Subscript (.Name x p1) (.Name y p2) p3) scope [(x,cr)] pm c' ctv))(hcd:s.heap.CodeRec (.ref c') BX)(hcell:s.heap.IsCell cr (some (.str z t)))(hbind:∀v,bindArgs (kla_fn "<lambda>" BX params (.Subscript (.Name x p1) (.Name y p2) p3) scope [(x,cr)] pm (.ref c') ctv) ⟨[v],[]⟩=pure [(y,v)])(hk:scope.kind=.function)(hco:scope.isCoroutine=false)(hgen:scope.isGenerator=false)(hcl:∀n∈scope.names,n.2≠.cell)(hx:scope.names.lookup x=some .free)(hy:scope.names.lookup y=some .local)(dx:(x==("__debug__" : Str))=false)(dy:(y==("__debug__" : Str))=false)(dc:(x==("__classdict__" : Str))=false)(hz:z.length<=sizeLine)(hi:atI z.cps.toList i=some c)(hQ:∀h' tk t',Lm.Kp s.heap h'->Q (.str ⟨#[c]⟩ t') { s with heap:=h',toks:=tk }):
  wpAny (model prog w) A (call (.ref f) [.int i ti]) Q E s:=by
 refine wpAny_call (kla_callFunE hroom ho rfl hco hgen rfl hcd ?_);rw[hbind];refine wpAny_pure (wpAny_newFunctionEnv hcl (fun b hb=>by simp at hb; rw[hb]; exact hy) (fun h1 hns hsb=>⟨?_,?_⟩) hk)
 .exact hnl.fresh _ hsb
 have k1:Lm.Kp s.heap h1:=fun b o e=>hsb.extBut b o (ne_of_lt (lt_size e)) (Heap.get?_push_of_some _ e);refine kla_codeExpr ?_;refine Subscript_ (wpAny_Name (wpAny_loadName_free hk hx (show List.lookup x [(x,cr)]=some cr by simp) (let⟨o,e,d⟩:=hcell; ⟨o,k1 _ _ e,d⟩) ?_ dc) dx);refine wpAny_Name (wpAny_loadName_local (v:=.int i ti) hk hy hns (by simp) ?_) dy;obtain⟨j,h1',h2,h3,h4,h5⟩:=Ca hi;have hl:z.cps.toList.length=z.length:=by simp[Str.length]
 rw[hl] at h1' h4 h5;have hn:=Fg;exact tail_any (typeIs_str _ z t) slot_str_getitem.lookup (getItem_str (c:=c) (by
  have e1:decide (i < -(2 ^ 63:Int))=false:=decide_eq_false (by lia);have e2:decide (i ≥ 2 ^ 63)=false:=decide_eq_false (by lia);rw[e1,e2,Bool.or_false]) (by rw[h1']; simpa using h2) (hQ _ _ _ k1)) rfl
end L2
namespace L2
open PySem PySem.Spec PyProof.Rows PySem.W
noncomputable def cAt(z:Str)(n:Int):Nat:=(atI z.cps.toList n).getD 0
noncomputable def VI(K:Frag):R2:=fun x y H Q=>∃a ns z,x=.ref a/\y=.str z/\SqL K H a (ns.map V.int)/\ns≠[]/\z.length<=sizeLine/\(∀n∈ns,∃c,atI z.cps.toList n=some c) /\
 ∀H2 (j:Nat) n,DL H H2->ns[j]? = some n->Lm.Hl (fun j=>⟨#[cAt z (ns.getD j 0)]⟩) ns.length j->Q (.int n) H2
noncomputable def XM(K:Frag)(te:TE)(i:Nat):TE:=fun U H Q=>te U H fun x H1=>∃y,U[i]? = some (some y)/\VI K x y H1 Q
theorem SqL.same{K:Frag}{H H2:Hp}{a:Addr}{xs:List V}(h:SqL K H a xs)(sm:DL H H2):SqL K H2 a xs:=by
 rcases h with (h|⟨o,h⟩)|h
 .exact .inl (.inl (sm _ _ h))
 .exact .inl (.inr ⟨o,sm _ _ h⟩)
 .exact .inr h
noncomputable def WN(Q:VK):List V->Hp->Prop
 | [v],H=>Q v H
 | _,_=>False
theorem Sq{Q:VK}{vs:List V}{H:Hp}(h:WN Q vs H):∃v,vs=[v]/\Q v H:=by
 match vs,h with
 | [v],h=>exact⟨v,rfl,h⟩
theorem SH{X:Cx}{e:Expr}{te:TE}{i k:Nat}{x y:Str}{p p1 p2 p3 lp kp pos:Pos}{params:Arguments}{scope:Scope}{c P cr:Addr}(hc:X.calm=true)(hr:Room k X.A)(hcode:X.env.code=.ref c)(ht:tabIn X.K Be=some (c,P))(hh:codeHdIn X.K c P=true)(hg:Gl X "min")(hm:X.mg "min" = none)(hN:X.N[i]? = some x)(hkx:X.env.kindOf x=some .cell)(hcl:closureFor scope X.env=pure [(x,cr)])(hcr:X.env.cells.lookup x=some cr)(hq:X.env.qual ++ "<lambda>" = BX)(hdef:defaultsOf params X.env=([],[]))(hbind:∀pm c' ctv v,bindArgs (kla_fn "<lambda>" BX params (.Subscript (.Name x p1) (.Name y p2) p3) scope [(x,cr)] pm (.ref c') ctv) ⟨[v],[]⟩=pure [(y,v)])(hk:scope.kind=.function)(hco:scope.isCoroutine=false)(hgen:scope.isGenerator=false)(hnc:∀n∈scope.names,n.2≠.cell)(hx:scope.names.lookup x=some .free)(hy:scope.names.lookup y=some .local)(dx:(x==("__debug__" : Str))=false)(dy:(y==("__debug__" : Str))=false)(dc:(x==("__classdict__" : Str))=false)(hs:starEach [e] X.env=[(false,eval e X.env)])(he:PE X e te):
  PE X (.Call (.Name "min" p) [e] [⟨some "key",.Lambda params (.Subscript (.Name x p1) (.Name y p2) p3) scope lp,kp⟩] pos) (XM X.K te i):=by
 intro pins s U H Q I h;refine wpAny_Call_Name_kw (F9 I hg hm PyProof.Rows.Boot.«min» ?_ (by decide) (by decide));refine callWith_kw ?_ (by rw[hs]; rfl) (by rw[hs]; rfl) rfl rfl;refine thn (Cu he D4 hs pos pins s U H (WN fun v H1=>∃y,U[i]? = some (some y)/\VI X.K v y H1 Q) I h) fun us s1 yy=>?_;obtain⟨vs,H1,I1,r1,q1⟩:=yy;obtain⟨v,e1,q1⟩:=Sq q1;subst e1;obtain⟨w,e2,a,ns,z,rfl,rfl,hq1,hne,hz,hin,fin⟩:=q1;obtain⟨u,rfl,ru⟩:=r1.one;cases ru;refine kws_cons (Qq I1 hcode ht hh hq hdef hcl fun f c' pm ctv h2 tk H2 I2 sm ho hcd=>kws_nil ?_);show wpAny _ X.A (call (.builtin "min") [.ref a] [(Str.ofString "key",.ref f)]) _ _ _;obtain⟨its,rv,pl,hzl⟩:=I2.list (hq1.same sm);have hlen:=rv.length;rw[length_map] at hlen;obtain⟨m,hn,hl⟩:=I2.loc;obtain⟨uz,rz,lk⟩:=hl i x (.str z) hN e2 (.inr (.inl hkx));obtain⟨tz,rfl⟩:=rz;have hcell:h2.IsCell cr (some (.str z tz)):=by
  rcases lk with ⟨z1,_⟩|⟨_,c2,e3,e4⟩
  .rw[hkx] at z1; cases z1
  .rw[hcr] at e3; cases e3; exact e4
 refine Lm.Sd (fun j=>⟨#[cAt z (ns.getD j 0)]⟩) (I2.ok.hd hc) pl.isList (by rw[<- hlen]; exact length_pos_iff.mpr hne) (fun j v hj h3 tk3 k3 Q' hQ'=>?_) fun j v h3 tk3 hj hb k3=>?_
 .obtain⟨n,hn1,hn2⟩:∃n,ns[j]? = some n/\∃t,v=.int n t:=by
   have hjl:j<ns.length:=by rw[hlen]; exact(List.getElem?_eq_some_iff.mp hj).1
   have e5:(ns.map V.int)[j]? = some (.int ns[j]):=by rw[List.getElem?_map,List.getElem?_eq_getElem hjl]; rfl
   obtain⟨u,hu,ru⟩:=rv.get e5;rw[hj] at hu; cases hu;obtain⟨t,rfl⟩:=ru;exact⟨_,List.getElem?_eq_getElem hjl,t,rfl⟩
  obtain⟨t,rfl⟩:=hn2;obtain⟨ch,hch⟩:=hin n (List.mem_of_getElem? hn1);have ek:(⟨#[cAt z (ns.getD j 0)]⟩:Str)=⟨#[ch]⟩:=by
   simp only[cAt,List.getD_eq_getElem?_getD,hn1,getD_some,hch]
  dsimp only at hQ';rw[ek] at hQ';obtain⟨o1,o2,o3⟩:=hcell;obtain⟨d1,d2,d3,d4,d5,d6,d7⟩:=hcd;exact Qp (s:={ s1 with heap:=h3,toks:=tk3 }) (by have:=hr.dp; show X.A.in1.depth<_; simp; lia) (I2.nolimit.keeps k3) (k3 _ _ ho) ⟨d1,d2,d3,d4,d5,k3 _ _ d6,d7⟩ ⟨o1,k3 _ _ o2,o3⟩ (hbind pm c' ctv) hk hco hgen hnc hx hy dx dy dc hz hch fun h4 tk4 t4 k4=>hQ' h4 tk4 t4 k4
 .have hjl:j<ns.length:=by rw[hlen]; exact(List.getElem?_eq_some_iff.mp hj).1
  have e5:(ns.map V.int)[j]? = some (.int ns[j]):=by rw[List.getElem?_map,List.getElem?_eq_getElem hjl]; rfl
  obtain⟨u,hu,ru⟩:=rv.get e5;rw[hj] at hu; cases hu;rw[<- hlen] at hb;exact⟨.int ns[j],H2,I2.kept (t':=tk3) k3,ru,fin H2 j _ sm (List.getElem?_eq_getElem hjl) hb⟩
end L2
end
section
namespace J
open PySem PySem.Spec PyProof.Rows L2 PySem.W
noncomputable def Hn(z:Str):Int->List Int->Int
 | b,[]=>b
 | b,n::ns=>if cAt z n<cAt z b then Hn z n ns else Hn z b ns
theorem WJ(a b:Nat):Lm.ltT ⟨#[a]⟩ ⟨#[b]⟩↔a<b:=by
 show([a] < [b])↔a<b;rw[List.cons_lt_cons_iff];constructor
 .rintro (h|⟨_,h⟩)
  .exact h
  .exact absurd h (List.not_lt_nil _)
 .intro h; exact .inl h
theorem Oj{kf:Nat->Str}{n i j:Nat}(hi:Lm.Hl kf n i)(hj:Lm.Hl kf n j)(h1:i<n)(h2:j<n):i=j:=by
 rcases Nat.lt_trichotomy i j with h|h|h
 .exact absurd ((hj i h1).2 h) (hi j h2).1
 .exact h
 .exact absurd ((hi j h2).2 h) (hj i h1).1
theorem Ot(z:Str)(l:List Int):∀(ns:List Int) (m i:Nat),l.drop (m+1)=ns->m+1<=l.length->i<=m->Lm.Hl (fun j=>⟨#[cAt z (l.getD j 0)]⟩) (m+1) i->∃j,j<l.length/\l.getD j 0=Hn z (l.getD i 0) ns/\Lm.Hl (fun j=>⟨#[cAt z (l.getD j 0)]⟩) l.length j:=by
 intro ns;induction ns with
 | nil =>
  intro m i hd hm hi hb;have:l.length<=m+1:=List.drop_eq_nil_iff.mp hd;have e:m+1=l.length:=by lia
  exact⟨i,by lia,rfl,by rw[<- e]; exact hb⟩
 | cons n ns ih =>
  intro m i hd hm hi hb;have hl:m+1<l.length:=by
   by_cases q:m+1<l.length
   .exact q
   .rw[List.drop_eq_nil_iff.mpr (by lia)] at hd; cases hd
  rw[List.drop_eq_getElem_cons hl] at hd;have e1:=(List.cons.inj hd).1;have e2:=(List.cons.inj hd).2;have eg:l.getD (m+1) 0=n:=by rw[List.getD_eq_getElem?_getD,List.getElem?_eq_getElem hl]; exact e1
  have bs:=Lm.GS hb hi;simp only[WJ,eg] at bs;by_cases hc:cAt z n<cAt z (l.getD i 0)
  .obtain⟨j,j1,j2,j3⟩:=ih (m+1) (m+1) e2 hl (le_refl _) (bs.1 hc)
   exact⟨j,j1,by rw[j2,eg,Hn,if_pos hc],j3⟩
  .obtain⟨j,j1,j2,j3⟩:=ih (m+1) i e2 hl (by lia) (bs.2 hc)
   exact⟨j,j1,by rw[j2,Hn,if_neg hc],j3⟩
theorem RN{z:Str}{b:Int}{ns:List Int}{j:Nat}{n:Int}(h:(b::ns)[j]? = some n)(hb:Lm.Hl (fun j=>⟨#[cAt z ((b::ns).getD j 0)]⟩) (b::ns).length j):n=Hn z b ns:=by
 obtain⟨i,i1,i2,i3⟩:=Ot z (b::ns) ns 0 0 rfl (by simp) (le_refl _) (fun k hk=>by
  have:k=0:=by lia
  subst this;exact⟨Lm.Km _,fun q=>absurd q (lt_irrefl _)⟩)
 have hj:j<(b::ns).length:=(List.getElem?_eq_some_iff.mp h).1;have e:=Oj hb i3 hj i1;subst e;rw[List.getD_eq_getElem?_getD,h] at i2;exact i2
section
variable{X:Cx}{a b c e:Expr}{es:List Expr}{m m1 m2 m3:ME}{ms:MA}{p pos pos' p1 p2 p3 lp kp:Pos}{x y:Str}
variable{K:Frag}{N:Addr->Prop}{H:Hp}{U:L2.St}{v:V}{L:List Addr}
noncomputable def NV:List A->Option A:=on2 fun a b=>(Bo b).bind fun z=>(Cq a).bind fun ds=>(Hi ds).bind fun ns=>if (ns.all fun n=>decide (0<=n)&&decide (n<z.length))&&!ns.isEmpty then some (.fz (.int (Hn z (ns.headD 0) ns.tail))) else none
theorem Uk{α:Type}(l:List α)(k:Nat)(h:k<l.length):atI l (k:Int)=some l[k]:=by simp[atI,ixN,h]
theorem Wv{z:Str}{n:Int}(h0:0<=n)(h1:n<z.length):∃c,atI z.cps.toList n=some c:=by
 have hl:z.cps.toList.length=z.length:=by simp[Str.length]
 obtain⟨k,rfl⟩:∃k:Nat,n=k:=⟨n.toNat,by lia⟩;exact⟨_,Uk _ k (by lia)⟩
theorem Sn:OpN K NV (r2L (VI K)):=by
 intro N H xs as b Q hs e k
 replace e:=BZ e
 obtain⟨a,b',rfl,e⟩:=e;simp only[bind_eq_some_iff] at e;obtain⟨z,ez,ds,e1,ns,e2,e3⟩:=e;split at e3
 .rename_i hl
  cases e3;rw[and_eq_true,all_eq_true] at hl;obtain⟨x,y,L1,L2,rfl,h1,h2⟩:=Bl hs;obtain⟨p,vs,rfl,hp,hz',q⟩:=CT h1 e1;cases RX q e2;have eb:=Cw ez;subst eb;obtain⟨rfl,hz⟩:=CG h2;cases ns with
  | nil=>simp at hl
  | cons n0 r =>
   refine⟨_,_,rfl,p,n0::r,z,rfl,rfl,.inl (.inl hp),by simp,hz,fun n hn=>?_,fun H2 j n sm hj hb=>?_⟩
   .have:=hl.1 n hn
    rw[and_eq_true,decide_eq_true_iff,decide_eq_true_iff] at this;exact Wv this.1 this.2
   .have en:=RN hj hb
    subst en;exact k _ _ ⟨sm,[],by rw[AA]; exact⟨rfl,.int _⟩,nodup_nil,fun _ h=>by simp at h⟩
 .cases e3
theorem R1(i:Nat){params:Arguments}{scope:Scope}{c P cr:Addr}{k:Nat}(hc:X.calm=true)(hr:Room k X.A)(ht:tabIn X.K Be=some (c,P))(hh:codeHdIn X.K c P=true)(hm:X.mg "min" = none)(hcode:X.env.code=.ref c)(hg:Gl X "min")(hN:X.N[i]? = some x)(hkx:X.env.kindOf x=some .cell)(hcl:closureFor scope X.env=pure [(x,cr)])(hcr:X.env.cells.lookup x=some cr)(hq:X.env.qual ++ "<lambda>" = BX)(hdef:defaultsOf params X.env=([],[]))(hbind:∀pm c' ctv v,bindArgs (kla_fn "<lambda>" BX params (.Subscript (.Name x p1) (.Name y p2) p3) scope [(x,cr)] pm (.ref c') ctv) ⟨[v],[]⟩=pure [(y,v)])(hk:scope.kind=.function)(hco:scope.isCoroutine=false)(hgen:scope.isGenerator=false)(hnc:∀n∈scope.names,n.2≠.cell)(hx:scope.names.lookup x=some .free)(hy:scope.names.lookup y=some .local)(dx:(x==("__debug__" : Str))=false)(dy:(y==("__debug__" : Str))=false)(dc:(x==("__classdict__" : Str))=false)(hs:starEach [e] X.env=[(false,eval e X.env)])(he:JE X e m):
  JE X (.Call (.Name "min" p) [e] [⟨some "key",.Lambda params (.Subscript (.Name x p1) (.Name y p2) p3) scope lp,kp⟩] pos) (opM NV (m2L m (Aa i))):=
 AM (SH hc hr hcode ht hh hg hm hN hkx hcl hcr hq hdef hbind hk hco hgen hnc hx hy dx dy dc hs he) fun U H Q h=>tE.mono (two Sn h) fun x H1 h1=>Rr h1
end
section
variable{X:Cx}{K:Frag}
end
section
variable{P:Program}{w:World}{K:Frag}{mg:Str->Option Value}{base:Heap}
theorem RO{f c b:Addr}{oc:Value}{od:Option Addr}{fd:FuncData}{osl:Array (Option Value)}(n:nsIn K mainGlobals Be=some (some (.ref f)))(lk:K.lookup f=some ⟨oc,od,.func fd,osl⟩)(t:tabIn K Be=some (c,b)):fd.code=.ref c:=by
 unfold tabIn at t;rw[n] at t;dsimp only at t;rw[lk] at t;dsimp only at t;split at t
 .rename_i c' hc
  split at t
  .split at t
   .cases t; exact hc
   .cases t
  .cases t
 .cases t
theorem Uu{st:Stmt}{f c b:Addr}{fd:FuncData}{N ps:List Str}{k:Nat}{m:MS}(F:Fun K Be Be st f fd)(hn:nsIn K mainGlobals Be=some (some (.ref f)))(ht:tabIn K Be=some (c,b))(S:FnScope N ps (As st))(hb:∀(A:Around) (outer:List Env) (s:Shared) (H:Hp) (E:XK),Room k (A.deeper (envOfC Be (As st) s.heap.objs.size f (.ref c)))->JSs (Bx CX0 P w K mg base N Be (As st) f (.ref c) A outer s H E).nox (BV st) m):
  FnOk P w K mg base CX0 (k+1) f fd ps (spJ K (fnM ps.length N.length m) ps.length):=by
 obtain⟨oc,od,kV,doc,pm,an,cdv,ct,osl,rfl,lk,hcd⟩:=F.ex;have ec:cdv=.ref c:=RO hn lk ht;subst ec;refine PU lk hcd S (fun vs H Q E h=>?_) fun A outer s H vs Q E hr h=>?_
 .obtain⟨_,_,_,h,_⟩:=h
  exact h
 .have hl:vs.length=ps.length:=by
   obtain⟨_,_,_,h,_⟩:=h;exact h
  have:=J0 h;refine⟨_,PSs.nox (hb A outer s H E hr),?_⟩;unfold L2.start;rw[hl];exact this
end
end J
end
section
namespace L2
open PySem PySem.Spec PyProof.Rows
section
variable{X:Cx}{a e:Expr}{ta te:TE}{apos cpos:Pos}
end
end L2
namespace J
open PySem PySem.Spec PyProof.Rows L2
section
variable{X:Cx}{a b c e:Expr}{es:List Expr}{m m1 m2 m3:ME}{ms:MA}{p pos pos' p2 apos cpos q npos:Pos}{x:Str}
variable{K:Frag}{N:Addr->Prop}{H:Hp}{U:L2.St}{v:V}{L:List Addr}
noncomputable def cutD(ds:List D)(lo hi:Option Int):List D:=(ds.drop (HT.sIx ds.length 0 lo)).take (HT.sIx ds.length ds.length hi-HT.sIx ds.length 0 lo)
theorem Q8:∀{vs:List V} {ds:List D},Av N H vs ds->vs.length=ds.length:=by
 intro vs;induction vs with
 | nil=>intro ds q; cases ds with|nil=>rfl|cons d ds=>simp only[Av] at q
 | cons v vs ih=>intro ds q; cases ds with|nil=>simp only[Av] at q|cons d ds=>simp[ih q.2]
theorem Q5:∀{vs:List V} {ds:List D} (n:Nat),Av N H vs ds->Av N H (vs.drop n) (ds.drop n):=by
 intro vs;induction vs with
 | nil=>intro ds n q; cases ds with|nil=>cases n<;>exact q|cons d ds=>simp only[Av] at q
 | cons v vs ih=>intro ds n q; cases ds with|nil=>simp only[Av] at q|cons d ds=>cases n with|zero=>exact q|succ n=>exact ih n q.2
theorem Q6:∀{vs:List V} {ds:List D} (n:Nat),Av N H vs ds->Av N H (vs.take n) (ds.take n):=by
 intro vs;induction vs with
 | nil=>intro ds n q; cases ds with|nil=>cases n<;>exact q|cons d ds=>simp only[Av] at q
 | cons v vs ih=>intro ds n q; cases ds with|nil=>simp only[Av] at q|cons d ds=>cases n with|zero=>simp only[take_zero]; exact trivial|succ n=>exact⟨q.1,ih n q.2⟩
theorem S0{vs:List V}{ds:List D}{lo hi:Option Int}(q:Av N H vs ds):Av N H (Ov vs lo hi) (cutD ds lo hi):=by
 unfold Ov cutD;rw[Q8 q];exact Q6 _ (Q5 _ q)
end
section
variable{K:Frag}{Z Z' Z1 Z2:Ro}{U σ' σ1 σ2:L2.St}{H H' H1 H2:Hp}{O O' N:Addr->Prop}{fp fp' fp1 fp2:Nat->List Addr}{L L1:List Addr}
end
section
variable{X:Cx}{a b c e:Expr}{es:List Expr}{m m1 m2 m3:ME}{ms:MA}{p pos pos' p2 apos cpos q npos:Pos}{x:Str}
end
end J
end
section
namespace J
open PySem PySem.Spec PyProof.Rows L2
noncomputable abbrev MR:=Ro->Option Str
noncomputable abbrev FnR:=List (Own×A)->Option Str
noncomputable def KO(a:MS)(r:MR):MR:=fun Z=>(a Z).bind fun f=>match f with
 | .next Z1=>r Z1
 | _=>none
noncomputable def ifR(c:MT)(r:MR):MR:=fun Z=>(c Z).bind fun p=>if p.1 then r p.2 else none
noncomputable def KD(x:Str):MR:=fun _=>some x
noncomputable def B0:List (Own×A)->Bool
 | []=>true
 | (.own,.fz _)::as=>B0 as
 | _=>false
noncomputable def NJ(Ψ:FnR)(m:MA):MR:=fun Z=>(m Z).bind fun p=>(Ce p.2 p.1).bind fun args=>if B0 args then Ψ args else none
noncomputable def fnR(np nn:Nat)(r:MR):FnR:=fun args=>if args.length=np then r (args.map some++List.replicate (nn-np) none) else none
noncomputable def tR(K:Frag)(XC:Str->Addr)(E:XK)(r:MR):TS:=fun _ U H=>∃Z O fp,Rel K Z U H O fp/\∃x,r Z=some x/\∀H',Kept (Fp fp) H H'->E (.ref (XC x)) none H'
noncomputable def spR(K:Frag)(XC:Str->Addr)(Ψ:FnR)(np:Nat):Sp:=fun vs H _ E=>∃args O fp,vs.length=np/\Rel K (args.map some) (vs.map some) H O fp/\∃x,Ψ args=some x/\∀H',Kept (Fp fp) H H'->E (.ref (XC x)) none H'
section
variable{K:Frag}{XC:Str->Addr}{E:XK}{U:L2.St}{H:Hp}{D:Ends}{r:MR}{a:MS}{c:MT}
theorem V5(h:tR K XC E (KO a r) D U H):We (tS K a) (tR K XC E r) D U H:=by
 obtain⟨Z,O,fp,rl,x,e,k⟩:=h;simp only[KO,bind_eq_some_iff] at e;obtain⟨f,e1,e2⟩:=e;cases f with
 | next Z1 =>
  refine⟨Z,O,fp,rl,_,e1,fun σ' fp' H' p=>?_⟩;exact⟨Z1,O,fp',p.rel0,x,e2,fun H'' kk=>k H'' (p.kept.trans kk fun q hq=>p.new q (.inr hq))⟩
 | brk _=>cases e2
 | cnt _=>cases e2
 | ret _ _=>cases e2
theorem Xg{u:TS}(h:tR K XC E (ifR c r) D U H):V4 (tT K c) (tR K XC E r) u D U H:=by
 obtain⟨Z,O,fp,rl,x,e,k⟩:=h;simp only[ifR,bind_eq_some_iff] at e;obtain⟨⟨b,Z1⟩,e1,e2⟩:=e;cases b with
 | true =>
  refine⟨Z,O,fp,rl,true,Z1,e1,fun fp1 H1 p=>?_⟩;dsimp only;rw[if_pos rfl];exact⟨Z1,O,fp1,p.rel0,x,e2,fun H'' kk=>k H'' (p.kept.trans kk fun q hq=>p.new q (.inr hq))⟩
 | false=>cases e2
theorem Rt{C:Addr}{x:Str}{m:MA}{rs:List R}(hm:∀Z,m Z=some (rs,Z))(hl:rs.length<=8)(hC:XC x=C)(h:tR K XC E (KD x) D U H):Nw E C (tA K m) D U H:=by
 obtain⟨Z,O,fp,rl,y,e,k⟩:=h;cases e;refine⟨Z,O,fp,rl,rs,Z,hm Z,fun vs H' q=>?_⟩;obtain⟨L,fp',p,q⟩:=q;refine⟨?_,?_⟩
 .have:∀{rs:List R} {vs:List V} {N:Addr->Prop} {L:List Addr},RRs K N H' U vs rs L->vs.length=rs.length:=by
   intro rs;induction rs with
   | nil=>intro vs N L q; cases vs with|nil=>rfl|cons _ _=>simp only[RRs] at q
   | cons r rs ih =>
    intro vs N L q;cases vs with
    | nil=>simp only[RRs] at q
    | cons v vs =>
     simp only[RRs] at q;obtain⟨_,_,_,_,q2⟩:=q;simp[ih q2]
  have hs:8<=sizeLine:=by decide
  rw[this q]; lia
 .rw[<- hC]; exact k H' p.kept
theorem Ms{N:Addr->Prop}{Z:Ro}:∀{rs:List R} {args:List (Own×A)} {vs:List V} {L:List Addr},Ce Z rs=some args->B0 args=true->RRs K N H U vs rs L->args.length=vs.length/\∀(j:Nat) st a v,args[j]? = some (st,a)->vs[j]? = some v->∃d,a=.fz d/\RepA N H v d:=by
 intro rs;induction rs with
 | nil =>
  intro args vs L e _ q;cases vs with
  | nil=>cases e; exact⟨rfl,fun j st a v h=>by simp at h⟩
  | cons _ _=>simp only[RRs] at q
 | cons r rs ih =>
  intro args vs L e hp q;cases vs with
  | nil=>simp only[RRs] at q
  | cons v vs =>
   simp only[RRs] at q;obtain⟨L1,L2,_,q1,q2⟩:=q;simp only[Ce,bind_eq_some_iff,map_eq_some_iff] at e;obtain⟨a,e1,args',e2,rfl⟩:=e;obtain⟨st,a⟩:=a;cases st with
   | lent=>cases a<;>simp[B0] at hp
   | ro=>cases a<;>simp[B0] at hp
   | own =>
    cases a with
    | fz d =>
     simp only[B0] at hp;obtain⟨i1,i2⟩:=ih e2 hp q2;cases r with
     | val b =>
      cases e1;simp only[RR] at q1;rw[AA] at q1;refine⟨by simp[i1],fun j st a u h1 h2=>?_⟩
      cases j with
      | zero=>cases h1; cases h2; exact⟨d,rfl,q1.2⟩
      | succ j=>exact i2 j st a u (by simpa using h1) (by simpa using h2)
     | ref i =>
      simp only[DN] at e1;split at e1<;>cases e1
    | _=>simp[B0] at hp
theorem Tu{np:Nat}{Ψ:FnR}{m:MA}{E':XK}(hE:E'=E)(hnp:∀args y,Ψ args=some y->args.length=np)(h:tR K XC E (NJ Ψ m) D U H):JO (Mg (spR K XC Ψ np) [] E' (tA K m)) D U H:=by
 subst hE;obtain⟨Z,O,fp,rl,x,e,k⟩:=h;simp only[NJ,bind_eq_some_iff] at e;obtain⟨⟨rs,Z1⟩,e1,args,e2,e3⟩:=e;split at e3
 .rename_i hp
  refine⟨Z,O,fp,rl,rs,Z1,e1,fun vs H1 q=>?_⟩;obtain⟨L,fp1,p,q⟩:=q;obtain⟨i1,i2⟩:=Ms e2 hp q;rw[append_nil];have nn:∀b,NN (fun _=>[]) (NN fp1 (ad O L)) b↔NN fp1 (ad O L) b:=fun b=>⟨fun z=>by
   rcases z with ⟨j,z⟩|z
   .simp at z
   .exact z,fun z=>.inr z⟩
  refine⟨args,NN fp1 (ad O L),fun _=>[],by rw[<- i1]; exact hnp _ _ e3,⟨by simp[i1],fun j st a ea=>?_,fun _ _=>rfl,fun _=>nodup_nil,fun i j b h=>by simp at h,fun i b h=>by simp at h,fun b z=>p.rel.al b ((nn b).mp z)⟩,x,e3,fun H' kk=>?_⟩
  .have hj:j<args.length:=by
    have:=AB ea;simpa using this
   have ea':args[j]? = some (st,a):=by simpa using ea
   obtain⟨v,hv⟩:∃v,vs[j]? = some v:=⟨vs[j]'(by rw[<- i1]; exact hj),List.getElem?_eq_getElem _⟩;obtain⟨d,rfl,rd⟩:=i2 j st a v ea' hv;refine⟨v,by simp[hv],?_⟩;rw[AA];exact⟨rfl,EZ (fun b z=>(nn b).mp z) rd⟩
  .exact k H' (p.kept.trans kk fun b z=>by
    obtain⟨j,z⟩:=z;simp at z)
 .cases e3
theorem Um{np nn:Nat}{r:MR}{vs:List V}{Q:VK}(h:spR K XC (fnR np nn r) np vs H Q E):tR K XC E r D (vs.map some++List.replicate (nn-np) none) H:=by
 obtain⟨args,O,fp,hl,rl,x,e,k⟩:=h;simp only[fnR] at e;split at e
 .exact⟨_,O,fp,rl.start (nn-np),x,e,k⟩
 .cases e
theorem Kc{np nn:Nat}{r:MR}:∀args y,fnR np nn r args=some y->args.length=np:=fun args y e=>by
 unfold fnR at e;split at e
 .rename_i h; exact h
 .cases e
end
section
variable{X:Cx}{K:Frag}{XC:Str->Addr}{E:XK}{r:MR}{w1:MS}{s:Stmt}{ss st st':List Stmt}{mt:MT}{c:Expr}{pos:Pos}
noncomputable def JR(X:Cx)(XC:Str->Addr)(E:XK)(s:Stmt)(r:MR):Prop:=PS X s (tR X.K XC E r)
noncomputable def JRs(X:Cx)(XC:Str->Addr)(E:XK)(ss:List Stmt)(r:MR):Prop:=PSs X ss (tR X.K XC E r)
theorem Lx(h:JS X s w1)(t:JRs X XC E ss r):JRs X XC E (s::ss) (KO w1 r):=GI (IE h t) fun _ _ _ h=>V5 h
theorem Lw(h:JR X XC E s r):JRs X XC E (s::ss) r:=
 GI (IE h (show PSs X ss (fun _ _ _=>False) from fun _ _ _ _ _ _ h=>h.elim)) fun _ _ _ h=>h
theorem WI(hc:JT X c mt)(ha:JRs X XC E st r):JR X XC E (.If c st st' pos) (ifR mt r):=
 Cv (TY hc ha (show PSs X st' (fun _ _ _=>False) from fun _ _ _ _ _ _ h=>h.elim)) fun _ _ _ h=>Xg h
end
section
variable{P:Program}{w:World}{K:Frag}{mg:Str->Option Value}{base:Heap}{XC:Str->Addr}
theorem Uw{x qual:Str}{st:Stmt}{f:Addr}{fd:FuncData}{N ps:List Str}{k:Nat}{r:MR}(F:Fun K x qual st f fd)(S:FnScope N ps (As st))(hb:∀(cdv:Value) (A:Around) (outer:List Env) (s:Shared) (H:Hp) (E:XK),Room k (A.deeper (envOfC qual (As st) s.heap.objs.size f cdv))->JRs (Bx (Fly P w) P w K mg base N qual (As st) f cdv A outer s H E) XC E (BV st) r):
  FnOk P w K mg base (Fly P w) (k+1) f fd ps (spR K XC (fnR ps.length N.length r) ps.length):=by
 refine F.okF S (fun vs H Q E h=>?_) fun cdv A outer s H vs Q E hr h=>⟨_,hb cdv A outer s H E hr,?_⟩
 .obtain⟨_,_,_,h,_⟩:=h
  exact h
 .have hl:vs.length=ps.length:=by
   obtain⟨_,_,_,h,_⟩:=h;exact h
  have:=Um (D:={ nx:=fun _ H'=>Q .non H',rt:=Q }) h;unfold L2.start;rw[hl];exact this
section
variable{N:List Str}{qual:Str}{scope:Scope}{f:Addr}{cd:Value}{A:Around}{outer:List Env}{s:Shared}{H:Hp}{E:XK}
theorem Qj{x:Str}{C:Addr}{np cpos pos:Pos}{e:Expr}{z:Str}{k:Nat}(X:Exc K mg x C)(hC:XC x=C)(hr:Room k (A.deeper (envOfC qual scope s.heap.objs.size f cd)))(hg:Gl (Bx (Fly P w) P w K mg base N qual scope f cd A outer s H E) x)(hdb:(x==("__debug__" : Str))=false)(he:starEach [e] (Bx (Fly P w) P w K mg base N qual scope f cd A outer s H E).env=(false,eval e (Bx (Fly P w) P w K mg base N qual scope f cd A outer s H E).env)::starEach [] (Bx (Fly P w) P w K mg base N qual scope f cd A outer s H E).env)(hpl:(backTo cpos (starEach [] (Bx (Fly P w) P w K mg base N qual scope f cd A outer s H E).env)).any (·.1)=false)(ha:JE (Bx (Fly P w) P w K mg base N qual scope f cd A outer s H E) e (Ae (.str z))):
  JR (Bx (Fly P w) P w K mg base N qual scope f cd A outer s H E) XC E (.Raise (some (.Call (.Name x np) [e] [] cpos)) none pos) (KD x):=
 Cv (O5 X hr hg hdb he hpl (Ac he ha Ag)) fun _ _ _ h=>Rt (rs:=[.val (.fz (.str z))]) (fun _=>rfl) (show 1<=8 by decide) hC h
end
end
end J
end
section
namespace PySem
section
variable{M:Model}{A:Around}{E:Value->Shared->Prop}
variable{nm q nm' q':Str}{C N B N':Addr}{bs bm bs' bm':List Value}{hdct hdct':Bool}{sn sn':List Str}{sub sub':List Value}{ab ab':Bool}{col col':Option Bool}{dd dd':Option Addr}{k0 k1 k2 k3 k5 j0 j1 j2 j3 j5:Option Value}{newId newId':String}
theorem GW{h:Heap}{g:Array GenState}{d:Drawn}{t:Nat}{os:OsState}{e:Addr}{oe:Obj}{Q:Bool->Shared->Prop}(hC:h.get? C=some (excClassObj nm q C N bs bm hdct sn sub ab col dd k0 k1 k2 k3 k5 newId))(hB:h.get? B=some (excClassObj nm' q' B N' bs' bm' hdct' sn' sub' ab' col' dd' j0 j1 j2 j3 j5 newId'))(he:h.get? e=some oe)(hcls:oe.cls=.ref C)(hbase:bm'.contains (.type "BaseException")=true)(hm:bm.contains (.ref B)=true)(hq:Q true ⟨h,g,d,t,os⟩):wpAny M A (excMatches (.ref e) (.ref B)) Q E ⟨h,g,d,t,os⟩:=by
 have hcB:(Value.ref B::bm').contains (.type "BaseException")=true:=by rw[contains_cons,hbase,Bool.or_true]
 have hcC:(Value.ref C::bm).contains (.ref B)=true:=by rw[contains_cons,hm,Bool.or_true]
 have f:=tc_notTuple;unfold excMatches;repeat (first|(with_reducible refine wpAny_loadPart_at he ?_; rw[hcls])|with_reducible refine wpAny_loadPart_at hB ?_|(with_reducible refine wpAny_isSubtype_exc hB ?_; rw[hcB])|(with_reducible refine wpAny_isSubtype_exc hC ?_; rw[hcC])|wp_step)
 exact hq
end
noncomputable def Above(h:Heap)(C B:Addr):Prop:=∃(nm q nm' q':Str) (N N':Addr) (bs bm bs' bm':List Value) (hd hd':Bool) (sn sn':List Str) (sub sub':List Value) (ab ab':Bool) (col col':Option Bool) (dd dd':Option Addr) (k0 k1 k2 k3 k5 j0 j1 j2 j3 j5:Option Value) (nid nid':String),
 h.get? C=some (excClassObj nm q C N bs bm hd sn sub ab col dd k0 k1 k2 k3 k5 nid)/\h.get? B=some (excClassObj nm' q' B N' bs' bm' hd' sn' sub' ab' col' dd' j0 j1 j2 j3 j5 nid')/\bm'.contains (.type "BaseException")=true/\bm.contains (.ref B)=true
section
variable{prog:Program}{w:World}{A:Around}{E:Value->Shared->Prop}{s:Shared}{env:Env}
theorem Gw{e C B:Addr}{t:Expr}{n:Str}{b₀:Stmt}{suite:List Stmt}{pos:Pos}{rest:List ExceptHandler}{Q:Flow->Shared->Prop}(h:wpAny (model prog w) (A.mark (some (.ref e))) (eval t env) (fun c s₁=>c=.ref B/\Above s₁.heap C B/\(∃oe,s₁.heap.get? e=some oe/\oe.cls=.ref C) /\
   wpAny (model prog w) (A.mark (some (.ref e))) (setFlight (.ref e) none) (fun _ s₂ =>
     wpAny (model prog w) (A.mark (some (.ref e))) (storeName env n (.ref e)) (fun _ s₃ =>
      wpAny (model prog w) (A.mark (some (.ref e))) (execs (b₀::suite) env)
       (fun f s₄=>wpAny (model prog w) A (do bindName env n .none; unbindBehindTheSuite env n pos) (fun _ s₅=>Q f s₅) E s₄)
       (AsSuiteRaised (model prog w) (A.mark (some (.ref e))) env n pos (notedBy (model prog w) (A.mark (some (.ref e))) env (cameBackBy (model prog w) A env E))) s₃) (notedBy (model prog w) (A.mark (some (.ref e))) env (cameBackBy (model prog w) A env E)) s₂) (notedBy (model prog w) (A.mark (some (.ref e))) env (cameBackBy (model prog w) A env E)) s₁) (notedBy (model prog w) (A.mark (some (.ref e))) env (cameBackBy (model prog w) A env E)) s):
  wpAny (model prog w) A (handleBy (.ref e) env (.ExceptHandler (some t) (some n) (b₀::suite) pos::rest)) Q E s:=by
 refine wpAny_handleBy_cons (codeAny_handlers_test (wpAny_mono h (fun c s₁ h₁=>?_) fun _ _ y=>y)) (by intro q; cases q);obtain⟨rfl,⟨_,_,_,_,_,_,_,_,_,_,_,_,_,_,_,_,_,_,_,_,_,_,_,_,_,_,_,_,_,_,_,_,_,_,hC,hB,hb,hm⟩,⟨oe,he,hcls⟩,hk⟩:=h₁;obtain⟨hh,g,d,tk,os⟩:=s₁;exact GW hC hB he hcls hb hm (codeAny_handlers_suite_as hk)
end
end PySem
end
section
namespace L2
open PySem PySem.Spec PyProof.Rows
section
variable{P:Program}{w:World}{outer:List Env}{H H':Hp}{s s':Shared}{a C:Addr}{a0:Value}{B:Heap}
theorem FlyAt.on{h':Heap}(F:FlyAt P w outer H s a C a0 B H' s')(hd:∀b∈frs outer,∀o,s.heap.get? b=some o->∀vs,o.data≠.fields vs)(fl:Heap.FlyingW B outer a (.ref C) a0 h')(sm:s'.heap.UpToSlots h')(pl:A2 h' a):FlyAt P w outer H s a C a0 B H' { s' with heap:=h' }:=
 ⟨F.os,F.bare,fl,F.keep,fun b o e n hb=>by
  obtain⟨sl,e1⟩:=F.slot b o e n hb;obtain⟨sl2,e2⟩:=sm b { o with slots:=sl } e1 (hd b hb o e);exact⟨sl2,e2⟩,F.free,F.there,F.tups,F.frzs,F.tbls,F.hok,pl⟩
theorem FlyAt.un(F:FlyAt P w outer H s a C a0 B H' s')(ht:∀b∈frs outer,∀o,s.heap.get? b=some o->H b=none):Un (frs outer) [] H H' s.heap s'.heap/\HOk P w H' s'.heap:=by
 have st:∀b o,B.get? b=some o->s'.heap.get? b=some o:=F.fly.1;refine⟨⟨fun b o e n hb _=>st b o (F.keep b o e n hb),fun b o e n hb _=>F.slot b o e n hb,fun b o e n _=>F.free b o e n,fun b o e _=>?_,F.tups,F.frzs,F.tbls⟩,F.hok.kept st⟩;by_cases hb:b∈frs outer
 .obtain⟨sl,e1⟩:=F.slot b o e (ht b hb o e) hb
  exact⟨_,e1⟩
 .obtain⟨o',e1⟩:=F.there b o e hb
  exact⟨o',st b o' e1⟩
end
section
variable{X:Cx}{pins:List (Addr×Obj)}{U:St}{H H':Hp}{s s':Shared}{a C:Addr}{a0:Value}{B:Heap}
theorem Inv.landed(I:Inv X pins U H s)(F:FlyAt X.prog X.w X.stack H s a C a0 B H' s'):Inv X pins U H' s':=by
 have e0:=I.env0;obtain⟨u,hok⟩:=F.un fun b hb o e=>e0.frf b hb;obtain⟨v,H1,J,_,q⟩:=I.after (Q:=fun _ H1=>H1=H') (u:=.none) (s':=s') ⟨.non,H',F.os,F.bare,u,hok,rfl,rfl⟩;subst q;exact J
theorem lands{env:Env}{outer:List Env}{L:Addr}{E:Value->Shared->Prop}{R:Shared->Prop}(I:Inv X pins U H s)(hs:X.stack=env::outer)(hf:env.frame=some L)(F:FlyAt X.prog X.w X.stack H s a C a0 B H' s')(h:∀s3,FlyAt X.prog X.w X.stack H s a C a0 B H' s3->R s3):
  wpAny (model X.prog X.w) X.A (noteFrame (.ref a) env) (fun _ s2=>wpAny (model X.prog X.w) X.A (setFlight (.ref a) none) (fun _ s3=>R s3) E s2) E s':=by
 have e0:=I.env0;have hd:∀b∈frs X.stack,∀o,s.heap.get? b=some o->∀vs,o.data≠.fields vs:=fun b hb o e=>EN e0.funs hb e;have fr:=e0.frames;have fl:=F.fly;rw[hs] at fr fl;refine LB fr hf fl F.pl fun h1 held sm1 pl1=>?_;refine F8 held.1 held.2.1 held.2.2.1 held.2.2.2 pl1 fun h2 fl2 sm2 pl2=>?_;rw[<- hs] at fl2;exact h _ (F.on hd fl2 (sm1.trans sm2) pl2)
end
section
variable{X:Cx}{body:List Stmt}{h0:ExceptHandler}{hs:List ExceptHandler}{pos:Pos}{t:TS}
noncomputable def PF(X:Cx)(pins:List (Addr×Obj))(D:Ends)(hs:List ExceptHandler):Value->Shared->Prop:=fun e s1 =>
 wpAny (model X.prog X.w) X.A (noteFrame e X.env) (fun _ s2=>wpAny (model X.prog X.w) X.A (setFlight e none) (fun _ s3=>wpAny (model X.prog X.w) X.A (handleBy e X.env hs) (SP X pins D) X.xe s3) X.xe s2) X.xe s1
theorem Oe{pins:List (Addr×Obj)}{s:Shared}{U:St}{H:Hp}{D:Ends}(hb:wpAny (model X.prog X.w) X.A (execs body X.env) (SP X pins D) (PF X pins D (h0::hs)) s):
  wpAny (model X.prog X.w) X.A (exec (.Try body (h0::hs) [] [] pos) X.env) (SP X pins D) X.xe s:=by
 refine wpAny_Try_except (wpAny_mono hb (fun f s1 q=>?_) fun e s1 q=>q);cases f with
 | next=>exact wpAny_execs_nil q
 | brk=>exact q
 | cont=>exact q
 | ret u=>exact q
theorem O7(hb:PSs X.nox body t):PS X (.Try body (h0::hs) [] [] pos) t:=fun pins s U H D I h =>
 Oe (U:=U) (H:=H) (wpAny_mono (hb pins s U H D (I.wish _) h) (fun _ _ q=>q.unwish) fun _ _ z=>False.elim z)
theorem Jh{P:Program}{w:World}{env:Env}{outer:List Env}{L:Addr}{pins:List (Addr×Obj)}{D:Ends}{E:XK}(hP:X.prog=P)(hw:X.w=w)(he:X.env=env)(hs':X.stack=env::outer)(hf:env.frame=some L)(h:∀(U:St) (H H':Hp) (s s3:Shared) (a C:Addr) (a0:Value) (B:Heap),Inv X pins U H s->FlyAt P w X.stack H s a C a0 B H' s3->Inv X pins U H' s3->E (.ref C) none H'->wpAny (model P w) X.A (handleBy (.ref a) env (h0::hs)) (SP X pins D) X.xe s3):
  ∀(U:St) (H:Hp) (s:Shared) (e:Value) (s':Shared),Inv X pins U H s->Fly P w X.stack H s E e s'->PF X pins D (h0::hs) e s':=by
 subst hP hw he;intro U H s e s' I fl;obtain⟨a,C,a0,B,H',rfl,F,q⟩:=fl;exact lands I hs' hf F fun s3 F3=>h U H H' s s3 a C a0 B I F3 (I.landed F3) q
end
section
variable{X:Cx}{k j:Nat}{x:Str}{ps:List Str}{sp:Sp}{E:XK}{p cpos pos:Pos}{e:Expr}{es:List Expr}{t:TA}{pins:List (Addr×Obj)}{U:St}{H:Hp}{s:Shared}
end
section
variable{X:Cx}{pins:List (Addr×Obj)}{U:St}{H H':Hp}{s s':Shared}{a C:Addr}{a0:Value}{B:Heap}
theorem FlyAt.fresh{P:Program}{w:World}{K:Frag}{mg:Str->Option Value}{base:Heap}{A:Around}{outer:List Env}(e0:Env0 P w K mg base A outer s H)(F:FlyAt P w outer H s a C a0 B H' s'):s.heap.get? a=none:=by
 cases hs:s.heap.get? a with
 | none=>rfl
 | some o =>
  by_cases hb:a∈frs outer
  .obtain⟨sl,e1⟩:=F.slot a o hs (e0.frf a hb) hb
   obtain⟨oe,vs,e2,_,hd,_⟩:=F.fly.first;rw[e1] at e2;cases e2;exact absurd hd (EN e0.funs hb hs vs)
  .obtain⟨o',e1⟩:=F.there a o hs hb
   rw[F.fly.2.1] at e1; cases e1
theorem Inv.track{s1:Shared}{o:Obj}(I0:Inv X pins U H s)(I:Inv X pins U H' s1)(h0:s.heap.get? a=none)(hn:H' a=none)(ho:s1.heap.get? a=some o):Inv X pins U (upd H' a (.frz o (.own a))) s1:=by
 have ne:∀b u,s.heap.get? b=some u->b≠a:=fun b u e z=>by rw[z,h0] at e; cases e
 have neH:∀b u,H' b=some u->b≠a:=fun b u e z=>by rw[z,hn] at e; cases e
 have u:=I.base;obtain⟨m0,n0,_⟩:=I0.loc;refine⟨I.ok,I.os,I.bare,⟨u.keep,u.slot,fun b ob e n hx=>?_,u.there,fun b xs e=>?_,fun b ob v e=>?_,fun b qs e=>?_⟩,I.loc,I.cell,?_,fun x c hc=>?_,fun q hq=>?_,fun b v e=>?_,I.len⟩
 .by_cases hb:b∈X.ex
  .exact absurd hb hx
  .obtain⟨o',e'⟩:=I0.base.there b ob e hx
   rw[Au (ne b o' e')];exact u.free b ob e n hx
 .have:=u.tups b xs e
  rw[Au (neH b _ this)]; exact this
 .have:=u.frzs b ob v e
  rw[Au (neH b _ this)]; exact this
 .obtain⟨more,this⟩:=u.tbls b qs e
  exact⟨more,by rw[Au (neH b _ this)]; exact this⟩
 .obtain⟨ol,es,ep,el,_⟩:=n0
  rw[Au (ne _ ol el)]; exact I.free
 .obtain⟨v,hv⟩:=I0.cell x c hc
  obtain⟨oc,ec,_⟩:=hv;rw[Au (ne _ oc ec)]; exact I.freeC x c hc
 .obtain⟨e1,e2,e3⟩:=I.pin q hq
  obtain⟨f1,_⟩:=I0.pin q hq;exact⟨e1,by rw[Au (ne _ _ f1)]; exact e2,e3⟩
 .by_cases hb:b=a
  .subst hb
   rw[AN] at e; cases e;exact⟨ho,_,ho⟩
  .rw[Au hb] at e
   exact(I.hok b v e).stay (fun d v' _ q=>q) (fun d q=>by rw[Au (neH d _ q)]; exact q) fun d xs q=>by rw[Au (neH d _ q)]; exact q
end
end L2
end
section
namespace PySem
theorem Above.keeps{h h':Heap}{C B:Addr}(x:Above h C B)(k:∀b o,h.get? b=some o->h'.get? b=some o):Above h' C B:=by
 obtain⟨a1,a2,a3,a4,a5,a6,a7,a8,a9,b0,b1,b2,b3,b4,b5,b6,b7,b8,b9,c0,c1,c2,c3,c4,c5,c6,c7,c8,c9,d0,d1,d2,d3,d4,hC,hB,q⟩:=x;exact⟨a1,a2,a3,a4,a5,a6,a7,a8,a9,b0,b1,b2,b3,b4,b5,b6,b7,b8,b9,c0,c1,c2,c3,c4,c5,c6,c7,c8,c9,d0,d1,d2,d3,d4,k _ _ hC,k _ _ hB,q⟩
end PySem
namespace L2
open PySem PySem.Spec PyProof.Rows
section
variable{X:Cx}{pins:List (Addr×Obj)}{U:St}{H H':Hp}{s s3:Shared}{a C:Addr}{a0:Value}{B:Heap}
theorem Inv.forget{h':Heap}{t':Nat}{m':Str->Option Value}(I:Inv X pins U H s)(hn':h'.Ns X.env.locals m')(hs:Heap.SameBut X.env.locals s.heap h'):Inv X pins (List.replicate X.N.length none) H { s with heap:=h',toks:=t' }:=by
 have cne:=I.cne;refine⟨I.ok,I.os,I.bare,⟨fun b o e n hb hx=>?_,fun b o e n hb hx=>?_,I.base.free,fun b o e hx=>?_,I.base.tups,I.base.frzs,I.base.tbls⟩,⟨_,hn',fun j y v' e1 e2 e3=>?_⟩,fun y c e=>?_,I.free,I.freeC,fun p hp=>?_,fun b ob e=>?_,by simp⟩
 .exact(hs.2 b (ne_of_lt (lt_of_lt_of_le (lt_size e) I.ok.above))).trans (I.base.keep b o e n hb hx)
 .obtain⟨sl,e1⟩:=I.base.slot b o e n hb hx
  exact⟨sl,(hs.2 b (ne_of_lt (lt_of_lt_of_le (lt_size e) I.ok.above))).trans e1⟩
 .obtain⟨o',e1⟩:=I.base.there b o e hx
  exact⟨o',(hs.2 b (ne_of_lt (lt_of_lt_of_le (lt_size e) I.ok.above))).trans e1⟩
 .rw[List.getElem?_replicate] at e2
  split at e2<;>cases e2
 .obtain⟨w',z⟩:=I.cell y c e
  exact⟨w',z.sameBut hs (cne y c e)⟩
 .obtain⟨e,n,ne,nf,d⟩:=I.pin p hp
  exact⟨(hs.2 p.1 ne).trans e,n,ne,nf,d⟩
 .have hfree:=I.free
  refine(I.hok b ob e).stay (fun c w' hc q=>(hs.2 c ?_).trans q) (fun _ q=>q) fun _ _ q=>q;rintro rfl;rcases hc with hc|hc
  .rw[<- hc,hfree] at e; cases e
  .rw[hfree] at hc; cases hc
theorem MF{HE:Addr}{y n:Str}{i:Nat}{e:Expr}{tp rp hpos:Pos}{D:Ends}(hN:X.N.Nodup)(hi:X.N[i]? = some n)(hx:X.env.scope.names.lookup n=some .local)(hk:X.env.kindOf n=some .local)(hg:Gl X y)(hm:X.mg y=some (.ref HE))(hdb:(y==("__debug__" : Str))=false)(hab:Above X.base C HE)(I0:Inv X pins U H s)(F:FlyAt X.prog X.w X.stack H s a C a0 B H' s3)(hn:H' a=none)(he:∀(oe:Obj) (vs:Array Value) (s5:Shared),oe.cls=.ref C->oe.data=.fields vs->vs[2]? = some .none->Inv X pins (U.set i (some (.ref a))) (upd H' a (.frz oe (.own a))) s5->wpAny (model X.prog X.w) (X.A.mark (some (.ref a))) (eval e X.env) (fun u s6=>∃v σ6 H6,Inv X pins σ6 H6 s6/\RelV v u/\D.rt v H6) (fun _ _=>False) s5):
  wpAny (model X.prog X.w) X.A (handleBy (.ref a) X.env [.ExceptHandler (some (.Name y tp)) (some n) [.Return (some e) rp] hpos]) (SP X pins D) X.xe s3:=by
 have I3:=I0.landed F;have e0:=I0.env0;have hd:∀b∈frs X.stack,∀o,s.heap.get? b=some o->∀vs,o.data≠.fields vs:=fun b hb o e=>EN e0.funs hb e;refine Gw (C:=C) (B:=HE) (Calls.Name_function_global I3.ok.kind hg (Calls.loadGlobal_global (by rw[I3.ok.glob]; exact I3.mod.glob.keeps I3.bk) hm ⟨rfl,hab.keeps I3.bk,F.fly.there,?_⟩) hdb);refine Lz F.fly F.pl fun h4 fl4 sm4 pl4=>?_;have F4:=F.on hd fl4 sm4 pl4;have I4:=I0.landed F4;obtain⟨oe,hoe,hcls⟩:=fl4.there;obtain⟨oe',vs,q1,q2,q3⟩:=pl4;rw[hoe] at q1;cases q1;have I4':=Inv.track I0 I4 (F.fresh e0) hn hoe;refine ED (v:=.ref a) I4' hN hi (.inl hx) rfl (fun s5 I5=>?_) (.inr hx);refine wpAny_execs_cons (wpAny_Return_some (wpAny_mono (he oe vs s5 hcls q2 q3 I5) (fun u s6 yy=>?_) fun _ _ z=>z.elim));obtain⟨v,σ6,H6,I6,r,q⟩:=yy;obtain⟨m6,n6,_⟩:=id I6.loc;refine wpAny_nameGoes hk n6 (by rw[I6.ok.kind]; rfl) fun h7 m7 n7 sb7=>?_;exact⟨v,_,H6,I6.forget n7 sb7,r,q⟩
end
end L2
end
section
namespace L2
open PySem PySem.Spec PyProof.Rows
theorem IX:entryFor table "proto.unchain" = some Builtin.«proto.unchain»:=entryFor_of_tree (by kernel_rfl)
section
variable{prog:Program}{w:World}{A:Around}{E:Value->Shared->Prop}{s:Shared}
theorem KG{α:Type}{h e:Addr}{oe:Obj}{ve:Array Value}{Q:α -> Shared->Prop}(hh:A.handled=some (.ref h))(ne:h≠e)(hp:A2 s.heap h)(he:s.heap.get? e=some oe)(hde:oe.data=.fields ve)(h2:2<ve.size)(k:E (.ref e) { s with heap:=s.heap.update e (Obj.mapFields (·.setIfInBounds 2 (.ref h))) }):wpAny (model prog w) A (raiseNew (α:=α) (.ref e)) Q E s:=by
 obtain⟨oh,vh,ho,hd,hc⟩:=hp;simp only[raiseNew];refine wpAny_bind (wpAny_handled ?_);rw[hh];have hne:(Value.ref h != Value.ref e)=true:=by
  rw[bne_iff_ne];intro z;injection z with z
  exact ne z
 show wpAny _ _ (if (Value.ref h != Value.ref e)=true then _ else _) _ _ _;rw[if_pos hne];refine wpAny_bind (wpAny_holding (runValue_entry IX ?_));unfold Builtin.«proto.unchain»;refine wpAny_bind (wpAny_field ho hd hc ?_);refine wpAny_pure ⟨_,rfl,?_⟩;unfold updateField;refine wpAny_bind (wpAny_bind (wpAny_load he ?_));rw[hde];show wpAny _ _ (if 2<ve.size then _ else _) _ _ _;rw[if_pos h2];exact wpAny_update he (wpAny_throw k)
end
section
variable{prog:Program}{w:World}{A:Around}{E:Value->Shared->Prop}{s:Shared}
theorem G9{it a:Addr}{x left step:Int}{Q:Option Value->Shared->Prop}(hh:A.handled=some (.ref a))(hp:A2 s.heap a)(hit:IsRangeIter s.heap it x left step)(hleft:left<=0)(hQ:∀h',(∀b o,s.heap.get? b=some o->h'.get? b=some o)->Q none { s with heap:=h' }):wpAny (model prog w) A (pyNext (.ref it)) Q E s:=by
 have hT:s.TypeIs (.ref it) "range_iterator" := ⟨_,hit,rfl⟩;unfold pyNext;refine wpAny_bind (wpAny_attempt (wpAny_callSpecial?_slot (name:=Str.ofString "__next__") hT F.slot_range_iterator_next
  (wpAny_call_entry F.slot_range_iterator_next hT F.entry_range_iterator_next ?_ (F.args_range_iterator_next_1 _))))
 show wpAny _ _ (field (.ref it) 0 >>= _) _ _ s;refine wpAny_bind (wpAny_field hit rfl (x:=rawInt x) rfl ?_);show wpAny _ _ (field (.ref it) 1 >>= _) _ _ s;refine wpAny_bind (wpAny_field hit rfl (x:=rawInt left) rfl ?_);show wpAny _ _ (field (.ref it) 2 >>= _) _ _ s;refine wpAny_bind (wpAny_field hit rfl (x:=rawInt step) rfl ?_);show wpAny _ _ (if left<=0 then _ else _) _ _ s;rw[if_pos hleft];refine wpAny_bind (wpAny_rule ?_);refine wpAny_bind ?_;show wpAny _ _ (newExc (.type "StopIteration") [] >>= _) _ _ _;refine wpAny_bind ?_;simp only[newExc,newTuple];refine wpAny_bind (wpAny_newObj_type ?_ (by size_fits));refine wpAny_bind (m:=firstArgMember _ _) (wpAny_of_eq (a:=Value.none) (by first|rfl|(simp only[firstArgMember]; rfl)) ?_);refine wpAny_newObj_type ?_ (by size_fits);have hlt:=hp.lt;have kk:∀(o1 o2:Obj) b o,s.heap.get? b=some o->((s.heap.push o1).push o2).get? b=some o:=fun o1 o2 b o e=>Heap.get?_push_of_some _ (Heap.get?_push_of_some _ e);refine KG (h:=a) hh (fun z=>?_) (hp.keeps (kk _ _)) (Heap.get?_push_size _ rfl) rfl (by simp[ownMembersOf]) ?_
 .have:((s.heap.push { cls:=.type "tuple",data:=.seq ([]:List Value).toArray }).objs.size:Nat)=s.heap.objs.size+1:=size_push ..
  lia
 refine wpAny_bind (wpAny_isInstance (T := "StopIteration") (b:=true) ⟨_,Heap.get?_update_self _ (Heap.get?_push_size _ rfl) rfl,rfl⟩ isSubtype_stop ?_);refine wpAny_pure (hQ _ fun b o e=>?_);refine(Heap.get?_update_other _ _ fun z=>?_).trans (kk _ _ b o e);have hb:=lt_size e;have:((s.heap.push { cls:=.type "tuple",data:=.seq ([]:List Value).toArray }).objs.size:Nat)=s.heap.objs.size+1:=size_push ..;lia
end
end L2
end
section
namespace J
open PySem PySem.Spec PyProof.Rows L2
section
variable{X:Cx}{a b c e:Expr}{m m1 m2 m3:ME}{p pos pos' p2:Pos}
variable{K:Frag}{N:Addr->Prop}{H:Hp}{v:V}
end
end J
end
section
namespace L2
open PySem PySem.Spec PyProof.Rows
section
variable{X:Cx}
end
end L2
namespace J
open PySem PySem.Spec PyProof.Rows L2
section
variable{X:Cx}{a b c e:Expr}{es:List Expr}{m m1 m2 m3:ME}{ms:MA}{p pos pos' p2 apos cpos q npos:Pos}{x:Str}
variable{K:Frag}{N:Addr->Prop}{H:Hp}{U:L2.St}{v:V}{L:List Addr}
noncomputable def Ue:List A->Option A:=FH (fun _ _=>true) fun i j=>i+j
end
end J
end
section
namespace L2
open PySem PySem.Spec PyProof.Rows
section
variable{X:Cx}{pins:List (Addr×Obj)}{U:St}{H:Hp}{s:Shared}
end
end L2
namespace J
open PySem PySem.Spec PyProof.Rows L2
section
variable{X:Cx}{x:Str}{pos:Pos}{mi:MI}{mt:MT}{m:ME}
end
end J
end
section
namespace L2
open PySem PySem.Spec PyProof.Rows
noncomputable def Mkd(X:Cx):Prop:=∃(a:Addr) (o:Obj) (u:HO) (vs:Array Value),X.A.handled=some (.ref a)/\X.H₀ a=some (.frz o u)/\o.data=.fields vs/\vs[2]? = some .none
theorem Inv.plainly{X:Cx}{pins:List (Addr×Obj)}{U:St}{H:Hp}{s:Shared}(I:Inv X pins U H s)(m:Mkd X):∃a,X.A.handled=some (.ref a)/\A2 s.heap a:=by
 obtain⟨a,o,u,vs,h,hp,hd,hc⟩:=m;have hok:=(show BN X.prog X.w H s.heap a (.frz o u) from I.hok a _ (I.base.frzs _ _ _ hp));exact⟨a,h,o,vs,hok.1,hd,hc⟩
theorem TV{X:Cx}{own:List Str}{scope:Scope}{C:Addr}{cl:List (Str×Addr)}{fn:Str->Bool}{s:Shared}{U:St}{H:Hp}{fp:List Addr}{pins:List (Addr×Obj)}(I:Inv X pins U H s)(m:Mkd X):Mkd (cxD X own scope C cl fn s H fp pins):=by
 obtain⟨a,o,u,vs,h,hp,r⟩:=m;exact⟨a,o,u,vs,h,I.base.frzs _ _ _ hp,r⟩
structure TurnM (P:Program) (w:World) (K:Frag) (tg:Expr) (J:It) (fp:List Addr) (it:Addr) (tn:Nat->Heap->Prop):Prop where
 mem:it∈fp
 obj:∀i h,tn i h->∀b∈fp,∃o,h.get? b=some o/\∀v,o.data≠.cell v
 keep:∀i h h',tn i h->(∀b∈fp,∀o,h.get? b=some o->h'.get? b=some o)->tn i h'
 item:∀(X:Cx),X.prog=P->X.w=w->X.K=K->Mkd X->∀(i:Nat) (pins:List (Addr×Obj)) (s:Shared) (U:St) (H:Hp) (E:Value->Shared->Prop),Inv X pins U H s->(∀b∈fp,D9 X pins H b)->tn i s.heap->J.go i H ->
  wpAny (model P w) X.A (pyNext (.ref it)) (fun r s1=>∃u,r=some u /\
   wpAny (model P w) X.A (letOwnedTupleGo tg (.ref it) u) (fun _ s2=>∃x H',Inv X pins U H' s2/\RelV x u/\J.yld i H x H'/\tn (i+1) s2.heap/\∀b∈fp,H' b=none) E s1) E s
 done:∀(X:Cx),X.prog=P->X.w=w->X.K=K->Mkd X->∀(i:Nat) (pins:List (Addr×Obj)) (s:Shared) (U:St) (H:Hp) (E:Value->Shared->Prop),Inv X pins U H s->(∀b∈fp,D9 X pins H b)->tn i s.heap->J.stop i H ->
  wpAny (model P w) X.A (pyNext (.ref it)) (fun r s1=>r=none/\Inv X pins U H s1) E s
 self:∀(A:Around) (i:Nat) (s:Shared) (Q:Value->Shared->Prop) (E:Value->Shared->Prop),tn i s.heap->Q (.ref it) s->wpAny (model P w) A (pyIter (.ref it)) Q E s
noncomputable def Wo(X:Cx)(pins:List (Addr×Obj))(U:St)(tg:Expr)(R:It->Hp->Prop)(itv:Value)(s2:Shared):Prop:=
 ∃(it:Addr) (fp:List Addr) (tn:Nat->Heap->Prop) (J:It) (H':Hp),itv=.ref it/\Inv X pins U H' s2/\TurnM X.prog X.w X.K tg J fp it tn/\tn 0 s2.heap/\(∀b∈fp,D9 X pins H' b)/\R J H'
noncomputable def PIM(X:Cx)(tg iter:Expr)(wi:TI):Prop:=
 ∀(pins:List (Addr×Obj)) (s:Shared) (U:St) (H:Hp) (R:It->Hp->Prop),Inv X pins U H s->wi U H R ->
  wpAny (model X.prog X.w) X.A (eval iter X.env) (fun v s1=>wpAny (model X.prog X.w) X.A (pyIter v) (Wo X pins U tg R) X.xe s1) X.xe s
theorem Mi{P:Program}{w:World}{K:Frag}{tg:Expr}(it:Addr)(lo:Int)(n:Nat):TurnM P w K tg (Itr lo n) [it] it (fun i h=>IsRangeIter h it (lo+(i:Nat)*1) ((n:Int)-(i:Nat)) 1) where
 mem:=by simp
 obj:=fun i h st b hb=>by
  have e:b=it:=by simpa using hb
  subst e;exact⟨_,st,fun v z=>by
   have z':Data.fields _=Data.cell v:=z;cases z'⟩
 keep:=fun i h h' st k=>k it (by simp) _ st
 item:=by
  intro X hP hw hK hc i pins s U H E I hf st hg;subst hP hw hK;obtain⟨f0,f1,f2,f3,f4,f5⟩:=hf it (by simp);have hi:i<n:=hg;refine wpAny_pyNext_range_item st (by lia) fun h' st' sb=>?_;have I1:Inv X pins U H { s with heap:=h',toks:=s.toks+1 }:=I.turned (fun b o hb e=>(sb.2 b hb).trans e) f0 f1 f3 f4 f5;have e1:lo+((i+1:Nat):Int)*1=lo+(i:Int)*1+1:=by lia
  have e2:(n:Int)-((i+1:Nat):Int)=(n:Int)-(i:Int)-1:=by lia
  have st2:IsRangeIter h' it (lo+((i+1:Nat):Int)*1) ((n:Int)-((i+1:Nat):Int)) 1:=by rw[e1,e2]; exact st'
  refine⟨_,rfl,Lk (s:={ s with heap:=h',toks:=s.toks+1 }) (n := "range_iterator") st2 rfl rfl (by decide) ⟨.int (lo+i),H,I1,⟨s.toks,?_⟩,⟨rfl,rfl⟩,st2,fun b hb=>(hf b hb).1⟩⟩;rw[Int.mul_one]
 done:=by
  intro X hP hw hK hc i pins s U H E I hf st hg;subst hP hw hK;obtain⟨f0,f1,f2,f3,f4,f5⟩:=hf it (by simp);obtain⟨a,hh,hp⟩:=I.plainly hc;exact G9 hh hp st (by have:n<=i:=hg; lia) fun h' kk=>⟨rfl,I.kept (t':=s.toks) fun b o e=>kk b o e⟩
 self:=fun _ _ _ _ _ st h=>wpAny_pyIter_rangeiter st h
section
variable{X:Cx}{tg:Expr}
theorem O8{pins:List (Addr×Obj)}{U:St}{H:Hp}{s:Shared}{R:It->Hp->Prop}{E:Value->Shared->Prop}{lo hi:Int}{t u v:Tok}{tk:Nat}(I:Inv X pins U H s)(h1 : -(2 ^ 62)<=lo)(h2:lo<2 ^ 62)(h3 : -(2 ^ 62)<=hi)(h4:hi<2 ^ 62)(q:R (Itr lo (hi-lo).toNat) H):wpAny (model X.prog X.w) X.A (pyIter (.ref s.heap.objs.size)) (Wo X pins U tg R) E { s with heap:=s.heap.push { cls:=.type "range",data:=.fields #[.int lo t,.int hi u,.int 1 v] },toks:=tk }:=by
 refine wpAny_pyIter_range (IsRange.new ..) (small_one h1 h2 h3 h4) ?_;have I1:Inv X pins U H { s with heap:=s.heap.push { cls:=.type "range",data:=.fields #[.int lo t,.int hi u,.int 1 v] },toks:=tk }:=I.kept fun b o e=>Heap.get?_push_of_some _ e;refine⟨(s.heap.push { cls:=.type "range",data:=.fields #[.int lo t,.int hi u,.int 1 v] }).objs.size,[(s.heap.push { cls:=.type "range",data:=.fields #[.int lo t,.int hi u,.int 1 v] }).objs.size],_,_,H,rfl,
  I1.kept (t':=tk) fun b o e=>Heap.get?_push_of_some _ e,Mi _ lo (hi-lo).toNat,?_,fun b hb=>?_,q⟩
 .have e1:lo+((0:Nat):Int)*1=lo:=by simp
  have e2:(((hi-lo).toNat:Nat):Int)-((0:Nat):Int)=Builtin.Range.rangeSize lo hi 1:=by rw[rangeSize_one]; split<;>lia
  show IsRangeIter _ _ (lo+((0:Nat):Int)*1) ((((hi-lo).toNat:Nat):Int)-((0:Nat):Int)) 1;rw[e1,e2];exact Heap.get?_push_size _ rfl
 .have e:b=(s.heap.push { cls:=.type "range",data:=.fields #[.int lo t,.int hi u,.int 1 v] }).objs.size:=by simpa using hb
  subst e;exact I1.fpOk (le_refl _) (I1.hok.fresh (le_refl _))
theorem Nf{a:Expr}{ta:TA}{p pos:Pos}(hg:Gl X "range")(hm:X.mg "range" = none)(ha:PA X [a] ta)(hs:starEach [a] X.env=[(false,eval a X.env)]:=by rfl):PIM X tg (.Call (.Name "range" p) [a] [] pos) (P7 ta):=by
 intro pins s U H R I h;refine Call_ (F9 I hg hm boot_range (PyProof.Rows.callWith_type1 (thn (ha pos pins s U H _ I h) fun us s1 ⟨vs,H1,I1,r1,q1⟩=>?_) hs rfl));obtain⟨j,e,q1,q2,q⟩:=q1;subst e;cases r1 with
 | cons r rr =>
  cases rr;obtain⟨t,rfl⟩:=r;exact call_range_1 (O8 I1 (by lia) (by lia) q1 q2 (by simpa using q))
end
section
variable{X:Cx}{pins:List (Addr×Obj)}{U:St}{H:Hp}{s:Shared}
theorem Pa{own:List Str}{scope:Scope}{fp:List Addr}{it:Addr}{tn:Nat->Heap->Prop}{J:It}{target iter elt:Expr}{ifs:List Expr}{pos:Pos}{un:TU}{tc:TT}{te:TE}{acc:Addr}{Q:VK}{R:Result->Shared->Prop}{cl:List (Str×Addr)}{fn:Str->Bool}{h1:Heap}{t1:Nat}(hc:Mkd X)(hg:PGo (cxD X own scope s.heap.objs.size cl fn s H fp pins) target own.length un)(ht:PTs (cxD X own scope s.heap.objs.size cl fn s H fp pins) ifs tc)(he:PE (cxD X own scope s.heap.objs.size cl fn s H fp pins) elt te)(I:Inv X pins U H s)(T:TurnM X.prog X.w X.K target J fp it tn)(st:tn 0 s.heap)(f2:∀b∈fp,D9 X pins H b)(W:Nat->Nat->List V->Hp->Prop)(w0:∃m,W 0 m [] H)(turn:∀i m ys H,W i m ys H->H acc=some (.lst ys) /\
   ((J.stop i H/\Q (.ref acc) H)\/(J.go i H/\∀x H',J.yld i H x H'->∃vs,un x H' vs/\tc (vs.map some++U) H' fun b H3 =>
    if b=true then te (vs.map some++U) H3 fun v H4=>H4 acc=some (.lst ys)/\ys.length<sizeLine/\∃m',m'<m/\W (i+1) m' (ys++[v]) (upd H4 acc (.lst (ys++[v])))
    else ∃m',m'<m/\W (i+1) m' ys H3)))(fin:∀s' σ' H',Inv (cxD X own scope s.heap.objs.size cl fn s H fp pins) [] σ' H' s'->Q (.ref acc) H'->R (.ok .next) s')(hk:∀b o,s.heap.get? b=some o->h1.get? b=some o)(I0:Inv (cxD X own scope s.heap.objs.size cl fn s H fp pins) [] (List.replicate own.length none++U) H { s with heap:=h1,toks:=t1 }):
  codeAny (model X.prog X.w) X.A (.compStart (.ListComp elt [⟨target,iter,ifs,0⟩] scope pos) 0 (.ref it) (.ref acc) (compEnvC scope cl s.heap.objs.size X.env)) R { s with heap:=h1,toks:=t1 }:=by
 have st1:tn 0 h1:=T.keep _ _ _ st fun b _ o e=>hk b o e;have stat:∀{H':Hp},(∀b∈fp,H' b=none)->∀b∈fp,D9 (cxD X own scope s.heap.objs.size cl fn s H fp pins) [] H' b:=fun hn b hb=>by
  obtain⟨_,f1,f3,_,f5,f6⟩:=f2 b hb;obtain⟨o,e,_⟩:=T.obj _ _ st b hb;refine⟨hn b hb,ne_of_lt (lt_size e),fun hz=>?_,.inl hb,(I0.ok.exf b hb).2,fun p hp=>f6 p (by simpa using hp)⟩;rcases mem_cons.mp (I.stkSub b hz) with z|z
  .exact f1 z
  .exact f3 z
 have loop:∀s4,s4={ s with heap:=h1,toks:=t1 }->codeAny (model X.prog X.w) X.A (.compLoop (.ListComp elt [⟨target,iter,ifs,0⟩] scope pos) 0 (.ref it) (.ref acc) (compEnvC scope cl s.heap.objs.size X.env)) R s4:=by
  rintro s4 rfl;obtain⟨m0,w0⟩:=w0;refine HM (fun n s'=>∃i ys σ0 H',σ0.length=own.length/\Inv (cxD X own scope s.heap.objs.size cl fn s H fp pins) [] (σ0++U) H' s'/\tn i s'.heap/\(∀b∈fp,H' b=none)/\W i n ys H') ?_ m0 ⟨0,[],_,H,by rw[length_replicate],I0,st1,fun b hb=>(f2 b hb).1,w0⟩;rintro n s3 ⟨i,ys,σ0,H3,hl3,I3,st3,fr3,w3⟩;obtain⟨ha,turn3⟩:=turn i n ys H3 w3;rcases turn3 with ⟨stop,qn⟩|⟨go,step⟩
  .refine thn (T.done (cxD X own scope s.heap.objs.size cl fn s H fp pins) rfl rfl rfl (TV I hc) i [] s3 _ H3 _ I3 (stat fr3) st3 stop) fun r s4 yy=>?_
   obtain⟨hr,I4⟩:=yy;subst hr;exact fin s4 _ H3 I4 qn
  .refine thn (T.item (cxD X own scope s.heap.objs.size cl fn s H fp pins) rfl rfl rfl (TV I hc) i [] s3 _ H3 _ I3 (stat fr3) st3 go) fun r s4 yy=>?_
   obtain⟨u,hr,h4⟩:=yy;subst hr;refine thn h4 fun _ s5 yy=>?_;obtain⟨x,H5,I5,r5,y5,st5,fr5⟩:=yy;obtain⟨vs,hu,q5⟩:=step x H5 y5;have I5':=I5.pinned (stat fr5) (T.obj _ _ st5);have again:∀{H7:Hp} {s7:Shared},vs.length=own.length->Inv (cxD X own scope s.heap.objs.size cl fn s H fp pins) ([]++G8 fp s5.heap) (vs.map some++U) H7 s7->∀{ys'},(∃m',m'<n/\W (i+1) m' ys' H7) ->
     ∃m,m<n/\∃i ys σ0 H',σ0.length=own.length/\Inv (cxD X own scope s.heap.objs.size cl fn s H fp pins) [] (σ0++U) H' s7/\tn i s7.heap/\(∀b∈fp,H' b=none)/\W i m ys H':=fun {H7 s7} hl I7 {ys'} ⟨m',hm,w7⟩=>by
    refine⟨m',hm,i+1,ys',vs.map some,H7,by rw[length_map,hl],I7.unpinned,T.keep _ _ _ st5 fun b hb o e=>(I7.pin (b,o) (mem_append_right _ (mem_append_right _ (Dk hb e)))).1,fun b hb=>?_,w7⟩;obtain⟨o,e,d⟩:=T.obj _ _ st5 b hb;exact(I7.pin (b,o) (mem_append_right _ (mem_append_right _ (Dk hb e)))).2.1
   refine thn (hg _ s5 σ0 U H5 x u vs hl3 I5' r5 hu) fun _ s6 yy=>?_;obtain⟨hl,I6⟩:=yy;refine thn (ht _ s6 _ H5 _ I6 q5) fun ok s7 yy=>?_;obtain⟨H7,I7,q7⟩:=yy;cases ok with
   | false =>
    rw[if_neg Bool.false_ne_true] at q7;rw[if_neg Bool.false_ne_true];exact again hl I7 q7
   | true =>
    rw[if_pos rfl] at q7;rw[if_pos rfl];refine thn (he _ s7 _ H7 _ I7 q7) fun v s8 yy=>?_;obtain⟨y,H8,I8,r8,ha8,hz8,q8⟩:=yy;refine thn (G0 _ s8 _ H8 (.ref acc) [y] (.ref acc) [v] (fun _ H9=>∃m',m'<n/\W (i+1) m' (ys++[y]) H9) I8 rfl (.cons r8 .nil) ⟨acc,ys,y,rfl,rfl,ha8,hz8,q8⟩) fun _ s9 yy=>?_;obtain⟨_,H9,I9,_,q9⟩:=yy;exact again hl I9 q9
 exact codeAny_compStart_list (loop _ rfl) (T.self X.A 0 _ _ _ st1 (loop _ rfl))
theorem Ni{own:List Str}{scope:Scope}{fp:List Addr}{it:Addr}{tn:Nat->Heap->Prop}{J:It}{target iter elt:Expr}{ifs:List Expr}{pos:Pos}{un:TU}{tc:TT}{te:TE}{acc:Addr}{Q:VK}{R:Result->Shared->Prop}{E:Value->Shared->Prop}(hc:Mkd X)(hok:Ct own X.N scope X.env.scope=true)(hg:∀C s H fp pins,PGo (cxC X own scope C s H fp pins) target own.length un)(ht:∀C s H fp pins,PTs (cxC X own scope C s H fp pins) ifs tc)(he:∀C s H fp pins,PE (cxC X own scope C s H fp pins) elt te)(I:Inv X pins U H s)(T:TurnM X.prog X.w X.K target J fp it tn)(st:tn 0 s.heap)(f2:∀b∈fp,D9 X pins H b)(W:Nat->Nat->List V->Hp->Prop)(w0:∃m,W 0 m [] H)(turn:∀i m ys H,W i m ys H->H acc=some (.lst ys) /\
   ((J.stop i H/\Q (.ref acc) H)\/(J.go i H/\∀x H',J.yld i H x H'->∃vs,un x H' vs/\tc (vs.map some++U) H' fun b H3 =>
    if b=true then te (vs.map some++U) H3 fun v H4=>H4 acc=some (.lst ys)/\ys.length<sizeLine/\∃m',m'<m/\W (i+1) m' (ys++[v]) (upd H4 acc (.lst (ys++[v])))
    else ∃m',m'<m/\W (i+1) m' ys H3)))(fin:∀s' σ' H',Inv (cxC X own scope s.heap.objs.size s H fp pins) [] σ' H' s'->Q (.ref acc) H'->R (.ok .next) s'):
  wpAny (model X.prog X.w) X.A (newFunctionEnv scope X.env.globals (clo X.env.cells scope.names []) [] X.env.qual none .none (some X.env)) (fun cenv s₄ =>
   cenv.locals=s.heap.objs.size/\codeAny (model X.prog X.w) X.A (.compStart (.ListComp elt [⟨target,iter,ifs,0⟩] scope pos) 0 (.ref it) (.ref acc) { cenv with scope:=relabel scope X.env }) R s₄) E s:=by
 have hcell:∀x∈scope.names,x.2≠.cell:=fun x hx z=>by
  simp only[Ct,and_eq_true,all_eq_true] at hok;have:=(hok.1.1.2 x hx).1.1;rw[z] at this;simp at this
 have hkind:scope.kind=.function:=by
  simp only[Ct,and_eq_true] at hok;simpa using hok.1.2
 refine wpAny_newFunctionEnv hcell (fun x hx=>by simp at hx) (fun h1 hns hsb=>⟨rfl,?_⟩) hkind;have hk:∀b o,s.heap.get? b=some o->h1.get? b=some o:=fun b o e=>(hsb.2 b (ne_of_lt (lt_size e))).trans (Heap.get?_push_of_some _ e);have I0:Inv (cxC X own scope s.heap.objs.size s H fp pins) [] (List.replicate own.length none++U) H { s with heap:=h1,toks:=s.toks+([]:List (Str×Value)).length }:=
  Jy hok I f2 (fun b hb=>let⟨o,e,_⟩:=T.obj _ _ st b hb; ⟨o,e⟩) (by simpa using hns) hk
 exact Pa (iter:=iter) (pos:=pos) hc (hg _ _ _ _ _) (ht _ _ _ _ _) (he _ _ _ _ _) I T st f2 W w0 turn fin hk I0
end
section
variable{X:Cx}
end
structure ExcCls (K:Frag) (C:Addr):Prop where
 ga:PySem.W.findIn K (.ref C) "__getattribute__" = some (some (.builtin "BaseException.__getattribute__"))
 noga:PySem.W.findIn K (.ref C) "__getattr__" = some none
 cl:PySem.W.findIn K (.ref C) "__class__" = some (some (.builtin "object.__class__"))
 obj:PySem.W.mroIn K C (.type "object")=some true
 bex:PySem.W.mroIn K C (.type "BaseException")=some true
section
variable{prog:Program}{w:World}{A:Around}{E:Value->Shared->Prop}{h:Heap}{g:Array GenState}{d:Drawn}{t:Nat}{os:OsState}{a C:Addr}{o:Obj}{K:Frag}
theorem IY{R:Result->Shared->Prop}(X:K.In h)(Y:ExcCls K C)(hx:h.get? a=some o)(hc:o.cls=.ref C)(hq:R (.ok (.ret (.ref C))) ⟨h,g,d,t,os⟩):
  codeAny (model prog w) A (.call (.builtin "getset_descriptor.__get__") ⟨[.builtin "object.__class__",.ref a,.ref C],[]⟩) R ⟨h,g,d,t,os⟩:=by
 have hT5:(⟨h,g,d,t,os⟩:Shared).TypeIs (.builtin "object.__class__") "getset_descriptor" := F.typeOf_object_class;have L1:=PySem.W.looks_mroIn (M:=model prog w) X Y.obj;have L2:PySem.W.Looks (model prog w) h (isSubtype (.ref C) (.type (".".intercalate ("object.__class__".cutAt '.').dropLast))) true:=by rw[F.owner_object_class]; exact L1
 refine codeAny_call_builtin F.slot_gs_get.plain F.entry_gs_get (F.slot_gs_get.check _ _ _ _ _ _ _ _ hT5 (F.args_gs_get _ _ _) ?_);repeat (any_goals (first|assumption|(with_reducible refine wpAny_loadPart_at hx ?_; rw[hc])|(with_reducible refine L2.at ?_)|wp_step))
 refine⟨Code.quiet_builtin _ dK,codeAny_builtin F.entry_object_class ?_⟩;repeat (any_goals (first|assumption|(with_reducible refine wpAny_loadPart_at hx ?_; rw[hc])|wp_step))
theorem Ho{tk:Tok}{Q:Fin->Shared->Prop}(X:K.In h)(Y:ExcCls K C)(hx:h.get? a=some o)(hc:o.cls=.ref C)(hq:Q (.done (.ret (.ref C))) ⟨h,g,d,t,os⟩):
  wpAny (model prog w) A (Builtin.«object.__getattribute__» ⟨[.ref a,.str "__class__" tk],[]⟩) Q E ⟨h,g,d,t,os⟩:=by
 have hT5:(⟨h,g,d,t,os⟩:Shared).TypeIs (.builtin "object.__class__") "getset_descriptor" := F.typeOf_object_class;have f5:=F.typeOf_object_class;have f6:=F.slot_gs_get.lookup;have f7:=F.slot_gs_set.lookup;have L1:=PySem.W.looks_findIn (M:=model prog w) X Y.cl;repeat (any_goals (first|assumption|(with_reducible refine wpAny_loadPart_at hx ?_; rw[hc])|(with_reducible refine L1.at ?_)|wp_step))
 refine IY X Y hx hc ?_;repeat (any_goals (first|assumption|wp_step))
theorem Ka{M:Model}{nameV:Value}{Q:Unit->Shared->Prop}(X:K.In h)(Y:ExcCls K C)(hx:h.get? a=some o)(hc:o.cls=.ref C)(hq:Q () ⟨h,g,d,t,os⟩):wpAny M A (checkBuiltinCall "BaseException.__getattribute__" ⟨[.ref a,nameV],[]⟩) Q E ⟨h,g,d,t,os⟩:=by
 have hk:builtinKind "BaseException.__getattribute__" = some .slot:=by decide +kernel
 have hsplit:splitId "BaseException.__getattribute__" = some ("BaseException","__getattribute__"):=by decide +kernel
 have L1:=PySem.W.looks_mroIn (M:=M) X Y.bex;have ha:=F.args_bexc_ga (.ref a) nameV;simp only[checkBuiltinCall,hk,hsplit];refine wpAny_bind ?_
 .unfold isInstance
  repeat (first|(with_reducible refine wpAny_loadPart_at hx ?_; rw[hc])|(with_reducible refine L1.at ?_)|wp_step)
  exact hq
theorem HQ{tk:Tok}{R:Result->Shared->Prop}(X:K.In h)(Y:ExcCls K C)(hx:h.get? a=some o)(hc:o.cls=.ref C)(hp:Slot "ValueError" "__getattribute__" "BaseException.__getattribute__")(hq:R (.ok (.ret (.ref C))) ⟨h,g,d,t,os⟩):
  codeAny (model prog w) A (.call (.builtin "BaseException.__getattribute__") ⟨[.ref a,.str "__class__" tk],[]⟩) R ⟨h,g,d,t,os⟩:=
 codeAny_call_builtin hp.plain F.entry_bexc_ga (Ka X Y hx hc (Ho X Y hx hc hq))
theorem J9{tk:Tok}{fill:Bool}{Q:Value->Shared->Prop}(X:K.In h)(Y:ExcCls K C)(hx:h.get? a=some o)(hc:o.cls=.ref C)(hp:Slot "ValueError" "__getattribute__" "BaseException.__getattribute__")(hq:Q (.ref C) ⟨h,g,d,t,os⟩):
  wpAny (model prog w) A (getAttrBy (.ref a) (.str "__class__" tk) fill) Q E ⟨h,g,d,t,os⟩:=by
 have f3:=hp.bind (.ref a);have hx2:(Value.builtin "BaseException.__getattribute__" == Value.builtin "object.__getattribute__")=false:=by decide +kernel
 have hx1:(onTheHeap (Value.ref C)&&Value.builtin "BaseException.__getattribute__" == Value.builtin "object.__getattribute__")=false:=by rw[hx2]; rfl
 have L1:=PySem.W.looks_findIn (M:=model prog w) X Y.ga;have L2:=PySem.W.looks_findIn (M:=model prog w) X Y.noga;repeat (any_goals (first|assumption|(with_reducible refine wpAny_loadPart_at hx ?_; rw[hc])|(with_reducible refine L1.at ?_)|(with_reducible refine L2.at ?_)|wp_step))
 refine HQ X Y hx hc hp ?_;repeat (any_goals (first|assumption|wp_step))
theorem HP{Q:Option Value->Shared->Prop}(X:K.In h)(Y:ExcCls K C)(hx:h.get? a=some o)(hc:o.cls=.ref C)(hp:Slot "ValueError" "__getattribute__" "BaseException.__getattribute__")(hq:Q (some (.ref C)) ⟨h,g,d,t+1,os⟩):
  wpAny (model prog w) A (getAttr? (.ref a) "__class__") Q E ⟨h,g,d,t,os⟩:=by
 unfold getAttr? getAttrBy?;repeat (any_goals (first|assumption|with_reducible apply J9 X Y hx hc hp|wp_step))
end
theorem Qo{K:Frag}{a C:Addr}{cd:ClassData}(Y:ExcCls K C)(hcD:PySem.W.clsIn K C=some cd):PySem.W.KitX K (.ref a) (.ref C) (fun h=>∃o,h.get? a=some o/\o.cls=.ref C) where
 ty:=fun M h _ p=>by
  obtain⟨o,h1,h2⟩:=p;exact h2 ▸ (PySem.W.Looks.ld h1).andThen .now
 it:=fun _ _ X _=>by
  unfold PySem.W.clsIn at hcD;split at hcD
  .rename_i c' d' cd' sl' ho
   intro A' Q' E' s' k q;unfold isType loadHead;exact wpAny_bind (wpAny_loadPart (k _ _ (X _ _ ho)) (wpAny_pure q))
  .cases hcD
 ne:=fun h tp dd its n sl X htp=>by
  refine eq_false_iff.mpr fun q=>?_;have e:C=tp:=Value.ref.inj (beq_iff_eq.mp q);subst e;unfold PySem.W.clsIn at hcD;split at hcD
  .rename_i c' d' cd' sl' ho
   have z:=(X _ _ ho).symm.trans htp;cases z
  .cases hcD
 ca:=fun {_ _ _ _ _ s} X p k=>by
  obtain⟨h,g,d,t,os⟩:=s;obtain⟨o,h1,h2⟩:=p;exact HP X Y h1 h2 F.attr_ValueError.ga k
noncomputable def WZ(C:Addr)(c:V)(b:Bool):List V->Hp->VK->Prop:=fun xs H Q=>∃a o u,xs=[.ref a,c]/\H a=some (.frz o u)/\o.cls=.ref C/\Q (.bl b) H
theorem PD{X:Cx}{C:Addr}{c:V}{cv:Value}{b:Bool}{cd:ClassData}(Y:ExcCls X.K C)(hcD:PySem.W.clsIn X.K C=some cd)(hk:PySem.W.kitOne X.K (.ref C) cv=some b)(hc:∀u,RelV c u->u=cv):
  B9 X (.builtin "isinstance") (WZ C c b):=by
 intro pins s U H xs us Q I r h;obtain⟨a,o,u,rfl,ho,hcl,q⟩:=h;obtain⟨v1,v2,rfl,r1,r2⟩:=r.two;cases (show v1=Value.ref a from r1);cases hc _ r2;have hok:=(show BN X.prog X.w H s.heap a (.frz o u) from I.hok a _ ho);exact PySem.W.kia_one (Qo Y hcD) I.kIn ⟨o,hok.1,hcl⟩ hk (fun z=>nomatch z) fun tk=>⟨.bl b,H,I.tok tk,rfl,q⟩
end L2
end
section
namespace J
open PySem PySem.Spec PyProof.Rows L2
section
variable{X:Cx}{a:Expr}{m:ME}{p pos q:Pos}{K:Frag}{H:Hp}{U:L2.St}
noncomputable def UA(C:Addr)(b:Bool):A->Option A
 | .opq _ o=>if (o.cls==.ref C)=true then some (.fz (.bl b)) else none
 | .fz _ | .lst _ | .tup _ | .scr _ | .dic _=>none
noncomputable def Bs(C:Addr)(b:Bool):List A->Option A:=on1 (UA C b)
theorem U0{C:Addr}{b:Bool}:OpN K (Bs C b) (r1L fun x H Q=>∃a o u,x=.ref a/\H a=some (.frz o u)/\o.cls=.ref C/\Q (.bl b) H):=by
 intro N H xs as b' Q hs e k
 replace e:=D3 e
 obtain⟨a,rfl,e⟩:=e;obtain⟨x,L1,rfl,h1⟩:=Dm hs;cases a with
 | opq a o =>
  simp only[UA] at e;split at e
  .rename_i hc
   cases e;rw[AA] at h1;obtain⟨rfl,_,u,h⟩:=h1;exact⟨_,rfl,a,o,u,rfl,h,beq_iff_eq.mp hc,k _ _ Dn⟩
  .cases e
 | _=>cases e
theorem VZ{C:Addr}{c:V}{b:Bool}{Q:VK}(h:tE K (opM (Bs C b) (m1L m)) U H Q):tCB (WZ C c b) (Cd (tE K m) (Cd (tC c) FI)) U H Q:=by
 have h2:=one U0 h;exact tE.mono h2 fun x H1 ⟨a,o,u,e,r,hc,q⟩=>⟨a,o,u,by rw[e],r,hc,q⟩
theorem Qg{y:Str}{C:Addr}{c:V}{cv:Value}{b:Bool}{cd:ClassData}(Y:ExcCls X.K C)(hcD:PySem.W.clsIn X.K C=some cd)(hk:PySem.W.kitOne X.K (.ref C) cv=some b)(hc:∀u,RelV c u->u=cv)(hn:PE X (.Name y q) (tC c))(hg:Gl X "isinstance")(B:Blt X.mg X.K)(he:starEach [a,.Name y q] X.env=[(false,eval a X.env),(false,eval (.Name y q) X.env)])(he2:starEach [.Name y q] X.env=[(false,eval (.Name y q) X.env)])(ha:JE X a m):
  JE X (.Call (.Name "isinstance" p) [a,.Name y q] [] pos) (opM (Bs C b) (m1L m)):=
 AM (Iz (PD Y hcD hk hc) hg B.isinstance PyProof.Rows.Boot.«isinstance» (Cu ha (Cu hn D4 he2) (he.trans (by rw[he2]))) dK dK (he.trans (by rw[he2])) (by rw[he2]; rfl)) fun _ _ _ h=>VZ h
end
section
variable{X:Cx}{a b c e:Expr}{m:ME}{mt:MT}{mi:MI}{p pos:Pos}{x:Str}
noncomputable def JIM(X:Cx)(tg e:Expr)(m:MI):Prop:=PIM X tg e (tI X.K m)
theorem QL{tg:Expr}{t t':TI}(h:PIM X tg e t)(w:∀U H R,t' U H R->t U H R):PIM X tg e t':=fun pins s U H R I q=>h pins s U H R I (w U H R q)
theorem Qi{tg:Expr}(hg:Gl X "range")(hm:X.mg "range" = none)(hs:starEach [a] X.env=[(false,eval a X.env)])(h:JE X a m):JIM X tg (.Call (.Name "range" p) [a] [] pos) (Bm m):=
 QL (Nf hg hm (Cu h D4 hs) hs) fun _ _ _ h=>Oc h
end
end J
end
section
namespace L2
open PySem PySem.Spec PyProof.Rows
structure RoomM (k:Nat) (A:Around):Prop where
 dp:A.depth+3*k+5<recursionLimit
 un:A.units+16*k+200<cLine
theorem RoomM.mono{j k:Nat}{A:Around}(r:RoomM k A)(h:j<=k):RoomM j A:=⟨by have:=r.dp; lia,by have:=r.un; lia⟩
theorem RoomM.deeper{k:Nat}{A:Around}(r:RoomM (k+1) A)(env:Env):RoomM k (A.deeper env):=
 ⟨by have:=r.dp; show A.depth+1+3*k+5<_; lia,by have:=r.un; show A.units+3+16*k+200<_; lia⟩
theorem RoomM.depth{k:Nat}{A:Around}(r:RoomM k A):A.depth<recursionLimit:=by have:=r.dp; lia
theorem RoomM.units{k:Nat}{A:Around}(r:RoomM k A):A.units+64<cLine:=by have:=r.un; lia
theorem Room.marked{k:Nat}{A:Around}(r:Room k A)(e:Option Value):RoomM k (A.mark e):=⟨r.dp,r.un⟩
noncomputable def TH(A:Around)(H:Hp):Prop:=∃(a:Addr) (o:Obj) (u:HO) (vs:Array Value),A.handled=some (.ref a)/\H a=some (.frz o u)/\o.data=.fields vs/\vs[2]? = some .none
theorem Mkd.of{X:Cx}{pins:List (Addr×Obj)}{U:St}{H:Hp}{s:Shared}(m:Mkd X)(I:Inv X pins U H s):TH X.A H:=by
 obtain⟨a,o,u,vs,h,hp,r⟩:=m;exact⟨a,o,u,vs,h,I.base.frzs _ _ _ hp,r⟩
noncomputable def cxM(CX:CXT)(P:Program)(w:World)(K:Frag)(mg:Str->Option Value)(base:Heap)(N:List Str)(qual:Str)(scope:Scope)(f:Addr)(cd:Value)(A:Around)(outer:List Env)(s:Shared)(H:Hp)(E:XK):Cx:=
 { Bx CX P w K mg base N qual scope f cd A outer s H E with calm:=false }
theorem MJ{CX:CXT}{P:Program}{w:World}{K:Frag}{mg:Str->Option Value}{base:Heap}{N ps:List Str}{qual:Str}{scope:Scope}{f:Addr}{cd:Value}{A:Around}{outer:List Env}{s s1:Shared}{H:Hp}{E:XK}{us:List Value}{vs:List V}(S:FnScope N ps scope)(e0:Env0 P w K mg base A outer s H)(hl:vs.length=ps.length)(r:Vals vs us)(x:InCallC s s.heap.objs.size (bindL (envOfC qual scope s.heap.objs.size f cd).kindOf (ps.zip us) fun _=>none) (cellsFrom (s.heap.objs.size+1) scope.names []) (bindC (envOfC qual scope s.heap.objs.size f cd).kindOf (ps.zip us) fun _=>none) s1):
  Inv (cxM CX P w K mg base N qual scope f cd A outer s H E) [] (start N vs) H s1:=by
 have I:=GY (CX:=CX) (E:=E) (A:={ A with handled:=none }) (P:=P) (w:=w) (K:=K) (mg:=mg) (base:=base) (outer:=outer) (qual:=qual) (f:=f) (cd:=cd) S rfl ⟨e0.frames,e0.mod,e0.bs,e0.bsz,e0.funs,e0.frf,e0.hok,e0.bare,e0.tb⟩ hl r x;exact⟨⟨I.ok.mod,I.ok.kind,I.ok.glob,I.ok.blt,I.ok.above,I.ok.inj,I.ok.has,I.ok.cab,fun z=>absurd z Bool.false_ne_true,Around.frames_deeper e0.frames,I.ok.stk,I.ok.exf,I.ok.bs,I.ok.bsz,I.ok.noex,I.ok.exfs,I.ok.funs,I.ok.frf,I.ok.tb⟩,
  I.os,I.bare,I.base,I.loc,I.cell,I.free,I.freeC,I.pin,I.hok,I.len⟩
structure FnOkM (P:Program) (w:World) (K:Frag) (mg:Str->Option Value) (base:Heap) (CX:CXT) (k:Nat) (f:Addr) (fd:FuncData) (ps:List Str) (sp:Sp):Prop where
 len:∀vs H Q E,sp vs H Q E->vs.length=ps.length
 run:∀(A:Around) (outer:List Env) (s:Shared) (H:Hp) (args:Args) (us:List Value) (vs:List V) (Q:VK) (E:XK),RoomM k A->TH A H->Env0 P w K mg base A outer s H->BindsTo s fd args (ps.zip us)->Vals vs us->sp vs H Q E ->
  codeAny (model P w) A (.call (.ref f) args) (CR CX outer P w H s Q E) s
theorem Us{CX:CXT}{P:Program}{w:World}{K:Frag}{mg:Str->Option Value}{base:Heap}{k:Nat}{f:Addr}{name qual:Str}{params:Arguments}{body:List Stmt}{scope:Scope}{dV kV doc pm cdv ct oc:Value}{an od:Option Addr}{osl:Array (Option Value)}{N ps:List Str}{sp:Sp}(lk:K.lookup f=some ⟨oc,od,.func (PySem.W.fnOf name qual params body scope dV kV doc pm an cdv ct),osl⟩)(hcd:PySem.W.codeIn K cdv qual=true)(S:FnScope N ps scope)(len:∀vs H Q E,sp vs H Q E->vs.length=ps.length)(hbody:∀(A:Around) (outer:List Env) (s:Shared) (H:Hp) (vs:List V) (Q:VK) (E:XK),RoomM k (A.deeper (envOfC qual scope s.heap.objs.size f cdv))->Mkd (cxM CX P w K mg base N qual scope f cdv A outer s H E)->sp vs H Q E ->
   ∃t,PSs (cxM CX P w K mg base N qual scope f cdv A outer s H E) body t/\t { nx:=fun _ H'=>Q .non H',rt:=Q } (start N vs) H):
  FnOkM P w K mg base CX (k+1) f (PySem.W.fnOf name qual params body scope dV kV doc pm an cdv ct) ps sp:=by
 refine⟨len,fun A outer s H args us vs Q E hr hmk e0 hb r hsp=>?_⟩;have hl:=len _ _ _ _ hsp;have KX:K.In s.heap:=e0.mod.kin.keeps fun b o e=>(e0.bs b o e).1;have lim:s.heap.NoLimit:=e0.mod.nolimit.keeps fun b o e=>(e0.bs b o e).1;have hkind:∀y∈ps.zip us,scope.names.lookup y.1=some .local\/(scope.names.lookup y.1=some .cell/\((cellsFrom (s.heap.objs.size+1) scope.names []).lookup y.1).isSome=true):=fun⟨n,v⟩ hy=>by
  rcases S.par n (of_mem_zip hy).1 with q|q
  .exact .inl q
  .exact .inr ⟨q,PySem.W.cellsFrom_some _ _ _ (.inl q)⟩
 refine codeAny_call_function hr.depth (KX _ _ lk) rfl S.co S.gen rfl (PySem.W.codeRec_of KX hcd) (hb _ _ _ _ ?_);refine wpAny_newFunctionEnv_cells S.kind hkind fun env he s1 x=>?_;subst he;refine⟨lim.keeps x.toInCall.keep,codeAny_func ?_⟩;obtain⟨t,ht,hq⟩:=hbody A outer s H vs Q E (hr.deeper _) hmk hsp;have I:Inv (cxM CX P w K mg base N qual scope f cdv A outer s H E) [] (start N vs) H s1:=MJ S e0 hl r x;refine wpAny_mono (ht [] s1 (start N vs) H _ I hq) (fun fl s' hs=>?_) fun e s' hs=>hs;have fin:∀{σ':St} {H':Hp} {v:V} {u:Value},Inv (cxM CX P w K mg base N qual scope f cdv A outer s H E) [] σ' H' s'->RelV v u->Q v H'->CE outer P w H s Q u s':=
  fun {σ' H' v u} J rv q=>⟨v,H',J.os,J.bare,J.base,J.hok,rv,q⟩
 cases fl with
 | ret u =>
  obtain⟨v,σ',H',J,rv,q⟩:=hs;exact fin J rv q
 | next =>
  obtain⟨σ',H',J,q⟩:=hs;exact fin (v:=V.non) (u:=Value.none) J rfl q
 | brk =>
  obtain⟨_,_,_,q⟩:=hs;exact False.elim q
 | cont =>
  obtain⟨_,_,_,q⟩:=hs;exact False.elim q
section
variable{X:Cx}{CX:CXT}{k:Nat}{f C:Addr}{fd:FuncData}{ps:List Str}{sp:Sp}{dvs:List V}{ds:List Value}{E:XK}{x m:Str}{p pos apos:Pos}{e o:Expr}{es:List Expr}{ta:TE}{t:TA}
theorem S2{pins:List (Addr×Obj)}{U:St}{H:Hp}{s:Shared}{Q:VK}{us:List Value}{vs:List V}(F:FnOkM X.prog X.w X.K X.mg X.base CX k f fd ps sp)(hr:RoomM k X.A)(hmk:Mkd X)(hb:Binds X.K fd ps ds)(hd:Vals dvs ds)(hx:Passes CX X E)(I:Inv X pins U H s)(r:Vals vs us)(h:sp (vs++dvs) H Q E):wpAny (model X.prog X.w) X.A (call (.ref f) us) (EP X pins U Q) X.xe s:=by
 have r2:Vals (vs++dvs) (us++ds):=r.append hd;have hl:(us++ds).length=ps.length:=by rw[<- r2.length]; exact F.len _ _ _ _ h
 refine wpAny_call (codeAny_mono (F.run X.A X.stack s H ⟨us,[]⟩ (us++ds) (vs++dvs) Q E hr (hmk.of I) I.env0 (hb s us I.kIn hl) r2 h) fun r s' hq=>?_);cases r with
 | error e=>exact hx pins U H s e s' I hq
 | ok fl =>
  cases fl with
  | ret u=>exact I.after hq
  | next=>exact False.elim hq
  | brk=>exact False.elim hq
  | cont=>exact False.elim hq
theorem QG(F:FnOkM X.prog X.w X.K X.mg X.base CX k f fd ps sp)(hr:RoomM k X.A)(hmk:Mkd X)(hg:Gl X x)(hm:X.mg x=some (.ref f))(hk:PySem.W.keepIn X.K (.ref f)=true)(hb:Binds X.K fd ps ds)(hd:Vals dvs ds)(hx:Passes CX X E)(ha:PA X (e::es) t)(hdb:(x==("__debug__" : Str))=false:=by decide)(he:starEach (e::es) X.env=(false,eval e X.env)::starEach es X.env:=by rfl)(hpl:(backTo pos (starEach es X.env)).any (·.1)=false:=by rfl):
  PE X (.Call (.Name x p) (e::es) [] pos) (Mg sp dvs E t):=by
 intro pins s U H Q I h;refine wpAny_Call_Name_kw (GA I hg hm ?_ hdb);refine PySem.W.callWith_K (h₀:=X.base) I.ok.mod.kin hk (thn (ha pos pins s U H _ I h) fun us s1 ⟨vs,H1,I1,r,q⟩=>⟨I1.kIn,?_⟩) he hpl;exact S2 F hr hmk hb hd hx I1 r q
end
structure DefM (P:Program) (w:World) (K:Frag) (mg:Str->Option Value) (base:Heap) (CX:CXT) (k:Nat) (x:Str) (ps:List Str) (sp:Sp):Prop where
 ex:∃(f:Addr) (fd:FuncData),mg x=some (.ref f)/\PySem.W.keepIn K (.ref f)=true/\Binds K fd ps []/\FnOkM P w K mg base CX k f fd ps sp
end L2
namespace J
open PySem PySem.Spec PyProof.Rows L2
section
variable{P:Program}{w:World}{K:Frag}{mg:Str->Option Value}{base:Heap}
theorem Uv{x:Str}{st:Stmt}{f:Addr}{fd:FuncData}{N ps:List Str}{k:Nat}{m:MS}(F:Fun K x x st f fd)(S:FnScope N ps (As st))(hb:∀(cdv:Value) (A:Around) (outer:List Env) (s:Shared) (H:Hp) (E:XK),RoomM k (A.deeper (envOfC x (As st) s.heap.objs.size f cdv))->Mkd (cxM CX0 P w K mg base N x (As st) f cdv A outer s H E) ->
   JSs (cxM CX0 P w K mg base N x (As st) f cdv A outer s H E).nox (BV st) m):
  FnOkM P w K mg base CX0 (k+1) f fd ps (spJ K (fnM ps.length N.length m) ps.length):=by
 obtain⟨oc,od,kV,doc,pm,an,cdv,ct,osl,rfl,lk,hcd⟩:=F.ex;refine Us lk hcd S (fun vs H Q E h=>?_) fun A outer s H vs Q E hr hm h=>?_
 .obtain⟨_,_,_,h,_⟩:=h
  exact h
 .have hl:vs.length=ps.length:=by
   obtain⟨_,_,_,h,_⟩:=h;exact h
  have:=J0 h;refine⟨_,PSs.nox (hb cdv A outer s H E hr hm),?_⟩;unfold L2.start;rw[hl];exact this
end
section
variable{X:Cx}{e:Expr}{es:List Expr}{ms:MA}{p pos:Pos}{x:Str}
theorem Qd{P:Program}{w:World}{K:Frag}{mg:Str->Option Value}{base:Heap}{CX:CXT}{k j:Nat}{ps:List Str}{Φ:Fn}{np:Nat}{E:XK}(D:DefM P w K mg base CX k x ps (spJ K Φ np))(hnp:∀args y,Φ args=some y->args.length=np)(hP:X.prog=P)(hw:X.w=w)(hK:X.K=K)(hm:X.mg=mg)(hb:X.base=base)(hr:RoomM j X.A)(hkj:k<=j)(hmk:Mkd X)(hx:Passes CX X E)(hdb:(x==("__debug__" : Str))=false)(hg:Gl X x)(he:starEach (e::es) X.env=(false,eval e X.env)::starEach es X.env)(hpl:(backTo pos (starEach es X.env)).any (·.1)=false)(ha:JA X (e::es) ms):JE X (.Call (.Name x p) (e::es) [] pos) (Af Φ ms):=by
 subst hP hw hK hm hb;obtain⟨f,fd,a,b,c,d⟩:=D.ex;exact AM (QG d (hr.mono hkj) hmk hg a b c .nil hx ha hdb he hpl) fun _ _ _ h=>Oa hnp h
end
end J
end
section
namespace L2
open PySem PySem.Spec PyProof.Rows PySem.W
section
variable{P:Program}{w:World}{K:Frag}{mg:Str->Option Value}{base:Heap}
end
theorem BN.obj{P:Program}{w:World}{H:Hp}{h:Heap}{a:Addr}{o:HO}(x:BN P w H h a o):∃u,h.get? a=some u:=by
 cases o with
 | lst xs=>obtain⟨_,_,_,_,e⟩:=x; exact⟨_,e⟩
 | tup xs=>obtain⟨_,_,_,o,e,_⟩:=x; exact⟨_,e⟩
 | dK kvs=>obtain⟨_,_,_,_,o,_,_,e,_⟩:=x; exact⟨_,e⟩
 | dT kvs=>obtain⟨_,_,_,_,o,_,_,e,_⟩:=x; exact⟨_,e⟩
 | set S n=>obtain⟨o,_,_,_,e,_⟩:=x; exact⟨_,e⟩
 | ins C dx fs=>obtain⟨_,_,_,e,_⟩:=x; exact⟨_,e⟩
 | own y=>obtain⟨_,e⟩:=x; exact⟨_,e⟩
 | xd fs=>obtain⟨_,⟨_,_,_,e,_⟩,_⟩:=x; exact⟨_,e⟩
 | rng lo hi=>obtain⟨_,_,_,e⟩:=x; exact⟨_,e⟩
 | frz ob u=>obtain⟨e,_⟩:=x; exact⟨_,e⟩
 | tbl ps=>obtain⟨_,e,_⟩:=x; exact⟨_,e⟩
 | met f y=>exact⟨_,(show h.get? a=some _ from x)⟩
 | ext φ=>obtain⟨_,⟨_,e⟩,_⟩:=x; exact⟨_,e⟩
theorem HOk.none{P:Program}{w:World}{H:Hp}{h:Heap}{a:Addr}(x:HOk P w H h)(e:h.get? a=Option.none):H a=Option.none:=by
 cases q:H a with
 | none=>rfl
 | some u =>
  obtain⟨o,z⟩:=(x a u q).obj;rw[e] at z; cases z
theorem FlyAt.untracked{P:Program}{w:World}{outer:List Env}{H H':Hp}{s s':Shared}{a C:Addr}{a0:Value}{B:Heap}(F:FlyAt P w outer H s a C a0 B H' s'):H' a=Option.none:=F.hok.none F.fly.2.1
noncomputable abbrev Cx.mk2(X:Cx)(a:Addr)(o:Obj):Cx:={ X with A:=X.A.mark (some (.ref a)),calm:=false,H₀:=upd X.H₀ a (.frz o (.own a)),xe:=fun _ _=>False }
section
variable{X:Cx}{pins:List (Addr×Obj)}{U:St}{H:Hp}{s:Shared}{a:Addr}{o:Obj}
theorem Inv.mk2(I:Inv X pins U H s)(ha:H a=some (.frz o (.own a)))(hs:X.s₀.heap.get? a=none)(hn:X.H₀ a=none):Inv (X.mk2 a o) pins U H s:=by
 have k:=I.ok;have ne:∀b u,X.s₀.heap.get? b=some u->b≠a:=fun b u e z=>by rw[z,hs] at e; cases e
 have nh:∀b u,X.H₀ b=some u->b≠a:=fun b u e z=>by rw[z,hn] at e; cases e
 refine⟨⟨k.mod,k.kind,k.glob,k.blt,k.above,k.inj,k.has,k.cab,fun z=>absurd z Bool.false_ne_true,k.frames,k.stk,k.exf,fun b ob e=>⟨(k.bs b ob e).1,?_⟩,k.bsz,k.noex,k.exfs,k.funs,fun b hb=>?_,fun c p e=>?_⟩,
  I.os,I.bare,⟨fun b ob e n=>I.base.keep b ob e ?_,fun b ob e n=>I.base.slot b ob e ?_,fun b ob e n=>I.base.free b ob e ?_,I.base.there,fun b xs e=>?_,fun b ob u e=>?_,fun b qs e=>?_⟩,I.loc,I.cell,I.free,I.freeC,I.pin,I.hok,I.len⟩
 .show upd X.H₀ a _ b=none
  rw[Au (ne b ob (k.bs b ob e).1)]; exact(k.bs b ob e).2
 .obtain⟨_,ob,e,_⟩:=k.funs.mem hb
  show upd X.H₀ a _ b=none;rw[Au (ne b ob e)]; exact k.frf b hb
 .obtain⟨ps,e1,e2⟩:=k.tb c p e
  exact⟨ps,by show upd X.H₀ a _ p=_; rw[Au (nh p _ e1)]; exact e1,e2⟩
 .have n:upd X.H₀ a _ b=none:=n
  rw[Au (ne b ob e)] at n; exact n
 .have n:upd X.H₀ a _ b=none:=n
  rw[Au (ne b ob e)] at n; exact n
 .have n:upd X.H₀ a _ b=none:=n
  rw[Au (ne b ob e)] at n; exact n
 .have e:upd X.H₀ a _ b=_:=e
  by_cases z:b=a
  .rw[z,AN] at e; cases e
  .rw[Au z] at e; exact I.base.tups b xs e
 .have e:upd X.H₀ a _ b=_:=e
  by_cases z:b=a
  .rw[z,AN] at e; cases e; rw[z]; exact ha
  .rw[Au z] at e; exact I.base.frzs b ob u e
 .have e:upd X.H₀ a _ b=_:=e
  by_cases z:b=a
  .rw[z,AN] at e; cases e
  .rw[Au z] at e; exact I.base.tbls b qs e
theorem Inv.un2(I:Inv (X.mk2 a o) pins U H s)(k:X.Ok)(hs:X.s₀.heap.get? a=none)(hn:X.H₀ a=none):Inv X pins U H s:=by
 have ne:∀b u,X.s₀.heap.get? b=some u->b≠a:=fun b u e z=>by rw[z,hs] at e; cases e
 have nh:∀b u,X.H₀ b=some u->b≠a:=fun b u e z=>by rw[z,hn] at e; cases e
 have u:=I.base;refine⟨k,I.os,I.bare,⟨fun b ob e n=>u.keep b ob e ?_,fun b ob e n=>u.slot b ob e ?_,fun b ob e n=>u.free b ob e ?_,u.there,fun b xs e=>u.tups b xs ?_,fun b ob v e=>u.frzs b ob v ?_,fun b qs e=>u.tbls b qs ?_⟩,I.loc,I.cell,I.free,I.freeC,I.pin,I.hok,I.len⟩
 .show upd X.H₀ a _ b=none; rw[Au (ne b ob e)]; exact n
 .show upd X.H₀ a _ b=none; rw[Au (ne b ob e)]; exact n
 .show upd X.H₀ a _ b=none; rw[Au (ne b ob e)]; exact n
 .show upd X.H₀ a _ b=_; rw[Au (nh b _ e)]; exact e
 .show upd X.H₀ a _ b=_; rw[Au (nh b _ e)]; exact e
 .show upd X.H₀ a _ b=_; rw[Au (nh b _ e)]; exact e
theorem XD{vs:Array Value}(hd:o.data=.fields vs)(h2:vs[2]? = some .none):Mkd (X.mk2 a o):=⟨a,o,_,vs,rfl,AN,hd,h2⟩
end
theorem Ut{CX:CXT}{P:Program}{w:World}{K:Frag}{mg:Str->Option Value}{base:Heap}{k:Nat}{f:Addr}{name qual:Str}{params:Arguments}{body:List Stmt}{scope:Scope}{dV kV doc pm cdv ct oc:Value}{an od:Option Addr}{osl:Array (Option Value)}{N ps:List Str}(lk:K.lookup f=some ⟨oc,od,.func (PySem.W.fnOf name qual params body scope dV kV doc pm an cdv ct),osl⟩)(hcd:PySem.W.codeIn K cdv qual=true)(S:FnScope N ps scope){A:Around}{outer:List Env}{s:Shared}{H:Hp}{args:Args}{us:List Value}{vs:List V}{Q:VK}{E:XK}(hr:Room (k+1) A)(e0:Env0 P w K mg base A outer s H)(hb:BindsTo s (PySem.W.fnOf name qual params body scope dV kV doc pm an cdv ct) args (ps.zip us))(r:Vals vs us)(hl:vs.length=ps.length)(hbody:∀s1,Room k (A.deeper (envOfC qual scope s.heap.objs.size f cdv))->Inv (Bx CX P w K mg base N qual scope f cdv A outer s H E) [] (start N vs) H s1->(∀b o,s.heap.get? b=some o->s1.heap.get? b=some o) ->
   wpAny (model P w) (A.deeper (envOfC qual scope s.heap.objs.size f cdv)) (execs body (envOfC qual scope s.heap.objs.size f cdv)) (SP (Bx CX P w K mg base N qual scope f cdv A outer s H E) [] { nx:=fun _ H'=>Q .non H',rt:=Q }) (Bx CX P w K mg base N qual scope f cdv A outer s H E).xe s1):
  codeAny (model P w) A (.call (.ref f) args) (CR CX outer P w H s Q E) s:=by
 have KX:K.In s.heap:=e0.mod.kin.keeps fun b o e=>(e0.bs b o e).1;have lim:s.heap.NoLimit:=e0.mod.nolimit.keeps fun b o e=>(e0.bs b o e).1;have hkind:∀y∈ps.zip us,scope.names.lookup y.1=some .local\/(scope.names.lookup y.1=some .cell/\((cellsFrom (s.heap.objs.size+1) scope.names []).lookup y.1).isSome=true):=fun⟨n,v⟩ hy=>by
  rcases S.par n (of_mem_zip hy).1 with q|q
  .exact .inl q
  .exact .inr ⟨q,PySem.W.cellsFrom_some _ _ _ (.inl q)⟩
 refine codeAny_call_function hr.depth (KX _ _ lk) rfl S.co S.gen rfl (PySem.W.codeRec_of KX hcd) (hb _ _ _ _ ?_);refine wpAny_newFunctionEnv_cells S.kind hkind fun env he s1 x=>?_;subst he;refine⟨lim.keeps x.toInCall.keep,codeAny_func ?_⟩;have I:Inv (Bx CX P w K mg base N qual scope f cdv A outer s H E) [] (start N vs) H s1:=GY S hr.hd e0 hl r x;refine wpAny_mono (hbody s1 (hr.deeper _) I x.toInCall.keep) (fun fl s' hs=>?_) fun e s' hs=>hs;have fin:∀{σ':St} {H':Hp} {v:V} {u:Value},Inv (Bx CX P w K mg base N qual scope f cdv A outer s H E) [] σ' H' s'->RelV v u->Q v H'->CE outer P w H s Q u s':=
  fun {σ' H' v u} J rv q=>⟨v,H',J.os,J.bare,J.base,J.hok,rv,q⟩
 cases fl with
 | ret u =>
  obtain⟨v,σ',H',J,rv,q⟩:=hs;exact fin J rv q
 | next =>
  obtain⟨σ',H',J,q⟩:=hs;exact fin (v:=V.non) (u:=Value.none) J rfl q
 | brk =>
  obtain⟨_,_,_,q⟩:=hs;exact False.elim q
 | cont =>
  obtain⟨_,_,_,q⟩:=hs;exact False.elim q
theorem Pw{K:Frag}{h:Heap}{C B:Addr}{n n':String}(X:K.In h)(qC:excIn K C RC n=true)(qB:excIn K B RC n'=true)(hm:mroIn K C (.ref B)=some true)(hne:C≠B):Above h C B:=by
 obtain⟨bm',N',nm',qn',bs',hdct',sn',sub',ab',col',dd',j0,j1,j2,j3,j5,mN',hB,_,_,T'⟩:=NM X qB;have hbase:=T'.hasType PySem.F.excBase_ValueError.hasBase;unfold excIn at qC;split at qC
 .rename_i dd cd sl ho
  split at qC
  .rename_i C' bm k0 k1 k2 k3 n k5 hmro hs
   simp only[and_eq_true,beq_iff_eq,not_eq_true'] at qC;obtain⟨⟨⟨⟨⟨rfl,rfl⟩,hdel⟩,ht⟩,hok⟩,hni⟩:=qC;have hc:clsIn K C'=some cd:=by unfold clsIn; rw[ho]
   unfold mroIn at hm;rw[hc,bind_some,hmro] at hm;have hm2:(Value.ref C'::bm).contains (.ref B)=true:=by simpa using hm
   rw[contains_cons] at hm2;have hne2:((Value.ref B:Value)==.ref C')=false:=by
    rw[eq_false_iff];intro z;exact hne (Value.ref.inj (beq_iff_eq.mp z)).symm
   rw[hne2,Bool.false_or] at hm2;obtain⟨nm,bs,mro,ns,qn,hd,sn,sub,ab,col,del⟩:=cd;dsimp only at hmro hdel hok hni;subst hmro hdel;have hsl:sl = #[k0,k1,k2,k3,some (.builtin n),k5]:=by
    obtain⟨l⟩:=sl;simp only at hs;rw[hs]
   subst hsl;exact⟨_,_,_,_,_,_,_,_,_,_,_,_,_,_,_,_,_,_,_,_,_,_,_,_,_,_,_,_,_,_,_,_,_,_,X _ _ ho,hB,hbase,hm2⟩
  .cases qC
 .cases qC
end L2
end
section
namespace J
open PySem PySem.Spec PyProof.Rows L2
section
variable{P:Program}{w:World}{K:Frag}{mg:Str->Option Value}{base:Heap}
theorem Jw{M:Model}{A:Around}{E:Value->Shared->Prop}{s:Shared}{env:Env}{st:Stmt}{Q:Flow->Shared->Prop}(h:wpAny M A (exec st env) Q E s):wpAny M A (execs [st] env) Q E s:=by
 refine wpAny_execs_cons (wpAny_mono h (fun fl s2 q=>?_) fun _ _ z=>z);cases fl with
 | next=>exact wpAny_execs_nil q
 | brk=>exact q
 | cont=>exact q
 | ret u=>exact q
end
end J
end
section
namespace J
open PySem PySem.Spec PyProof.Rows L2 PySem.W
section
variable{P:Program}{w:World}{K:Frag}{mg:Str->Option Value}{base:Heap}
end
section
variable{X:Cx}{scope:Scope}{pins:List (Addr×Obj)}{U:L2.St}{H H2:Hp}{s:Shared}{Z:Ro}{O:Addr->Prop}{fp:Nat->List Addr}
end
end J
end
section
namespace L2
open PySem PySem.Spec PyProof.Rows
section
variable{X:Cx}
theorem O6{i:Nat}{y:Str}{py spos:Pos}{own:List Str}{scope:Scope}{target iter elt:Expr}{ifs:List Expr}{pos:Pos}{wi:TI}{un:TU}{tc:TT}{te:TE}(nd:X.N.Nodup)(hiN:X.N[i]? = some y)(hy:X.env.scope.names.lookup y=some .local)(hc:Mkd X)(hok:Ct own X.N scope X.env.scope=true)(hi:PIM X target iter wi)(hg:∀C s H fp pins,PGo (cxC X own scope C s H fp pins) target own.length un)(ht:∀C s H fp pins,PTs (cxC X own scope C s H fp pins) ifs tc)(he:∀C s H fp pins,PE (cxC X own scope C s H fp pins) elt te)(hs:∀x,foldedSetIterable iter X.env x=pure x:=by intro _; rfl)(hsw:swapsWith (.ListComp elt [⟨target,iter,ifs,0⟩] scope pos) (some (.Name y py)) spos.line X.env=pure true:=by rfl):
  PS X (.Assign [.Name y py] (.ListComp elt [⟨target,iter,ifs,0⟩] scope pos) spos) (Rm (tLc wi un tc te) (HV i)):=by
 intro pins s U H D I h;rw[exec_Assign_Name_used _ _ _ _ hsw];refine wpAny_bind (wpAny_standAt (wpAny_bind ?_));show wpAny _ X.A (do let _ <- comprehension (.ListComp elt [⟨target,iter,ifs,0⟩] scope pos) scope X.env _ (newList []) false (eval iter X.env) (some (assign (.Name y py) X.env))) _ _ s;refine wpAny_bind (wpAny_mono (wpAny_comprehension_free (use:=some (assign (.Name y py) X.env)) (Q:=fun _ s'=>SP X pins D .next s') rfl hs (Mv (Ct.free hok I)) (Ct.kind hok) (Ct.names hok) ?_) (fun _ s' hq=>wpAny_pure (wpAny_pure hq)) fun _ _ e=>e);refine thn (hi pins s U H _ I h) fun v s1 h1=>thn h1 fun itv s2 h2=>?_;obtain⟨it,fp,tn,J,H2,e,I2,T,st2,f2,q⟩:=h2;subst e;obtain⟨W,w0,turn⟩:=q s2.heap.objs.size I2.fresh;refine wpAny_newObj_type (hd:=by size_fits) ?_;have I3:Inv X pins U (upd H2 s2.heap.objs.size (.lst [])) { s2 with heap:=s2.heap.push { cls:=.type "list",data:=.seq ([]:List Value).toArray } }:=I2.lnew (its:=[]) (t':=s2.toks) .nil (zero_le _);have st3:tn 0 (s2.heap.push { cls:=.type "list",data:=.seq ([]:List Value).toArray }):=T.keep _ _ _ st2 fun b _ o e=>Heap.get?_push_of_some _ e;have f3:∀b∈fp,D9 X pins (upd H2 s2.heap.objs.size (.lst [])) b:=fun b hb=>by
  obtain⟨o,e,_⟩:=T.obj _ _ st2 b hb;exact⟨by rw[Au (ne_of_lt (lt_size e))]; exact(f2 b hb).1,(f2 b hb).2⟩
 generalize hS:({ s2 with heap:=s2.heap.push { cls:=.type "list",data:=.seq ([]:List Value).toArray } }:Shared)=s3 at I3 st3;have st3':tn 0 s3.heap:=by rw[<- hS]; exact st3
 refine thn (Ni (iter:=iter) (pos:=pos) (acc:=s2.heap.objs.size) (Q:=fun x H1=>HV i x U H1 D.nx) (R:=compPost (model X.prog X.w) X.A X.xe (some (assign (.Name y py) X.env)) (fun _ s'=>SP X pins D .next s') (.ref s2.heap.objs.size) s3.heap.objs.size) hc hok hg ht he I3 T st3' f3 W w0 turn fun s' σ' H' J' q'=>?_) fun cenv s4 ⟨el,h4⟩=>?_
 .have I4:Inv X pins U H' s':=Fc I3 f3 J' (h':=s'.heap) (.refl ..)
  obtain⟨m,⟨oC,es,ep,hoC,hdC,hrC⟩,_⟩:=J'.loc;have hCL:s3.heap.objs.size≠X.env.locals:=ne_of_gt I3.lt;have hfs:s3.heap.objs.size∉X.fs:=I3.nofs (le_refl _);have hCc:∀x c,X.env.cells.lookup x=some c->c≠s3.heap.objs.size:=fun x c e=>by
   obtain⟨v,z⟩:=I3.cell x c e;exact ne_of_lt z.lt
  have hCp:∀p∈X.pn++pins,p.1≠s3.heap.objs.size:=fun p hp=>ne_of_lt (lt_size (I3.pin p hp).1);have I5:Inv X (pins++[(s3.heap.objs.size,oC)]) U H' s':=I4.pins_of fun p hp=>(mem_append.mp hp).elim (fun z=>I4.pin p (mem_append_right _ z)) fun z=>by
   have z':p=(s3.heap.objs.size,oC):=by simpa using z
   subst z';exact⟨hoC,J'.free,hCL,hfs,fun v=>by rw[hdC]; intro z; cases z⟩
  show wpAny _ X.A (assign (.Name y py) X.env (.ref s2.heap.objs.size)) _ _ s';refine wpAny_assign_Name (ED I5 nd hiN (.inl hy) (v:=.ref s2.heap.objs.size) rfl (fun s6 I6=>?_) (.inr hy));have hp:=I6.pin (s3.heap.objs.size,oC) (mem_append_right _ (mem_append_right _ (by simp)));refine⟨m,⟨oC,es,ep,hp.1,hdC,hrC⟩,fun h' hs'=>?_⟩;exact⟨_,H',I6.unpinned.turned (h':=h') (t':=s6.toks) (it:=s3.heap.objs.size) (fun b o hb e=>(hs'.2 b hb).trans e) hp.2.1 hCL (.inr I3.sz) hCc hCp,q'⟩
 .rw[<- el] at h4
  exact h4
theorem Su{k:Nat}(hr:RoomM k X.A):OpR X (compareOp .NotEq) VJ:=by
 intro pins s U H x y v u Q I rx ry h;obtain⟨d,e,r1,r2,hs,q⟩:=h;exact EqBoolInt.of_rcne (LY I.hok r1 r2 rx ry hs (by have:=hr.units; lia)) ⟨.bl _,H,I,rfl,q⟩
end
end L2
namespace J
open PySem PySem.Spec PyProof.Rows L2
section
variable{X:Cx}{a b c e:Expr}{m:ME}{mt:MT}{mi:MI}{p pos apos cpos q:Pos}{x:Str}{K:Frag}
theorem OH(i:Nat){y:Str}{py spos:Pos}{scope:Scope}{iter elt:Expr}{ifs:List Expr}{px:Pos}(nd:X.N.Nodup)(hiN:X.N[i]? = some y)(hy:X.env.scope.names.lookup y=some .local)(hok:Ct [x] X.N scope X.env.scope=true)(hc:Mkd X)(hx:scope.names.lookup x=some .local)(hs:∀z,foldedSetIterable iter X.env z=pure z)(hsw:swapsWith (.ListComp elt [⟨.Name x px,iter,ifs,0⟩] scope pos) (some (.Name y py)) spos.line X.env=pure true)(hi:JIM X (.Name x px) iter mi)(ht:JTc X [x] scope ifs mt)(he:JEc X [x] scope elt m):
  JS X (.Assign [.Name y py] (.ListComp elt [⟨.Name x px,iter,ifs,0⟩] scope pos) spos) (Ay i (AI mi 0 mt m)):=by
 have hnx:x∉X.N:=fun hy=>by
  simp only[Ct,and_eq_true,all_eq_true] at hok;have:=hok.2 x (by simp);simp[hy] at this
 exact Cv (O6 (un:=Pp) (te:=tE X.K m) nd hiN hy hc hok hi (fun C s H fp pins=>LX rfl (nodup_cons.mpr ⟨hnx,nd⟩) (lookup_relabel_local hx)) ht (fun C s H fp pins=>he C s H fp pins) hs hsw) fun _ _ _ h=>HC (Ru h)
noncomputable def upA:List A->Option A:=on1 fun q1=>(Bo q1).bind fun z=>if (Txt.upper z).length<=16 then some (.fz (.str (Txt.upper z))) else none
noncomputable def K2:List Str:=["NoHouse","NoRow","NoMachine","NoRoom","NoHand","Unlike","NoPast","TooMany","Torn","NoTable","NoSet","Falls","Whole","NoText","NoWord"]
structure XW (K:Frag) (mg:Str->Option Value) (C:Addr) (wd:Str):Prop where
 cls:ExcCls K C
 cd:(PySem.W.clsIn K C).isSome=true
 own:∀y∈K2,∃a,mg y=some (.ref a)/\PySem.W.kitOne K (.ref C) (.ref a)=some (y==wd)
 ve:mg "ValueError" = none/\PySem.W.kitOne K (.ref C) (.type "ValueError")=some true
theorem CS{y wd:Str}{C:Addr}(bb:Bool)(W:XW X.K X.mg C wd)(hy:y∈K2)(hb:(y==wd)=bb)(hdb:(y==("__debug__" : Str))=false)(hgy:Gl X y)(hg:Gl X "isinstance")(B:Blt X.mg X.K)(he:starEach [a,.Name y q] X.env=[(false,eval a X.env),(false,eval (.Name y q) X.env)])(he2:starEach [.Name y q] X.env=[(false,eval (.Name y q) X.env)])(ha:JE X a m):
  JE X (.Call (.Name "isinstance" p) [a,.Name y q] [] pos) (opM (Bs C bb) (m1L m)):=by
 obtain⟨cd,hcd⟩:=isSome_iff_exists.mp W.cd;obtain⟨ay,h1,h2⟩:=W.own y hy;rw[hb] at h2;exact Qg (c:=.ref ay) W.cls hcd h2 (fun u r=>r) (N1 hgy h1 rfl hdb) hg B he he2 ha
theorem UH{wd:Str}{C:Addr}(W:XW X.K X.mg C wd)(hgy:Gl X "ValueError")(hg:Gl X "isinstance")(B:Blt X.mg X.K)(he:starEach [a,.Name "ValueError" q] X.env=[(false,eval a X.env),(false,eval (.Name "ValueError" q) X.env)])(he2:starEach [.Name "ValueError" q] X.env=[(false,eval (.Name "ValueError" q) X.env)])(ha:JE X a m):
  JE X (.Call (.Name "isinstance" p) [a,.Name "ValueError" q] [] pos) (opM (Bs C true) (m1L m)):=by
 obtain⟨cd,hcd⟩:=isSome_iff_exists.mp W.cd;exact Qg (c:=.ty "ValueError") W.cls hcd W.ve.2 (fun u r=>r) (FA hgy W.ve.1 dK rfl dK dK) hg B he he2 ha
end
end J
end
section
namespace J
open PySem PySem.Spec PyProof.Rows L2 PySem.W
noncomputable def Mt(Φ:Fn)(Ψ:FnR):Fn:=fun as=>if B0 as then (match Ψ as with
 | some x=>some (.fz (.str x),as.map (·.2))
 | none=>(Φ as).map fun q=>(q.1,as.map (·.2))) else none
theorem Vz{as:List (Own×A)}(h:B0 as=true)(l:as.length=3):∃d0 d1 d2,as=[(.own,.fz d0),(.own,.fz d1),(.own,.fz d2)]:=by
 match as,l with
 | [(s0,a0),(s1,a1),(s2,a2)],_ =>
  cases s0<;>cases a0<;>simp[B0] at h;cases s1<;>cases a1<;>simp[B0] at h;cases s2<;>cases a2<;>simp[B0] at h;exact⟨_,_,_,rfl⟩
noncomputable abbrev Py:MA:=Ab (Aa 0) (Ab (Aa 1) (Ab (Aa 2) Ad))
theorem Pz{Φ:Fn}{d0 d1 d2:D}{a:A}{as':List A}(h : Φ [(.own,.fz d0),(.own,.fz d1),(.own,.fz d2)]=some (a,as')):
  fnM 3 4 (retS (Af Φ Py)) [(.own,.fz d0),(.own,.fz d1),(.own,.fz d2)]=some (a,[.fz d0,.fz d1,.fz d2]):=by
 have hb:∀Z:Ro,back [.val (.fz d0),.val (.fz d1),.val (.fz d2)] as' Z=Z:=fun Z=>by
  match as' with
  | []=>rfl
  | [_]=>rfl
  | [_,_]=>rfl
  | _::_::_::_=>rfl
 simp[fnM,retS,Af,Ab,Aa,Ad,Ce,DN,refs,h,move,hb,G6]
section
variable{P:Program}{w:World}{K:Frag}{mg:Str->Option Value}{base:Heap}
theorem OI{X:Cx}{body:List Stmt}{h0:ExceptHandler}{hs:List ExceptHandler}{pos:Pos}{m:MS}(hb:JSs X.nox body m):JS X (.Try body (h0::hs) [] [] pos) m:=O7 hb
theorem QD{k kw kg:Nat}{f HE:Addr}{fd:FuncData}{st:Stmt}{x g n0 n1 n2 n:Str}{Φ Φw:Fn}{Ψ:FnR}{XC:Str->Addr}{gs:List Str}{p1 p2 p3 p4 p5 p6 p7 p8 p9 p10 p11 p12 p13:Pos}(F:Fun K x x st f fd)(S:FnScope [n0,n1,n2,n] [n0,n1,n2] (As st))(hbody:BV st=[.Try [.Return (some (.Call (.Name g p1) [.Name n0 p2,.Name n1 p3,.Name n2 p4] [] p5)) p6]
   [.ExceptHandler (some (.Name "HandError" p7)) (some n) [.Return (some (.Call (.Name "_law_word" p8) [.Name n p9] [] p10)) p11] p12] [] [] p13])(hs0:(As st).names.lookup n0=some .local)(hs1:(As st).names.lookup n1=some .local)(hs2:(As st).names.lookup n2=some .local)(hsn:(As st).names.lookup n=some .local)(hsH:(As st).names.lookup ("HandError" : Str)=some .globalImplicit)(hsw:(As st).names.lookup ("_law_word" : Str)=some .globalImplicit)(hsg:(As st).names.lookup g=some .globalImplicit)(hd0:(n0==("__debug__" : Str))=false)(hd1:(n1==("__debug__" : Str))=false)(hd2:(n2==("__debug__" : Str))=false)(hdn:(n==("__debug__" : Str))=false)(hc0:(n0==("__classdict__" : Str))=false)(hc1:(n1==("__classdict__" : Str))=false)(hc2:(n2==("__classdict__" : Str))=false)(hcn:(n==("__classdict__" : Str))=false)(hdg:(g==("__debug__" : Str))=false)(hHE:mg "HandError" = some (.ref HE))(D1:Def P w K mg base CX0 kg g gs (spJ K Φ 3))(h1:∀args y,Φ args=some y->args.length=3)(D2:Def P w K mg base (Fly P w) kg g gs (spR K XC Ψ 3))(h2:∀args y,Ψ args=some y->args.length=3)(W:DefM P w K mg base CX0 kw "_law_word" ["_law_e"] (spJ K Φw 1))(hw1:∀args y,Φw args=some y->args.length=1)(hΨ:∀args z,Ψ args=some z->Above base (XC z) HE/\z.length<=sizeLine/\∀a o,o.cls=.ref (XC z) -> Φw [(.lent,.opq a o)]=some (.fz (.str z),[.opq a o]))(hkw:kw<=k)(hkg:kg<=k):
  FnOk P w K mg base CX0 (k+1) f fd [n0,n1,n2] (spJ K (Mt Φ Ψ) 3):=by
 have F1:FnOk P w K mg base CX0 (k+1) f fd [n0,n1,n2] (spJ K (fnM 3 4 (retS (Af Φ Py))) 3):=by
  refine Bt F S fun cdv A outer s H E hr=>?_;rw[hbody];refine Ak (OI (Ak (AE (Aq (E:=E0) D1 h1 rfl rfl rfl rfl rfl hr hkg (fun _ _ _ _ _ _ _ z=>z.elim) hdg hsg rfl rfl ?_))));exact Ac rfl (Ff 0 rfl (.inl hs0) hd0 hc0) (Ac rfl (Ff 1 rfl (.inl hs1) hd1 hc1) (Ac rfl (Ff 2 rfl (.inl hs2) hd2 hc2) Ag))
 refine⟨fun vs H Q E h=>?_,fun A outer s H args us vs Q E hr e0 hb r h=>?_⟩
 .obtain⟨_,_,_,h,_⟩:=h
  exact h
 obtain⟨as,O,fp,hl,rl,a,as',ha,kont⟩:=h;unfold Mt at ha;split at ha
 .rename_i hp
  have la:as.length=3:=by
   have:=rl.len;simp only[length_map] at this;rw[this]; exact hl
  obtain⟨d0,d1,d2,rfl⟩:=Vz hp la;split at ha
  .rename_i z hz
   cases ha;obtain⟨hab,hzl,hword⟩:=hΨ _ _ hz;have fpn:∀i,fp i=[]:=fun i=>by
    match i with
    | 0=>obtain⟨v,_,q⟩:=rl.slot 0 _ _ rfl; rw[AA] at q; exact q.1
    | 1=>obtain⟨v,_,q⟩:=rl.slot 1 _ _ rfl; rw[AA] at q; exact q.1
    | 2=>obtain⟨v,_,q⟩:=rl.slot 2 _ _ rfl; rw[AA] at q; exact q.1
    | i+3=>exact rl.out _ fun st a e=>by simp at e
   have fin:∀H',DL H H'->∀v,AA K (fun _=>False) H' v (.fz (.str z)) []->Q v H':=fun H' sm v q=>by
    refine kont v H' ⟨[],fun _=>[],⟨⟨by simp[Ea,hl],fun i st a e=>?_,fun _ _=>rfl,fun _=>nodup_nil,fun i j p h=>by simp at h,fun i p h=>by simp at h,fun p h=>?_⟩,nodup_nil,fun p h=>by simp at h,fun p h=>?_,fun b o e _=>sm b o e,rfl,fun j st a e n=>?_⟩,?_⟩
    .match i,e with
     | 0,e=>simp[Ea] at e
     | 1,e=>simp[Ea] at e
     | 2,e=>simp[Ea] at e
     | i+3,e=>simp[Ea] at e
    .have hO:O p:=by
      rcases h with ⟨i,h⟩|h|h
      .simp at h
      .exact h
      .simp at h
     have:=rl.al p (.inr hO);cases q:H p with
     | none=>exact absurd q this
     | some o=>rw[sm p o q]; simp
    .rcases h with h|⟨i,h⟩<;>simp at h
    .match j,e with
     | 0,e=>cases e; exact absurd rfl n
     | 1,e=>cases e; exact absurd rfl n
     | 2,e=>cases e; exact absurd rfl n
     | j+3,e=>simp at e
    .rw[AA] at q |-
     obtain⟨_,q⟩:=q;cases q with
     | str _ _=>exact⟨rfl,.str z hzl⟩
   obtain⟨v0,v1,v2,rfl⟩:∃v0 v1 v2,vs=[v0,v1,v2]:=by
    match vs,hl with
    | [v0,v1,v2],_=>exact⟨_,_,_,rfl⟩
   obtain⟨oc,od,kV,doc,pm,an,cdv,ct,osl,rfl,lk,hcd⟩:=F.ex;refine Ut (E:=E) lk hcd S hr e0 (us:=us) hb r rfl fun s1 hr1 I kp=>?_;rw[hbody];refine Jw ?_;have I:Inv (Bx CX0 P w K mg base [n0,n1,n2,n] x (As st) f cdv A outer s H E) [] [some v0,some v1,some v2,none] H s1:=I;refine Oe (X:=(Bx CX0 P w K mg base [n0,n1,n2,n] x (As st) f cdv A outer s H E)) (U:=[some v0,some v1,some v2,none]) (H:=H) ?_;refine Jw (wpAny_Return_some ?_);obtain⟨gf,gd,gm,gk,gb,gr⟩:=D2.ex;refine wpAny_Call_Name_kw (GA (X:=(Bx CX0 P w K mg base [n0,n1,n2,n] x (As st) f cdv A outer s H E)) I hsg gm ?_ hdg);have eR:NJ Ψ Py [some (.own,.fz d0),some (.own,.fz d1),some (.own,.fz d2),none]=some z:=by
    simp[NJ,Ab,Aa,Ad,Ce,DN,B0,hz]
   have q:tA K Py [some v0,some v1,some v2,none] H fun vs H1=>spR K XC Ψ 3 (vs++[]) H1 (fun _ _=>False) (fun c _ H'=>c=.ref (XC z)/\DL H H'):=
    Tu (K:=K) (XC:=XC) (E:=fun c _ H'=>c=.ref (XC z)/\DL H H') (D:={ nx:=fun _ _=>False,rt:=fun _ _=>False }) (U:=[some v0,some v1,some v2,none]) (H:=H) rfl h2
     ⟨_,O,fp,rl.start 1,z,eR,fun H' kk=>⟨rfl,fun b o e=>kk b o e (.inl fun⟨i,y⟩=>by rw[fpn i] at y; simp at y)⟩⟩
   have ha3:JA (Bx CX0 P w K mg base [n0,n1,n2,n] x (As st) f cdv A outer s H E).nox [.Name n0 p2,.Name n1 p3,.Name n2 p4] Py:=Ac rfl (Ff 0 rfl (.inl hs0) hd0 hc0) (Ac rfl (Ff 1 rfl (.inl hs1) hd1 hc1) (Ac rfl (Ff 2 rfl (.inl hs2) hd2 hc2) Ag));refine callWith_K (h₀:=base) I.ok.mod.kin gk (wpAny_mono (ha3 p5 [] s1 _ H _ (I.wish _) q) (fun us1 s2 y=>?_) fun _ _ y=>False.elim y) rfl rfl;obtain⟨vs1,H1,I1,r1,q1⟩:=y;have I1:Inv (Bx CX0 P w K mg base [n0,n1,n2,n] x (As st) f cdv A outer s H E) [] [some v0,some v1,some v2,none] H1 s2:=I1.unwish;refine⟨I1.kIn,?_⟩;have r2:Vals (vs1++[]) (us1++[]):=r1.append .nil;refine wpAny_call (codeAny_mono (gr.run _ _ s2 H1 ⟨us1,[]⟩ (us1++[]) (vs1++[]) _ _ (hr1.mono hkg) I1.env0 (gb s2 us1 I1.kIn (by rw[<- r2.length]; exact gr.len _ _ _ _ q1)) r2 q1) fun rr s3 hq=>?_);cases rr with
   | ok fl =>
    cases fl with
    | ret u=>obtain⟨_,_,_,_,_,_,_,y⟩:=hq; exact y.elim
    | next=>exact False.elim hq
    | brk=>exact False.elim hq
    | cont=>exact False.elim hq
   | error ex =>
    refine Jh (X:=(Bx CX0 P w K mg base [n0,n1,n2,n] x (As st) f cdv A outer s H E)) (E:=fun c _ H'=>c=.ref (XC z)/\DL H H') rfl rfl rfl rfl rfl (fun U H1 H2 s3 s4 a C' a0 B I3 F3 I4 he=>?_) _ H1 _ _ _ I1 hq;obtain⟨hc,sm⟩:=he;obtain rfl:C'=XC z:=Value.ref.inj hc;have fresh3:s3.heap.get? a=none:=F3.fresh I3.env0;have fresh0:s.heap.get? a=none:=by
     cases q:s.heap.get? a with
     | none=>rfl
     | some o =>
      obtain⟨o',z⟩:=I3.base.there a o q (fun z=>absurd (show a∈([]:List Addr) from z) (by simp));rw[fresh3] at z; cases z
    refine MF (X:=(Bx CX0 P w K mg base [n0,n1,n2,n] x (As st) f cdv A outer s H E)) (i:=3) (HE:=HE) S.nd rfl hsn hsn hsH hHE (by decide) hab I3 F3 F3.untracked ?_;intro oe vs s5 hcls hd hv2 I5;have I6:=I5.mk2 AN fresh0 (e0.hok.none fresh0);have hlσ : U.length=4:=I3.len;obtain⟨x0,x1,x2,x3,rfl⟩:∃x0 x1 x2 x3,U=[x0,x1,x2,x3]:=by
     match U,hlσ with
     | [x0,x1,x2,x3],_=>exact⟨_,_,_,_,rfl⟩
    have je:JE ((Bx CX0 P w K mg base [n0,n1,n2,n] x (As st) f cdv A outer s H E).mk2 a oe) (.Call (.Name "_law_word" p8) [.Name n p9] [] p10) (Af Φw (Ab (Aa 3) Ad)):=
     Qd (X:=(Bx CX0 P w K mg base [n0,n1,n2,n] x (As st) f cdv A outer s H E).mk2 a oe) (E:=E0) W hw1 rfl rfl rfl rfl rfl (hr1.marked _) hkw (XD hd hv2) (fun _ _ _ _ _ _ _ z=>False.elim z) (by decide) hsw rfl rfl (Ac rfl (Ff 3 rfl (.inl hsn) hdn hcn) Ag)
    have em:Af Φw (Ab (Aa 3) Ad) [none,none,none,some (.own,.opq a oe)]=some (.val (.fz (.str z)),[none,none,none,some (.own,.opq a oe)]):=by
     simp[Af,Ab,Aa,Ad,Ce,DN,refs,hword a oe hcls,back,KP]
    have cl:=je [] s5 _ _ (fun v H'=>DL H H'/\Rep H' v (.str z)) I6 ?_
    .refine wpAny_mono cl (fun u s6 q=>?_) fun _ _ z=>z
     obtain⟨v,H6,I7,r7,q7⟩:=q;exact⟨v,_,H6,I7.un2 I3.ok fresh0 (e0.hok.none fresh0),r7,fin H6 q7.1 v (by rw[AA]; exact⟨rfl,q7.2⟩)⟩
    .refine⟨[none,none,none,some (.own,.opq a oe)],fun _=>False,fun _=>[],⟨rfl,fun i st' a' e=>?_,fun _ _=>rfl,fun _=>nodup_nil,fun i j p z=>by simp at z,fun i p z=>by simp at z,fun p z=>?_⟩,_,_,em,fun v H' q=>?_⟩
     .match i,e with
      | 3,e =>
       cases e;refine⟨.ref a,rfl,?_⟩;rw[AA];exact⟨rfl,rfl,_,AN⟩
     .rcases z with ⟨i,z⟩|z
      .simp at z
      .exact z.elim
     .obtain⟨L,fp',p,rr⟩:=q
      simp only[RR] at rr;rw[AA] at rr;refine⟨fun b o e=>p.kept b o ?_ (.inl fun⟨i,z⟩=>by simp at z),EZ (fun _ z=>z.elim) rr.2⟩;have ne:b≠a:=fun z=>by
       rw[z,e0.hok.none fresh0] at e; cases e
      rw[Au ne];exact sm b o e
  .rename_i hz
   simp only[map_eq_some_iff] at ha;obtain⟨⟨b,bs⟩,e1,e2⟩:=ha;cases e2;exact F1.run A outer s H args us vs Q E hr e0 hb r ⟨_,O,fp,hl,rl,_,_,Pz e1,kont⟩
 .cases ha
end
noncomputable def D6(x:Str)(n:Nat):Str:=⟨(List.replicate n x.cps).foldl (· ++ ·) #[]⟩
theorem PV(x:Array Nat):∀(n:Nat) (a:Array Nat),((List.replicate n x).foldl (· ++ ·) a).toList=a.toList++(List.replicate n x.toList).flatten:=by
 intro n;induction n with
 | zero=>intro a; simp
 | succ n ih=>intro a; rw[replicate_succ,foldl_cons,ih]; simp[replicate_succ]
theorem Hb(x:Str)(n:Nat):(D6 x n).cps.toList=(List.replicate n x.cps.toList).flatten:=by
 unfold D6;exact(PV x.cps n #[]).trans (by simp)
theorem LZ(x:Str)(n:Nat):(D6 x n).length=n*x.length:=by
 have h:(D6 x n).length=(D6 x n).cps.toList.length:=by simp[Str.length]
 rw[h,Hb];simp[Str.length]
theorem Q3(x:Str):D6 x 1=x:=by
 obtain⟨c⟩:=x;simp[D6]
theorem Q2{x:Str}(h:x.length=0)(n:Nat):D6 x n=x:=by
 obtain⟨⟨c⟩⟩:=x;have:c=[]:=List.eq_nil_of_length_eq_zero (by simpa[Str.length] using h);subst this;have e:=Hb ⟨#[]⟩ n;have:(D6 ⟨#[]⟩ n).cps.toList=[]:=by rw[e]; simp
 generalize D6 ⟨#[]⟩ n=y at this;obtain⟨⟨d⟩⟩:=y;simp at this;subst this;rfl
theorem Kz{X:Cx}:OpR X (binaryOp .Mult) (fun x y H Q=>∃z i,x=.str z/\y=.int i/\(z.length<=1000/\0<=i/\i<=1000)/\Q (.str (D6 z i.toNat)) H):=by
 intro pins s U H x y v u Q I rx ry h;obtain⟨z,i,rfl,rfl,⟨h1,h2,h3⟩,q⟩:=h;obtain⟨t,rfl⟩:=rx;obtain⟨t',rfl⟩:=ry;have hz:z.length*i.toNat<=1000000:=le_trans (mul_le_mul h1 (show i.toNat<=1000 by omega)) (by decide);have hlim:1000000<=sizeLine:=by decide
 refine P.mul_str (by rw[decide_eq_false (by omega),decide_eq_false (by omega)]; rfl) (fun a b=>?_) (fun a b=>?_) ?_
 .have:1000<=(2 ^ 63-1:Int) / i:=Int.le_ediv_of_mul_le (by omega) (by omega)
  omega
 .unfold Builtin.Str.tooLong
  exact decide_eq_false (by omega)
 .split
  .rename_i hi
   have:i.toNat=0:=by omega
   rw[this] at q;exact⟨by decide,⟨.str (D6 z 0),H,I.tok _,⟨_,rfl⟩,q⟩⟩
  .split
   .rename_i hc
    have:D6 z i.toNat=z:=by
     simp only[or_eq_true,beq_iff_eq] at hc;rcases hc with hc|hc
     .rw[hc]; exact Q3 z
     .exact Q2 hc _
    rw[this] at q;exact⟨.str z,H,I,⟨_,rfl⟩,q⟩
   .exact⟨by rw[show(⟨(List.replicate i.toNat z.cps).foldl (· ++ ·) #[]⟩:Str)=D6 z i.toNat from rfl,LZ,Nat.mul_comm]; omega,⟨.str (D6 z i.toNat),H,I.tok _,⟨_,rfl⟩,q⟩⟩
section
variable{K:Frag}
noncomputable def Jj:List A->Option A:=on2 fun q1 q2=>(Bo q1).bind fun x=>(A6 q2).bind fun i=>if x.length<=1000/\0<=i/\i<=1000 then some (.fz (.str (D6 x i.toNat))) else none
theorem M7:OpN K Jj (r2L fun x y H Q=>∃z i,x=.str z/\y=.int i/\(z.length<=1000/\0<=i/\i<=1000)/\Q (.str (D6 z i.toNat)) H):=by
 intro N H xs as b Q hs e k
 replace e:=BZ e
 obtain⟨q1,q2,rfl,e⟩:=e;simp only[bind_eq_some_iff] at e;obtain⟨z,eq1,i,eq2,e⟩:=e;cases Cw eq1;cases A7 eq2;split at e
 .rename_i hc
  cases e;obtain⟨x,y,L1,L2,rfl,h1,h2⟩:=Bl hs;obtain⟨rfl,_⟩:=CG h1;cases Bq h2;have hlim:1000000<=sizeLine:=by decide
  have hz:i.toNat*z.length<=1000000:=le_trans (mul_le_mul (show i.toNat<=1000 by omega) hc.1) (by decide);exact⟨_,_,rfl,z,i,rfl,rfl,hc,k _ _ (GH (by rw[LZ]; omega))⟩
 .cases e
end
section
variable{X:Cx}{K:Frag}{a b:Expr}{m1 m2:ME}{p2 pos:Pos}{N:Addr->Prop}{H:Hp}
noncomputable def LC:List A->Option A:=on2 fun x q2=>(A6 q2).bind fun j=>(Cq x).map fun ds=>.lst ((cutD ds (some j) none).map A.fz)
theorem Qh(ha:JE X a m1)(hb:JE X b m2):JE X (.Subscript a (.Slice (some b) none none p2) pos) (opM LC (m2L m1 m2)):=by
 refine AM (IB Tf ha (KC hb) KA) fun U H Q h=>?_;have ok:OpN X.K LC (r2L fun x y H Q=>∃j,y=.int j/\W5 X.K x (some j) none H Q):=by
  intro N H xs as b Q hs e k
  replace e:=BZ e
  obtain⟨x,q2,rfl,e⟩:=e
  replace e:=bind_eq_some_iff.mp e
  obtain⟨j,eq2,e⟩:=e;cases A7 eq2;clear eq2;simp only[map_eq_some_iff] at e;obtain⟨ds,e1,rfl⟩:=e;obtain⟨x,y,L1,L2,rfl,h1,h2⟩:=Bl hs;cases Bq h2;obtain⟨p,vs,rfl,hp,hz,q⟩:=CT h1 e1;refine⟨_,_,rfl,j,rfl,p,vs,rfl,.inl (.inl hp),fun l hl=>k _ _ (Hy hl ?_ (S0 q))⟩;exact le_trans (Hd _ _ _) hz
 exact tE.mono (two ok h) fun x H1 h1=>tE.mono h1 fun y H2 ⟨j,e,q⟩=>⟨j,e,q⟩
theorem K5{n:Nat}{Φ:Fn}{Ψ:FnR}(h1:∀args y,Φ args=some y->args.length=n)(h2:∀args y,Ψ args=some y->args.length=n):∀args y,Mt Φ Ψ args=some y->args.length=n:=by
 intro args y e;unfold Mt at e;split at e
 .split at e
  .rename_i hz; exact h2 _ _ hz
  .simp only[map_eq_some_iff] at e
   obtain⟨q,e1,_⟩:=e;exact h1 _ _ e1
 .cases e
theorem Le(d:D)(ds:List D):cutD (d::ds) (some 1) none=ds:=by
 have:HT.sIx (d::ds).length 0 (some 1)=1:=by simp[HT.sIx]
 unfold cutD;rw[this];simp[HT.sIx]
end
end J
end
section
namespace St
noncomputable def hit(f:Nat->List Int)(bs:List Int)(c:Nat):Bool:=(f c).any fun x=>decide (x∈bs)
noncomputable def fs(f:Nat->List Int):List Int->List Nat->List Nat
 | _,[]=>[]
 | bs,c::w=>if hit f bs c then fs f (bs++f c) w else c::fs f (bs++f c) w
noncomputable def rs(f:Nat->List Int):List Int->List Nat->List Nat
 | _,[]=>[]
 | bs,c::w=>if hit f bs c then c::rs f (bs++f c) w else rs f (bs++f c) w
noncomputable def srt(cs:List Nat):List Nat:=cs.mergeSort fun a b=>decide (a<=b)
variable{f:Nat->List Int}
theorem Fv{bs:List Int}{c:Nat}:hit f bs c=true↔∃x∈f c,x∈bs:=by simp[hit]
noncomputable def seen(f:Nat->List Int)(x:Int)(w:List Nat):List Nat:=w.filter fun c=>decide (x∈f c)
theorem JL(x:Int)(c:Nat)(w:List Nat):seen f x (c::w)=if x∈f c then c::seen f x w else seen f x w:=by
 simp[seen,filter_cons]
theorem Mc(x:Int)(u w:List Nat):seen f x (u++w)=seen f x u++seen f x w:=by simp[seen]
theorem Rk(cs:List Nat):(srt cs).Perm cs:=List.mergeSort_perm cs _
theorem VV(cs:List Nat):(srt cs).Pairwise (· <= ·):=by
 have:=List.pairwise_mergeSort (le:=fun a b:Nat=>decide (a<=b)) (fun a b c h1 h2=>by simp at h1 h2 |-; lia) (fun a b=>by simp; lia) cs;exact this.imp fun h=>by simpa using h
theorem PZ{c:Nat}{w:List Nat}:fs f [] (c::w)=c::fs f (f c) w/\rs f [] (c::w)=rs f (f c) w:=by
 have:hit f [] c=false:=by simp[hit]
 simp[fs,rs,this]
noncomputable def Cm(f:Nat->List Int)(a b:Nat):Prop:=∃x∈f a,x∈f b
theorem Cm.symm{a b:Nat}(h:Cm f a b):Cm f b a:=let⟨x,h1,h2⟩:=h; ⟨x,h2,h1⟩
theorem Ux:∀(w:List Nat) (bs:List Int),∀c∈fs f bs w,c∈w:=by
 intro w;induction w with
 | nil=>intro bs c h; simp[fs] at h
 | cons d w ih =>
  intro bs c h;simp only[fs] at h;split at h
  .exact mem_cons_of_mem _ (ih _ c h)
  .rcases mem_cons.mp h with rfl|h
   .exact mem_cons_self
   .exact mem_cons_of_mem _ (ih _ c h)
inductive Sw (f:Nat->List Int):List Nat->List Nat->Prop where
 | refl (w:List Nat):Sw f w w
 | swap (a b:Nat) (v:List Nat) (h:¬Cm f a b):Sw f (a::b::v) (b::a::v)
 | cons (c:Nat) {w w':List Nat} (h:Sw f w w'):Sw f (c::w) (c::w')
theorem VW{w w':List Nat}(h:Sw f w w'):w.length=w'.length:=by
 induction h with
 | refl w=>rfl
 | swap a b v h=>rfl
 | cons c h ih=>simp[ih]
theorem VX{w w':List Nat}(h:Sw f w w'):∀c,c∈w↔c∈w':=by
 induction h with
 | refl w=>exact fun _=>Iff.rfl
 | swap a b v h=>intro c; simp only[mem_cons]; exact or_left_comm
 | cons c h ih=>intro d; simp only[mem_cons,ih d]
noncomputable def pl(f:Nat->List Int):List Int->Nat->List Nat->List Nat
 | _,_,[]=>[]
 | bs,k,c::w=>if hit f bs c then pl f (bs++f c) (k+1) w else k::pl f (bs++f c) (k+1) w
theorem WX:∀(w:List Nat) (bs:List Int) (k:Nat),∀i∈pl f bs k w,k<=i:=by
 intro w;induction w with
 | nil=>intro bs k i h; simp[pl] at h
 | cons c w ih =>
  intro bs k i h;simp only[pl] at h;split at h
  .have:=ih _ _ i h; lia
  .rcases mem_cons.mp h with rfl|h
   .exact le_refl _
   .have:=ih _ _ i h; lia
theorem QN:∀(w:List Nat) (bs:List Int) (k:Nat),((List.range' k w.length).filter fun i=>decide (i∈pl f bs k w))=pl f bs k w/\(pl f bs k w).map (fun i=>w.getD (i-k) 0)=fs f bs w/\(((List.range' k w.length).filter fun i=>!decide (i∈pl f bs k w)).map fun i=>w.getD (i-k) 0)=rs f bs w:=by
 intro w;induction w with
 | nil=>intro bs k; simp[pl,fs,rs]
 | cons c w ih =>
  intro bs k;obtain⟨h1,h2,h3⟩:=ih (bs++f c) (k+1);have ge:=WX (f:=f) w (bs++f c) (k+1);have nk:k∉pl f (bs++f c) (k+1) w:=fun z=>by have:=ge k z; lia
  have r1:∀i∈List.range' (k+1) w.length,k+1<=i:=fun i hi=>by rw[List.mem_range'] at hi; obtain⟨j,_,rfl⟩:=hi; lia
  have sub:∀l:List Nat,(∀i∈l,k+1<=i)->l.map (fun i=>(c::w).getD (i-k) 0)=l.map fun i=>w.getD (i-(k+1)) 0:=fun l hl=>map_congr_left fun i hi=>by
   have:=hl i hi;rw[show i-k=(i-(k+1))+1 by lia,List.getD_cons_succ]
  simp only[pl,fs,rs,length_cons,List.range'_succ];by_cases hh:hit f bs c=true
  .simp only[if_pos hh]
   rw[List.filter_cons_of_neg (by simpa using nk),List.filter_cons_of_pos (by simpa using nk),h1];refine⟨rfl,?_,?_⟩
   .rw[sub _ ge]; exact h2
   .rw[map_cons,sub _ (fun i hi=>r1 i (mem_filter.mp hi).1),h3]; simp
  .simp only[if_neg hh]
   have e1:((List.range' (k+1) w.length).filter fun i=>decide (i∈k::pl f (bs++f c) (k+1) w))=(List.range' (k+1) w.length).filter fun i=>decide (i∈pl f (bs++f c) (k+1) w):=filter_congr fun i hi=>by
    have:=r1 i hi;have hik:i≠k:=by lia
    simp[hik]
   have e2:((List.range' (k+1) w.length).filter fun i=>!decide (i∈k::pl f (bs++f c) (k+1) w))=(List.range' (k+1) w.length).filter fun i=>!decide (i∈pl f (bs++f c) (k+1) w):=filter_congr fun i hi=>by
    have:=r1 i hi;have hik:i≠k:=by lia
    simp[hik]
   rw[List.filter_cons_of_pos (by simp),List.filter_cons_of_neg (by simp),e1,e2,h1];refine⟨rfl,?_,?_⟩
   .rw[map_cons,sub _ ge,h2]; simp
   .rw[sub _ (fun i hi=>r1 i (mem_filter.mp hi).1),h3]
theorem QX{α:Type}{R:α -> α -> Prop}(hs:∀a b,R a b->R b a):∀{l:List α},l.Pairwise R->∀a∈l,∀b∈l,a=b\/R a b:=by
 intro l;induction l with
 | nil=>intro _ a ha; simp at ha
 | cons x l ih =>
  intro h a ha b hb;obtain⟨h1,h2⟩:=pairwise_cons.mp h;rcases mem_cons.mp ha with e1|ha'
  .rcases mem_cons.mp hb with e2|hb'
   .exact .inl (e1.trans e2.symm)
   .exact .inr (e1 ▸ h1 b hb')
  .rcases mem_cons.mp hb with e2|hb'
   .exact .inr (e2 ▸ hs _ _ (h1 a ha'))
   .exact ih h2 a ha' b hb'
end St
end
section
namespace St
variable{f:Nat->List Int}
noncomputable def lst(cs:List Nat):Nat:=(srt cs).headD 0
noncomputable def lr(f:Nat->List Int):Nat->List Nat->List Nat
 | 0,_=>[]
 | n+1,w=>if w.isEmpty then [] else lst (fs f [] w)::lr f n (w.erase (lst (fs f [] w)))
theorem Kl{xs:List Nat}(h:xs≠[]):lst xs∈xs/\∀y∈xs,lst xs<=y:=by
 have p:=Rk xs;have hs:=VV xs;unfold lst;cases e:srt xs with
 | nil=>rw[e] at p; exact absurd p.symm.eq_nil h
 | cons a r =>
  rw[e] at p hs;refine⟨p.mem_iff.mp mem_cons_self,fun y hy=>?_⟩;rcases mem_cons.mp (p.mem_iff.mpr hy) with rfl|hr
  .exact le_refl _
  .exact(pairwise_cons.mp hs).1 y hr
theorem UT{xs:List Nat}{a:Nat}(h1:a∈xs)(h2:∀y∈xs,a<=y):lst xs=a:=by
 obtain⟨h3,h4⟩:=Kl (ne_nil_of_mem h1);exact Nat.le_antisymm (h4 a h1) (h2 _ h3)
inductive Swc (f:Nat->List Int):List Nat->List Nat->Prop where
 | refl (w:List Nat):Swc f w w
 | step {u v w:List Nat} (h:Sw f u v) (t:Swc f v w):Swc f u w
theorem Swc.trans{u v w:List Nat}(h:Swc f u v)(t:Swc f v w):Swc f u w:=by
 induction h with
 | refl u=>exact t
 | step h _ ih=>exact .step h (ih t)
theorem Swc.cons(c:Nat){u v:List Nat}(h:Swc f u v):Swc f (c::u) (c::v):=by
 induction h with
 | refl u=>exact .refl _
 | step h _ ih=>exact .step (.cons c h) ih
theorem Tp{u v:List Nat}(h:Swc f u v):u.length=v.length:=by
 induction h with
 | refl u=>rfl
 | step h _ ih=>rw[VW h,ih]
theorem Tq{u v:List Nat}(h:Swc f u v):∀c,c∈u↔c∈v:=by
 induction h with
 | refl u=>exact fun _=>Iff.rfl
 | step h _ ih=>exact fun c=>(VX h c).trans (ih c)
theorem To{u v:List Nat}(h:Sw f u v)(x:Int):seen f x u=seen f x v:=by
 induction h with
 | refl u=>rfl
 | swap a b v h =>
  simp only[JL];by_cases ha:x∈f a
  .have hb:x∉f b:=fun z=>h ⟨x,ha,z⟩
   simp only[ha,hb,if_true,if_false]
  .simp only[ha,if_false]
 | cons c h ih=>simp only[JL,ih]
theorem Rl{u v:List Nat}(h:Swc f u v)(x:Int):seen f x u=seen f x v:=by
 induction h with
 | refl u=>rfl
 | step h _ ih=>rw[To h,ih]
theorem Pl(a:Nat)(v:List Nat):∀(u:List Nat),(∀d∈u,¬Cm f d a)->Swc f (u++a::v) (a::(u++v)):=by
 intro u;induction u with
 | nil=>intro _; exact .refl _
 | cons d u ih =>
  intro h;have h2:=ih fun e he=>h e (mem_cons_of_mem _ he);exact(Swc.cons d h2).trans (.step (.swap d a _ (h d mem_cons_self)) (.refl _))
theorem P0:∀(w:List Nat) (bs:List Int),∀c∈fs f bs w,∃u v,w=u++c::v/\(∀d∈u,¬Cm f d c)/\hit f bs c=false:=by
 intro w;induction w with
 | nil=>intro bs c h; simp[fs] at h
 | cons d w ih =>
  intro bs c h;have key:c∈fs f (bs++f d) w->∃u v,d::w=u++c::v/\(∀d∈u,¬Cm f d c)/\hit f bs c=false:=fun h=>by
   obtain⟨u,v,e,h1,h2⟩:=ih _ c h;have nh:∀x∈f c,x∉bs/\x∉f d:=fun x hx=>by
    constructor
    .intro z
     have:hit f (bs++f d) c=true:=Fv.mpr ⟨x,hx,mem_append_left _ z⟩;rw[h2] at this; cases this
    .intro z
     have:hit f (bs++f d) c=true:=Fv.mpr ⟨x,hx,mem_append_right _ z⟩;rw[h2] at this; cases this
   refine⟨d::u,v,by rw[e]; rfl,fun g hg=>?_,?_⟩
   .rcases mem_cons.mp hg with rfl|hg
    .rintro ⟨x,hx,hx2⟩; exact(nh x hx2).2 hx
    .exact h1 g hg
   .rw[eq_false_iff,Ne,Fv]
    rintro ⟨x,hx,hx2⟩; exact(nh x hx).1 hx2
  simp only[fs] at h;split at h
  .exact key h
  .rename_i hn
   rcases mem_cons.mp h with rfl|h
   .exact⟨[],w,rfl,fun _ h=>by simp at h,by simpa using hn⟩
   .exact key h
theorem Hf{u v:List Nat}{c:Nat}(h:c∉u):(u++c::v).erase c=u++v:=by
 rw[List.erase_append_right _ h,List.erase_cons_head]
theorem TM{c:Nat}{w:List Nat}:fs f [] (c::w)≠[]:=by rw[PZ.1]; simp
theorem Ox{w:List Nat}{c:Nat}(hw:∀d∈w,f d≠[])(h:c∈fs f [] w):∃u v,w=u++c::v/\(∀d∈u,¬Cm f d c)/\c∉u:=by
 obtain⟨u,v,e,h1,_⟩:=P0 w [] c h;refine⟨u,v,e,h1,fun z=>?_⟩;obtain⟨x,r,hx⟩:=exists_cons_of_ne_nil (hw c (by rw[e]; simp));exact h1 c z ⟨x,by rw[hx]; simp,by rw[hx]; simp⟩
theorem IT:∀(n:Nat) (w:List Nat),w.length<=n->(∀d∈w,f d≠[])->Swc f w (lr f n w):=by
 intro n;induction n with
 | zero =>
  intro w h _;have:w=[]:=List.length_eq_zero_iff.mp (by lia);subst this; exact .refl _
 | succ n ih =>
  intro w h hw;cases w with
  | nil=>exact .refl _
  | cons c w =>
   obtain⟨hm,_⟩:=Kl (TM (f:=f) (c:=c) (w:=w));obtain⟨u,v,e,h1,h2⟩:=Ox hw hm;have ee:(c::w).erase (lst (fs f [] (c::w)))=u++v:=(congrArg (fun z=>List.erase z (lst (fs f [] (c::w)))) e).trans (Hf h2);have es:lr f (n+1) (c::w)=lst (fs f [] (c::w))::lr f n (u++v):=by simp only[lr,List.isEmpty_cons,false_eq_true,if_false,ee]
   rw[es];generalize lst (fs f [] (c::w))=a at e h1;have hl:(u++v).length<=n:=by
    have:=congrArg List.length e;simp at this h |-;lia
   have t:=ih (u++v) hl fun d hd=>hw d (by rw[e]; rcases mem_append.mp hd with z|z<;>simp[z]);rw[e];exact(Pl a v u h1).trans (.cons a t)
theorem US{n:Nat}{w:List Nat}(h:w.length<=n)(hw:∀d∈w,f d≠[]):(lr f n w).length=w.length:=(Tp (IT n w h hw)).symm
theorem QP:∀(w:List Nat) (bs:List Int) (k:Nat),∀i∈pl f bs k w,∃u v c,w=u++c::v/\u.length=i-k/\k<=i/\(∀d∈u,¬Cm f d c)/\hit f bs c=false:=by
 intro w;induction w with
 | nil=>intro bs k i h; simp[pl] at h
 | cons d w ih =>
  intro bs k i h;have key:i∈pl f (bs++f d) (k+1) w->∃u v c,d::w=u++c::v/\u.length=i-k/\k<=i/\(∀d∈u,¬Cm f d c)/\hit f bs c=false:=fun h=>by
   obtain⟨u,v,c,e,h1,h2,h3,h4⟩:=ih _ _ i h;have nh:∀x∈f c,x∉bs/\x∉f d:=fun x hx=>by
    constructor
    .intro z
     have:hit f (bs++f d) c=true:=Fv.mpr ⟨x,hx,mem_append_left _ z⟩;rw[h4] at this; cases this
    .intro z
     have:hit f (bs++f d) c=true:=Fv.mpr ⟨x,hx,mem_append_right _ z⟩;rw[h4] at this; cases this
   refine⟨d::u,v,c,by rw[e]; rfl,by simp; lia,by lia,fun g hg=>?_,?_⟩
   .rcases mem_cons.mp hg with rfl|hg
    .rintro ⟨x,hx,hx2⟩; exact(nh x hx2).2 hx
    .exact h3 g hg
   .rw[eq_false_iff,Ne,Fv]
    rintro ⟨x,hx,hx2⟩; exact(nh x hx).1 hx2
  simp only[pl] at h;split at h
  .exact key h
  .rename_i hn
   rcases mem_cons.mp h with rfl|h
   .exact⟨[],w,d,rfl,by simp,le_refl _,fun _ h=>by simp at h,by simpa using hn⟩
   .exact key h
theorem QO{w:List Nat}(hw:∀d∈w,f d≠[]){i:Nat}(h:i∈pl f [] 0 w):i<w.length/\w.take i++w.drop (i+1)=w.erase (w.getD i 0):=by
 obtain⟨u,v,c,e,h1,_,h3,_⟩:=QP w [] 0 i h;have hu:u.length=i:=by lia
 have hc:c∉u:=fun z=>by
  obtain⟨x,r,hx⟩:=exists_cons_of_ne_nil (hw c (by rw[e]; simp));exact h3 c z ⟨x,by rw[hx]; simp,by rw[hx]; simp⟩
 subst hu;have eg:w.getD u.length 0=c:=by rw[e]; simp
 rw[eg];refine⟨by rw[e]; simp,?_⟩;rw[e,Hf hc];simp
end St
end
section
namespace St
variable{f:Nat->List Int}
noncomputable def Ua(f:Nat->List Int)(g:List Nat):Prop:=∀P:Nat->Prop,(∃c∈g,P c)->(∀a∈g,P a->∀b∈g,Cm f a b->P b)->∀c∈g,P c
theorem NK{g:List Nat}{c0:Nat}(h0:c0∈g)(h:∀P:Nat->Prop,P c0->(∀a∈g,P a->∀b∈g,Cm f a b->P b)->∀c∈g,P c):Ua f g:=fun P hex hcl=>by
 by_cases hp:P c0
 .exact h P hp hcl
 .exfalso
  obtain⟨c,hc,hpc⟩:=hex;exact h (fun a=>¬P a) hp (fun a ha hpa b hb hab hpb=>hpa (hcl b hb hpb a ha hab.symm)) c hc hpc
structure Blk (f:Nat->List Int) (w v:List Nat):Prop where
 ne:v≠[]
 fil:∃p:Nat->Bool,v=w.filter p
 clo:∀a∈v,∀b∈w,Cm f a b->b∈v
 con:Ua f v
theorem Blk.sub{w v:List Nat}(h:Blk f w v):∀c∈v,c∈w:=fun c hc=>by
 obtain⟨p,e⟩:=h.fil;rw[e] at hc;exact(mem_filter.mp hc).1
theorem Blk.le{w v v':List Nat}(h:Blk f w v)(h':Blk f w v'){c:Nat}(hc:c∈v)(hc':c∈v'):∀d∈v,d∈v':=
 h.con (fun d=>d∈v') ⟨c,hc,hc'⟩ fun a _ ha' b hb hab=>h'.clo a ha' b (h.sub b hb) hab
theorem HR{w:List Nat}{p q:Nat->Bool}(h:∀c∈w,p c=true↔q c=true):w.filter p=w.filter q:=
 filter_congr fun c hc=>Bool.eq_iff_iff.mpr (h c hc)
theorem Blk.eq{w v v':List Nat}(h:Blk f w v)(h':Blk f w v'){c:Nat}(hc:c∈v)(hc':c∈v'):v=v':=by
 have h1:=h.le h' hc hc';have h2:=h'.le h hc' hc;obtain⟨p,e⟩:=h.fil;obtain⟨q,e'⟩:=h'.fil;rw[e,e'];refine HR fun d hd=>?_;constructor
 .intro z
  have:d∈v:=by rw[e]; exact mem_filter.mpr ⟨hd,z⟩
  have:=h1 d this;rw[e'] at this;exact(mem_filter.mp this).2
 .intro z
  have:d∈v':=by rw[e']; exact mem_filter.mpr ⟨hd,z⟩
  have:=h2 d this;rw[e] at this;exact(mem_filter.mp this).2
structure Parts (f:Nat->List Int) (w:List Nat) (l:List (List Nat)):Prop where
 blk:∀v∈l,Blk f w v
 all:∀c∈w,∃v∈l,c∈v
 dis:l.Pairwise fun v v'=>∀c∈v,c∉v'
theorem Parts.nodup{w:List Nat}{l:List (List Nat)}(h:Parts f w l):l.Nodup:=by
 refine List.Pairwise.imp_of_mem (fun {a b} ha hb hd e=>?_) h.dis;subst e;obtain⟨c,r,hc⟩:=exists_cons_of_ne_nil (h.blk a ha).ne;have:c∈a:=by rw[hc]; exact mem_cons_self
 exact hd c this this
theorem Parts.mem{w:List Nat}{l l':List (List Nat)}(h:Parts f w l)(h':Parts f w l'):∀v∈l,v∈l':=fun v hv=>by
 have b:=h.blk v hv;obtain⟨c,r,hc⟩:=exists_cons_of_ne_nil b.ne;have hcv:c∈v:=by rw[hc]; exact mem_cons_self
 obtain⟨v',hv',hc'⟩:=h'.all c (b.sub c hcv);rw[b.eq (h'.blk v' hv') hcv hc'];exact hv'
theorem M4{α:Type}[DecidableEq α]{l l':List α}(n:l.Nodup)(n':l'.Nodup)(h:∀a,a∈l↔a∈l'):l.Perm l':=by
 rw[List.perm_iff_count];intro a;rw[n.count,n'.count];by_cases ha:a∈l
 .rw[if_pos ha,if_pos ((h a).mp ha)]
 .rw[if_neg ha,if_neg fun z=>ha ((h a).mpr z)]
theorem Parts.perm{w:List Nat}{l l':List (List Nat)}(h:Parts f w l)(h':Parts f w l'):l.Perm l':=
 M4 h.nodup h'.nodup fun v=>⟨h.mem h' v,h'.mem h v⟩
noncomputable def meet(f:Nat->List Int)(hs:List Int)(c:Nat):Bool:=(f c).any fun x=>decide (x∈hs)
theorem GB{hs:List Int}{c:Nat}:meet f hs c=true↔∃x∈f c,x∈hs:=by simp[meet]
noncomputable def Cb(f:Nat->List Int)(hs:List Int)(c:Nat):List Int:=if meet f hs c then hs++(f c).filter fun x=>!decide (x∈hs) else hs
noncomputable def BP(f:Nat->List Int)(hs:List Int)(w:List Nat):List Int:=w.foldl (Cb f) hs
noncomputable def Bd(f:Nat->List Int)(w:List Nat)(hs:List Int):Nat->List Int
 | 0=>hs
 | n+1=>BP f (Bd f w hs n) w
theorem Oz{hs:List Int}{c:Nat}:∀x∈hs,x∈Cb f hs c:=fun x hx=>by
 unfold Cb; split
 .exact mem_append_left _ hx
 .exact hx
theorem Jx{hs:List Int}{c:Nat}{x:Int}:x∈Cb f hs c↔x∈hs\/(meet f hs c=true/\x∈f c):=by
 unfold Cb;split
 .rename_i h
  rw[mem_append,mem_filter];constructor
  .rintro (h1|⟨h1,_⟩)
   .exact .inl h1
   .exact .inr ⟨h,h1⟩
  .rintro (h1|⟨_,h1⟩)
   .exact .inl h1
   .by_cases q:x∈hs
    .exact .inl q
    .exact .inr ⟨h1,by simp[q]⟩
 .rename_i h
  exact⟨.inl,fun z=>z.elim id fun y=>absurd y.1 h⟩
theorem Ll{hs:List Int}{c:Nat}(n:hs.Nodup)(nc:(f c).Nodup):(Cb f hs c).Nodup:=by
 unfold Cb;split
 .rw[nodup_append]
  refine⟨n,nc.sublist List.filter_sublist,fun a ha b hb e=>?_⟩;subst e;have:=(mem_filter.mp hb).2;simp[ha] at this
 .exact n
theorem OA:∀(w:List Nat) {hs:List Int},∀x∈hs,x∈BP f hs w:=by
 intro w;induction w with
 | nil=>intro hs x hx; exact hx
 | cons c w ih=>intro hs x hx; exact ih x (Oz x hx)
theorem Lq:∀(w:List Nat) {hs:List Int},hs.Nodup->(∀c∈w,(f c).Nodup)->(BP f hs w).Nodup:=by
 intro w;induction w with
 | nil=>intro hs n _; exact n
 | cons c w ih=>intro hs n h; exact ih (Ll n (h c mem_cons_self)) fun d hd=>h d (mem_cons_of_mem _ hd)
noncomputable def GR(f:Nat->List Int)(w:List Nat)(hs:List Int):Prop:=∀c∈w,meet f hs c=true->∀x∈f c,x∈hs
theorem GX:∀(w:List Nat) (hs:List Int),hs.length<=(BP f hs w).length:=by
 intro w;induction w with
 | nil=>intro hs; exact le_refl _
 | cons c w ih =>
  intro hs;refine le_trans ?_ (ih (Cb f hs c));unfold Cb; split<;>simp
theorem MD:∀(w:List Nat) (hs:List Int),(BP f hs w).length=hs.length->BP f hs w=hs/\GR f w hs:=by
 intro w;induction w with
 | nil=>intro hs _; exact⟨rfl,fun c hc=>by simp at hc⟩
 | cons c w ih =>
  intro hs h;have h1:=GX (f:=f) w (Cb f hs c);have h2:(BP f hs (c::w))=BP f (Cb f hs c) w:=rfl;rw[h2] at h |-;have hg:Cb f hs c=hs/\(meet f hs c=true->∀x∈f c,x∈hs):=by
   unfold Cb at h1 |-;split
   .rename_i hm
    rw[if_pos hm,length_append] at h1;have:((f c).filter fun x=>!decide (x∈hs)).length=0:=by
     have:=GX (f:=f) w (Cb f hs c);unfold Cb at this h;rw[if_pos hm,length_append] at this;rw[if_pos hm] at h;lia
    have e:=List.length_eq_zero_iff.mp this;refine⟨by rw[e,append_nil],fun _ x hx=>?_⟩;have:=filter_eq_nil_iff.mp e x hx;simpa using this
   .rename_i hm
    exact⟨rfl,fun z=>absurd z hm⟩
  rw[hg.1] at h |-;obtain⟨i1,i2⟩:=ih hs h;refine⟨i1,fun d hd=>?_⟩;rcases mem_cons.mp hd with rfl|hd
  .exact hg.2
  .exact i2 d hd
theorem QB{n:Nat}{xs:List Int}(nd:xs.Nodup)(h:∀x∈xs,0<=x/\x<(n:Int)):xs.length<=n:=by
 have sub:∀x∈xs,x∈(List.range n).map fun(k:Nat)=>(k:Int):=fun x hx=>by
  have:=h x hx;exact mem_map.mpr ⟨x.toNat,mem_range.mpr (by lia),by lia⟩
 have:=nd.length_le_of_subset sub;simpa using this
theorem Ln{w:List Nat}{n:Nat}(hn:∀c∈w,(f c).Nodup/\∀x∈f c,0<=x/\x<(n:Int)){hs:List Int}(nd:hs.Nodup)(hb:∀x∈hs,0<=x/\x<(n:Int)):∀t,(Bd f w hs t).Nodup/\(∀x∈Bd f w hs t,0<=x/\x<(n:Int)):=by
 have r1:∀(v:List Nat) (hs:List Int),(∀c∈v,∀x∈f c,0<=x/\x<(n:Int))->(∀x∈hs,0<=x/\x<(n:Int))->∀x∈BP f hs v,0<=x/\x<(n:Int):=by
  intro v;induction v with
  | nil=>intro hs _ h; exact h
  | cons c v ih =>
   intro hs h1 h2;refine ih _ (fun d hd=>h1 d (mem_cons_of_mem _ hd)) fun x hx=>?_;rcases Jx.mp hx with z|z
   .exact h2 x z
   .exact h1 c mem_cons_self x z.2
 intro t;induction t with
 | zero=>exact⟨nd,hb⟩
 | succ t ih=>exact⟨Lq w ih.1 fun c hc=>(hn c hc).1,r1 w _ (fun c hc=>(hn c hc).2) ih.2⟩
theorem Kg{w:List Nat}{n:Nat}(hn:∀c∈w,(f c).Nodup/\∀x∈f c,0<=x/\x<(n:Int)){hs:List Int}(nd:hs.Nodup)(hb:∀x∈hs,0<=x/\x<(n:Int))(h0:hs≠[]):GR f w (Bd f w hs n):=by
 have key:∀t,GR f w (Bd f w hs t)\/t+1<=(Bd f w hs t).length:=by
  intro t;induction t with
  | zero=>exact .inr (length_pos_iff.mpr h0)
  | succ t ih =>
   have hl:=GX (f:=f) w (Bd f w hs t);by_cases e:(BP f (Bd f w hs t) w).length=(Bd f w hs t).length
   .obtain⟨e1,e2⟩:=MD w _ e
    left;show GR f w (BP f (Bd f w hs t) w);rw[e1]; exact e2
   .rcases ih with ih|ih
    .left
     have:BP f (Bd f w hs t) w=Bd f w hs t:=by
      have:∀(v:List Nat),(∀c∈v,c∈w)->BP f (Bd f w hs t) v=Bd f w hs t:=by
       intro v;induction v with
       | nil=>intro _; rfl
       | cons c v ihv =>
        intro hv;have hg:Cb f (Bd f w hs t) c=Bd f w hs t:=by
         unfold Cb;split
         .rename_i hm
          have e2:((f c).filter fun x=>!decide (x∈Bd f w hs t))=[]:=by
           rw[filter_eq_nil_iff];intro x hx;have:=ih c (hv c mem_cons_self) hm x hx;simp[this]
          rw[e2,append_nil]
         .rfl
        show BP f (Cb f (Bd f w hs t) c) v=_;rw[hg];exact ihv fun d hd=>hv d (mem_cons_of_mem _ hd)
      exact this w fun _ h=>h
     show GR f w (BP f (Bd f w hs t) w);rw[this]; exact ih
    .right
     show t+1+1<=(BP f (Bd f w hs t) w).length;lia
 rcases key n with h|h
 .exact h
 .obtain⟨n1,n2⟩:=Ln hn nd hb n
  have:=QB n1 n2;lia
noncomputable def Reach(f:Nat->List Int)(w:List Nat)(c0 c:Nat):Prop:=∀P:Nat->Prop,P c0->(∀a∈w,P a->∀b∈w,Cm f a b->P b)->P c
theorem Lo{w:List Nat}{c0:Nat}(h0:c0∈w):∀t,∀x∈Bd f w (f c0) t,∃c∈w,x∈f c/\Reach f w c0 c:=by
 have r1:∀(v:List Nat) (hs:List Int),(∀c∈v,c∈w)->(∀x∈hs,∃c∈w,x∈f c/\Reach f w c0 c)->∀x∈BP f hs v,∃c∈w,x∈f c/\Reach f w c0 c:=by
  intro v;induction v with
  | nil=>intro hs _ h; exact h
  | cons c v ih =>
   intro hs h1 h2;refine ih _ (fun d hd=>h1 d (mem_cons_of_mem _ hd)) fun x hx=>?_;rcases Jx.mp hx with z|⟨z1,z2⟩
   .exact h2 x z
   .obtain⟨y,hy1,hy2⟩:=GB.mp z1
    obtain⟨c',hc',hyc,hr⟩:=h2 y hy2;have hcw:=h1 c mem_cons_self;exact⟨c,hcw,z2,fun P p0 pc=>pc c' hc' (hr P p0 pc) c hcw ⟨y,hyc,hy1⟩⟩
 intro t;induction t with
 | zero=>exact fun x hx=>⟨c0,h0,hx,fun P p0 _=>p0⟩
 | succ t ih=>exact r1 w _ (fun _ h=>h) ih
theorem Lp{w:List Nat}{hs:List Int}:∀t,∀x∈hs,x∈Bd f w hs t:=by
 intro t;induction t with
 | zero=>exact fun x h=>h
 | succ t ih=>exact fun x h=>OA w x (ih x h)
noncomputable def win(f:Nat->List Int)(n:Nat)(w:List Nat):List Nat:=w.filter (meet f (Bd f w (f (w.headD 0)) n))
noncomputable def out(f:Nat->List Int)(n:Nat)(w:List Nat):List Nat:=w.filter fun c=>!decide (c∈win f n w)
theorem Og{n:Nat}{c0:Nat}{r:List Nat}(hn:∀c∈c0::r,f c≠[]/\(f c).Nodup/\∀x∈f c,0<=x/\x<(n:Int)):Blk f (c0::r) (win f n (c0::r))/\c0∈win f n (c0::r):=by
 have hc0:=hn c0 mem_cons_self;have clo:GR f (c0::r) (Bd f (c0::r) (f c0) n):=Kg (fun c hc=>(hn c hc).2) hc0.2.1 hc0.2.2 hc0.1;have e:win f n (c0::r)=(c0::r).filter (meet f (Bd f (c0::r) (f c0) n)):=rfl;have mem:∀c,c∈win f n (c0::r)↔c∈c0::r/\meet f (Bd f (c0::r) (f c0) n) c=true:=fun c=>by rw[e]; exact mem_filter
 have m0:c0∈win f n (c0::r):=by
  obtain⟨x,s,hx⟩:=exists_cons_of_ne_nil hc0.1;have hxm:x∈f c0:=by rw[hx]; exact mem_cons_self
  exact(mem c0).mpr ⟨mem_cons_self,GB.mpr ⟨x,hxm,Lp n x hxm⟩⟩
 have cl:∀a∈win f n (c0::r),∀b∈c0::r,Cm f a b->b∈win f n (c0::r):=fun a ha b hb ⟨x,h1,h2⟩=>by
  obtain⟨ha1,ha2⟩:=(mem a).mp ha;exact(mem b).mpr ⟨hb,GB.mpr ⟨x,h2,clo a ha1 ha2 x h1⟩⟩
 refine⟨⟨ne_nil_of_mem m0,⟨_,e⟩,cl,NK m0 fun P p0 pc c hc=>?_⟩,m0⟩;obtain⟨hcw,hm⟩:=(mem c).mp hc;obtain⟨y,hy1,hy2⟩:=GB.mp hm;obtain⟨c',hc',hyc,hr⟩:=Lo (f:=f) mem_cons_self n y hy2;have:=hr (fun a=>a∈win f n (c0::r)/\P a) ⟨m0,p0⟩ (fun a _ ha b hb hab=>⟨cl a ha.1 b hb hab,pc a ha.1 ha.2 b (cl a ha.1 b hb hab) hab⟩);exact pc c' this.1 this.2 c hc ⟨y,hyc,hy1⟩
noncomputable def D5(f:Nat->List Int)(n:Nat):Nat->List Nat->List (List Nat)
 | 0,_=>[]
 | t+1,w=>if w.isEmpty then [] else win f n w::D5 f n t (out f n w)
theorem NY{n:Nat}{c0:Nat}{r:List Nat}(hn:∀c∈c0::r,f c≠[]/\(f c).Nodup/\∀x∈f c,0<=x/\x<(n:Int)):(out f n (c0::r)).length<=r.length:=by
 have m0:=(Og hn).2;have:out f n (c0::r)=r.filter fun c=>!decide (c∈win f n (c0::r)):=by
  unfold out;rw[List.filter_cons_of_neg (by simpa using m0)]
 rw[this];exact length_filter_le _ _
theorem N3{n:Nat}:∀(t:Nat) (w:List Nat),w.length<=t->(∀c∈w,f c≠[]/\(f c).Nodup/\∀x∈f c,0<=x/\x<(n:Int))->Parts f w (D5 f n t w):=by
 intro t;induction t with
 | zero =>
  intro w h _;have:w=[]:=List.length_eq_zero_iff.mp (by lia);subst this;exact⟨fun v hv=>by simp[D5] at hv,fun c hc=>by simp at hc,.nil⟩
 | succ t ih =>
  intro w h hn;cases w with
  | nil=>exact⟨fun v hv=>by simp[D5] at hv,fun c hc=>by simp at hc,.nil⟩
  | cons c0 r =>
   obtain⟨b,m0⟩:=Og hn;have ol:=NY hn;have om:∀c,c∈out f n (c0::r)↔c∈c0::r/\c∉win f n (c0::r):=fun c=>by
    unfold out; rw[mem_filter]; simp
   have p:=ih (out f n (c0::r)) (by simp at h; lia) fun c hc=>hn c ((om c).mp hc).1;have es:D5 f n (t+1) (c0::r)=win f n (c0::r)::D5 f n t (out f n (c0::r)):=by simp[D5]
   rw[es];refine⟨fun v hv=>?_,fun c hc=>?_,pairwise_cons.mpr ⟨fun v hv c hc hcv=>?_,p.dis⟩⟩
   .rcases mem_cons.mp hv with rfl|hv
    .exact b
    .have bv:=p.blk v hv
     obtain⟨q,e⟩:=bv.fil;refine⟨bv.ne,⟨fun c=>!decide (c∈win f n (c0::r))&&q c,?_⟩,fun a ha d hd had=>?_,bv.con⟩
     .rw[e,out,List.filter_filter]
      exact filter_congr fun c _=>by rw[Bool.and_comm]
     .refine bv.clo a ha d ((om d).mpr ⟨hd,fun z=>?_⟩) had
      have ha1:=(om a).mp (bv.sub a ha);exact ha1.2 (b.clo d z a ha1.1 had.symm)
   .by_cases q:c∈win f n (c0::r)
    .exact⟨_,mem_cons_self,q⟩
    .obtain⟨v,hv,hcv⟩:=p.all c ((om c).mpr ⟨hc,q⟩)
     exact⟨v,mem_cons_of_mem _ hv,hcv⟩
   .exact((om c).mp ((p.blk v hv).sub c hcv)).2 hc
noncomputable def CF(f:Nat->List Int)(c:Nat)(g:List Nat):Bool:=g.any fun d=>(f c).any fun x=>decide (x∈f d)
theorem Lv{c:Nat}{g:List Nat}:CF f c g=true↔∃d∈g,Cm f c d:=by simp[CF,Cm]
noncomputable def E9(f:Nat->List Int)(gs:List (List Nat))(c:Nat):List (List Nat):=gs.filter (fun g=>!CF f c g)++[[c]++(gs.filter (CF f c)).flatten]
noncomputable def E1(f:Nat->List Int)(w:List Nat):List (List Nat):=w.foldl (E9 f) []
structure Gr (f:Nat->List Int) (u:List Nat) (gs:List (List Nat)):Prop where
 ne:∀g∈gs,g≠[]
 con:∀g∈gs,Ua f g
 cov:∀c,c∈u↔∃g∈gs,c∈g
 dis:gs.Pairwise fun g g'=>∀c∈g,∀d∈g',¬Cm f c d
theorem RT{u:List Nat}{gs:List (List Nat)}{c:Nat}(h:Gr f u gs)(hc:f c≠[]):Gr f (u++[c]) (E9 f gs c):=by
 have hcc:Cm f c c:=by
  obtain⟨x,s,hx⟩:=exists_cons_of_ne_nil hc;exact⟨x,by rw[hx]; simp,by rw[hx]; simp⟩
 have ho:∀g,g∈gs.filter (fun g=>!CF f c g)↔g∈gs/\¬ ∃d∈g,Cm f c d:=fun g=>by
  rw[mem_filter,not_eq_true',eq_false_iff,Ne,Lv]
 have hm:∀d,d∈[c]++(gs.filter (CF f c)).flatten↔d=c\/∃g∈gs,(∃e∈g,Cm f c e)/\d∈g:=fun d=>by
  simp only[cons_append,nil_append,mem_cons,mem_flatten,mem_filter,Lv];constructor
  .rintro (h|⟨g,⟨h1,h2⟩,h3⟩)
   .exact .inl h
   .exact .inr ⟨g,h1,h2,h3⟩
  .rintro (h|⟨g,h1,h2,h3⟩)
   .exact .inl h
   .exact .inr ⟨g,⟨h1,h2⟩,h3⟩
 refine⟨fun g hg=>?_,fun g hg=>?_,fun d=>?_,?_⟩
 .rcases mem_append.mp hg with hg|hg
  .exact h.ne g ((ho g).mp hg).1
  .rw[mem_singleton.mp hg]; simp
 .rcases mem_append.mp hg with hg|hg
  .exact h.con g ((ho g).mp hg).1
  .rw[mem_singleton.mp hg]
   refine NK (c0:=c) ((hm c).mpr (.inl rfl)) fun P p0 pc d hd=>?_;rcases(hm d).mp hd with rfl|⟨g,hg,⟨e,he,hce⟩,hdg⟩
   .exact p0
   .have inm:∀z∈g,z∈[c]++(gs.filter (CF f c)).flatten:=fun z hz=>(hm z).mpr (.inr ⟨g,hg,⟨e,he,hce⟩,hz⟩)
    have pe:=pc c ((hm c).mpr (.inl rfl)) p0 e (inm e he) hce;exact h.con g hg P ⟨e,he,pe⟩ (fun a ha pa b hb hab=>pc a (inm a ha) pa b (inm b hb) hab) d hdg
 .rw[mem_append,mem_singleton]
  constructor
  .rintro (hd|rfl)
   .obtain⟨g,hg,hdg⟩:=(h.cov d).mp hd
    by_cases q:∃e∈g,Cm f c e
    .exact⟨_,mem_append_right _ (mem_singleton.mpr rfl),(hm d).mpr (.inr ⟨g,hg,q,hdg⟩)⟩
    .exact⟨g,mem_append_left _ ((ho g).mpr ⟨hg,q⟩),hdg⟩
   .exact⟨_,mem_append_right _ (mem_singleton.mpr rfl),(hm d).mpr (.inl rfl)⟩
  .rintro ⟨g,hg,hdg⟩
   rcases mem_append.mp hg with hg|hg
   .exact .inl ((h.cov d).mpr ⟨g,((ho g).mp hg).1,hdg⟩)
   .rw[mem_singleton.mp hg] at hdg
    rcases(hm d).mp hdg with e|⟨g',hg',_,hd'⟩
    .exact .inr e
    .exact .inl ((h.cov d).mpr ⟨g',hg',hd'⟩)
 .rw[E9,List.pairwise_append]
  refine⟨h.dis.sublist List.filter_sublist,by simp,fun g hg g' hg'=>?_⟩;rw[mem_singleton.mp hg'];obtain⟨hg1,hg2⟩:=(ho g).mp hg;intro a ha d hd had;rcases(hm d).mp hd with rfl|⟨k,hk,hce,hdk⟩
  .exact hg2 ⟨a,ha,had.symm⟩
  .have ne:g≠k:=fun e=>by subst e; exact hg2 hce
   rcases QX (R:=fun g g'=>∀c∈g,∀d∈g',¬Cm f c d) (fun a b h c hc d hd z=>h d hd c hc z.symm) h.dis g hg1 k hk with e|e
   .exact ne e
   .exact e a ha d hdk had
theorem RU{w:List Nat}(hn:∀c∈w,f c≠[]):Gr f w (E1 f w):=by
 have r:∀(v u:List Nat) (gs:List (List Nat)),Gr f u gs->(∀c∈v,f c≠[])->Gr f (u++v) (v.foldl (E9 f) gs):=by
  intro v;induction v with
  | nil=>intro u gs h _; rw[append_nil]; exact h
  | cons c v ih =>
   intro u gs h hv;have:=ih (u++[c]) _ (RT h (hv c mem_cons_self)) fun d hd=>hv d (mem_cons_of_mem _ hd);rw[append_assoc] at this;exact this
 have:=r w [] [] ⟨fun g hg=>by simp at hg,fun g hg=>by simp at hg,fun c=>by simp,.nil⟩ hn;simpa[E1] using this
theorem OM{w:List Nat}(hn:∀c∈w,f c≠[]):Parts f w ((E1 f w).map fun g=>w.filter fun c=>decide (c∈g)):=by
 have G:=RU hn;have self:∀c∈w,Cm f c c:=fun c hc=>by
  obtain⟨x,s,hx⟩:=exists_cons_of_ne_nil (hn c hc);exact⟨x,by rw[hx]; simp,by rw[hx]; simp⟩
 have sub:∀g∈E1 f w,∀c∈g,c∈w:=fun g hg c hc=>(G.cov c).mpr ⟨g,hg,hc⟩;have mem:∀g∈E1 f w,∀c,c∈w.filter (fun c=>decide (c∈g))↔c∈g:=fun g hg c=>by
  rw[mem_filter,decide_eq_true_iff];exact⟨fun h=>h.2,fun h=>⟨sub g hg c h,h⟩⟩
 have apart:=QX (R:=fun g g'=>∀c∈g,∀d∈g',¬Cm f c d) (fun a b h c hc d hd z=>h d hd c hc z.symm) G.dis;refine⟨fun v hv=>?_,fun c hc=>?_,?_⟩
 .obtain⟨g,hg,rfl⟩:=mem_map.mp hv
  have m:=mem g hg;obtain⟨c,r,hc⟩:=exists_cons_of_ne_nil (G.ne g hg);refine⟨ne_nil_of_mem ((m c).mpr (by rw[hc]; simp)),⟨_,rfl⟩,fun a ha b hb hab=>?_,fun P hex hcl d hd=>?_⟩
  .obtain⟨g',hg',hb'⟩:=(G.cov b).mp hb
   rcases apart g hg g' hg' with e|e
   .exact(m b).mpr (e ▸ hb')
   .exact absurd hab (e a ((m a).mp ha) b hb')
  .obtain⟨e,he,pe⟩:=hex
   exact G.con g hg P ⟨e,(m e).mp he,pe⟩ (fun a ha pa b hb hab=>hcl a ((m a).mpr ha) pa b ((m b).mpr hb) hab) d ((m d).mp hd)
 .obtain⟨g,hg,hcg⟩:=(G.cov c).mp hc
  exact⟨_,mem_map.mpr ⟨g,hg,rfl⟩,(mem g hg c).mpr hcg⟩
 .rw[pairwise_map]
  refine List.Pairwise.imp_of_mem (fun {g g'} hg hg' hd c hc hc'=>?_) G.dis;exact hd c ((mem g hg c).mp hc) c ((mem g' hg' c).mp hc') (self c (sub g hg c ((mem g hg c).mp hc)))
end St
end
section
namespace St
variable{f:Nat->List Int}
noncomputable def hold(f:Nat->List Int)(w:List Nat)(j:Nat):List Nat:=(w.take j).filter fun a=>(f (w.getD j 0)).any fun x=>decide (x∈f a)
noncomputable def pb(f:Nat->List Int)(w:List Nat):Nat->Nat
 | 0=>0
 | j+1=>if decide (w.getD j 0<w.getD (pb f w j) 0)&&(hold f w j).isEmpty then j else pb f w j
theorem Lh(p:List Nat->Bool)(gs:List (List Nat)):((gs.filter p).flatten).length<=gs.flatten.length:=by
 induction gs with
 | nil=>simp
 | cons g gs ih =>
  rw[filter_cons];split<;>simp only[flatten_cons,length_append]<;>lia
theorem OB(gs:List (List Nat))(c:Nat):(E9 f gs c).flatten.length<=gs.flatten.length+1/\(E9 f gs c).length<=gs.length+1:=by
 constructor
 .unfold E9
  induction gs with
  | nil=>simp
  | cons g gs ih =>
   simp only[filter_cons];cases CF f c g<;>simp at ih |- <;> lia
 .unfold E9
  have:=length_filter_le (fun g=>!CF f c g) gs;simp; lia
theorem OD(f:Nat->List Int):∀(w:List Nat) (gs:List (List Nat)),(w.foldl (E9 f) gs).flatten.length<=gs.flatten.length+w.length/\(w.foldl (E9 f) gs).length<=gs.length+w.length:=by
 intro w;induction w with
 | nil=>intro gs; simp
 | cons c w ih =>
  intro gs;have h1:=ih (E9 f gs c);have h2:=OB (f:=f) gs c;simp only[foldl_cons,length_cons];lia
theorem Qv{g:List Nat}:∀{gs:List (List Nat)},g∈gs->g.length<=gs.flatten.length:=by
 intro gs;induction gs with
 | nil=>intro h; simp at h
 | cons x gs ih =>
  intro h;simp only[flatten_cons,length_append];rcases mem_cons.mp h with rfl|h
  .lia
  .have:=ih h; lia
end St
end
section
namespace Ps57
noncomputable def fl(f:Nat->List Int)(h:Int)(w:List Nat):List Nat:=w.filter fun c=>decide (h∈f c)
noncomputable def rep(n:Nat)(w:List Nat):List Nat:=(List.replicate n w).flatten
theorem IH(n:Nat)(w:List Nat):rep (n+1) w=w++rep n w:=by simp[rep,replicate_succ]
theorem DH(n:Nat)(w:List Nat):(rep n w).length=n*w.length:=by simp[rep]
theorem KH(n:Nat):rep n []=[]:=by
 induction n with
 | zero=>rfl
 | succ n ih=>rw[IH,ih]; rfl
variable{f:Nat->List Int}{h:Int}{u v cs:List Nat}
theorem FX(a b:List Nat):fl f h (a++b)=fl f h a++fl f h b:=filter_append ..
theorem EM(n:Nat)(w:List Nat):fl f h (rep n w)=rep n (fl f h w):=by
 induction n with
 | zero=>rfl
 | succ n ih=>rw[IH,IH,FX,ih]
theorem Kb{w:List Nat}(hw:∀c∈w,h∉f c):fl f h w=[]:=by
 unfold fl;rw[filter_eq_nil_iff];intro c hc;simp[hw c hc]
theorem Ur(hd:∀a∈u,∀b∈v,∀x∈f a,x∉f b)(h:Int):fl f h u=[]\/fl f h v=[]:=by
 by_cases e:fl f h u=[]
 .exact .inl e
 .obtain⟨c,hc⟩:=exists_mem_of_ne_nil _ e
  have:=mem_filter.mp hc;exact .inr (Kb fun b hb=>hd c this.1 b hb h (by simpa using this.2))
theorem Rg(hd:∀a∈u,∀b∈v,∀x∈f a,x∉f b)(hp:∀h,fl f h cs=fl f h (u++v))(i:Nat)(h:Int):fl f h (rep i u++rep i v)=fl f h (rep i cs):=by
 rw[FX,EM,EM,EM,hp,FX];rcases Ur hd h with e|e<;>rw[e,KH]<;>simp
theorem Qz{w:List Nat}(hw:w≠[])(hf:∀c∈w,f c≠[]):∃c∈w,∃h∈f c,0<(fl f h w).length:=by
 obtain⟨c,hc⟩:=exists_mem_of_ne_nil _ hw;obtain⟨h,hh⟩:=exists_mem_of_ne_nil _ (hf c hc);refine⟨c,hc,h,hh,?_⟩;have:c∈fl f h w:=mem_filter.mpr ⟨hc,by simpa using hh⟩;exact List.length_pos_of_mem this
theorem QR(hu:u≠[])(hv:v≠[])(hf:∀c∈u++v,f c≠[])(hd:∀a∈u,∀b∈v,∀x∈f a,x∉f b)(hp:∀h,fl f h cs=fl f h (u++v)){i j t:Nat}(e:∀c∈u++v,∀h∈f c,fl f h (rep i u++rep j v)=fl f h (rep t cs)):i=j:=by
 have one:i=t:=by
  obtain⟨c,hc,h,hh,hl⟩:=Qz hu fun c hc=>hf c (mem_append.mpr (.inl hc));have z:=e c (mem_append.mpr (.inl hc)) h hh;have nv:fl f h v=[]:=Kb fun b hb=>hd c hc b hb h hh;rw[FX,EM,EM,EM,hp,FX,nv,KH,append_nil,append_nil] at z;have:=congrArg List.length z;rw[DH,DH] at this;exact Nat.eq_of_mul_eq_mul_right hl this
 have two:j=t:=by
  obtain⟨c,hc,h,hh,hl⟩:=Qz hv fun c hc=>hf c (mem_append.mpr (.inr hc));have z:=e c (mem_append.mpr (.inr hc)) h hh;have nu:fl f h u=[]:=Kb fun a ha q=>hd a ha c hc h (by simpa using q) hh;rw[FX,EM,EM,EM,hp,FX,nu,KH,nil_append,nil_append] at z;have:=congrArg List.length z;rw[DH,DH] at this;exact Nat.eq_of_mul_eq_mul_right hl this
 rw[one,two]
end Ps57
end
section
namespace St
variable{f:Nat->List Int}
theorem FD{w:List Nat}{x:Int}(h:∀c∈w,x∉f c):seen f x w=[]:=by
 unfold seen;rw[filter_eq_nil_iff];intro c hc;simp[h c hc]
noncomputable def Wr(f:Nat->List Int)(g v:List Nat):Prop:=(∀c,c∈g↔c∈v)/\∀x,seen f x g=seen f x v
theorem Nd{w:List Nat}{l L:List (List Nat)}(h:Parts f w l)(h1:∀g∈L,∃v∈l,Wr f g v)(h2:∀v∈l,∃g∈L,Wr f g v)(hd:L.Pairwise fun g g'=>∀c∈g,c∉g')(x:Int):seen f x L.flatten=seen f x w:=by
 have sub:∀g∈L,∀c∈g,c∈w:=fun g hg c hc=>by
  obtain⟨v,hv,q⟩:=h1 g hg;exact(h.blk v hv).sub c ((q.1 c).mp hc)
 by_cases e:∃c∈w,x∈f c
 .obtain⟨c,hc,hx⟩:=e
  obtain⟨v,hv,hcv⟩:=h.all c hc;obtain⟨g,hg,q⟩:=h2 v hv;obtain⟨L1,L2,rfl⟩:=List.append_of_mem hg;have inn:∀d∈w,x∈f d->d∈v:=fun d hd hxd=>(h.blk v hv).clo c hcv d hd ⟨x,hx,hxd⟩;rw[List.pairwise_append] at hd;obtain⟨_,hd2,hd3⟩:=hd;have n1:seen f x L1.flatten=[]:=FD fun d hd hxd=>by
   obtain⟨g',hg',hdg⟩:=mem_flatten.mp hd;exact hd3 g' hg' g (by simp) d hdg ((q.1 d).mpr (inn d (sub g' (by simp[hg']) d hdg) hxd))
  have n2:seen f x L2.flatten=[]:=FD fun d hd hxd=>by
   obtain⟨g',hg',hdg⟩:=mem_flatten.mp hd;exact(pairwise_cons.mp hd2).1 g' hg' d ((q.1 d).mpr (inn d (sub g' (by simp[hg']) d hdg) hxd)) hdg
  rw[List.flatten_append,flatten_cons,Mc,Mc,n1,n2,append_nil,nil_append,q.2];obtain⟨p,hp⟩:=(h.blk v hv).fil;have:∀d∈w,x∈f d->p d=true:=fun d hd hxd=>by
   have:=inn d hd hxd;rw[hp] at this;exact(mem_filter.mp this).2
  rw[hp];unfold seen;rw[List.filter_filter];refine HR fun d hd=>?_;simp only[and_eq_true,decide_eq_true_eq];exact⟨fun z=>z.1,fun z=>⟨z,this d hd z⟩⟩
 .have e:∀c∈w,x∉f c:=fun c hc hx=>e ⟨c,hc,hx⟩
  rw[FD e,FD];intro c hc;obtain⟨g,hg,hcg⟩:=mem_flatten.mp hc;exact e c (sub g hg c hcg)
theorem LV{w:List Nat}{l L:List (List Nat)}{u:List Nat}(h:Parts f w l)(h1:∀g∈u::L,∃v∈l,Wr f g v)(hd:(u::L).Pairwise fun g g'=>∀c∈g,c∉g'):∀a∈u,∀b∈L.flatten,∀x∈f a,x∉f b:=by
 intro a ha b hb x hx hxb;obtain⟨g,hg,hbg⟩:=mem_flatten.mp hb;obtain⟨v,hv,q⟩:=h1 u (by simp);obtain⟨v',hv',q'⟩:=h1 g (by simp[hg]);have hbw:=(h.blk v' hv').sub b ((q'.1 b).mp hbg);have:=(h.blk v hv).clo a ((q.1 a).mp ha) b hbw ⟨x,hx,hxb⟩;exact(pairwise_cons.mp hd).1 g hg b ((q.1 b).mpr this) hbg
theorem Xm{n:Nat}{v:List Nat}(h:v.length<=n)(hw:∀d∈v,f d≠[]):Wr f (lr f n v) v:=
 ⟨fun c=>(Tq (IT n v h hw) c).symm,fun x=>(Rl (IT n v h hw) x).symm⟩
end St
end
section
namespace J
open PySem L2
theorem AY(ds:List D):fzs (ds.map A.fz)=some ds:=by
 induction ds with
 | nil=>rfl
 | cons d ds ih=>simp[fzs,ih]
theorem Ed(ds:List D):ers (ds.map A.fz)=some ds:=by
 induction ds with
 | nil=>simp[ers]
 | cons d ds ih=>simp[ers,er,ih]
theorem GZ(Z:Ro):lock Z none=Z:=rfl
theorem Hk(Z:Ro)(n:Option Nat):unlock Z (lock Z n) n=Z:=by
 cases n with
 | none=>rfl
 | some i =>
  simp only[unlock,lock];split
  .rename_i s e
   apply List.ext_getElem?;intro j;by_cases h:j=i
   .subst h
    have hj:j<Z.length:=AB e;split
    .rw[List.getElem?_set_self (by simpa using hj),e]
    .rw[List.getElem?_set_self hj,e]
   .split
    .rw[List.getElem?_set_ne (Ne.symm h),List.getElem?_set_ne (Ne.symm h)]
    .rw[List.getElem?_set_ne (Ne.symm h)]
  .rename_i e
   split
   .rename_i st a e'
    rw[e] at e'; cases e'
   .rfl
theorem PL{c:MT}{e:ME}{f:D->D}{g:D->Bool}{Z:Ro}:∀{ds:List D},(∀d∈ds,c (own d::Z)=some (g d,own d::Z))->(∀d∈ds,g d=true->∃r,e (own d::Z)=some (r,own d::Z)/\share (own d::Z) r=some (f d,own d::Z))->FL 0 c e ds Z=some ((ds.filter g).map f,Z):=by
 intro _l;induction _l with
 | nil =>
  intro _ _;exact rfl
 | cons d ds ih =>
  intro hc he;have ih:=ih (fun x hx=>hc x (mem_cons_of_mem _ hx)) fun x hx=>he x (mem_cons_of_mem _ hx);simp only[FL,OY,bind_some,map_cons,map_nil,cons_append,nil_append,hc d mem_cons_self];cases h:g d with
  | true =>
   obtain⟨r,h1,h2⟩:=he d mem_cons_self h;simp[h1,h2,ih,h]
  | false=>simp[ih,h]
theorem Ew{it:MI}{c:MT}{e:ME}{f:D->D}{g:D->Bool}{Z Z1:Ro}{ds:List D}{n:Option Nat}(hi:it Z=some (ds,n,Z1))(hl:ds.length<=LIM)(hc:∀d∈ds,c (own d::lock Z1 n)=some (g d,own d::lock Z1 n))(he:∀d∈ds,g d=true->∃r,e (own d::lock Z1 n)=some (r,own d::lock Z1 n)/\share (own d::lock Z1 n) r=some (f d,own d::lock Z1 n)):AI it 0 c e Z=some (.val (.lst (((ds.filter g).map f).map A.fz)),Z1):=by
 simp only[AI,hi,bind_some,hl,if_true,PL hc he,map_some,Hk]
theorem B3{it:MI}{e:ME}{f:D->D}{Z Z1:Ro}{ds:List D}{n:Option Nat}(hi:it Z=some (ds,n,Z1))(hl:ds.length<=LIM)(he:∀d∈ds,∃r,e (own d::lock Z1 n)=some (r,own d::lock Z1 n)/\share (own d::lock Z1 n) r=some (f d,own d::lock Z1 n)):AI it 0 Cz e Z=some (.val (.lst ((ds.map f).map A.fz)),Z1):=by
 have:=Ew (g:=fun _=>true) (c:=Cz) hi hl (fun d _=>rfl) fun d hd _=>he d hd;rw[List.filter_eq_self.mpr (fun _ _=>rfl)] at this;exact this
theorem Ou{c:MT}{e:ME}{f:D->D->D}{g:D->D->Bool}{Z:Ro}:∀{ds:List (D×D)},(∀d∈ds,c (own d.1::own d.2::Z)=some (g d.1 d.2,own d.1::own d.2::Z))->(∀d∈ds,g d.1 d.2=true->∃r,e (own d.1::own d.2::Z)=some (r,own d.1::own d.2::Z)/\share (own d.1::own d.2::Z) r=some (f d.1 d.2,own d.1::own d.2::Z))->FL 2 c e (ds.map fun d=>.tup [d.1,d.2]) Z=some ((ds.filter fun d=>g d.1 d.2).map fun d=>f d.1 d.2,Z):=by
 intro _l;induction _l with
 | nil =>
  intro _ _;exact rfl
 | cons d ds ih =>
  intro hc he;have ih:=ih (fun x hx=>hc x (mem_cons_of_mem _ hx)) fun x hx=>he x (mem_cons_of_mem _ hx);simp only[map_cons,FL,OY,length_cons,length_nil,bind_some,map_cons,map_nil,cons_append,nil_append,if_true,hc d mem_cons_self];cases h:g d.1 d.2 with
  | true =>
   obtain⟨r,h1,h2⟩:=he d mem_cons_self h;simp[h1,h2,ih,h]
  | false=>simp[ih,h]
theorem Mw{it:MI}{e:ME}{f:D->D->D}{Z Z1:Ro}{ds:List (D×D)}{n:Option Nat}(hi:it Z=some (ds.map (fun d=>.tup [d.1,d.2]),n,Z1))(hl:ds.length<=LIM)(he:∀d∈ds,∃r,e (own d.1::own d.2::lock Z1 n)=some (r,own d.1::own d.2::lock Z1 n)/\share (own d.1::own d.2::lock Z1 n) r=some (f d.1 d.2,own d.1::own d.2::lock Z1 n)):AI it 2 Cz e Z=some (.val (.lst ((ds.map fun d=>f d.1 d.2).map A.fz)),Z1):=by
 have h:=Ou (g:=fun _ _=>true) (c:=Cz) (e:=e) (f:=f) (ds:=ds) (Z:=lock Z1 n) (fun d _=>rfl) fun d hd _=>he d hd;rw[List.filter_eq_self.mpr (fun _ _=>rfl)] at h;simp only[AI,hi,bind_some,length_map,hl,if_true,h,map_some,Hk]
theorem Li{is:List Nat}{one:Bool}{b:MS}(Inv:Nat->Ro->Prop):∀{ds:List D} {i:Nat} {Z:Ro},Inv i Z -> (∀(j:Nat) d Z,ds[j]? = some d->Inv (i+j) Z -> ∃Z1 Z2,Gj is one d Z=some Z1/\(b Z1=some (.next Z2)\/b Z1=some (.cnt Z2))/\Inv (i+j+1) Z2)->∃Z',forL is one b ds Z=some (.next Z')/\Inv (i+ds.length) Z'
 | [],i,Z,h0,_=>⟨Z,rfl,h0⟩
 | d::ds,i,Z,h0,hs=>by
  obtain⟨Z1,Z2,h1,h2,h3⟩:=hs 0 d Z rfl h0;obtain⟨Z',h4,h5⟩:=Li (ds:=ds) (i:=i+1) (b:=b) (is:=is) (one:=one) Inv h3 fun j d Z e hI=>by
   have:=hs (j+1) d Z (by simpa using e) (by rw[show i+(j+1)=i+1+j by lia]; exact hI);rw[show i+(j+1)+1=i+1+j+1 by lia] at this;exact this
  refine⟨Z',?_,by rw[length_cons,show i+(ds.length+1)=i+1+ds.length by lia]; exact h5⟩;rcases h2 with h2|h2<;>simp[forL,h1,h2,h4]
theorem Ck{is:List Nat}{one:Bool}{it:MI}{b:MS}{Z Z1:Ro}{ds:List D}{n:Option Nat}(Inv:Nat->Ro->Prop)(hi:it Z=some (ds,n,Z1))(h0:Inv 0 (lock Z1 n))(hs:∀(j:Nat) d Z,ds[j]? = some d->Inv j Z -> ∃Z1 Z2,Gj is one d Z=some Z1/\(b Z1=some (.next Z2)\/b Z1=some (.cnt Z2))/\Inv (j+1) Z2):∃Z',Ej is one it b Z=some (.next (unlock Z1 Z' n))/\Inv ds.length Z':=by
 obtain⟨Z',h1,h2⟩:=Li (is:=is) (one:=one) (b:=b) Inv (ds:=ds) (i:=0) h0 fun j d Z e hI=>by
  rw[zero_add] at hI |-;exact hs j d Z e hI
 refine⟨Z',?_,by simpa using h2⟩;simp[Ej,hi,h1,GQ]
theorem Ft(lo:Int)(n:Nat):(CU lo n).length=n:=by simp[CU]
theorem Gh{lo:Int}{n j:Nat}{d:D}(h:(CU lo n)[j]? = some d):d=.int (lo+j)/\j<n:=by
 have hj:j<n:=by have:=AB h; simpa[CU] using this
 simp only[CU,List.getElem?_map,List.getElem?_range hj,map_some,Option.some.injEq] at h;exact⟨h.symm,hj⟩
noncomputable def iL(xs:List Int):List D:=xs.map D.int
theorem ES(xs:List Int):(iL xs).all CA=true:=by simp[iL,CA,all_eq_true]
theorem F0(x:Int)(xs:List Int):inD (.int x) (iL xs)=decide (x∈xs):=by
 induction xs with
 | nil=>rfl
 | cons y ys ih =>
  have:inD (.int x) (iL (y::ys))=(eqD (.int y) (.int x) || inD (.int x) (iL ys)):=rfl;rw[this,ih];simp only[DT,mem_cons];by_cases h:y=x
  .subst h; simp
  .have h':¬x=y:=fun z=>h z.symm
   simp[h,h']
theorem CV{α:Type}(xs:List α)(f:α -> Bool):Dx (xs.map fun x=>D.bl (f x))=some (xs.map f):=by
 induction xs with
 | nil=>rfl
 | cons x xs ih=>simp[Dx,ih]
theorem Fb(xs:List Int):Hi (iL xs)=some xs:=by
 induction xs with
 | nil=>rfl
 | cons x xs ih =>
  simp only[iL,map_cons,Hi] at ih |-;rw[ih]; rfl
end J
namespace J
open PySem L2
@[simp] theorem Fx(xs:List Int):(iL xs).length=xs.length:=by simp[iL]
theorem Kn{d:D}{xs:List Int}:d∈iL xs↔∃i∈xs,d=.int i:=by
 simp only[iL,mem_map];constructor
 .rintro ⟨i,h,rfl⟩; exact⟨i,h,rfl⟩
 .rintro ⟨i,h,rfl⟩; exact⟨i,h,rfl⟩
noncomputable def nD:D->Int
 | .int i=>i
 | _=>0
@[simp] theorem Qy(i:Int):nD (.int i)=i:=rfl
theorem MY{β:Type}(f:Int -> β)(xs:List Int):(iL xs).map (fun d=>f (nD d))=xs.map f:=by simp[iL]
end J
namespace J
open PySem L2
theorem Ai{a b:MS}{Z Z1:Ro}(h:a Z=some (.next Z1)):Ax a b Z=b Z1:=by simp[Ax,h]
theorem RV{c:MT}{a b:MS}{Z Z1:Ro}(h:c Z=some (true,Z1)):ifS c a b Z=a Z1:=by simp[ifS,h]
theorem FZ{c:MT}{a b:MS}{Z Z1:Ro}(h:c Z=some (false,Z1)):ifS c a b Z=b Z1:=by simp[ifS,h]
theorem B8{m:ME}{Z Z1:Ro}{b:Bool}(h:m Z=some (.val (.fz (.bl b)),Z1)):Aw m Z=some (b,Z1):=by simp[Aw,h,peek,Eu]
theorem not_of{m:MT}{Z Z1:Ro}{b:Bool}(h:m Z=some (b,Z1)):BF m Z=some (!b,Z1):=by simp[BF,h]
theorem B7{m:ME}{Z Z1:Ro}{a:A}(h:m Z=some (.val a,Z1)):retS m Z=some (.ret a Z1):=by simp[retS,h,move]
theorem Cf{m:ME}{Z Z1:Ro}{a:A}{i:Nat}(h:m Z=some (.val a,Z1))(hf:free Z1 i=true):Ay i m Z=some (.next (Z1.set i (some (.own,a)))):=by simp[Ay,h,keep,hf]
theorem PN{m:ME}{Z Z1:Ro}{r:R}(h:m Z=some (r,Z1)):Hq m Z=some (.next Z1):=by simp[Hq,h]
theorem Bk{np nn:Nat}{b:MS}{args:List (Own×A)}{a:A}{Z:Ro}(hl:args.length=np)(h:b (args.map some++List.replicate (nn-np) none)=some (.ret a Z)):fnM np nn b args=some (a,(Z.take np).map G6):=by simp[fnM,hl,h]
end J
end
section
namespace St
variable{f:Nat->List Int}
theorem Ic{u w:List Nat}(hu:∀c∈u,f c≠[])(hw:∀c∈w,f c≠[])(h:∀x,seen f x u=seen f x w):u.length=w.length:=by
 refine List.Perm.length_eq (List.perm_iff_count.mpr fun c=>?_);by_cases e:f c=[]
 .rw[List.count_eq_zero.mpr fun z=>hu c z e,List.count_eq_zero.mpr fun z=>hw c z e]
 .obtain⟨x,hx⟩:=exists_mem_of_ne_nil _ e
  have hp:decide (x∈f c)=true:=by simpa using hx
  have h1:List.count c (seen f x u)=List.count c u:=List.count_filter hp;have h2:List.count c (seen f x w)=List.count c w:=List.count_filter hp;rw[<- h1,<- h2,h x]
structure Two (f:Nat->List Int) (cs u v:List Nat):Prop where
 sn:∀x,seen f x cs=seen f x (u++v)
 ap:∀a∈u,∀b∈v,∀x∈f a,x∉f b
 nu:u≠[]
 nv:v≠[]
 sub:∀c∈u++v,c∈cs
theorem Bl{n:Nat}{cs u:List Nat}{L:List (List Nat)}(hl:cs.length<=40)(hc:∀c∈cs,f c≠[]/\(f c).Nodup/\∀x∈f c,0<=x/\x<(n:Int))(p:(u::L).Perm ((D5 f n 40 cs).map (lr f 40)))(hn:L≠[]):Two f cs u L.flatten:=by
 have P:=N3 (f:=f) (n:=n) 40 cs hl hc;have wr:∀v∈D5 f n 40 cs,Wr f (lr f 40 v) v:=fun v hv=>by
  have b:=P.blk v hv;obtain⟨q,e⟩:=b.fil;refine Xm ?_ fun d hd=>(hc d (b.sub d hd)).1;have:=length_filter_le q cs;rw[<- e] at this;omega
 have h1:∀g∈u::L,∃v∈D5 f n 40 cs,Wr f g v:=fun g hg=>by
  obtain⟨v,hv,rfl⟩:=mem_map.mp (p.mem_iff.mp hg);exact⟨v,hv,wr v hv⟩
 have h2:∀v∈D5 f n 40 cs,∃g∈u::L,Wr f g v:=fun v hv=>⟨lr f 40 v,p.mem_iff.mpr (mem_map.mpr ⟨v,hv,rfl⟩),wr v hv⟩;have hd:(u::L).Pairwise fun g g'=>∀c∈g,c∉g':=by
  refine(p.pairwise_iff fun {x y} h c hy hx=>h c hx hy).mpr ?_;rw[pairwise_map];refine List.Pairwise.imp_of_mem (fun {a b} ha hb z c hca hcb=>?_) P.dis;exact z c (((wr a ha).1 c).mp hca) (((wr b hb).1 c).mp hcb)
 have ne:∀g∈u::L,g≠[]:=fun g hg e=>by
  obtain⟨v,hv,q⟩:=h1 g hg;obtain⟨c,hcv⟩:=exists_mem_of_ne_nil _ (P.blk v hv).ne;have:=(q.1 c).mpr hcv;rw[e] at this;simp at this
 have sub:∀g∈u::L,∀c∈g,c∈cs:=fun g hg c hcg=>by
  obtain⟨v,hv,q⟩:=h1 g hg;exact(P.blk v hv).sub c ((q.1 c).mp hcg)
 refine⟨fun x=>(Nd P h1 h2 hd x).symm,LV P h1 hd,ne u (by simp),fun e=>?_,fun c hcu=>?_⟩
 .cases L with
  | nil=>exact hn rfl
  | cons g L =>
   have:=ne g (by simp);simp at e;exact this e.1
 .rcases mem_append.mp hcu with h|h
  .exact sub u (by simp) c h
  .obtain⟨g,hg,hcg⟩:=mem_flatten.mp h
   exact sub g (by simp[hg]) c hcg
end St
end
section
namespace Gk57
open PySem PySem.Spec PyProof.Rows L2 J
noncomputable def top(i:Nat):Stmt:=PySem.Challenge.pw_handsapart_k57_unparted.main.body.getD i (.Pass ⟨0,0,0,0⟩)
noncomputable def He:MS:=retS (andM (opM (CM isTup) (m1L (Aa 0))) (opM eqA (m2L (opM Bv (Ab (Aa 0) Ad)) (Ae (.int 2)))))
noncomputable def CQ:Fn:=fnM 1 1 He
noncomputable def Gp:MS:=retS (andM (opM (CM isInt) (m1L (Aa 0))) (notM (opM (CM isBool) (m1L (Aa 0)))))
noncomputable def Ci:Fn:=fnM 1 1 Gp
noncomputable def C9:MS:=retS (andM (Af Ci (Ab (Aa 0) Ad)) (Hm leA leA (Ae (.int 2)) (Aa 0) (Ae (.int 4))))
noncomputable def Bp:Fn:=fnM 1 1 C9
noncomputable def DA:MS:=retS (andM (Af Ci (Ab (Aa 0) Ad)) (Hm leA ltA (Ae (.int 0)) (Aa 0) (Aa 1)))
noncomputable def Bj:Fn:=fnM 2 2 DA
noncomputable def B5:MS:=retS (opM DM (Ab (AI (By (Aa 0)) 0 Cz (Af Bj (Ab (Aa 0) (Ab (Aa 2) Ad)))) Ad))
noncomputable def BH:Fn:=fnM 2 2 B5
noncomputable def B1:MS:=retS (andM (opM (CM Eg) (m1L (Aa 0))) (Af BH (Ab (Aa 0) (Ab (Aa 1) Ad))))
noncomputable def AU:Fn:=fnM 2 2 B1
noncomputable def CK:MS:=Ax (ifS (BF (Aw (Af AU (Ab (Aa 0) (Ab (Aa 1) Ad))))) (retS (Ae (.bl false))) AK) (retS (opM DM (Ab (AI (Bm (opM Ep (m2L (opM Bv (Ab (Aa 0) Ad)) (Ae (.int 1))))) 0 Cz (opM ltA (m2L (opM ixA (m2L (Aa 1) (Aa 0))) (opM ixA (m2L (Aa 1) (opM AL (m2L (Aa 0) (Ae (.int 1))))))))) Ad)))
noncomputable def A5:Fn:=fnM 2 2 CK
noncomputable def DB:MS:=retS (andM (opM (CM isStr) (m1L (Aa 0))) (andM (opM eqA (m2L (opM Bv (Ab (Aa 0) Ad)) (Ae (.int 1)))) (Hm leA leA (Ae (.str (Str.ofString "a"))) (Aa 0) (Ae (.str (Str.ofString "z"))))))
noncomputable def BC:Fn:=fnM 1 1 DB
noncomputable def Gm:MS:=Ax (ifS (orT (BF (Aw (Af CQ (Ab (Aa 1) Ad)))) (BF (Aw (Af BC (Ab (opM ixA (m2L (Aa 1) (Ae (.int 0)))) Ad))))) (retS (Ae (.bl false))) AK) (retS (andM (Af A5 (Ab (opM ixA (m2L (Aa 1) (Ae (.int 1)))) (Ab (Aa 0) Ad))) (opM gtA (m2L (opM Bv (Ab (opM ixA (m2L (Aa 1) (Ae (.int 1)))) Ad)) (Ae (.int 0))))))
noncomputable def CW:Fn:=fnM 2 2 Gm
noncomputable def Dz:MS:=Ax (ifS (orT (BF (Aw (opM (CM Eg) (m1L (Aa 1))))) (BF (Aw (Hm leA leA (Ae (.int 1)) (opM Bv (Ab (Aa 1) Ad)) (Ae (.int 6)))))) (retS (Ae (.bl false))) AK) (Ax (ifS (BF (Aw (opM DM (Ab (AI (By (Aa 1)) 0 Cz (Af CW (Ab (Aa 1) (Ab (Aa 0) Ad)))) Ad)))) (retS (Ae (.bl false))) AK) (retS (opM DM (Ab (AI (Bm (opM Ep (m2L (opM Bv (Ab (Aa 1) Ad)) (Ae (.int 1))))) 0 Cz (opM ltA (m2L (opM ixA (m2L (opM ixA (m2L (Aa 2) (Aa 0))) (Ae (.int 0)))) (opM ixA (m2L (opM ixA (m2L (Aa 2) (opM AL (m2L (Aa 0) (Ae (.int 1)))))) (Ae (.int 0))))))) Ad))))
noncomputable def C7:Fn:=fnM 2 2 Dz
noncomputable def Gn:MS:=Ax (ifS (BF (Aw (Af CQ (Ab (Aa 0) Ad)))) (retS (Ae (.bl false))) AK) (retS (andM (Af Bp (Ab (opM ixA (m2L (Aa 0) (Ae (.int 0)))) Ad)) (Af C7 (Ab (opM ixA (m2L (Aa 0) (Ae (.int 0)))) (Ab (opM ixA (m2L (Aa 0) (Ae (.int 1)))) Ad)))))
noncomputable def Dt:Fn:=fnM 1 1 Gn
noncomputable def E6:MS:=ifS (BF (Aw (Af Dt (Ab (Aa 0) Ad)))) (Fs) AK
noncomputable def CL:Fn:=fnM 1 1 E6
noncomputable def DS:MS:=retS (CN BI (Ae (.str (Str.ofString ""))) (m1L (AI (By (opM ixA (m2L (Aa 0) (Ae (.int 1))))) 0 Cz (opM ixA (m2L (Aa 0) (Ae (.int 0)))))))
noncomputable def B4:Fn:=fnM 1 1 DS
noncomputable def FW:MS:=Ax (Hq (Af CL (Ab (Aa 0) Ad))) (Ax (ifS (BF (Aw (opM (CM isStr) (m1L (Aa 1))))) (retS (Ae (.bl false))) AK) (Ax (Ay 2 (Af B4 (Ab (Aa 0) Ad))) (retS (opM DM (Ab (AI (CO (Aa 1)) 0 Cz (opM (inA false) (m2L (Aa 0) (Aa 3)))) Ad)))))
noncomputable def Fu:Fn:=fnM 2 3 FW
noncomputable def Gq:MS:=ifS (BF (Aw (Af Fu (Ab (Aa 0) (Ab (Aa 1) Ad))))) (Fs) AK
noncomputable def Cj:Fn:=fnM 2 2 Gq
noncomputable def EI:MS:=retS (opM ixA (m2L (opM ixA (m2L (opM ixA (m2L (Aa 0) (Ae (.int 1)))) (CN F5 (Af B4 (Ab (Aa 0) Ad)) (m1L (Aa 1))))) (Ae (.int 1))))
noncomputable def Ao:Fn:=fnM 2 2 EI
noncomputable def CD:MS:=retS (opM FF (Ab (AI (By (Aa 0)) 0 Cz (opM (inA false) (m2L (Aa 0) (Aa 2)))) Ad))
noncomputable def Am:Fn:=fnM 2 2 CD
noncomputable def C6:MS:=Ax (Ay 2 (opM Ie (Ab (Af Ao (Ab (Aa 0) (Ab (opM ixA (m2L (Aa 1) (Ae (.int 0)))) Ad))) Ad))) (Ax (Ej [3] true (Bm (opM ixA (m2L (Aa 0) (Ae (.int 0))))) (Ej [4] true (CO (Aa 1)) (ifS (Aw (Af Am (Ab (Af Ao (Ab (Aa 0) (Ab (Aa 4) Ad))) (Ab (Aa 2) Ad)))) (FG 2 (AI (By (Af Ao (Ab (Aa 0) (Ab (Aa 4) Ad)))) 0 (Aw (opM (inA true) (m2L (Aa 0) (Aa 3)))) (Aa 0))) AK))) (retS (Aa 2)))
noncomputable def A4:Fn:=fnM 2 5 C6
noncomputable def Dh:MS:=Ax (Ay 2 (lstM Ad)) (Ax (Ay 3 (lstM Ad)) (Ax (Ej [4,5] false (Gu (Aa 1)) (Ax (Ay 6 (Af Ao (Ab (Aa 0) (Ab (Aa 5) Ad)))) (Ax (ifS (BF (Aw (Af Am (Ab (Aa 6) (Ab (Aa 3) Ad))))) (CZ 2 (Aa 4)) AK) (FG 3 (Aa 6))))) (retS (Aa 2))))
noncomputable def Bu:Fn:=fnM 2 7 Dh
noncomputable def CP:MS:=retS (opM NV (m2L (Af Bu (Ab (Aa 0) (Ab (Aa 1) Ad))) (Aa 1)))
noncomputable def AZ:Fn:=fnM 2 2 CP
noncomputable def Di:MS:=Ax (Ay 2 (lstM Ad)) (Ax (K1 41 (GP (Aa 1)) (Ax (Ay 3 (Af AZ (Ab (Aa 0) (Ab (Aa 1) Ad)))) (Ax (CZ 2 (opM ixA (m2L (Aa 1) (Aa 3)))) (Ay 1 (opM AL (m2L (opM Jl (m2L (Aa 1) (Aa 3))) (opM Jm (m2L (Aa 1) (opM AL (m2L (Aa 3) (Ae (.int 1)))))))))))) (retS (CN BI (Ae (.str (Str.ofString ""))) (m1L (Aa 2)))))
noncomputable def Bg:Fn:=fnM 2 4 Di
noncomputable def EJ:MS:=Ax (Ay 2 (lstM Ad)) (Ax (K1 41 (GP (Aa 1)) (Ax (Ay 3 (Af A4 (Ab (Aa 0) (Ab (Aa 1) Ad)))) (Ax (Ay 4 (AI (CO (Aa 1)) 0 (Aw (Af Am (Ab (Af Ao (Ab (Aa 1) (Ab (Aa 0) Ad))) (Ab (Aa 4) Ad)))) (Aa 0))) (Ax (CZ 2 (Af Bg (Ab (Aa 0) (Ab (CN BI (Ae (.str (Str.ofString ""))) (m1L (Aa 4))) Ad)))) (Ay 1 (CN BI (Ae (.str (Str.ofString ""))) (m1L (AI (CO (Aa 1)) 0 (Aw (opM (inA true) (m2L (Aa 0) (Aa 5)))) (Aa 0))))))))) (retS (opM EV (Ab (Aa 2) Ad))))
noncomputable def CY:Fn:=fnM 2 5 EJ
noncomputable def C3:MS:=Ax (ifS (Aw (opM geA (m2L (opM Mp (Ab (Aa 0) Ad)) (opM O4 (m2L (Ae (.int 10)) (Ae (.int 18))))))) (retS (lstM (Ab (Aj (opM Mp (Ab (Aa 0) Ad))) (Ab (Aj (Ae (.int 0))) Ad)))) AK) (retS (lstM (Ab (Aj (opM Jb (m2L (Aa 0) (Ae (.int 2147483647))))) (Ab (Aj (Ae (.int 1))) Ad))))
noncomputable def Cg:Fn:=fnM 1 1 C3
noncomputable def CJ:MS:=Ax (ifS (Aw (opM eqA (m2L (opM ixA (m2L (Aa 0) (Ae (.int 1)))) (Ae (.int 0))))) (Ax (Ay 2 (opM Jb (m2L (opM ixA (m2L (Aa 0) (Ae (.int 0)))) (Aa 1)))) (Ax (Ji 0 (Ae (.int 0)) (opM E8 (m2L (opM ixA (m2L (Aa 0) (Ae (.int 0)))) (Aa 1)))) (retS (Aa 2)))) AK) (Ax (Ji 0 (Ae (.int 0)) (opM Jb (m2L (opM AL (m2L (opM AL (m2L (opM G1 (m2L (opM ixA (m2L (Aa 0) (Ae (.int 0)))) (Ae (.int 48271)))) (opM G1 (m2L (opM G1 (m2L (Ae (.int 7919)) (opM ixA (m2L (Aa 0) (Ae (.int 1)))))) (opM ixA (m2L (Aa 0) (Ae (.int 1)))))))) (Ae (.int 17)))) (Ae (.int 2147483647))))) (Ax (Ji 0 (Ae (.int 1)) (opM AL (m2L (opM ixA (m2L (Aa 0) (Ae (.int 1)))) (Ae (.int 1))))) (retS (opM Jb (m2L (opM E8 (m2L (opM Jb (m2L (opM G1 (m2L (opM ixA (m2L (Aa 0) (Ae (.int 0)))) (Ae (.int 69621)))) (Ae (.int 2147483629)))) (Ae (.int 5)))) (Aa 1))))))
noncomputable def An:Fn:=fnM 2 3 CJ
noncomputable def DQ:MS:=Ax (Ay 1 (opM AL (m2L (Ae (.int 2)) (Af An (Ab (Aa 0) (Ab (Ae (.int 3)) Ad)))))) (Ax (Ay 2 (opM AL (m2L (Ae (.int 1)) (Af An (Ab (Aa 0) (Ab (Ae (.int 6)) Ad)))))) (Ax (Ay 3 (Af An (Ab (Aa 0) (Ab (Ae (.int 2)) Ad)))) (Ax (Ay 4 (lstM Ad)) (Ax (Ay 5 (Ae (.int 0))) (Ax (Ej [6] true (Bm (Aa 2)) (Ax (Ay 5 (opM AL (m2L (Aa 5) (Af An (Ab (Aa 0) (Ab (opM Ep (m2L (opM AL (m2L (opM Ep (m2L (Ae (.int 27)) (Aa 2))) (Aa 6))) (Aa 5))) Ad)))))) (Ax (Ay 7 (opM AL (m2L (Ae (.int 1)) (Af An (Ab (Aa 0) (Ab (opM Ep (m2L (opM Fq (m2L (Ae (.int 1)) (Aa 1))) (Ae (.int 1)))) Ad)))))) (Ax (ifS (Aw (opM eqA (m2L (Aa 3) (Ae (.int 1))))) (Ay 7 (opM J1 (m2L (opM Fq (m2L (Ae (.int 1)) (Af An (Ab (Aa 0) (Ab (Aa 1) Ad))))) (opM Fq (m2L (Ae (.int 1)) (Af An (Ab (Aa 0) (Ab (Aa 1) Ad)))))))) AK) (Ax (CZ 4 (FJ (Ab (Aj (opM ixA (m2L (Ae (.str (Str.ofString "abcdefghijklmnopqrstuvwxyz"))) (Aa 5)))) (Ab (Aj (AI (Bm (Aa 1)) 0 (Aw (opM eqA (m2L (opM E4 (m2L (opM IP (m2L (Aa 8) (Aa 0))) (Ae (.int 1)))) (Ae (.int 1))))) (Aa 0))) Ad)))) (Ay 5 (opM AL (m2L (Aa 5) (Ae (.int 1)))))))))) (retS (FJ (Ab (Aj (Aa 1)) (Ab (Aj (Aa 4)) Ad)))))))))
noncomputable def BK:Fn:=fnM 1 8 DQ
noncomputable def C5:MS:=Ax (Ay 3 (Ae (.str (Str.ofString "")))) (Ax (Ej [4] true (Bm (Af An (Ab (Aa 0) (Ab (opM AL (m2L (Aa 2) (Ae (.int 1)))) Ad)))) (Ay 3 (opM AL (m2L (Aa 3) (opM ixA (m2L (opM ixA (m2L (opM ixA (m2L (Aa 1) (Ae (.int 1)))) (Af An (Ab (Aa 0) (Ab (opM Bv (Ab (opM ixA (m2L (Aa 1) (Ae (.int 1)))) Ad)) Ad))))) (Ae (.int 0)))))))) (retS (Aa 3)))
noncomputable def Bi:Fn:=fnM 3 5 C5
noncomputable def EK:MS:=Ax (Hq (Af Cj (Ab (Aa 0) (Ab (Aa 1) Ad)))) (Ax (Ay 3 (Af CY (Ab (Aa 0) (Ab (Aa 1) Ad)))) (Ax (ifS (Aw (opM leA (m2L (opM Bv (Ab (Aa 3) Ad)) (Ae (.int 1))))) (Fs) AK) (Ax (Ay 4 (CN BI (Ae (.str (Str.ofString ""))) (m1L (opM LC (m2L (Aa 3) (Ae (.int 1))))))) (retS (AI (Bm (Aa 2)) 0 Cz (FJ (Ab (Aj (opM Jj (m2L (opM ixA (m2L (Aa 4) (Ae (.int 0)))) (Aa 0)))) (Ab (Aj (opM Jj (m2L (Aa 5) (Aa 0)))) Ad))))))))
noncomputable def Ee:Fn:=fnM 3 5 EK
noncomputable def BS:FnR:=fnR 3 5 (KO (Hq (Af Cj (Ab (Aa 0) (Ab (Aa 1) Ad)))) (KO (Ay 3 (Af CY (Ab (Aa 0) (Ab (Aa 1) Ad)))) (ifR (Aw (opM leA (m2L (opM Bv (Ab (Aa 3) Ad)) (Ae (.int 1))))) (KD "Whole"))))
noncomputable def HN(C:Addr)(j:Nat):MS:=Ax (Ay 1 (lstM (Ab (Aj (opM (Bs C (0==j)) (m1L (Aa 0)))) (Ab (Aj (opM (Bs C (1==j)) (m1L (Aa 0)))) (Ab (Aj (opM (Bs C (2==j)) (m1L (Aa 0)))) (Ab (Aj (opM (Bs C (3==j)) (m1L (Aa 0)))) Ad)))))) (Ax (Ay 1 (opM AL (m2L (Aa 1) (lstM (Ab (Aj (opM (Bs C (4==j)) (m1L (Aa 0)))) (Ab (Aj (opM (Bs C (5==j)) (m1L (Aa 0)))) (Ab (Aj (opM (Bs C (6==j)) (m1L (Aa 0)))) (Ab (Aj (opM (Bs C (7==j)) (m1L (Aa 0)))) Ad)))))))) (Ax (Ay 1 (opM AL (m2L (Aa 1) (lstM (Ab (Aj (opM (Bs C (8==j)) (m1L (Aa 0)))) (Ab (Aj (opM (Bs C (9==j)) (m1L (Aa 0)))) (Ab (Aj (opM (Bs C (10==j)) (m1L (Aa 0)))) (Ab (Aj (opM (Bs C (11==j)) (m1L (Aa 0)))) Ad)))))))) (Ax (Ay 1 (opM AL (m2L (Aa 1) (lstM (Ab (Aj (opM (Bs C (12==j)) (m1L (Aa 0)))) (Ab (Aj (opM (Bs C (13==j)) (m1L (Aa 0)))) (Ab (Aj (opM (Bs C (14==j)) (m1L (Aa 0)))) Ad))))))) (Ax (Ay 2 (lstM (Ab (Aj (Ae (.str (Str.ofString "NoHouse")))) (Ab (Aj (Ae (.str (Str.ofString "NoRow")))) (Ab (Aj (Ae (.str (Str.ofString "NoMachine")))) (Ab (Aj (Ae (.str (Str.ofString "NoRoom")))) (Ab (Aj (Ae (.str (Str.ofString "NoHand")))) (Ab (Aj (Ae (.str (Str.ofString "Unlike")))) (Ab (Aj (Ae (.str (Str.ofString "NoPast")))) (Ab (Aj (Ae (.str (Str.ofString "TooMany")))) (Ab (Aj (Ae (.str (Str.ofString "Torn")))) (Ab (Aj (Ae (.str (Str.ofString "NoTable")))) Ad)))))))))))) (Ax (Ay 2 (opM AL (m2L (Aa 2) (lstM (Ab (Aj (Ae (.str (Str.ofString "NoSet")))) (Ab (Aj (Ae (.str (Str.ofString "Falls")))) (Ab (Aj (Ae (.str (Str.ofString "Whole")))) (Ab (Aj (Ae (.str (Str.ofString "NoText")))) (Ab (Aj (Ae (.str (Str.ofString "NoWord")))) Ad))))))))) (Ax (Ay 3 (AI (Bm (Ae (.int 15))) 0 (Aw (opM ixA (m2L (Aa 2) (Aa 0)))) (opM ixA (m2L (Aa 3) (Aa 0))))) (Ax (ifS (orT (Aw (opM neA (m2L (opM Bv (Ab (Aa 3) Ad)) (Ae (.int 1))))) (BF (Aw (opM (Bs C true) (m1L (Aa 0)))))) (retS (Ae (.str (Str.ofString "else")))) AK) (retS (opM ixA (m2L (Aa 3) (Ae (.int 0))))))))))))
noncomputable def Gv(C:Addr)(j:Nat):Fn:=fnM 1 4 (HN C j)
noncomputable def AG:Fn:=Mt Ee BS
noncomputable def CI:MS:=Ax (ifS (Aw (opM ltA (m2L (Aa 1) (opM Bv (Ab (Aa 0) Ad))))) (retS (opM ixA (m2L (Aa 0) (Aa 1)))) AK) (retS (Ae (.int 0)))
noncomputable def BG:Fn:=fnM 2 2 CI
noncomputable def Ei:MS:=Ax (Ay 3 (opM Gs (Ab (opM ixA (m2L (Aa 0) (Ae (.int 1)))) Ad))) (retS (opM FF (Ab (AI (By (opM GU (m2L (Aa 3) (Aa 1)))) 0 Cz (opM (inA false) (m2L (Aa 0) (opM GU (m2L (Aa 4) (Aa 3)))))) Ad)))
noncomputable def Bc:Fn:=fnM 3 4 Ei
noncomputable def DR:MS:=Ax (Ay 2 (lstM Ad)) (Ax (Ej [3] true (CO (Aa 1)) (Ax (Ay 4 (lstM (Ab (Aj (Aa 3)) Ad))) (Ax (Ay 5 (lstM Ad)) (Ax (Ej [6] true (By (Aa 2)) (ifS (Aw (opM FF (Ab (AI (By (Aa 6)) 0 Cz (Af Bc (Ab (Aa 1) (Ab (Aa 4) (Ab (Aa 0) Ad))))) Ad))) (Ay 4 (opM AL (m2L (Aa 4) (Aa 6)))) (CZ 5 (Aa 6)))) (Ay 2 (opM AL (m2L (Aa 5) (lstM (Ab (Aj (Aa 4)) Ad))))))))) (retS (Aa 2)))
noncomputable def Bz:Fn:=fnM 2 7 DR
noncomputable def Dy:MS:=retS (AI (Bm (opM ixA (m2L (Aa 0) (Ae (.int 0))))) 0 Cz (CN BI (Ae (.str (Str.ofString ""))) (m1L (AI (CO (Aa 2)) 0 (Aw (opM (inA false) (m2L (Aa 1) (opM GU (m2L (opM Gs (Ab (opM ixA (m2L (Aa 2) (Ae (.int 1)))) Ad)) (Aa 0)))))) (Aa 0)))))
noncomputable def BO:Fn:=fnM 2 2 Dy
noncomputable def C4:MS:=Ax (ifS (Aw (opM eqA (m2L (Aa 2) (Ae (.str (Str.ofString "")))))) (retS (opM eqA (m2L (Aa 1) (Ae (.str (Str.ofString "")))))) AK) (Ax (Ay 3 (opM E8 (m2L (opM Bv (Ab (Aa 1) Ad)) (opM Bv (Ab (Aa 2) Ad))))) (retS (andM (opM eqA (m2L (opM Bv (Ab (Aa 1) Ad)) (opM G1 (m2L (Aa 3) (opM Bv (Ab (Aa 2) Ad)))))) (opM eqA (m2L (Af BO (Ab (Aa 0) (Ab (Aa 1) Ad))) (Af BO (Ab (Aa 0) (Ab (opM Jj (m2L (Aa 2) (Aa 3))) Ad))))))))
noncomputable def Bh:Fn:=fnM 3 4 C4
noncomputable def Dr:MS:=Ax (ifS (orT (BF (Aw (opM (CM Eg) (m1L (Aa 2))))) (Aw (opM neA (m2L (opM Bv (Ab (Aa 2) Ad)) (Aa 3))))) (retS (Ae (.bl false))) AK) (Ax (Ay 4 (AI (By (opM ixA (m2L (Aa 0) (Ae (.int 1))))) 2 Cz (Aa 0))) (Ax (Ej [5] true (By (Aa 2)) (Ax (ifS (orT (BF (Aw (opM (CM isTup) (m1L (Aa 5))))) (orT (Aw (opM neA (m2L (opM Bv (Ab (Aa 5) Ad)) (Ae (.int 2))))) (BF (Aw (opM DM (Ab (AI (By (Aa 5)) 0 Cz (opM (CM isStr) (m1L (Aa 0)))) Ad)))))) (retS (Ae (.bl false))) AK) (ifS (BF (Aw (opM DM (Ab (AI (CO (opM AL (m2L (opM ixA (m2L (Aa 5) (Ae (.int 0)))) (opM ixA (m2L (Aa 5) (Ae (.int 1))))))) 0 Cz (opM (inA false) (m2L (Aa 0) (Aa 5)))) Ad)))) (retS (Ae (.bl false))) AK))) (Ax (Ej [6] true (Bm (Aa 3)) (Ej [7] true (Bm (Aa 3)) (ifS (Aw (opM neA (m2L (Af Bh (Ab (Aa 0) (Ab (opM AL (m2L (opM ixA (m2L (opM ixA (m2L (Aa 2) (Aa 6))) (Ae (.int 0)))) (opM ixA (m2L (opM ixA (m2L (Aa 2) (Aa 7))) (Ae (.int 1)))))) (Ab (Aa 1) Ad)))) (opM eqA (m2L (Aa 6) (Aa 7)))))) (retS (Ae (.bl false))) AK))) (retS (Ae (.bl true))))))
noncomputable def Bb:Fn:=fnM 4 8 Dr
noncomputable def J7:MS:=Ax (Ej [1] true (Bm (opM MZ (Ab (Ae (.int 1)) (Ab (opM M0 (Ab (Ae (.int 3)) (Ab (opM Bv (Ab (Aa 0) Ad)) Ad))) Ad)))) (Ax (Ay 2 (Af Cg (Ab (opM AL (m2L (Af BG (Ab (Aa 0) (Ab (Aa 1) Ad))) (Aa 1))) Ad))) (Ax (Ay 3 (Af BK (Ab (Aa 2) Ad))) (Ax (Ay 4 (Af Bi (Ab (Aa 2) (Ab (Aa 3) (Ab (Ae (.int 6)) Ad))))) (Ax (Ay 5 (opM AL (m2L (Ae (.int 1)) (Af An (Ab (Aa 2) (Ab (Ae (.int 12)) Ad)))))) (Ax (Ay 6 (Af AG (Ab (Aa 3) (Ab (Aa 4) (Ab (Aa 5) Ad))))) (ifS (Aw (opM ltA (m2L (opM Bv (Ab (Af Bz (Ab (Aa 3) (Ab (Aa 4) Ad))) Ad)) (Ae (.int 2))))) (ifS (Aw (opM neA (m2L (Aa 6) (Ae (.str (Str.ofString "Whole")))))) (retS (Ae (.bl false))) AK) (Ax (ifS (BF (Aw (Af Bb (Ab (Aa 3) (Ab (Aa 4) (Ab (Aa 6) (Ab (Aa 5) Ad))))))) (retS (Ae (.bl false))) AK) (Ax (Oq 6) (ifS (BF (Aw (Af Bb (Ab (Aa 3) (Ab (Aa 4) (Ab (Af AG (Ab (Aa 3) (Ab (Aa 4) (Ab (Aa 5) Ad)))) (Ab (Aa 5) Ad))))))) (retS (Ae (.bl false))) AK)))))))))) (retS (Ae (.bl true)))
noncomputable def HU:Fn:=fnM 1 7 J7
local macro_rules | `(tactic| walk_at $s:str)=>do
 let n:=s.getString
 if n.startsWith "v" && n.length < 4 && n != "vis" then `(tactic| exact Ff $(Lean.quote (n.drop 1).toNat!) rfl (by walk_at "vis") dK dK) else Lean.Macro.throwUnsupported
local macro_rules | `(tactic| walk_at "vis")=>`(tactic| first | exact .inl rfl | exact .inr (.inl rfl) | exact .inr (.inr rfl))
local macro_rules | `(tactic| walk_at "loc")=>`(tactic| first | exact .inl rfl | exact .inr rfl)
structure Blt2 (mg:Str->Option Value):Prop where
 sorted:mg "sorted" = none
 set:mg "set" = none
 enumerate:mg "enumerate" = none
section
variable{P:Program}{w:World}{K:Frag}{mg:Str->Option Value}{base:Heap}{XC:Str->Addr}
theorem M6{f:Addr}{fd:FuncData}(F:Fun K "is_pair" "is_pair" (top 20) f fd)(B:Blt mg K)(B2:Blt2 mg):
  FnOk P w K mg base CX0 1 f fd ["thing"] (spJ K CQ 1):=by
 refine Bt (N:=["thing"]) F ⟨rfl,rfl,rfl,dK,rfl,dK,dK⟩ fun cdv A outer s H E hr=>?_;refine Ak ?_;refine AE ?_;refine Ek ?_ ?_;refine Qf rfl rfl B rfl rfl ?_;walk_at "v0";refine ET ?_;refine Dj FQ (El hr) (BE _) ?_ ?_;refine AF BY AX B.len Boot.«len» dK dK rfl rfl rfl ?_;refine Ac rfl ?_ ?_;walk_at "v0";exact Ag;exact Al
theorem LN{f:Addr}{fd:FuncData}(F:Fun K "is_whole" "is_whole" (top 18) f fd)(B:Blt mg K)(B2:Blt2 mg):
  FnOk P w K mg base CX0 1 f fd ["thing"] (spJ K Ci 1):=by
 refine Bt (N:=["thing"]) F ⟨rfl,rfl,rfl,dK,rfl,dK,dK⟩ fun cdv A outer s H E hr=>?_;refine Ak ?_;refine AE ?_;refine Ek ?_ ?_;refine UG rfl rfl B rfl rfl ?_;walk_at "v0";refine ET ?_;refine UK ?_;refine UE rfl rfl B rfl rfl ?_;walk_at "v0"
theorem Fm{f:Addr}{fd:FuncData}(F:Fun K "is_count_of_hands" "is_count_of_hands" (top 29) f fd)(B:Blt mg K)(B2:Blt2 mg)(Dd:Def P w K mg base CX0 1 "is_whole" ["thing"] (spJ K Ci 1))(DW:GInt mg "FEWEST_HANDS" 2)(EO:GInt mg "MOST_HANDS" 4):
  FnOk P w K mg base CX0 2 f fd ["thing"] (spJ K Bp 1):=by
 refine Bt (N:=["thing"]) F ⟨rfl,rfl,rfl,dK,rfl,dK,dK⟩ fun cdv A outer s H E hr=>?_;refine Ak ?_;refine AE ?_;refine Ek ?_ ?_;refine Aq Dd Ap rfl rfl rfl rfl rfl hr (by decide) AO dK rfl rfl rfl ?_;refine Ac rfl ?_ ?_;walk_at "v0";exact Ag;refine ET ?_;refine ML GD GD DG DG (by with_unfolding_all rfl) ?_ ?_ ?_;exact Kh DW rfl dK;walk_at "v0";exact Kh EO rfl dK
theorem Gd{f:Addr}{fd:FuncData}(F:Fun K "is_number_below" "is_number_below" (top 19) f fd)(B:Blt mg K)(B2:Blt2 mg)(Dd:Def P w K mg base CX0 1 "is_whole" ["thing"] (spJ K Ci 1)):
  FnOk P w K mg base CX0 2 f fd ["thing","bound"] (spJ K Bj 2):=by
 refine Bt (N:=["thing","bound"]) F ⟨rfl,rfl,rfl,dK,rfl,dK,dK⟩ fun cdv A outer s H E hr=>?_;refine Ak ?_;refine AE ?_;refine Ek ?_ ?_;refine Aq Dd Ap rfl rfl rfl rfl rfl hr (by decide) AO dK rfl rfl rfl ?_;refine Ac rfl ?_ ?_;walk_at "v0";exact Ag;refine ET ?_;refine ML GD LO DG GG (by with_unfolding_all rfl) ?_ ?_ ?_;exact Al;walk_at "v0";walk_at "v1"
theorem Fj{f:Addr}{fd:FuncData}(F:Fun K "are_numbers_below" "are_numbers_below" (top 22) f fd)(B:Blt mg K)(B2:Blt2 mg)(C1:Def P w K mg base CX0 2 "is_number_below" ["thing","bound"] (spJ K Bj 2)):
  FnOk P w K mg base CX0 3 f fd ["things","bound"] (spJ K BH 2):=by
 refine Bt (N:=["things","bound"]) F ⟨rfl,rfl,rfl,dK,rfl,dK,dK⟩ fun cdv A outer s H E hr=>?_;have nd2:List.Nodup (["things","bound"]:List Str):=by decide +kernel
 refine Ak ?_;refine AE ?_;refine AF Ga (DP rfl) B.all Boot.«all» dK dK rfl rfl rfl ?_;refine Ac rfl ?_ ?_;refine Cn (by rfl) rfl nd2 (by rfl) (fun _=>rfl) ?_ ?_ ?_;refine DZ ?_;walk_at "v0";exact Cs;intro _ _ _ _ _;refine Aq C1 Ap rfl rfl rfl rfl rfl hr (by decide) AO dK rfl rfl rfl ?_;refine Ac rfl ?_ ?_;walk_at "v0";refine Ac rfl ?_ ?_;walk_at "v2";exact Ag;exact Ag
theorem DF{f:Addr}{fd:FuncData}(F:Fun K "is_list_of_numbers_below" "is_list_of_numbers_below" (top 21) f fd)(B:Blt mg K)(B2:Blt2 mg)(CB:Def P w K mg base CX0 3 "are_numbers_below" ["things","bound"] (spJ K BH 2)):
  FnOk P w K mg base CX0 4 f fd ["thing","bound"] (spJ K AU 2):=by
 refine Bt (N:=["thing","bound"]) F ⟨rfl,rfl,rfl,dK,rfl,dK,dK⟩ fun cdv A outer s H E hr=>?_;refine Ak ?_;refine AE ?_;refine Ek ?_ ?_;refine MN rfl rfl B rfl rfl ?_;walk_at "v0";refine ET ?_;refine Aq CB Ap rfl rfl rfl rfl rfl hr (by decide) AO dK rfl rfl rfl ?_;refine Ac rfl ?_ ?_;walk_at "v0";refine Ac rfl ?_ ?_;walk_at "v1";exact Ag
theorem EC{f:Addr}{fd:FuncData}(F:Fun K "is_rising_list_below" "is_rising_list_below" (top 23) f fd)(B:Blt mg K)(B2:Blt2 mg)(BB:Def P w K mg base CX0 4 "is_list_of_numbers_below" ["thing","bound"] (spJ K AU 2)):
  FnOk P w K mg base CX0 5 f fd ["thing","bound"] (spJ K A5 2):=by
 refine Bt (N:=["thing","bound"]) F ⟨rfl,rfl,rfl,dK,rfl,dK,dK⟩ fun cdv A outer s H E hr=>?_;have nd2:List.Nodup (["thing","bound"]:List Str):=by decide +kernel
 refine Ah ?_ ?_;refine BR ?_ ?_ ?_;refine B6 ?_;refine BL (fun _=>rfl) ?_;refine Aq BB Ap rfl rfl rfl rfl rfl hr (by decide) AO dK rfl rfl rfl ?_;refine Ac rfl ?_ ?_;walk_at "v0";refine Ac rfl ?_ ?_;walk_at "v1";exact Ag;refine Ak ?_;refine AE ?_;exact DY;exact A8;refine Ak ?_;refine AE ?_;refine AF Ga (DP rfl) B.all Boot.«all» dK dK rfl rfl rfl ?_;refine Ac rfl ?_ ?_;refine Cn (by rfl) rfl nd2 (by rfl) (fun _=>rfl) ?_ ?_ ?_;refine C8 rfl B.range rfl ?_;refine AD Im Ir ?_ ?_;refine AF BY AX B.len Boot.«len» dK dK rfl rfl rfl ?_;refine Ac rfl ?_ ?_;walk_at "v0";exact Ag;exact Al;exact Cs;intro _ _ _ _ _;refine Dj LO GG (BE _) ?_ ?_;refine AV AW AH (fun _ _=>rfl) ?_ ?_;walk_at "v1";walk_at "v0";refine AV AW AH (fun _ _=>rfl) ?_ ?_;walk_at "v1";refine AD Bw A3 ?_ ?_;walk_at "v0";exact Al;exact Ag
theorem Ge{f:Addr}{fd:FuncData}(F:Fun K "is_small_letter" "is_small_letter" (top 32) f fd)(B:Blt mg K)(B2:Blt2 mg):
  FnOk P w K mg base CX0 1 f fd ["thing"] (spJ K BC 1):=by
 refine Bt (N:=["thing"]) F ⟨rfl,rfl,rfl,dK,rfl,dK,dK⟩ fun cdv A outer s H E hr=>?_;refine Ak ?_;refine AE ?_;refine Ek ?_ ?_;refine MO rfl rfl B rfl rfl ?_;walk_at "v0";refine Ek ?_ ?_;refine Dj FQ (El hr) (BE _) ?_ ?_;refine AF BY AX B.len Boot.«len» dK dK rfl rfl rfl ?_;refine Ac rfl ?_ ?_;walk_at "v0";exact Ag;exact Al;refine ET ?_;refine ML GD GD DG DG (by with_unfolding_all rfl) ?_ ?_ ?_;exact A9 dK;walk_at "v0";exact A9 dK
theorem LL{f:Addr}{fd:FuncData}(F:Fun K "is_entry" "is_entry" (top 31) f fd)(B:Blt mg K)(B2:Blt2 mg)(BU:Def P w K mg base CX0 5 "is_rising_list_below" ["thing","bound"] (spJ K A5 2))(DI:Def P w K mg base CX0 1 "is_pair" ["thing"] (spJ K CQ 1))(C2:Def P w K mg base CX0 1 "is_small_letter" ["thing"] (spJ K BC 1)):
  FnOk P w K mg base CX0 6 f fd ["hands","thing"] (spJ K CW 2):=by
 refine Bt (N:=["hands","thing"]) F ⟨rfl,rfl,rfl,dK,rfl,dK,dK⟩ fun cdv A outer s H E hr=>?_;refine Ah ?_ ?_;refine BR ?_ ?_ ?_;refine Gz ?_;refine JB ?_ ?_;refine B6 ?_;refine BL (fun _=>rfl) ?_;refine Aq DI Ap rfl rfl rfl rfl rfl hr (by decide) AO dK rfl rfl rfl ?_;refine Ac rfl ?_ ?_;walk_at "v1";exact Ag;refine Ib ?_;refine B6 ?_;refine BL (fun _=>rfl) ?_;refine Aq C2 Ap rfl rfl rfl rfl rfl hr (by decide) AO dK rfl rfl rfl ?_;refine Ac rfl ?_ ?_;refine AV AW AH (fun _ _=>rfl) ?_ ?_;walk_at "v1";exact Al;exact Ag;refine Ak ?_;refine AE ?_;exact DY;exact A8;refine Ak ?_;refine AE ?_;refine Ek ?_ ?_;refine Aq BU Ap rfl rfl rfl rfl rfl hr (by decide) AO dK rfl rfl rfl ?_;refine Ac rfl ?_ ?_;refine AV AW AH (fun _ _=>rfl) ?_ ?_;walk_at "v1";exact Al;refine Ac rfl ?_ ?_;walk_at "v0";exact Ag;refine ET ?_;refine Dj WM WQ (BE _) ?_ ?_;refine AF BY AX B.len Boot.«len» dK dK rfl rfl rfl ?_;refine Ac rfl ?_ ?_;refine AV AW AH (fun _ _=>rfl) ?_ ?_;walk_at "v1";exact Al;exact Ag;exact Al
theorem Ih{f:Addr}{fd:FuncData}(F:Fun K "are_entries" "are_entries" (top 30) f fd)(B:Blt mg K)(B2:Blt2 mg)(FT:Def P w K mg base CX0 6 "is_entry" ["hands","thing"] (spJ K CW 2))(DX:GInt mg "MOST_LETTERS" 6):
  FnOk P w K mg base CX0 7 f fd ["hands","thing"] (spJ K C7 2):=by
 refine Bt (N:=["hands","thing"]) F ⟨rfl,rfl,rfl,dK,rfl,dK,dK⟩ fun cdv A outer s H E hr=>?_;have nd2:List.Nodup (["hands","thing"]:List Str):=by decide +kernel
 refine Ah ?_ ?_;refine BR ?_ ?_ ?_;refine Gz ?_;refine JB ?_ ?_;refine B6 ?_;refine BL (fun _=>rfl) ?_;refine MN rfl rfl B rfl rfl ?_;walk_at "v1";refine Ib ?_;refine B6 ?_;refine UM GD GD DG DG (by with_unfolding_all rfl) ?_ ?_ ?_;exact Al;refine AF BY AX B.len Boot.«len» dK dK rfl rfl rfl ?_;refine Ac rfl ?_ ?_;walk_at "v1";exact Ag;exact Kh DX rfl dK;refine Ak ?_;refine AE ?_;exact DY;exact A8;refine Ah ?_ ?_;refine BR ?_ ?_ ?_;refine B6 ?_;refine BL (fun _=>rfl) ?_;refine AF Ga (DP rfl) B.all Boot.«all» dK dK rfl rfl rfl ?_;refine Ac rfl ?_ ?_;refine Cn (by rfl) rfl nd2 (by rfl) (fun _=>rfl) ?_ ?_ ?_;refine DZ ?_;walk_at "v1";exact Cs;intro _ _ _ _ _;refine Aq FT Ap rfl rfl rfl rfl rfl hr (by decide) AO dK rfl rfl rfl ?_;refine Ac rfl ?_ ?_;walk_at "v1";refine Ac rfl ?_ ?_;walk_at "v0";exact Ag;exact Ag;refine Ak ?_;refine AE ?_;exact DY;exact A8;refine Ak ?_;refine AE ?_;refine AF Ga (DP rfl) B.all Boot.«all» dK dK rfl rfl rfl ?_;refine Ac rfl ?_ ?_;refine Cn (by rfl) rfl nd2 (by rfl) (fun _=>rfl) ?_ ?_ ?_;refine C8 rfl B.range rfl ?_;refine AD Im Ir ?_ ?_;refine AF BY AX B.len Boot.«len» dK dK rfl rfl rfl ?_;refine Ac rfl ?_ ?_;walk_at "v1";exact Ag;exact Al;exact Cs;intro _ _ _ _ _;refine Dj LO GG (BE _) ?_ ?_;refine AV AW AH (fun _ _=>rfl) ?_ ?_;refine AV AW AH (fun _ _=>rfl) ?_ ?_;walk_at "v2";walk_at "v0";exact Al;refine AV AW AH (fun _ _=>rfl) ?_ ?_;refine AV AW AH (fun _ _=>rfl) ?_ ?_;walk_at "v2";refine AD Bw A3 ?_ ?_;walk_at "v0";exact Al;exact Al;exact Ag
theorem LM{f:Addr}{fd:FuncData}(F:Fun K "is_house" "is_house" (top 28) f fd)(B:Blt mg K)(B2:Blt2 mg)(DI:Def P w K mg base CX0 1 "is_pair" ["thing"] (spJ K CQ 1))(CC:Def P w K mg base CX0 2 "is_count_of_hands" ["thing"] (spJ K Bp 1))(Eh:Def P w K mg base CX0 7 "are_entries" ["hands","thing"] (spJ K C7 2)):
  FnOk P w K mg base CX0 8 f fd ["thing"] (spJ K Dt 1):=by
 refine Bt (N:=["thing"]) F ⟨rfl,rfl,rfl,dK,rfl,dK,dK⟩ fun cdv A outer s H E hr=>?_;refine Ah ?_ ?_;refine BR ?_ ?_ ?_;refine B6 ?_;refine BL (fun _=>rfl) ?_;refine Aq DI Ap rfl rfl rfl rfl rfl hr (by decide) AO dK rfl rfl rfl ?_;refine Ac rfl ?_ ?_;walk_at "v0";exact Ag;refine Ak ?_;refine AE ?_;exact DY;exact A8;refine Ak ?_;refine AE ?_;refine Ek ?_ ?_;refine Aq CC Ap rfl rfl rfl rfl rfl hr (by decide) AO dK rfl rfl rfl ?_;refine Ac rfl ?_ ?_;refine AV AW AH (fun _ _=>rfl) ?_ ?_;walk_at "v0";exact Al;exact Ag;refine ET ?_;refine Aq Eh Ap rfl rfl rfl rfl rfl hr (by decide) AO dK rfl rfl rfl ?_;refine Ac rfl ?_ ?_;refine AV AW AH (fun _ _=>rfl) ?_ ?_;walk_at "v0";exact Al;refine Ac rfl ?_ ?_;refine AV AW AH (fun _ _=>rfl) ?_ ?_;walk_at "v0";exact Al;exact Ag
theorem Jg{f:Addr}{fd:FuncData}(F:Fun K "need_house" "need_house" (top 33) f fd)(B:Blt mg K)(B2:Blt2 mg)(FU:Def P w K mg base CX0 8 "is_house" ["thing"] (spJ K Dt 1)):
  FnOk P w K mg base CX0 9 f fd ["house"] (spJ K CL 1):=by
 refine Bt (N:=["house"]) F ⟨rfl,rfl,rfl,dK,rfl,dK,dK⟩ fun cdv A outer s H E hr=>?_;refine Ak ?_;refine BR ?_ ?_ ?_;refine B6 ?_;refine BL (fun _=>rfl) ?_;refine Aq FU Ap rfl rfl rfl rfl rfl hr (by decide) AO dK rfl rfl rfl ?_;refine Ac rfl ?_ ?_;walk_at "v0";exact Ag;refine Ak ?_;exact Ia;exact A8
theorem Jf{f:Addr}{fd:FuncData}(F:Fun K "letters_of" "letters_of" (top 34) f fd)(B:Blt mg K)(B2:Blt2 mg):
  FnOk P w K mg base CX0 1 f fd ["house"] (spJ K B4 1):=by
 refine Bt (N:=["house"]) F ⟨rfl,rfl,rfl,dK,rfl,dK,dK⟩ fun cdv A outer s H E hr=>?_;have nd1:List.Nodup (["house"]:List Str):=by decide +kernel
 refine Ak ?_;refine AE ?_;refine Fy rfl rfl B rfl ?_ ?_;exact A9 dK;refine Cn (by rfl) rfl nd1 (by rfl) (fun _=>rfl) ?_ ?_ ?_;refine DZ ?_;refine AV AW AH (fun _ _=>rfl) ?_ ?_;walk_at "v0";exact Al;exact Cs;intro _ _ _ _ _;refine AV AW AH (fun _ _=>rfl) ?_ ?_;walk_at "v0";exact Al
theorem OT{f:Addr}{fd:FuncData}(F:Fun K "is_row" "is_row" (top 37) f fd)(B:Blt mg K)(B2:Blt2 mg)(EH:Def P w K mg base CX0 9 "need_house" ["house"] (spJ K CL 1))(Cr:Def P w K mg base CX0 1 "letters_of" ["house"] (spJ K B4 1)):
  FnOk P w K mg base CX0 10 f fd ["house","thing"] (spJ K Fu 2):=by
 refine Bt (N:=["house","thing","letters"]) F ⟨rfl,rfl,rfl,dK,rfl,dK,dK⟩ fun cdv A outer s H E hr=>?_;have nd3:List.Nodup (["house","thing","letters"]:List Str):=by decide +kernel
 refine Ah ?_ ?_;refine MQ rfl ?_;refine Aq EH Ap rfl rfl rfl rfl rfl hr (by decide) AO dK rfl rfl rfl ?_;refine Ac rfl ?_ ?_;walk_at "v0";exact Ag;refine Ah ?_ ?_;refine BR ?_ ?_ ?_;refine B6 ?_;refine BL (fun _=>rfl) ?_;refine MO rfl rfl B rfl rfl ?_;walk_at "v1";refine Ak ?_;refine AE ?_;exact DY;exact A8;refine Ah ?_ ?_;refine AJ 2 nd3 rfl (by walk_at "loc") rfl rfl ?_;refine Aq Cr Ap rfl rfl rfl rfl rfl hr (by decide) AO dK rfl rfl rfl ?_;refine Ac rfl ?_ ?_;walk_at "v0";exact Ag;refine Ak ?_;refine AE ?_;refine AF Ga (DP rfl) B.all Boot.«all» dK dK rfl rfl rfl ?_;refine Ac rfl ?_ ?_;refine Cn (by rfl) rfl nd3 (by rfl) (fun _=>rfl) ?_ ?_ ?_;refine F7 ?_;walk_at "v1";exact Cs;intro _ _ _ _ _;refine Dj (Ii false) Io (by with_unfolding_all rfl) ?_ ?_;walk_at "v0";walk_at "v3";exact Ag
theorem LQ{f:Addr}{fd:FuncData}(F:Fun K "need_row" "need_row" (top 38) f fd)(B:Blt mg K)(B2:Blt2 mg)(HF:Def P w K mg base CX0 10 "is_row" ["house","thing"] (spJ K Fu 2)):
  FnOk P w K mg base CX0 11 f fd ["house","row"] (spJ K Cj 2):=by
 refine Bt (N:=["house","row"]) F ⟨rfl,rfl,rfl,dK,rfl,dK,dK⟩ fun cdv A outer s H E hr=>?_;refine Ak ?_;refine BR ?_ ?_ ?_;refine B6 ?_;refine BL (fun _=>rfl) ?_;refine Aq HF Ap rfl rfl rfl rfl rfl hr (by decide) AO dK rfl rfl rfl ?_;refine Ac rfl ?_ ?_;walk_at "v0";refine Ac rfl ?_ ?_;walk_at "v1";exact Ag;refine Ak ?_;exact Ia;exact A8
theorem LJ{f:Addr}{fd:FuncData}(F:Fun K "hands_of" "hands_of" (top 35) f fd)(B:Blt mg K)(B2:Blt2 mg)(Cr:Def P w K mg base CX0 1 "letters_of" ["house"] (spJ K B4 1)):
  FnOk P w K mg base CX0 2 f fd ["house","letter"] (spJ K Ao 2):=by
 refine Bt (N:=["house","letter"]) F ⟨rfl,rfl,rfl,dK,rfl,dK,dK⟩ fun cdv A outer s H E hr=>?_;refine Ak ?_;refine AE ?_;refine AV AW AH (fun _ _=>rfl) ?_ ?_;refine AV AW AH (fun _ _=>rfl) ?_ ?_;refine AV AW AH (fun _ _=>rfl) ?_ ?_;walk_at "v0";exact Al;refine Qe rfl rfl B rfl rfl ?_ ?_;refine Aq Cr Ap rfl rfl rfl rfl rfl hr (by decide) AO dK rfl rfl rfl ?_;refine Ac rfl ?_ ?_;walk_at "v0";exact Ag;walk_at "v1";exact Al
theorem Gb{f:Addr}{fd:FuncData}(F:Fun K "is_hand_in_both" "is_hand_in_both" (top 36) f fd)(B:Blt mg K)(B2:Blt2 mg):
  FnOk P w K mg base CX0 1 f fd ["hands","others"] (spJ K Am 2):=by
 refine Bt (N:=["hands","others"]) F ⟨rfl,rfl,rfl,dK,rfl,dK,dK⟩ fun cdv A outer s H E hr=>?_;have nd2:List.Nodup (["hands","others"]:List Str):=by decide +kernel
 refine Ak ?_;refine AE ?_;refine AF M5 (HK rfl) B.any Boot.«any» dK dK rfl rfl rfl ?_;refine Ac rfl ?_ ?_;refine Cn (by rfl) rfl nd2 (by rfl) (fun _=>rfl) ?_ ?_ ?_;refine DZ ?_;walk_at "v0";exact Cs;intro _ _ _ _ _;refine Dj (Ii false) Io (by with_unfolding_all rfl) ?_ ?_;walk_at "v0";walk_at "v2";exact Ag
theorem G5{f:Addr}{fd:FuncData}(F:Fun K "hands_hanging" "hands_hanging" (top 45) f fd)(B:Blt mg K)(B2:Blt2 mg)(BA:Def P w K mg base CX0 2 "hands_of" ["house","letter"] (spJ K Ao 2))(AS:Def P w K mg base CX0 1 "is_hand_in_both" ["hands","others"] (spJ K Am 2)):
  FnOk P w K mg base CX0 3 f fd ["house","row"] (spJ K A4 2):=by
 refine Bt (N:=["house","row","hands","turn","letter"]) F ⟨rfl,rfl,rfl,dK,rfl,dK,dK⟩ fun cdv A outer s H E hr=>?_;have nd5:List.Nodup (["house","row","hands","turn","letter"]:List Str):=by decide +kernel
 refine Ah ?_ ?_;refine AJ 2 nd5 rfl (by walk_at "loc") rfl rfl ?_;refine HZ Sm J4 B.list Boot.«list» dK dK rfl rfl rfl ?_;refine Ac rfl ?_ ?_;refine Aq BA Ap rfl rfl rfl rfl rfl hr (by decide) AO dK rfl rfl rfl ?_;refine Ac rfl ?_ ?_;walk_at "v0";refine Ac rfl ?_ ?_;refine AV AW AH (fun _ _=>rfl) ?_ ?_;walk_at "v1";exact Al;exact Ag;exact Ag;refine Ah ?_ ?_;refine D0 PassesOwn.never rfl ?_ ?_ ?_ (fun _=>rfl);refine C8 rfl B.range rfl ?_;refine AV AW AH (fun _ _=>rfl) ?_ ?_;walk_at "v0";exact Al;exact Em 3 nd5 rfl (by walk_at "loc") rfl;refine Ak ?_;refine D0 PassesOwn.never rfl ?_ ?_ ?_ (fun _=>rfl);refine F7 ?_;walk_at "v1";exact Em 4 nd5 rfl (by walk_at "loc") rfl;refine Ak ?_;refine BR ?_ ?_ ?_;refine BL (fun _=>rfl) ?_;refine Aq AS Ap rfl rfl rfl rfl rfl hr (by decide) AO dK rfl rfl rfl ?_;refine Ac rfl ?_ ?_;refine Aq BA Ap rfl rfl rfl rfl rfl hr (by decide) AO dK rfl rfl rfl ?_;refine Ac rfl ?_ ?_;walk_at "v0";refine Ac rfl ?_ ?_;walk_at "v4";exact Ag;refine Ac rfl ?_ ?_;walk_at "v2";exact Ag;refine Ak ?_;refine Qk 2 rfl (by walk_at "vis") dK dK rfl rfl rfl rfl ?_;refine Cn (by rfl) rfl nd5 (by rfl) (fun _=>rfl) ?_ ?_ ?_;refine DZ ?_;refine Aq BA Ap rfl rfl rfl rfl rfl hr (by decide) AO dK rfl rfl rfl ?_;refine Ac rfl ?_ ?_;walk_at "v0";refine Ac rfl ?_ ?_;walk_at "v4";exact Ag;refine Fz fun _ _ _ _ _=>?_;refine Cp (Ii true) JH (by with_unfolding_all rfl) ?_ ?_;walk_at "v0";walk_at "v3";intro _ _ _ _ _;walk_at "v0";exact A8;refine Ak ?_;refine AE ?_;walk_at "v2"
theorem Ht{f:Addr}{fd:FuncData}(F:Fun K "front_places" "front_places" (top 42) f fd)(B:Blt mg K)(B2:Blt2 mg)(BA:Def P w K mg base CX0 2 "hands_of" ["house","letter"] (spJ K Ao 2))(AS:Def P w K mg base CX0 1 "is_hand_in_both" ["hands","others"] (spJ K Am 2)):
  FnOk P w K mg base CX0 3 f fd ["house","row"] (spJ K Bu 2):=by
 refine Bt (N:=["house","row","places","busy","place","letter","hands"]) F ⟨rfl,rfl,rfl,dK,rfl,dK,dK⟩ fun cdv A outer s H E hr=>?_;have nd7:List.Nodup (["house","row","places","busy","place","letter","hands"]:List Str):=by decide +kernel
 refine Ah ?_ ?_;refine AJ 2 nd7 rfl (by walk_at "loc") rfl rfl ?_;refine Co ?_;exact Ag;refine Ah ?_ ?_;refine AJ 3 nd7 rfl (by walk_at "loc") rfl rfl ?_;refine Co ?_;exact Ag;refine Ah ?_ ?_;refine D0 PassesOwn.never rfl ?_ ?_ ?_ (fun _=>rfl);refine R5 rfl B2.enumerate rfl ?_;walk_at "v1";refine SI rfl ?_ rfl rfl;refine LW 4 nd7 rfl (by walk_at "loc") rfl ?_ rfl;refine LW 5 nd7 rfl (by walk_at "loc") rfl ?_ rfl;exact SJ;refine Ah ?_ ?_;refine AJ 6 nd7 rfl (by walk_at "loc") rfl rfl ?_;refine Aq BA Ap rfl rfl rfl rfl rfl hr (by decide) AO dK rfl rfl rfl ?_;refine Ac rfl ?_ ?_;walk_at "v0";refine Ac rfl ?_ ?_;walk_at "v5";exact Ag;refine Ah ?_ ?_;refine BR ?_ ?_ ?_;refine B6 ?_;refine BL (fun _=>rfl) ?_;refine Aq AS Ap rfl rfl rfl rfl rfl hr (by decide) AO dK rfl rfl rfl ?_;refine Ac rfl ?_ ?_;walk_at "v6";refine Ac rfl ?_ ?_;walk_at "v3";exact Ag;refine Ak ?_;refine H0 2 rfl (by walk_at "vis") dK dK rfl rfl rfl rfl ?_;walk_at "v4";exact A8;refine Ak ?_;refine Qk 3 rfl (by walk_at "vis") dK dK rfl rfl rfl rfl ?_;walk_at "v6";refine Ak ?_;refine AE ?_;walk_at "v2"
theorem GF{f c b:Addr}{fd:FuncData}(F:Fun K "place_of_first" "place_of_first" (top 41) f fd)(hn:PySem.W.nsIn K mainGlobals Be=some (some (.ref f)))(ht:PySem.W.tabIn K Be=some (c,b))(hh:PySem.W.codeHdIn K c b=true)(B:Blt mg K)(B2:Blt2 mg)(DJ:Def P w K mg base CX0 3 "front_places" ["house","row"] (spJ K Bu 2)):
  FnOk P w K mg base CX0 4 f fd ["house","row"] (spJ K AZ 2):=by
 refine Uu (N:=["house","row"]) F hn ht ⟨rfl,rfl,rfl,dK,rfl,dK,dK⟩ fun A outer s H E hr=>?_;refine Ak ?_;refine AE ?_;refine R1 1 rfl hr ht hh B.min rfl rfl rfl rfl rfl rfl rfl rfl (fun _ _ _ _=>rfl) rfl rfl rfl (by decide) rfl rfl dK dK dK rfl ?_;refine Aq DJ Ap rfl rfl rfl rfl rfl hr (by decide) AO dK rfl rfl rfl ?_;refine Ac rfl ?_ ?_;walk_at "v0";refine Ac rfl ?_ ?_;walk_at "v1";exact Ag
theorem Hu{f:Addr}{fd:FuncData}(F:Fun K "least_row_of" "least_row_of" (top 40) f fd)(B:Blt mg K)(B2:Blt2 mg)(Dg:Def P w K mg base CX0 4 "place_of_first" ["house","row"] (spJ K AZ 2)):
  FnOk P w K mg base CX0 5 f fd ["house","row"] (spJ K Bg 2):=by
 refine Bt (N:=["house","row","letters","place"]) F ⟨rfl,rfl,rfl,dK,rfl,dK,dK⟩ fun cdv A outer s H E hr=>?_;have nd4:List.Nodup (["house","row","letters","place"]:List Str):=by decide +kernel
 refine Ah ?_ ?_;refine AJ 2 nd4 rfl (by walk_at "loc") rfl rfl ?_;refine Co ?_;exact Ag;refine Ah ?_ ?_;refine Ly 41 PassesOwn.never ?_ ?_;refine NU (fun _=>rfl) ?_;walk_at "v1";refine Ah ?_ ?_;refine AJ 3 nd4 rfl (by walk_at "loc") rfl rfl ?_;refine Aq Dg Ap rfl rfl rfl rfl rfl hr (by decide) AO dK rfl rfl rfl ?_;refine Ac rfl ?_ ?_;walk_at "v0";refine Ac rfl ?_ ?_;walk_at "v1";exact Ag;refine Ah ?_ ?_;refine H0 2 rfl (by walk_at "vis") dK dK rfl rfl rfl rfl ?_;refine AV AW AH (fun _ _=>rfl) ?_ ?_;walk_at "v1";walk_at "v3";refine Ak ?_;refine AJ 1 nd4 rfl (by walk_at "loc") rfl rfl ?_;refine AD Bw A3 ?_ ?_;refine R3 ?_ ?_;walk_at "v1";walk_at "v3";refine R4 ?_ ?_;walk_at "v1";refine AD Bw A3 ?_ ?_;walk_at "v3";exact Al;refine Ak ?_;refine AE ?_;refine Fy rfl rfl B rfl ?_ ?_;exact A9 dK;walk_at "v2"
theorem LR{f:Addr}{fd:FuncData}(F:Fun K "parts_of" "parts_of" (top 44) f fd)(B:Blt mg K)(B2:Blt2 mg)(Dw:Def P w K mg base CX0 3 "hands_hanging" ["house","row"] (spJ K A4 2))(DK:Def P w K mg base CX0 5 "least_row_of" ["house","row"] (spJ K Bg 2))(AS:Def P w K mg base CX0 1 "is_hand_in_both" ["hands","others"] (spJ K Am 2))(BA:Def P w K mg base CX0 2 "hands_of" ["house","letter"] (spJ K Ao 2)):
  FnOk P w K mg base CX0 6 f fd ["house","row"] (spJ K CY 2):=by
 refine Bt (N:=["house","row","told","hands","within"]) F ⟨rfl,rfl,rfl,dK,rfl,dK,dK⟩ fun cdv A outer s H E hr=>?_;have nd5:List.Nodup (["house","row","told","hands","within"]:List Str):=by decide +kernel
 refine Ah ?_ ?_;refine AJ 2 nd5 rfl (by walk_at "loc") rfl rfl ?_;refine Co ?_;exact Ag;refine Ah ?_ ?_;refine Ly 41 PassesOwn.never ?_ ?_;refine NU (fun _=>rfl) ?_;walk_at "v1";refine Ah ?_ ?_;refine AJ 3 nd5 rfl (by walk_at "loc") rfl rfl ?_;refine Aq Dw Ap rfl rfl rfl rfl rfl hr (by decide) AO dK rfl rfl rfl ?_;refine Ac rfl ?_ ?_;walk_at "v0";refine Ac rfl ?_ ?_;walk_at "v1";exact Ag;refine Ah ?_ ?_;refine AJ 4 nd5 rfl (by walk_at "loc") rfl rfl ?_;refine Cn (by rfl) rfl nd5 (by rfl) (fun _=>rfl) ?_ ?_ ?_;refine F7 ?_;walk_at "v1";refine Fz fun _ _ _ _ _=>?_;refine BL (fun _=>rfl) ?_;refine Aq AS Ap rfl rfl rfl rfl rfl hr (by decide) AO dK rfl rfl rfl ?_;refine Ac rfl ?_ ?_;refine Aq BA Ap rfl rfl rfl rfl rfl hr (by decide) AO dK rfl rfl rfl ?_;refine Ac rfl ?_ ?_;walk_at "v1";refine Ac rfl ?_ ?_;walk_at "v0";exact Ag;refine Ac rfl ?_ ?_;walk_at "v4";exact Ag;intro _ _ _ _ _;walk_at "v0";refine Ah ?_ ?_;refine H0 2 rfl (by walk_at "vis") dK dK rfl rfl rfl rfl ?_;refine Aq DK Ap rfl rfl rfl rfl rfl hr (by decide) AO dK rfl rfl rfl ?_;refine Ac rfl ?_ ?_;walk_at "v0";refine Ac rfl ?_ ?_;refine Fy rfl rfl B rfl ?_ ?_;exact A9 dK;walk_at "v4";exact Ag;refine Ak ?_;refine AJ 1 nd5 rfl (by walk_at "loc") rfl rfl ?_;refine Fy rfl rfl B rfl ?_ ?_;exact A9 dK;refine Cn (by rfl) rfl nd5 (by rfl) (fun _=>rfl) ?_ ?_ ?_;refine F7 ?_;walk_at "v1";refine Fz fun _ _ _ _ _=>?_;refine Cp (Ii true) JH (by with_unfolding_all rfl) ?_ ?_;walk_at "v0";walk_at "v5";intro _ _ _ _ _;walk_at "v0";refine Ak ?_
 refine AE ?_;refine AF M9 J5 B2.sorted Boot.«sorted» dK dK rfl rfl rfl ?_;refine Ac rfl ?_ ?_;walk_at "v2";exact Ag
theorem LI{f:Addr}{fd:FuncData}(F:Fun K "_law_bag" "_law_bag" (top 51) f fd)(B:Blt mg K)(B2:Blt2 mg):
  FnOk P w K mg base CX0 1 f fd ["_law_cell_here"] (spJ K Cg 1):=by
 refine Bt (N:=["_law_cell_here"]) F ⟨rfl,rfl,rfl,dK,rfl,dK,dK⟩ fun cdv A outer s H E hr=>?_;refine Ah ?_ ?_;refine BR ?_ ?_ ?_;refine Cp WL WO (BE _) ?_ ?_;refine AF QC K9 B.abs Boot.«abs» dK dK rfl rfl rfl ?_;refine Ac rfl ?_ ?_;walk_at "v0";exact Ag;refine AD U4 U9 ?_ ?_;exact Al;exact Al;refine Ak ?_;refine AE ?_;refine Co ?_;refine Ac rfl ?_ ?_;refine Az ?_;refine AF QC K9 B.abs Boot.«abs» dK dK rfl rfl rfl ?_;refine Ac rfl ?_ ?_;walk_at "v0";exact Ag;refine Ac rfl ?_ ?_;refine Az ?_;exact Al;exact Ag;exact A8;refine Ak ?_;refine AE ?_;refine Co ?_;refine Ac rfl ?_ ?_;refine Az ?_;refine AD Ik Ip ?_ ?_;walk_at "v0";exact Al;refine Ac rfl ?_ ?_;refine Az ?_;exact Al;exact Ag
theorem Kt{f:Addr}{fd:FuncData}(F:Fun K "_law_take" "_law_take" (top 53) f fd)(B:Blt mg K)(B2:Blt2 mg):
  FnOk P w K mg base CX0 1 f fd ["_law_bag_here","_law_many"] (spJ K An 2):=by
 refine Bt (N:=["_law_bag_here","_law_many","_law_digit"]) F ⟨rfl,rfl,rfl,dK,rfl,dK,dK⟩ fun cdv A outer s H E hr=>?_;have nd3:List.Nodup (["_law_bag_here","_law_many","_law_digit"]:List Str):=by decide +kernel
 refine Ah ?_ ?_;refine BR ?_ ?_ ?_;refine Cp FQ (El hr) (BE _) ?_ ?_;refine AV AW AH (fun _ _=>rfl) ?_ ?_;walk_at "v0";exact Al;exact Al;refine Ah ?_ ?_;refine AJ 2 nd3 rfl (by walk_at "loc") rfl rfl ?_;refine AD Ik Ip ?_ ?_;refine AV AW AH (fun _ _=>rfl) ?_ ?_;walk_at "v0";exact Al;walk_at "v1";refine Ah ?_ ?_;refine MU 0 rfl (by walk_at "vis") dK dK (fun _=>rfl) rfl rfl rfl ?_ ?_;exact Al;refine AD Ku Kv ?_ ?_;refine AV AW AH (fun _ _=>rfl) ?_ ?_;walk_at "v0";exact Al;walk_at "v1";refine Ak ?_;refine AE ?_;walk_at "v2";exact A8;refine Ah ?_ ?_;refine MU 0 rfl (by walk_at "vis") dK dK (fun _=>rfl) rfl rfl rfl ?_ ?_;exact Al;refine AD Ik Ip ?_ ?_;refine AD Bw A3 ?_ ?_;refine AD Bw A3 ?_ ?_;refine AD Il Iq ?_ ?_;refine AV AW AH (fun _ _=>rfl) ?_ ?_;walk_at "v0";exact Al;exact Al;refine AD Il Iq ?_ ?_;refine AD Il Iq ?_ ?_;exact Al;refine AV AW AH (fun _ _=>rfl) ?_ ?_;walk_at "v0";exact Al;refine AV AW AH (fun _ _=>rfl) ?_ ?_;walk_at "v0";exact Al;exact Al;exact Al;refine Ah ?_ ?_;refine MU 0 rfl (by walk_at "vis") dK dK (fun _=>rfl) rfl rfl rfl ?_ ?_;exact Al;refine AD Bw A3 ?_ ?_;refine AV AW AH (fun _ _=>rfl) ?_ ?_;walk_at "v0";exact Al;exact Al;refine Ak ?_;refine AE ?_;refine AD Ik Ip ?_ ?_;refine AD Ku Kv ?_ ?_;refine AD Ik Ip ?_ ?_;refine AD Il Iq ?_ ?_;refine AV AW AH (fun _ _=>rfl) ?_ ?_;walk_at "v0";exact Al;exact Al;exact Al;exact Al;walk_at "v1"
theorem Jd{f:Addr}{fd:FuncData}(F:Fun K "_law_house" "_law_house" (top 54) f fd)(B:Blt mg K)(B2:Blt2 mg)(AR:Def P w K mg base CX0 1 "_law_take" ["_law_bag_here","_law_many"] (spJ K An 2)):
  FnOk P w K mg base CX0 2 f fd ["_law_bag_here"] (spJ K BK 1):=by
 refine Bt (N:=["_law_bag_here","_law_hands","_law_many","_law_few","_law_letters","_law_at","_law_k","_law_bits"]) F ⟨rfl,rfl,rfl,dK,rfl,dK,dK⟩ fun cdv A outer s H E hr=>?_;have nd8:List.Nodup (["_law_bag_here","_law_hands","_law_many","_law_few","_law_letters","_law_at","_law_k","_law_bits"]:List Str):=by decide +kernel
 refine Ah ?_ ?_;refine AJ 1 nd8 rfl (by walk_at "loc") rfl rfl ?_;refine AD Bw A3 ?_ ?_;exact Al;refine Aq AR Ap rfl rfl rfl rfl rfl hr (by decide) AO dK rfl rfl rfl ?_;refine Ac rfl ?_ ?_;walk_at "v0";refine Ac rfl ?_ ?_;exact Al;exact Ag;refine Ah ?_ ?_;refine AJ 2 nd8 rfl (by walk_at "loc") rfl rfl ?_;refine AD Bw A3 ?_ ?_;exact Al;refine Aq AR Ap rfl rfl rfl rfl rfl hr (by decide) AO dK rfl rfl rfl ?_;refine Ac rfl ?_ ?_;walk_at "v0";refine Ac rfl ?_ ?_;exact Al;exact Ag;refine Ah ?_ ?_;refine AJ 3 nd8 rfl (by walk_at "loc") rfl rfl ?_;refine Aq AR Ap rfl rfl rfl rfl rfl hr (by decide) AO dK rfl rfl rfl ?_;refine Ac rfl ?_ ?_;walk_at "v0";refine Ac rfl ?_ ?_;exact Al;exact Ag;refine Ah ?_ ?_;refine AJ 4 nd8 rfl (by walk_at "loc") rfl rfl ?_;refine Co ?_;exact Ag;refine Ah ?_ ?_;refine AJ 5 nd8 rfl (by walk_at "loc") rfl rfl ?_;exact Al;refine Ah ?_ ?_;refine D0 PassesOwn.never rfl ?_ ?_ ?_ (fun _=>rfl);refine C8 rfl B.range rfl ?_;walk_at "v2";exact Em 6 nd8 rfl (by walk_at "loc") rfl;refine Ah ?_ ?_;refine AJ 5 nd8 rfl (by walk_at "loc") rfl rfl ?_;refine AD Bw A3 ?_ ?_;walk_at "v5";refine Aq AR Ap rfl rfl rfl rfl rfl hr (by decide) AO dK rfl rfl rfl ?_;refine Ac rfl ?_ ?_;walk_at "v0";refine Ac rfl ?_ ?_;refine AD Im Ir ?_ ?_;refine AD Bw A3 ?_ ?_;refine AD Im Ir ?_ ?_;exact Al;walk_at "v2";walk_at "v6";walk_at "v5";exact Ag;refine Ah ?_ ?_;refine AJ 7 nd8 rfl (by walk_at "loc") rfl rfl ?_;refine AD Bw A3 ?_ ?_;exact Al;refine Aq AR Ap rfl rfl rfl rfl rfl hr (by decide) AO dK rfl rfl rfl ?_
 refine Ac rfl ?_ ?_;walk_at "v0";refine Ac rfl ?_ ?_;refine AD Im Ir ?_ ?_;refine AD M8 Nb ?_ ?_;exact Al;walk_at "v1";exact Al;exact Ag;refine Ah ?_ ?_;refine BR ?_ ?_ ?_;refine Cp FQ (El hr) (BE _) ?_ ?_;walk_at "v3";exact Al;refine Ak ?_;refine AJ 7 nd8 rfl (by walk_at "loc") rfl rfl ?_;refine AD UX WT ?_ ?_;refine AD M8 Nb ?_ ?_;exact Al;refine Aq AR Ap rfl rfl rfl rfl rfl hr (by decide) AO dK rfl rfl rfl ?_;refine Ac rfl ?_ ?_;walk_at "v0";refine Ac rfl ?_ ?_;walk_at "v1";exact Ag;refine AD M8 Nb ?_ ?_;exact Al;refine Aq AR Ap rfl rfl rfl rfl rfl hr (by decide) AO dK rfl rfl rfl ?_;refine Ac rfl ?_ ?_;walk_at "v0";refine Ac rfl ?_ ?_;walk_at "v1";exact Ag;exact A8;refine Ah ?_ ?_;refine H0 4 rfl (by walk_at "vis") dK dK rfl rfl rfl rfl ?_;refine Ki ?_;refine Ac rfl ?_ ?_;refine Az ?_;refine AV AW AH (fun _ _=>rfl) ?_ ?_;exact A9 dK;walk_at "v5";refine Ac rfl ?_ ?_;refine Az ?_;refine Cn (by rfl) rfl nd8 (by rfl) (fun _=>rfl) ?_ ?_ ?_;refine C8 rfl B.range rfl ?_;walk_at "v1";refine Fz fun _ _ _ _ _=>?_;refine Cp FQ (El hr) (BE _) ?_ ?_;refine AD Sk U7 ?_ ?_;refine AD U5 Va ?_ ?_;walk_at "v8";walk_at "v0";exact Al;exact Al;intro _ _ _ _ _;walk_at "v0";exact Ag;refine Ak ?_;refine AJ 5 nd8 rfl (by walk_at "loc") rfl rfl ?_;refine AD Bw A3 ?_ ?_;walk_at "v5";exact Al;refine Ak ?_;refine AE ?_;refine Ki ?_;refine Ac rfl ?_ ?_;refine Az ?_;walk_at "v1";refine Ac rfl ?_ ?_;refine Az ?_;walk_at "v4";exact Ag
theorem G4{f:Addr}{fd:FuncData}(F:Fun K "_law_word_row" "_law_word_row" (top 55) f fd)(B:Blt mg K)(B2:Blt2 mg)(AR:Def P w K mg base CX0 1 "_law_take" ["_law_bag_here","_law_many"] (spJ K An 2)):
  FnOk P w K mg base CX0 2 f fd ["_law_bag_here","_law_house_here","_law_most"] (spJ K Bi 3):=by
 refine Bt (N:=["_law_bag_here","_law_house_here","_law_most","_law_row","_law_k"]) F ⟨rfl,rfl,rfl,dK,rfl,dK,dK⟩ fun cdv A outer s H E hr=>?_;have nd5:List.Nodup (["_law_bag_here","_law_house_here","_law_most","_law_row","_law_k"]:List Str):=by decide +kernel
 refine Ah ?_ ?_;refine AJ 3 nd5 rfl (by walk_at "loc") rfl rfl ?_;exact A9 dK;refine Ah ?_ ?_;refine D0 PassesOwn.never rfl ?_ ?_ ?_ (fun _=>rfl);refine C8 rfl B.range rfl ?_;refine Aq AR Ap rfl rfl rfl rfl rfl hr (by decide) AO dK rfl rfl rfl ?_;refine Ac rfl ?_ ?_;walk_at "v0";refine Ac rfl ?_ ?_;refine AD Bw A3 ?_ ?_;walk_at "v2";exact Al;exact Ag;exact Em 4 nd5 rfl (by walk_at "loc") rfl;refine Ak ?_;refine AJ 3 nd5 rfl (by walk_at "loc") rfl rfl ?_;refine AD Bw A3 ?_ ?_;walk_at "v3";refine AV AW AH (fun _ _=>rfl) ?_ ?_;refine AV AW AH (fun _ _=>rfl) ?_ ?_;refine AV AW AH (fun _ _=>rfl) ?_ ?_;walk_at "v1";exact Al;refine Aq AR Ap rfl rfl rfl rfl rfl hr (by decide) AO dK rfl rfl rfl ?_;refine Ac rfl ?_ ?_;walk_at "v0";refine Ac rfl ?_ ?_;refine AF BY AX B.len Boot.«len» dK dK rfl rfl rfl ?_;refine Ac rfl ?_ ?_;refine AV AW AH (fun _ _=>rfl) ?_ ?_;walk_at "v1";exact Al;exact Ag;exact Ag;exact Al;refine Ak ?_;refine AE ?_;walk_at "v3"
theorem LS{f:Addr}{fd:FuncData}(F:Fun K "unparted" "unparted" (top 46) f fd)(B:Blt mg K)(B2:Blt2 mg)(De:Def P w K mg base CX0 11 "need_row" ["house","row"] (spJ K Cj 2))(Df:Def P w K mg base CX0 6 "parts_of" ["house","row"] (spJ K CY 2)):
  FnOk P w K mg base CX0 12 f fd ["house","row","many"] (spJ K Ee 3):=by
 refine Bt (N:=["house","row","many","told","rest"]) F ⟨rfl,rfl,rfl,dK,rfl,dK,dK⟩ fun cdv A outer s H E hr=>?_;have nd5:List.Nodup (["house","row","many","told","rest"]:List Str):=by decide +kernel
 refine Ah ?_ ?_;refine MQ rfl ?_;refine Aq De Ap rfl rfl rfl rfl rfl hr (by decide) AO dK rfl rfl rfl ?_;refine Ac rfl ?_ ?_;walk_at "v0";refine Ac rfl ?_ ?_;walk_at "v1";exact Ag;refine Ah ?_ ?_;refine AJ 3 nd5 rfl (by walk_at "loc") rfl rfl ?_;refine Aq Df Ap rfl rfl rfl rfl rfl hr (by decide) AO dK rfl rfl rfl ?_;refine Ac rfl ?_ ?_;walk_at "v0";refine Ac rfl ?_ ?_;walk_at "v1";exact Ag;refine Ah ?_ ?_;refine BR ?_ ?_ ?_;refine Cp GD DG (BE _) ?_ ?_;refine AF BY AX B.len Boot.«len» dK dK rfl rfl rfl ?_;refine Ac rfl ?_ ?_;walk_at "v3";exact Ag;exact Al;refine Ak ?_;exact Ia;exact A8;refine Ah ?_ ?_;refine AJ 4 nd5 rfl (by walk_at "loc") rfl rfl ?_;refine Fy rfl rfl B rfl ?_ ?_;exact A9 dK;refine Qh ?_ ?_;walk_at "v3";exact Al;refine Ak ?_;refine AE ?_;refine Cn (by rfl) rfl nd5 (by rfl) (fun _=>rfl) ?_ ?_ ?_;refine C8 rfl B.range rfl ?_;walk_at "v2";exact Cs;intro _ _ _ _ _;refine Ki ?_;refine Ac rfl ?_ ?_;refine Az ?_;refine AD M7 Kz ?_ ?_;refine AV AW AH (fun _ _=>rfl) ?_ ?_;walk_at "v4";exact Al;walk_at "v0";refine Ac rfl ?_ ?_;refine Az ?_;refine AD M7 Kz ?_ ?_;walk_at "v5";walk_at "v0";exact Ag
theorem Ko{f:Addr}{fd:FuncData}(F:Fun K "unparted" "unparted" (top 46) f fd)(B:Blt mg K)(B2:Blt2 mg)(De:Def P w K mg base CX0 11 "need_row" ["house","row"] (spJ K Cj 2))(Df:Def P w K mg base CX0 6 "parts_of" ["house","row"] (spJ K CY 2))(X_Whole:Exc K mg "Whole" (XC "Whole")):
  FnOk P w K mg base (Fly P w) 12 f fd ["house","row","many"] (spR K XC BS 3):=by
 refine Uw (N:=["house","row","many","told","rest"]) F ⟨rfl,rfl,rfl,dK,rfl,dK,dK⟩ fun cdv A outer s H E hr=>?_;have nd5:List.Nodup (["house","row","many","told","rest"]:List Str):=by decide +kernel
 refine Lx ?_ ?_;refine MQ rfl ?_;refine Aq De Ap rfl rfl rfl rfl rfl hr (by decide) AO dK rfl rfl rfl ?_;refine Ac rfl ?_ ?_;walk_at "v0";refine Ac rfl ?_ ?_;walk_at "v1";exact Ag;refine Lx ?_ ?_;refine AJ 3 nd5 rfl (by walk_at "loc") rfl rfl ?_;refine Aq Df Ap rfl rfl rfl rfl rfl hr (by decide) AO dK rfl rfl rfl ?_;refine Ac rfl ?_ ?_;walk_at "v0";refine Ac rfl ?_ ?_;walk_at "v1";exact Ag;refine Lw ?_;refine WI ?_ ?_;refine Cp GD DG (BE _) ?_ ?_;refine AF BY AX B.len Boot.«len» dK dK rfl rfl rfl ?_;refine Ac rfl ?_ ?_;walk_at "v3";exact Ag;exact Al;refine Lw ?_;exact Qj X_Whole rfl hr rfl dK rfl rfl (A9 dK)
theorem So{f C:Addr}{fd:FuncData}{wd:Str}{j:Nat}(F:Fun K "_law_word" "_law_word" (top 48) f fd)(B:Blt mg K)(W:XW K mg C wd)(hj:∀i,i<15->(K2.getD i "" == wd)=(i==j)):
  FnOkM P w K mg base CX0 1 f fd ["_law_e"] (spJ K (Gv C j) 1):=by
 refine Uv (N:=["_law_e","_law_named","_law_words","_law_some"]) F ⟨rfl,rfl,rfl,dK,rfl,dK,dK⟩ fun cdv A outer s H E hr hmk=>?_;have nd4:List.Nodup (["_law_e","_law_named","_law_words","_law_some"]:List Str):=by decide +kernel
 refine Ah ?_ ?_;refine AJ 1 nd4 rfl (by walk_at "loc") rfl rfl ?_;refine Co ?_;refine Ac rfl ?_ ?_;refine Az ?_;refine CS _ W dK (hj 0 (by decide)) dK rfl rfl B rfl rfl ?_;walk_at "v0";refine Ac rfl ?_ ?_;refine Az ?_;refine CS _ W dK (hj 1 (by decide)) dK rfl rfl B rfl rfl ?_;walk_at "v0";refine Ac rfl ?_ ?_;refine Az ?_;refine CS _ W dK (hj 2 (by decide)) dK rfl rfl B rfl rfl ?_;walk_at "v0";refine Ac rfl ?_ ?_;refine Az ?_;refine CS _ W dK (hj 3 (by decide)) dK rfl rfl B rfl rfl ?_;walk_at "v0";exact Ag;refine Ah ?_ ?_;refine AJ 1 nd4 rfl (by walk_at "loc") rfl rfl ?_;refine AD Bw A3 ?_ ?_;walk_at "v1";refine Co ?_;refine Ac rfl ?_ ?_;refine Az ?_;refine CS _ W dK (hj 4 (by decide)) dK rfl rfl B rfl rfl ?_;walk_at "v0";refine Ac rfl ?_ ?_;refine Az ?_;refine CS _ W dK (hj 5 (by decide)) dK rfl rfl B rfl rfl ?_;walk_at "v0";refine Ac rfl ?_ ?_;refine Az ?_;refine CS _ W dK (hj 6 (by decide)) dK rfl rfl B rfl rfl ?_;walk_at "v0";refine Ac rfl ?_ ?_;refine Az ?_;refine CS _ W dK (hj 7 (by decide)) dK rfl rfl B rfl rfl ?_;walk_at "v0";exact Ag;refine Ah ?_ ?_;refine AJ 1 nd4 rfl (by walk_at "loc") rfl rfl ?_;refine AD Bw A3 ?_ ?_;walk_at "v1";refine Co ?_;refine Ac rfl ?_ ?_;refine Az ?_;refine CS _ W dK (hj 8 (by decide)) dK rfl rfl B rfl rfl ?_;walk_at "v0";refine Ac rfl ?_ ?_;refine Az ?_;refine CS _ W dK (hj 9 (by decide)) dK rfl rfl B rfl rfl ?_;walk_at "v0";refine Ac rfl ?_ ?_;refine Az ?_;refine CS _ W dK (hj 10 (by decide)) dK rfl rfl B rfl rfl ?_;walk_at "v0";refine Ac rfl ?_ ?_
 refine Az ?_;refine CS _ W dK (hj 11 (by decide)) dK rfl rfl B rfl rfl ?_;walk_at "v0";exact Ag;refine Ah ?_ ?_;refine AJ 1 nd4 rfl (by walk_at "loc") rfl rfl ?_;refine AD Bw A3 ?_ ?_;walk_at "v1";refine Co ?_;refine Ac rfl ?_ ?_;refine Az ?_;refine CS _ W dK (hj 12 (by decide)) dK rfl rfl B rfl rfl ?_;walk_at "v0";refine Ac rfl ?_ ?_;refine Az ?_;refine CS _ W dK (hj 13 (by decide)) dK rfl rfl B rfl rfl ?_;walk_at "v0";refine Ac rfl ?_ ?_;refine Az ?_;refine CS _ W dK (hj 14 (by decide)) dK rfl rfl B rfl rfl ?_;walk_at "v0";exact Ag;refine Ah ?_ ?_;refine AJ 2 nd4 rfl (by walk_at "loc") rfl rfl ?_;refine Co ?_;refine Ac rfl ?_ ?_;refine Az ?_;exact A9 dK;refine Ac rfl ?_ ?_;refine Az ?_;exact A9 dK;refine Ac rfl ?_ ?_;refine Az ?_;exact A9 dK;refine Ac rfl ?_ ?_;refine Az ?_;exact A9 dK;refine Ac rfl ?_ ?_;refine Az ?_;exact A9 dK;refine Ac rfl ?_ ?_;refine Az ?_;exact A9 dK;refine Ac rfl ?_ ?_;refine Az ?_;exact A9 dK;refine Ac rfl ?_ ?_;refine Az ?_;exact A9 dK;refine Ac rfl ?_ ?_;refine Az ?_;exact A9 dK;refine Ac rfl ?_ ?_;refine Az ?_;exact A9 dK;exact Ag;refine Ah ?_ ?_;refine AJ 2 nd4 rfl (by walk_at "loc") rfl rfl ?_;refine AD Bw A3 ?_ ?_;walk_at "v2";refine Co ?_;refine Ac rfl ?_ ?_;refine Az ?_;exact A9 dK;refine Ac rfl ?_ ?_;refine Az ?_;exact A9 dK;refine Ac rfl ?_ ?_;refine Az ?_;exact A9 dK;refine Ac rfl ?_ ?_;refine Az ?_;exact A9 dK;refine Ac rfl ?_ ?_;refine Az ?_;exact A9 dK;exact Ag;refine Ah ?_ ?_;refine OH 3 nd4 rfl rfl (by rfl) hmk (by rfl) (fun _=>rfl) rfl ?_ ?_ ?_
 refine Qi rfl B.range rfl ?_;exact Al;refine Fz fun _ _ _ _ _=>?_;refine BL (fun _=>rfl) ?_;refine AV AW AH (fun _ _=>rfl) ?_ ?_;walk_at "v2";walk_at "v0";intro _ _ _ _ _;refine AV AW AH (fun _ _=>rfl) ?_ ?_;walk_at "v3";walk_at "v0";refine Ah ?_ ?_;refine BR ?_ ?_ ?_;refine Gz ?_;refine JB ?_ ?_;refine Cp LP (Su hr) (BE _) ?_ ?_;refine AF BY AX B.len Boot.«len» dK dK rfl rfl rfl ?_;refine Ac rfl ?_ ?_;walk_at "v3";exact Ag;exact Al;refine Ib ?_;refine B6 ?_;refine BL (fun _=>rfl) ?_;refine UH W rfl rfl B rfl rfl ?_;walk_at "v0";refine Ak ?_;refine AE ?_;exact A9 dK;exact A8;refine Ak ?_;refine AE ?_;refine AV AW AH (fun _ _=>rfl) ?_ ?_;walk_at "v3";exact Al
theorem Jc{f HE:Addr}{fd:FuncData}(F:Fun K "_law_asked" "_law_asked" (top 58) f fd)(FV:Def P w K mg base CX0 12 "unparted" ["house","row","many"] (spJ K Ee 3))(DR_unparted:Def P w K mg base (Fly P w) 12 "unparted" ["house","row","many"] (spR K XC BS 3))(hHE:mg "HandError" = some (.ref HE))(W:DefM P w K mg base CX0 1 "_law_word" ["_law_e"] (spJ K (Gv (XC "Whole") 12) 1))(hΨ:∀args z,BS args=some z->Above base (XC z) HE/\z.length<=sizeLine/\∀a o,o.cls=.ref (XC z)->Gv (XC "Whole") 12 [(.lent,.opq a o)]=some (.fz (.str z),[.opq a o])):
  FnOk P w K mg base CX0 13 f fd ["_law_house_here","_law_row","_law_many"] (spJ K AG 3):=
 QD (kg:=12) F ⟨rfl,rfl,rfl,dK,rfl,dK,dK⟩ rfl rfl rfl rfl rfl rfl rfl rfl dK dK dK dK dK dK dK dK dK hHE (FV.mono (by decide)) Ap (DR_unparted.mono (by decide)) Kc W Ap hΨ (by decide) (by decide)
theorem Kq{f:Addr}{fd:FuncData}(F:Fun K "_law_cell" "_law_cell" (top 52) f fd)(B:Blt mg K)(B2:Blt2 mg):
  FnOk P w K mg base CX0 1 f fd ["_law_script","_law_k"] (spJ K BG 2):=by
 refine Bt (N:=["_law_script","_law_k"]) F ⟨rfl,rfl,rfl,dK,rfl,dK,dK⟩ fun cdv A outer s H E hr=>?_;refine Ah ?_ ?_;refine BR ?_ ?_ ?_;refine Cp LO GG (BE _) ?_ ?_;walk_at "v1";refine AF BY AX B.len Boot.«len» dK dK rfl rfl rfl ?_;refine Ac rfl ?_ ?_;walk_at "v0";exact Ag;refine Ak ?_;refine AE ?_;refine AV AW AH (fun _ _=>rfl) ?_ ?_;walk_at "v0";walk_at "v1";exact A8;refine Ak ?_;refine AE ?_;exact Al
theorem Ks{f:Addr}{fd:FuncData}(F:Fun K "_law_hang" "_law_hang" (top 56) f fd)(B:Blt mg K)(B2:Blt2 mg):
  FnOk P w K mg base CX0 1 f fd ["_law_house_here","_law_one","_law_other"] (spJ K Bc 3):=by
 refine Bt (N:=["_law_house_here","_law_one","_law_other","_law_owned"]) F ⟨rfl,rfl,rfl,dK,rfl,dK,dK⟩ fun cdv A outer s H E hr=>?_;have nd4:List.Nodup (["_law_house_here","_law_one","_law_other","_law_owned"]:List Str):=by decide +kernel
 refine Ah ?_ ?_;refine AJ 3 nd4 rfl (by walk_at "loc") rfl rfl ?_;refine HZ NW (HL rfl) B.dict Boot.«dict» dK dK rfl rfl rfl ?_;refine Ac rfl ?_ ?_;refine AV AW AH (fun _ _=>rfl) ?_ ?_;walk_at "v0";exact Al;exact Ag;refine Ak ?_;refine AE ?_;refine AF M5 (HK rfl) B.any Boot.«any» dK dK rfl rfl rfl ?_;refine Ac rfl ?_ ?_;refine Cn (by rfl) rfl nd4 (by rfl) (fun _=>rfl) ?_ ?_ ?_;refine DZ ?_;refine MM hr (fun _ _=>rfl) ?_ ?_;walk_at "v3";walk_at "v1";exact Cs;intro _ _ _ _ _;refine Dj (Ii false) Io (by with_unfolding_all rfl) ?_ ?_;walk_at "v0";refine MM hr (fun _ _=>rfl) ?_ ?_;walk_at "v4";walk_at "v3";exact Ag
theorem Je{f:Addr}{fd:FuncData}(F:Fun K "_law_parts" "_law_parts" (top 57) f fd)(B:Blt mg K)(B2:Blt2 mg)(E3:Def P w K mg base CX0 1 "_law_hang" ["_law_house_here","_law_one","_law_other"] (spJ K Bc 3)):
  FnOk P w K mg base CX0 2 f fd ["_law_house_here","_law_row"] (spJ K Bz 2):=by
 refine Bt (N:=["_law_house_here","_law_row","_law_groups","_law_letter","_law_mine","_law_others","_law_group"]) F ⟨rfl,rfl,rfl,dK,rfl,dK,dK⟩ fun cdv A outer s H E hr=>?_;have nd7:List.Nodup (["_law_house_here","_law_row","_law_groups","_law_letter","_law_mine","_law_others","_law_group"]:List Str):=by decide +kernel
 refine Ah ?_ ?_;refine AJ 2 nd7 rfl (by walk_at "loc") rfl rfl ?_;refine Co ?_;exact Ag;refine Ah ?_ ?_;refine D0 PassesOwn.never rfl ?_ ?_ ?_ (fun _=>rfl);refine F7 ?_;walk_at "v1";exact Em 3 nd7 rfl (by walk_at "loc") rfl;refine Ah ?_ ?_;refine AJ 4 nd7 rfl (by walk_at "loc") rfl rfl ?_;refine Co ?_;refine Ac rfl ?_ ?_;refine Az ?_;walk_at "v3";exact Ag;refine Ah ?_ ?_;refine AJ 5 nd7 rfl (by walk_at "loc") rfl rfl ?_;refine Co ?_;exact Ag;refine Ah ?_ ?_;refine D0 PassesOwn.never rfl ?_ ?_ ?_ (fun _=>rfl);refine DZ ?_;walk_at "v2";exact Em 6 nd7 rfl (by walk_at "loc") rfl;refine Ak ?_;refine BR ?_ ?_ ?_;refine BL (fun _=>rfl) ?_;refine AF M5 (HK rfl) B.any Boot.«any» dK dK rfl rfl rfl ?_;refine Ac rfl ?_ ?_;refine Cn (by rfl) rfl nd7 (by rfl) (fun _=>rfl) ?_ ?_ ?_;refine DZ ?_;walk_at "v6";exact Cs;intro _ _ _ _ _;refine Aq E3 Ap rfl rfl rfl rfl rfl hr (by decide) AO dK rfl rfl rfl ?_;refine Ac rfl ?_ ?_;walk_at "v1";refine Ac rfl ?_ ?_;walk_at "v4";refine Ac rfl ?_ ?_;walk_at "v0";exact Ag;exact Ag;refine Ak ?_;refine AJ 4 nd7 rfl (by walk_at "loc") rfl rfl ?_;refine AD Bw A3 ?_ ?_;walk_at "v4";walk_at "v6";refine Ak ?_;refine H0 5 rfl (by walk_at "vis") dK dK rfl rfl rfl rfl ?_;walk_at "v6";refine Ak ?_;refine AJ 2 nd7 rfl (by walk_at "loc") rfl rfl ?_;refine AD Bw A3 ?_ ?_;walk_at "v5";refine Co ?_;refine Ac rfl ?_ ?_;refine Az ?_;walk_at "v4";exact Ag;refine Ak ?_;refine AE ?_;walk_at "v2"
theorem Ig{f:Addr}{fd:FuncData}(F:Fun K "_law_sights" "_law_sights" (top 49) f fd)(B:Blt mg K)(B2:Blt2 mg):
  FnOk P w K mg base CX0 1 f fd ["_law_house_here","_law_row"] (spJ K BO 2):=by
 refine Bt (N:=["_law_house_here","_law_row"]) F ⟨rfl,rfl,rfl,dK,rfl,dK,dK⟩ fun cdv A outer s H E hr=>?_;have nd2:List.Nodup (["_law_house_here","_law_row"]:List Str):=by decide +kernel
 have nd3:List.Nodup (["_law_hand","_law_house_here","_law_row"]:List Str):=by decide +kernel
 refine Ak ?_;refine AE ?_;refine UJ (by rfl) rfl nd2 (fun _=>rfl) ?_ R7 ?_;refine C8 rfl B.range rfl ?_;refine AV AW AH (fun _ _=>rfl) ?_ ?_;walk_at "v0";exact Al;intro _ _ _ _ _;refine Fy rfl rfl B rfl ?_ ?_;exact A9 dK;refine Cn (by rfl) rfl nd3 (by rfl) (fun _=>rfl) ?_ ?_ ?_;refine F7 ?_;walk_at "v2";refine Fz fun _ _ _ _ _=>?_;refine Cp (Ii false) Io (by with_unfolding_all rfl) ?_ ?_;walk_at "v1";refine MM hr (fun _ _=>rfl) ?_ ?_;refine HZ NW (HL rfl) B.dict Boot.«dict» dK dK rfl rfl rfl ?_;refine Ac rfl ?_ ?_;refine AV AW AH (fun _ _=>rfl) ?_ ?_;walk_at "v2";exact Al;exact Ag;walk_at "v0";intro _ _ _ _ _;walk_at "v0"
theorem G3{f:Addr}{fd:FuncData}(F:Fun K "_law_is_again" "_law_is_again" (top 50) f fd)(B:Blt mg K)(B2:Blt2 mg)(Dq:Def P w K mg base CX0 1 "_law_sights" ["_law_house_here","_law_row"] (spJ K BO 2)):
  FnOk P w K mg base CX0 2 f fd ["_law_house_here","_law_row","_law_one"] (spJ K Bh 3):=by
 refine Bt (N:=["_law_house_here","_law_row","_law_one","_law_times"]) F ⟨rfl,rfl,rfl,dK,rfl,dK,dK⟩ fun cdv A outer s H E hr=>?_;have nd4:List.Nodup (["_law_house_here","_law_row","_law_one","_law_times"]:List Str):=by decide +kernel
 refine Ah ?_ ?_;refine BR ?_ ?_ ?_;refine Cp FQ (El hr) (BE _) ?_ ?_;walk_at "v2";exact A9 dK;refine Ak ?_;refine AE ?_;refine Dj FQ (El hr) (BE _) ?_ ?_;walk_at "v1";exact A9 dK;exact A8;refine Ah ?_ ?_;refine AJ 3 nd4 rfl (by walk_at "loc") rfl rfl ?_;refine AD Ku Kv ?_ ?_;refine AF BY AX B.len Boot.«len» dK dK rfl rfl rfl ?_;refine Ac rfl ?_ ?_;walk_at "v1";exact Ag;refine AF BY AX B.len Boot.«len» dK dK rfl rfl rfl ?_;refine Ac rfl ?_ ?_;walk_at "v2";exact Ag;refine Ak ?_;refine AE ?_;refine Ek ?_ ?_;refine Dj FQ (El hr) (BE _) ?_ ?_;refine AF BY AX B.len Boot.«len» dK dK rfl rfl rfl ?_;refine Ac rfl ?_ ?_;walk_at "v1";exact Ag;refine AD Il Iq ?_ ?_;walk_at "v3";refine AF BY AX B.len Boot.«len» dK dK rfl rfl rfl ?_;refine Ac rfl ?_ ?_;walk_at "v2";exact Ag;refine ET ?_;refine Dj FQ (El hr) (BE _) ?_ ?_;refine Aq Dq Ap rfl rfl rfl rfl rfl hr (by decide) AO dK rfl rfl rfl ?_;refine Ac rfl ?_ ?_;walk_at "v0";refine Ac rfl ?_ ?_;walk_at "v1";exact Ag;refine Aq Dq Ap rfl rfl rfl rfl rfl hr (by decide) AO dK rfl rfl rfl ?_;refine Ac rfl ?_ ?_;walk_at "v0";refine Ac rfl ?_ ?_;refine AD M7 Kz ?_ ?_;walk_at "v2";walk_at "v3";exact Ag
theorem Kr{f:Addr}{fd:FuncData}(F:Fun K "_law_good" "_law_good" (top 59) f fd)(B:Blt mg K)(B2:Blt2 mg)(Du:Def P w K mg base CX0 2 "_law_is_again" ["_law_house_here","_law_row","_law_one"] (spJ K Bh 3)):
  FnOk P w K mg base CX0 3 f fd ["_law_house_here","_law_row","_law_found","_law_many"] (spJ K Bb 4):=by
 refine Bt (N:=["_law_house_here","_law_row","_law_found","_law_many","_law_letters","_law_one","_law_i","_law_j"]) F ⟨rfl,rfl,rfl,dK,rfl,dK,dK⟩ fun cdv A outer s H E hr=>?_;have nd8:List.Nodup (["_law_house_here","_law_row","_law_found","_law_many","_law_letters","_law_one","_law_i","_law_j"]:List Str):=by decide +kernel
 refine Ah ?_ ?_;refine BR ?_ ?_ ?_;refine Gz ?_;refine JB ?_ ?_;refine B6 ?_;refine BL (fun _=>rfl) ?_;refine MN rfl rfl B rfl rfl ?_;walk_at "v2";refine Ib ?_;refine Cp LP (Kw hr) (BE _) ?_ ?_;refine AF BY AX B.len Boot.«len» dK dK rfl rfl rfl ?_;refine Ac rfl ?_ ?_;walk_at "v2";exact Ag;walk_at "v3";refine Ak ?_;refine AE ?_;exact DY;exact A8;refine Ah ?_ ?_;refine AJ 4 nd8 rfl (by walk_at "loc") rfl rfl ?_;refine UI (by rfl) rfl nd8 dK (by rfl) (by rfl) (fun _=>rfl) ?_ ?_ ?_;refine DZ ?_;refine AV AW AH (fun _ _=>rfl) ?_ ?_;walk_at "v0";exact Al;exact Cs;intro _ _ _ _ _;walk_at "v0";refine Ah ?_ ?_;refine D0 PassesOwn.never rfl ?_ ?_ ?_ (fun _=>rfl);refine DZ ?_;walk_at "v2";exact Em 5 nd8 rfl (by walk_at "loc") rfl;refine Ah ?_ ?_;refine BR ?_ ?_ ?_;refine Gz ?_;refine JB ?_ ?_;refine B6 ?_;refine BL (fun _=>rfl) ?_;refine Qf rfl rfl B rfl rfl ?_;walk_at "v5";refine JB ?_ ?_;refine Cp LP (Kw hr) (BE _) ?_ ?_;refine AF BY AX B.len Boot.«len» dK dK rfl rfl rfl ?_;refine Ac rfl ?_ ?_;walk_at "v5";exact Ag;exact Al;refine Ib ?_;refine B6 ?_;refine BL (fun _=>rfl) ?_;refine AF Ga (DP rfl) B.all Boot.«all» dK dK rfl rfl rfl ?_;refine Ac rfl ?_ ?_;refine Cn (by rfl) rfl nd8 (by rfl) (fun _=>rfl) ?_ ?_ ?_;refine DZ ?_;walk_at "v5";exact Cs;intro _ _ _ _ _;refine MO rfl rfl B rfl rfl ?_;walk_at "v0";exact Ag;refine Ak ?_;refine AE ?_;exact DY;exact A8;refine Ak ?_;refine BR ?_ ?_ ?_;refine B6 ?_;refine BL (fun _=>rfl) ?_;refine AF Ga (DP rfl) B.all Boot.«all» dK dK rfl rfl rfl ?_
 refine Ac rfl ?_ ?_;refine Cn (by rfl) rfl nd8 (by rfl) (fun _=>rfl) ?_ ?_ ?_;refine F7 ?_;refine AD Bw A3 ?_ ?_;refine AV AW AH (fun _ _=>rfl) ?_ ?_;walk_at "v5";exact Al;refine AV AW AH (fun _ _=>rfl) ?_ ?_;walk_at "v5";exact Al;exact Cs;intro _ _ _ _ _;refine Dj (Ii false) Io (by with_unfolding_all rfl) ?_ ?_;walk_at "v0";walk_at "v5";exact Ag;refine Ak ?_;refine AE ?_;exact DY;exact A8;refine Ah ?_ ?_;refine D0 PassesOwn.never rfl ?_ ?_ ?_ (fun _=>rfl);refine C8 rfl B.range rfl ?_;walk_at "v3";exact Em 6 nd8 rfl (by walk_at "loc") rfl;refine Ak ?_;refine D0 PassesOwn.never rfl ?_ ?_ ?_ (fun _=>rfl);refine C8 rfl B.range rfl ?_;walk_at "v3";exact Em 7 nd8 rfl (by walk_at "loc") rfl;refine Ak ?_;refine BR ?_ ?_ ?_;refine Cp LP (Kw hr) (BE _) ?_ ?_;refine Aq Du Ap rfl rfl rfl rfl rfl hr (by decide) AO dK rfl rfl rfl ?_;refine Ac rfl ?_ ?_;walk_at "v0";refine Ac rfl ?_ ?_;refine AD Bw A3 ?_ ?_;refine AV AW AH (fun _ _=>rfl) ?_ ?_;refine AV AW AH (fun _ _=>rfl) ?_ ?_;walk_at "v2";walk_at "v6";exact Al;refine AV AW AH (fun _ _=>rfl) ?_ ?_;refine AV AW AH (fun _ _=>rfl) ?_ ?_;walk_at "v2";walk_at "v7";exact Al;refine Ac rfl ?_ ?_;walk_at "v1";exact Ag;refine Dj FQ (El hr) (BE _) ?_ ?_;walk_at "v6";walk_at "v7";refine Ak ?_;refine AE ?_;exact DY;exact A8;refine Ak ?_;refine AE ?_;exact DY
theorem U1{f:Addr}{fd:FuncData}(F:Fun K "law" "law" (top 60) f fd)(B:Blt mg K)(B2:Blt2 mg)(FR:Def P w K mg base CX0 1 "_law_bag" ["_law_cell_here"] (spJ K Cg 1))(EF:Def P w K mg base CX0 2 "_law_house" ["_law_bag_here"] (spJ K BK 1))(Dv:Def P w K mg base CX0 2 "_law_word_row" ["_law_bag_here","_law_house_here","_law_most"] (spJ K Bi 3))(DE:Def P w K mg base CX0 13 "_law_asked" ["_law_house_here","_law_row","_law_many"] (spJ K AG 3))(AR:Def P w K mg base CX0 1 "_law_take" ["_law_bag_here","_law_many"] (spJ K An 2))(E2:Def P w K mg base CX0 1 "_law_cell" ["_law_script","_law_k"] (spJ K BG 2))(EG:Def P w K mg base CX0 2 "_law_parts" ["_law_house_here","_law_row"] (spJ K Bz 2))(Eb:Def P w K mg base CX0 3 "_law_good" ["_law_house_here","_law_row","_law_found","_law_many"] (spJ K Bb 4)):
  FnOk P w K mg base CX0 14 f fd ["_law_script"] (spJ K HU 1):=by
 refine Bt (N:=["_law_script","_law_k","_law_bag_here","_law_house_here","_law_row","_law_many","_law_found"]) F ⟨rfl,rfl,rfl,dK,rfl,dK,dK⟩ fun cdv A outer s H E hr=>?_;have nd7:List.Nodup (["_law_script","_law_k","_law_bag_here","_law_house_here","_law_row","_law_many","_law_found"]:List Str):=by decide +kernel
 refine Ah ?_ ?_;refine D0 PassesOwn.never rfl ?_ ?_ ?_ (fun _=>rfl);refine C8 rfl B.range rfl ?_;refine AF U2 (Om rfl) B.max Boot.«max» dK dK rfl rfl rfl ?_;refine Ac rfl ?_ ?_;exact Al;refine Ac rfl ?_ ?_;refine AF U3 (Oo rfl) B.min Boot.«min» dK dK rfl rfl rfl ?_;refine Ac rfl ?_ ?_;exact Al;refine Ac rfl ?_ ?_;refine AF BY AX B.len Boot.«len» dK dK rfl rfl rfl ?_;refine Ac rfl ?_ ?_;walk_at "v0";exact Ag;exact Ag;exact Ag;exact Em 1 nd7 rfl (by walk_at "loc") rfl;refine Ah ?_ ?_;refine AJ 2 nd7 rfl (by walk_at "loc") rfl rfl ?_;refine Aq FR Ap rfl rfl rfl rfl rfl hr (by decide) AO dK rfl rfl rfl ?_;refine Ac rfl ?_ ?_;refine AD Bw A3 ?_ ?_;refine Aq E2 Ap rfl rfl rfl rfl rfl hr (by decide) AO dK rfl rfl rfl ?_;refine Ac rfl ?_ ?_;walk_at "v0";refine Ac rfl ?_ ?_;walk_at "v1";exact Ag;walk_at "v1";exact Ag;refine Ah ?_ ?_;refine AJ 3 nd7 rfl (by walk_at "loc") rfl rfl ?_;refine Aq EF Ap rfl rfl rfl rfl rfl hr (by decide) AO dK rfl rfl rfl ?_;refine Ac rfl ?_ ?_;walk_at "v2";exact Ag;refine Ah ?_ ?_;refine AJ 4 nd7 rfl (by walk_at "loc") rfl rfl ?_;refine Aq Dv Ap rfl rfl rfl rfl rfl hr (by decide) AO dK rfl rfl rfl ?_;refine Ac rfl ?_ ?_;walk_at "v2";refine Ac rfl ?_ ?_;walk_at "v3";refine Ac rfl ?_ ?_;exact Al;exact Ag;refine Ah ?_ ?_;refine AJ 5 nd7 rfl (by walk_at "loc") rfl rfl ?_;refine AD Bw A3 ?_ ?_;exact Al;refine Aq AR Ap rfl rfl rfl rfl rfl hr (by decide) AO dK rfl rfl rfl ?_;refine Ac rfl ?_ ?_;walk_at "v2";refine Ac rfl ?_ ?_;exact Al;exact Ag;refine Ah ?_ ?_;refine AJ 6 nd7 rfl (by walk_at "loc") rfl rfl ?_
 refine Aq DE (K5 Ap Kc) rfl rfl rfl rfl rfl hr (by decide) AO dK rfl rfl rfl ?_;refine Ac rfl ?_ ?_;walk_at "v3";refine Ac rfl ?_ ?_;walk_at "v4";refine Ac rfl ?_ ?_;walk_at "v5";exact Ag;refine Ak ?_;refine BR ?_ ?_ ?_;refine Cp LO GG (BE _) ?_ ?_;refine AF BY AX B.len Boot.«len» dK dK rfl rfl rfl ?_;refine Ac rfl ?_ ?_;refine Aq EG Ap rfl rfl rfl rfl rfl hr (by decide) AO dK rfl rfl rfl ?_;refine Ac rfl ?_ ?_;walk_at "v3";refine Ac rfl ?_ ?_;walk_at "v4";exact Ag;exact Ag;exact Al;refine Ak ?_;refine BR ?_ ?_ ?_;refine Cp LP (Kw hr) (BE _) ?_ ?_;walk_at "v6";exact A9 dK;refine Ak ?_;refine AE ?_;exact DY;exact A8;refine Ah ?_ ?_;refine BR ?_ ?_ ?_;refine B6 ?_;refine BL (fun _=>rfl) ?_;refine Aq Eb Ap rfl rfl rfl rfl rfl hr (by decide) AO dK rfl rfl rfl ?_;refine Ac rfl ?_ ?_;walk_at "v3";refine Ac rfl ?_ ?_;walk_at "v4";refine Ac rfl ?_ ?_;walk_at "v6";refine Ac rfl ?_ ?_;walk_at "v5";exact Ag;refine Ak ?_;refine AE ?_;exact DY;exact A8;refine Ah ?_ ?_;exact UL 6 rfl (by walk_at "vis") dK dK rfl rfl rfl;refine Ak ?_;refine BR ?_ ?_ ?_;refine B6 ?_;refine BL (fun _=>rfl) ?_;refine Aq Eb Ap rfl rfl rfl rfl rfl hr (by decide) AO dK rfl rfl rfl ?_;refine Ac rfl ?_ ?_;walk_at "v3";refine Ac rfl ?_ ?_;walk_at "v4";refine Ac rfl ?_ ?_;refine Aq DE (K5 Ap Kc) rfl rfl rfl rfl rfl hr (by decide) AO dK rfl rfl rfl ?_;refine Ac rfl ?_ ?_;walk_at "v3";refine Ac rfl ?_ ?_;walk_at "v4";refine Ac rfl ?_ ?_;walk_at "v5";exact Ag;refine Ac rfl ?_ ?_;walk_at "v5";exact Ag;refine Ak ?_;refine AE ?_
 exact DY;exact A8;refine Ak ?_;refine AE ?_;exact DY
end
end Gk57
end
section
namespace Gk57
open PySem L2 J St
local macro_rules | `(tactic| walk_at "ev")=>do
 let l <- ("on1 on2 on3 EL Fi A6 Bo fzU BW BQ Ax ifS Aw opM m1L m2L Ab Ad Aa Ae peeks peek er ers Eu J.andM J.orM J.notM Xz orT BF XA Hm Aj share move moves keep FJ mkT lstM vals fzs AY Ed Ay XQ CH Iy Hq retS XJ AK Fs free Ji CZ FG Ef Af Ce DN refs back KP G6 CM isInt isBool Eg isTup isStr AL Ep FH G1 Jb E8 O4 Fq IP E4 J1 XE Mp MZ M0 Bv ixA A6 Bo fzU BW BQ Option.some_or Option.none_or Option.bind_none AQ Cq atI ixN eqA neA ltA leA gtA geA Hh By nameOf lock unlock shB IM DM FF Ie CN BI F5 Jl Jm slF own DT EX EW Ex Ey CV Fb ES F0 inA CA".splitOn " ").mapM fun s=>`(Lean.Parser.Tactic.simpLemma| $(Lean.mkIdent s.toName):ident)
 let l:=l.toArray
 `(tactic| simp [-map_map,$l,*, *])
structure Hs where
 n:Int
 ls:List (Nat×List Int)
noncomputable def chD(c:Nat):D:=.str ⟨#[c]⟩
noncomputable def ld(p:Nat×List Int):D:=.tup [chD p.1,.lst (iL p.2)]
noncomputable def Hs.d(h:Hs):D:=.tup [.int h.n,.lst (h.ls.map ld)]
structure Hs.Ok (h:Hs):Prop where
 n1:2<=h.n
 n2:h.n<=4
 l1:1<=h.ls.length
 l2:h.ls.length<=6
 ch:∀p∈h.ls,97<=p.1/\p.1<=122
 ri:(h.ls.map (·.1)).Pairwise (· < ·)
 hs:∀p∈h.ls,p.2≠[]/\p.2.Pairwise (· < ·)/\∀x∈p.2,0<=x/\x<h.n
@[simp] theorem Nk(st:Own)(d:D):Ci [(st,.fz d)]=some (.fz (.bl (isInt d&&!isBool d)),[.fz d]):=by
 simp only[Ci,fnM,Gp];cases d<;>walk_at "ev"
@[simp] theorem N7(s1 s2:Own)(i b:Int):Bj [(s1,.fz (.int i)),(s2,.fz (.int b))]=some (.fz (.bl (decide (0<=i)&&decide (i<b))),[.fz (.int i),.fz (.int b)]):=by
 simp only[Bj,fnM,DA];by_cases h0:0<=i<;>walk_at "ev" <;> simp[h0]
@[simp] theorem JK(st:Own)(x y:D):CQ [(st,.fz (.tup [x,y]))]=some (.fz (.bl true),[.fz (.tup [x,y])]):=by
 simp only[CQ,fnM,He];walk_at "ev"
theorem Mq{α:Type}(xs:List α)(f:α -> Bool):(xs.map f).all id=xs.all f:=by simp[all_map]
theorem Jk(s1 s2:Own)(xs:List Int)(b:Int)(hl:xs.length<=LIM):BH [(s1,.fz (.lst (iL xs))),(s2,.fz (.int b))]=some (.fz (.bl (xs.all fun i=>decide (0<=i)&&decide (i<b))),[.fz (.lst (iL xs)),.fz (.int b)]):=by
 have hc:=B3 (it:=By (Aa 0)) (e:=Af Bj (Ab (Aa 0) (Ab (Aa 2) Ad))) (Z:=[some (s1,.fz (.lst (iL xs))),some (s2,.fz (.int b))]) (Z1:=[some (s1,.fz (.lst (iL xs))),some (s2,.fz (.int b))]) (ds:=iL xs) (n:=none) (f:=fun d=>.bl (decide (0<=nD d)&&decide (nD d<b))) (by walk_at "ev") (by simpa using hl) (fun d hd=>by
  obtain⟨i,_,rfl⟩:=Kn.mp hd;refine⟨.val (.fz (.bl (decide (0<=i)&&decide (i<b)))),?_,?_⟩<;>walk_at "ev" <;> rfl)
 rw[MY (fun i=>D.bl (decide (0<=i)&&decide (i<b)))] at hc;refine Bk (Z:=[some (s1,.fz (.lst (iL xs))),some (s2,.fz (.int b))]) rfl ?_;show B5 [some (s1,.fz (.lst (iL xs))),some (s2,.fz (.int b))]=_;unfold B5;refine B7 ?_;simp only[on1,on2,on3,EL,Fi,A6,Bo,fzU,BW,BQ,opM,Ab,Ad,hc,bind_some,map_some,peeks,peek,DM,Cq,AY,CV,Mq]
@[simp] theorem KL(s1 s2:Own)(xs:List Int)(b:Int)(hl:xs.length<=LIM):AU [(s1,.fz (.lst (iL xs))),(s2,.fz (.int b))]=some (.fz (.bl (xs.all fun i=>decide (0<=i)&&decide (i<b))),[.fz (.lst (iL xs)),.fz (.int b)]):=by
 have e1:=Jk .own .own xs b hl;simp only[AU,fnM,B1];clear hl;walk_at "ev"
theorem Ca{α:Type}{xs:List α}{k:Nat}{i:Int}(hi:i=k)(h:k<xs.length):atI xs i=some xs[k]:=by
 subst hi;simp[atI,ixN,h]
theorem Q9{xs:List Int}(h:xs.Pairwise (· < ·)){k:Nat}(hk:k+1<xs.length):xs[k]'(by lia)<xs[k+1]:=pairwise_iff_getElem.mp h k (k+1) (by lia) hk (by lia)
theorem Xy{ds:List D}(h:∀d∈ds,d=.bl true):∃bs:List Bool,Dx ds=some bs/\bs.all id=true:=by
 induction ds with
 | nil=>exact⟨[],rfl,rfl⟩
 | cons d ds ih =>
  obtain⟨bs,h1,h2⟩:=ih fun x hx=>h x (mem_cons_of_mem _ hx);have:=h d mem_cons_self;subst this;exact⟨true::bs,by simp[Dx,h1],by simpa using h2⟩
theorem all_true{it:MI}{e:ME}{Z Z1:Ro}{ds:List D}{n:Option Nat}(hi:it Z=some (ds,n,Z1))(hl:ds.length<=LIM)(he:∀d∈ds,e (J.own d::lock Z1 n)=some (.val (.fz (.bl true)),J.own d::lock Z1 n)):
  opM DM (Ab (AI it 0 Cz e) Ad) Z=some (.val (.fz (.bl true)),Z1):=by
 have hc:=B3 (f:=fun _=>.bl true) hi hl fun d hd=>⟨_,he d hd,by simp[share,er]⟩;obtain⟨bs,h1,h2⟩:=Xy (ds:=ds.map fun _=>D.bl true) (by simp);simp only[on1,on2,on3,EL,Fi,A6,Bo,fzU,BW,BQ,opM,Ab,Ad,hc,bind_some,map_some,peeks,peek,DM,Cq,AY,h1,h2]
theorem Rf(s1 s2:Own)(xs:List Int)(b:Int)(hl:xs.length<=1000)(hr:xs.Pairwise (· < ·))(hb:∀x∈xs,0<=x/\x<b):A5 [(s1,.fz (.lst (iL xs))),(s2,.fz (.int b))]=some (.fz (.bl true),[.fz (.lst (iL xs)),.fz (.int b)]):=by
 have hL:xs.length<=LIM:=le_trans hl (by decide);simp only[A5,fnM,CK];have h1:(xs.all fun i=>decide (0<=i)&&decide (i<b))=true:=by simpa[all_eq_true] using hb
 have hc:=all_true (it:=Bm (opM Ep (m2L (opM Bv (Ab (Aa 0) Ad)) (Ae (.int 1))))) (e:=opM ltA (m2L (opM ixA (m2L (Aa 1) (Aa 0))) (opM ixA (m2L (Aa 1) (opM AL (m2L (Aa 0) (Ae (.int 1)))))))) (Z:=[some (s1,.fz (.lst (iL xs))),some (s2,.fz (.int b))]) (ds:=CU 0 ((xs.length:Int)-1).toNat) (n:=none) (Z1:=[some (s1,.fz (.lst (iL xs))),some (s2,.fz (.int b))])
  (by
   have : -(2 ^ 62)<=(xs.length:Int)-1/\(xs.length:Int)-1<2 ^ 62:=by lia
   simp only[Bm]; walk_at "ev"; lia) (by rw[Ft]; lia) (fun d hd=>by
   obtain⟨j,hj⟩:=List.mem_iff_getElem?.mp hd;obtain⟨rfl,hj⟩:=Gh hj;have hk:j+1<xs.length:=by lia
   have e1:=Ca (xs:=iL xs) (i:=0+(j:Int)) (k:=j) (by lia) (by simpa using(by lia:j<xs.length));have e2:=Ca (xs:=iL xs) (i:=0+(j:Int)+1) (k:=j+1) (by lia) (by simpa using hk);have e3:=Q9 hr hk;simp only[iL,getElem_map] at e1 e2;simp only[on1,on2,on3,EL,Fi,A6,Bo,fzU,BW,BQ,GZ,opM,m2L,Ab,Ad,Aa,Ae,J.own,peeks,peek,ixA,A6,Bo,fzU,BW,BQ,some_or,none_or,bind_none,AQ,AL,ltA,List.getElem?_cons_zero,List.getElem?_cons_succ,bind_some,map_some,iL,e1,e2,e3,decide_true])
 simp only[Ax,ifS,BF,Aw,retS,Af,Ab,Ad,Aa,map_cons,map_nil,List.getElem?_cons_zero,List.getElem?_cons_succ,bind_some,map_some,Ce,DN,refs,nodup_nil,if_true,KL _ _ xs b hL,h1,back,peek,Eu,Bool.not_true,false_eq_true,if_false,AK,append_nil,length_cons,length_nil,sub_self,replicate_zero];simp[hc,move,G6]
theorem call_of{Φ:Fn}{ms:MA}{Z Z1 Z2:Ro}{rs:List R}{as:List (Own×A)}{a:A}{os:List A}(h1:ms Z=some (rs,Z1))(h2:Ce Z1 rs=some as)(hn:decide (refs rs).Nodup=true)(h3 : Φ as=some (a,os))(hb:back rs os Z1=Z2):Af Φ ms Z=some (.val a,Z2):=by
 subst hb;simp only[Af,h1,h2,h3,bind_some,map_some,if_pos (of_decide_eq_true hn)]
theorem Ba{f:List A->Option A}{ms:MA}{Z Z1:Ro}{rs:List R}{as:List A}{c:A}(h1:ms Z=some (rs,Z1))(h2:peeks Z1 rs=some as)(h3:f as=some c):opM f ms Z=some (.val c,Z1):=by
 simp only[opM,h1,h2,h3,bind_some,map_some]
theorem BD{m1 m2:ME}{Z Z1 Z2:Ro}{r1 r2:R}(h1:m1 Z=some (r1,Z1))(h2:m2 Z1=some (r2,Z2)):m2L m1 m2 Z=some ([r1,r2],Z2):=by
 simp only[m2L,Ab,Ad,h1,h2,bind_some,map_some]
noncomputable abbrev sH(s:Own)(h:Hs):Slot:=some (s,.fz h.d)
noncomputable abbrev oI(i:Int):Slot:=some (.own,.fz (.int i))
noncomputable abbrev oL(ds:List D):Slot:=some (.own,.lst (ds.map A.fz))
noncomputable abbrev oC(c:Nat):Slot:=some (.own,.fz (.str ⟨#[c]⟩))
noncomputable abbrev Vl(m:ME)(Z:Ro)(a:A):Prop:=m Z=some (.val a,Z)
noncomputable abbrev Tl(m:MT)(Z:Ro)(b:Bool):Prop:=m Z=some (b,Z)
noncomputable abbrev Nx(m:MS)(Z:Ro):Prop:=m Z=some (.next Z)
local macro_rules | `(tactic| walk_at "eo")=>do
 let l <- ("Ax ifS upA MZ M0 Ie Aw opM m1L m2L Ab Ad Aa Ae peeks peek er ers Eu J.andM J.notM orT BF Hm Aj share move moves keep FJ mkT lstM vals fzs AY Ed Ay CH Iy Hq retS AK Fs free Ji CZ FG Ef Af Ce DN refs back KP G6 CM isInt isBool Eg isTup isStr AL Ep FH G1 Jb E8 O4 Fq IP E4 J1 Mp Bv ixA A6 Bo fzU BW BQ Option.some_or Option.none_or Option.bind_none AQ Cq eqA neA ltA leA gtA geA Hh By nameOf lock unlock GQ shB IM DM FF CN BI F5 Jl Jm slF J.own DT EX EW Ex Ey CV Fb ES F0 Fx inA CA Bm CO GU Gs Ja Gu on1 on2 on3 EL Fi GP EV Ue List.getElem?_cons_zero List.getElem?_cons_succ List.getElem?_nil Option.bind_some Option.bind_none Option.map_some Option.map_none List.map_cons List.map_nil List.cons_append List.nil_append List.append_nil List.length_cons List.length_nil List.length_map List.replicate_zero List.replicate_succ List.nodup_nil List.set_cons_zero List.set_cons_succ List.take_succ_cons List.take_zero if_true if_false Bool.not_true Bool.not_false Bool.false_eq_true reduceIte reduceCtorEq Nat.reduceSub Nat.reduceAdd Nat.sub_self Bool.true_and Bool.and_true Bool.false_and Bool.and_false Bool.true_or Bool.or_true Bool.false_or Bool.or_false decide_true decide_false beq_self_eq_true and_self and_true true_and Nat.zero_add List.nodup_cons List.not_mem_nil not_false_eq_true".splitOn " ").mapM fun s=>`(Lean.Parser.Tactic.simpLemma| $(Lean.mkIdent s.toName):ident)
 let l:=l.toArray
 `(tactic| simp only [$l,*, *])
theorem Ww:(Str.ofString "a").cps.toList=[97]:=by decide +kernel
theorem Wx:(Str.ofString "z").cps.toList=[122]:=by decide +kernel
theorem MW(a b:Nat):([a] < [b])↔a<b:=by
 rw[List.cons_lt_cons_iff];constructor
 .rintro (h|⟨_,h⟩)
  .exact h
  .exact absurd h (List.not_lt_nil _)
 .intro h; exact .inl h
theorem at0{α:Type}(a:α)(xs:List α):atI (a::xs) 0=some a:=by simp[atI,ixN]
theorem at1{α:Type}(a b:α)(xs:List α):atI (a::b::xs) 1=some b:=by
 have:(1:Int)<((xs.length:Int)+1+1):=by lia
 simp[atI,ixN,this]
theorem Tb(st:Own)(c:Nat)(h:97<=c/\c<=122):BC [(st,.fz (chD c))]=some (.fz (.bl true),[.fz (chD c)]):=by
 have e1:decide ([c] < [97])=false:=by rw[decide_eq_false_iff_not,MW]; lia
 have e2:decide ([122] < [c])=false:=by rw[decide_eq_false_iff_not,MW]; lia
 have e3:((Str.length ⟨#[c]⟩:Nat):Int)=1:=rfl;have e4:=Ww;have e5:=Wx;simp only[BC,fnM,DB,chD];walk_at "eo"
theorem S4(s1 s2:Own)(n:Int)(p:Nat×List Int)(h:97<=p.1/\p.1<=122)(hl:p.2.length<=1000)(h0:p.2≠[])(hr:p.2.Pairwise (· < ·))(hb:∀x∈p.2,0<=x/\x<n):CW [(s1,.fz (.int n)),(s2,.fz (ld p))]=some (.fz (.bl true),[.fz (.int n),.fz (ld p)]):=by
 have hp:decide ((0:Int)<(p.2.length:Int))=true:=by
  have:=length_pos_iff.mpr h0;simpa using this
 have e1:=at0 (chD p.1) [.lst (iL p.2)];have e2:=at1 (chD p.1) (.lst (iL p.2)) [];have e3:=Tb .own p.1 h;have e4:=Rf .own .own p.2 n hl hr hb;have e5:=JK .own (chD p.1) (.lst (iL p.2));clear hb hr h0 h hl;simp only[CW,fnM,Gm,ld];walk_at "eo"
theorem S3(st:Own)(n:Int)(h1:2<=n)(h2:n<=4):Bp [(st,.fz (.int n))]=some (.fz (.bl true),[.fz (.int n)]):=by
 have e1:=Nk .own (.int n);simp only[Bp,fnM,C9];walk_at "eo"
theorem Ra{n lo:Int}:∀{xs:List Int},xs.Pairwise (· < ·)->(∀x∈xs,lo<=x/\x<n)->(xs.length:Int)<=max 0 (n-lo):=by
 intro xs;induction xs generalizing lo with
 | nil=>intro _ _; simp; lia
 | cons x xs ih =>
  intro hp hb;have:=ih (lo:=x+1) (pairwise_cons.mp hp).2 fun y hy=>⟨by have:=(pairwise_cons.mp hp).1 y hy; lia,(hb y (mem_cons_of_mem _ hy)).2⟩;have:=hb x mem_cons_self;simp only[length_cons];lia
theorem Hs.Ok.hl{h:Hs}(ok:h.Ok):∀p∈h.ls,p.2.length<=4:=fun p hp=>by
 obtain⟨_,r,b⟩:=ok.hs p hp;have n2:=ok.n2;have:=Ra r b;lia
theorem Pd(s1 s2:Own)(h:Hs)(ok:h.Ok):C7 [(s1,.fz (.int h.n)),(s2,.fz (.lst (h.ls.map ld)))]=some (.fz (.bl true),[.fz (.int h.n),.fz (.lst (h.ls.map ld))]):=by
 have l1:=ok.l1;have l2:=ok.l2;have hlim:1000<=LIM:=by decide
 have hc1:=all_true (it:=By (Aa 1)) (e:=Af CW (Ab (Aa 1) (Ab (Aa 0) Ad))) (Z:=[some (s1,.fz (.int h.n)),some (s2,.fz (.lst (h.ls.map ld)))]) (ds:=h.ls.map ld) (n:=none) (Z1:=[some (s1,.fz (.int h.n)),some (s2,.fz (.lst (h.ls.map ld)))])
  (by walk_at "eo") (by simp; lia) (fun d hd=>by
   obtain⟨p,hp,rfl⟩:=mem_map.mp hd;obtain⟨h0,hr,hb⟩:=ok.hs p hp;have e1:=S4 .own .own h.n p (ok.ch p hp) (by have:=ok.hl p hp; lia) h0 hr hb;clear hb hr h0 hd hp;walk_at "eo")
 have hc2:=all_true (it:=Bm (opM Ep (m2L (opM Bv (Ab (Aa 1) Ad)) (Ae (.int 1))))) (e:=opM ltA (m2L (opM ixA (m2L (opM ixA (m2L (Aa 2) (Aa 0))) (Ae (.int 0)))) (opM ixA (m2L (opM ixA (m2L (Aa 2) (opM AL (m2L (Aa 0) (Ae (.int 1)))))) (Ae (.int 0)))))) (Z:=[some (s1,.fz (.int h.n)),some (s2,.fz (.lst (h.ls.map ld)))]) (ds:=CU 0 ((h.ls.length:Int)-1).toNat) (n:=none) (Z1:=[some (s1,.fz (.int h.n)),some (s2,.fz (.lst (h.ls.map ld)))])
  (by
   have e0:(-(2 ^ 62)<=(h.ls.length:Int)-1/\(h.ls.length:Int)-1<2 ^ 62)=True:=by simp; lia
   clear hc1;walk_at "eo") (by rw[Ft]; lia) (fun d hd=>by
   obtain⟨j,hj⟩:=List.mem_iff_getElem?.mp hd;obtain⟨rfl,hj⟩:=Gh hj;have hk:j+1<h.ls.length:=by lia
   have e1:=Ca (xs:=h.ls.map ld) (i:=0+(j:Int)) (k:=j) (by lia) (by simpa using(by lia:j<h.ls.length));have e2:=Ca (xs:=h.ls.map ld) (i:=0+(j:Int)+1) (k:=j+1) (by lia) (by simpa using hk);have e3:(h.ls[j]'(by lia)).1<(h.ls[j+1]).1:=by
    have:=pairwise_iff_getElem.mp ok.ri j (j+1) (by simp; lia) (by simpa using hk) (by lia);simpa using this
   simp only[getElem_map,ld,chD] at e1 e2;have e4:decide ([(h.ls[j]'(by lia)).1] < [(h.ls[j+1]).1])=true:=by rw[decide_eq_true_iff]; exact(MW _ _).mpr e3
   have e5:=at0 (D.str ⟨#[(h.ls[j]'(by lia)).1]⟩) [.lst (iL (h.ls[j]'(by lia)).2)];have e6:=at0 (D.str ⟨#[(h.ls[j+1]).1]⟩) [.lst (iL (h.ls[j+1]).2)];clear hc1 hd e3 hj l1 l2 hlim;walk_at "eo")
 have e5:decide ((1:Int)<=(h.ls.length:Int))=true:=by simp; lia
 have e6:decide ((h.ls.length:Int)<=6)=true:=by simp; lia
 clear l1 l2 hlim;refine Bk (Z:=[some (s1,.fz (.int h.n)),some (s2,.fz (.lst (h.ls.map ld)))]) rfl ?_;show Dz [some (s1,.fz (.int h.n)),some (s2,.fz (.lst (h.ls.map ld)))]=_;unfold Dz;rw[Ai (Z1:=[some (s1,.fz (.int h.n)),some (s2,.fz (.lst (h.ls.map ld)))]) (by clear hc1 hc2; walk_at "eo"),Ai (FZ (not_of (B8 hc1)))];exact B7 hc2
theorem Nj(st:Own)(h:Hs)(ok:h.Ok):Dt [(st,.fz h.d)]=some (.fz (.bl true),[.fz h.d]):=by
 have e1:=Pd .own .own h ok;have e2:=S3 .own h.n ok.n1 ok.n2;have e3:=JK .own (.int h.n) (.lst (h.ls.map ld));have e4:=at0 (D.int h.n) [.lst (h.ls.map ld)];have e5:=at1 (D.int h.n) (.lst (h.ls.map ld)) [];simp only[Dt,fnM,Gn,Hs.d];walk_at "eo"
theorem KN(st:Own)(h:Hs)(ok:h.Ok):CL [(st,.fz h.d)]=some (.fz .non,[.fz h.d]):=by
 have e1:=Nj .own h ok;simp only[CL,fnM,E6];walk_at "eo"
noncomputable def Hs.text(h:Hs):Str:=⟨(h.ls.map (·.1)).toArray⟩
theorem Hc:∀(xs:List (Nat×List Int)),Dc (xs.map fun p=>chD p.1)=some (xs.map fun p=>(⟨#[p.1]⟩:Str))
 | []=>rfl
 | x::xs=>by
  have ih:=Hc xs;simp only[chD] at ih;simp[Dc,chD,ih]
theorem Lj(xs:List (Nat×List Int)):glue (xs.map fun p=>(⟨#[p.1]⟩:Str))=⟨(xs.map (·.1)).toArray⟩:=by
 unfold glue;congr 1;congr 1;induction xs with
 | nil=>rfl
 | cons x xs ih=>simp at ih |-; exact ih
theorem Mf(xs:List (Nat×List Int)):((xs.map fun p=>(⟨#[p.1]⟩:Str)).map (·.length)).sum=xs.length:=by
 induction xs with
 | nil=>rfl
 | cons x xs ih =>
  have:Str.length ⟨#[x.1]⟩=1:=rfl;simp only[map_cons,List.sum_cons,ih,this,length_cons];lia
theorem GO(st:Own)(h:Hs)(ok:h.Ok):B4 [(st,.fz h.d)]=some (.fz (.str h.text),[.fz h.d]):=by
 have e5:=at1 (D.int h.n) (.lst (h.ls.map ld)) [];have l2:=ok.l2;have hlim:1000<=LIM:=by decide
 have hc:=B3 (it:=By (opM ixA (m2L (Aa 0) (Ae (.int 1))))) (e:=opM ixA (m2L (Aa 0) (Ae (.int 0)))) (Z:=[some (st,.fz h.d)]) (Z1:=[some (st,.fz h.d)]) (ds:=h.ls.map ld) (n:=none) (f:=fun d=>match d with | .tup (x::_)=>x|d=>d)
  (by simp only[Hs.d]; walk_at "eo") (by simp; lia) (fun d hd=>by
   obtain⟨p,hp,rfl⟩:=mem_map.mp hd;have e6:=at0 (chD p.1) [.lst (iL p.2)];simp only[ld];refine⟨.val (.fz (chD p.1)),?_,?_⟩<;>clear hd hp e5<;>walk_at "eo")
 have e1:(h.ls.map ld).map (fun d=>match d with | .tup (x::_)=>x|d=>d)=h.ls.map fun p=>chD p.1:=by simp[ld]
 rw[e1] at hc;have e2:=Hc h.ls;have e3:=Lj h.ls;have e4:(((h.ls.map fun p=>(⟨#[p.1]⟩:Str)).map (·.length)).sum<=16777216)=True:=by rw[Mf]; simp; lia
 have e7:((Str.ofString "").length=0)=True:=by
  have:(Str.ofString "").length=0:=by decide +kernel
  simp[this]
 refine Bk (Z:=[some (st,.fz h.d)]) rfl ?_;show DS [some (st,.fz h.d)]=_;unfold DS;refine B7 ?_;simp only[on1,on2,on3,EL,Fi,A6,Bo,fzU,BW,BQ,CN,Ae,bind_some,m1L,Ab,Ad,hc,map_some,peeks,peek,BI,e7,if_true,Cq,AY,e2,e4,e3,Hs.text]
noncomputable def Row(h:Hs)(z:Str):Prop:=z.length<=1000/\∀c∈z.cps.toList,c∈h.ls.map (·.1)
theorem in_text(h:Hs)(c:Nat)(hc:c∈h.ls.map (·.1)):(!(Builtin.Str.occurrences h.text ⟨#[c]⟩ 0 h.text.length 1).isEmpty)=true:=by
 rw[StrLaws.found_one,decide_eq_true_iff];exact hc
theorem Rc(s1 s2:Own)(h:Hs)(ok:h.Ok)(z:Str)(hz:Row h z):Fu [(s1,.fz h.d),(s2,.fz (.str z))]=some (.fz (.bl true),[.fz h.d,.fz (.str z)]):=by
 have e1:=KN .own h ok;have e2:=GO .own h ok;have hlim:1000<=LIM:=by decide
 have e3:(z.length<=LIM)=True:=by have:=hz.1; simp; lia
 have hc:=all_true (it:=CO (Aa 1)) (e:=opM (inA false) (m2L (Aa 0) (Aa 3))) (Z:=[some (s1,.fz h.d),some (s2,.fz (.str z)),some (.own,.fz (.str h.text))]) (Z1:=[some (s1,.fz h.d),some (s2,.fz (.str z)),some (.own,.fz (.str h.text))]) (ds:=Eo z) (n:=none)
  (by walk_at "eo") (by
   have:(Eo z).length=z.length:=by simp[Eo]; rfl
   rw[this]; have:=hz.1; lia) (fun d hd=>by
   simp only[Eo,mem_map] at hd;obtain⟨c,hc,rfl⟩:=hd;have e4:=in_text h c (hz.2 c hc);clear e1 e2 e3;walk_at "eo")
 refine Bk (Z:=[some (s1,.fz h.d),some (s2,.fz (.str z)),some (.own,.fz (.str h.text))]) rfl ?_;show FW [some (s1,.fz h.d),some (s2,.fz (.str z)),none]=_;unfold FW;clear hz;rw[Ai (Z1:=[some (s1,.fz h.d),some (s2,.fz (.str z)),none]) (by clear hc; walk_at "eo"),Ai (Z1:=[some (s1,.fz h.d),some (s2,.fz (.str z)),none]) (by clear hc; walk_at "eo"),Ai (Z1:=[some (s1,.fz h.d),some (s2,.fz (.str z)),some (.own,.fz (.str h.text))]) (by clear hc; walk_at "eo")];exact B7 hc
theorem II(s1 s2:Own)(h:Hs)(ok:h.Ok)(z:Str)(hz:Row h z):Cj [(s1,.fz h.d),(s2,.fz (.str z))]=some (.fz .non,[.fz h.d,.fz (.str z)]):=by
 have e1:=Rc .own .own h ok z hz;simp only[Cj,fnM,Gq];clear hz;walk_at "eo"
noncomputable def Hs.hands(h:Hs)(c:Nat):List Int:=((h.ls.find? fun p=>p.1==c).map (·.2)).getD []
theorem HS{h:Hs}(ok:h.Ok){c:Nat}(hc:c∈h.ls.map (·.1)):∃(j:Nat) (hj:j<h.ls.length),(h.ls[j]).1=c/\Txt.find h.text ⟨#[c]⟩=(j:Int)/\h.hands c=(h.ls[j]).2:=by
 obtain⟨p,hp,rfl⟩:=mem_map.mp hc;obtain⟨j,hj,rfl⟩:=mem_iff_getElem.mp hp;have nd:∀k (hk:k<j),(h.ls[k]'(by lia)).1≠(h.ls[j]).1:=fun k hk=>by
  have:=pairwise_iff_getElem.mp ok.ri k j (by simp; lia) (by simpa using hj) hk;simp at this;lia
 refine⟨j,hj,rfl,PQ (by simp[Hs.text,hj]) (fun k hk=>?_),?_⟩
 .have hk':k<h.ls.length:=by lia
  simp only[Hs.text];rw[List.getElem?_eq_getElem (by simpa using hk')];simp;exact nd k hk
 .have:h.ls.find? (fun p=>p.1==(h.ls[j]).1)=some h.ls[j]:=by
   rw[List.find?_eq_some_iff_getElem];refine⟨by simp,j,hj,rfl,fun k hk=>?_⟩;have:=nd k hk;simpa using this
  simp[Hs.hands,this]
theorem D8(s1 s2:Own)(h:Hs)(ok:h.Ok)(c:Nat)(hc:c∈h.ls.map (·.1)):Ao [(s1,.fz h.d),(s2,.fz (chD c))]=some (.fz (.lst (iL (h.hands c))),[.fz h.d,.fz (chD c)]):=by
 have e1:=GO .own h ok;have e5:=at1 (D.int h.n) (.lst (h.ls.map ld)) [];obtain⟨j,hj,e2,e3,e4⟩:=HS ok hc;have e6:(0<=Txt.find h.text ⟨#[c]⟩)=True:=by rw[e3]; simp
 have e7:=Ca (xs:=h.ls.map ld) (i:=(j:Int)) (k:=j) rfl (by simpa using hj);have e8:ld (h.ls[j])=.tup [chD c,.lst (iL (h.hands c))]:=by rw[ld,e2,e4]
 simp only[getElem_map] at e7;rw[e8] at e7;have e9:=at1 (chD c) (.lst (iL (h.hands c))) [];rw[<- e3] at e7;clear e2 e3 e4 e8 hc;refine Bk (Z:=[some (s1,.fz h.d),some (s2,.fz (chD c))]) rfl ?_;show EI [some (s1,.fz h.d),some (s2,.fz (chD c))]=_;simp only[EI,Hs.d,chD] at e1 |-;simp only[chD] at e7 e9;walk_at "eo"
noncomputable def hL(xs:List Int):A:=.lst ((iL xs).map A.fz)
theorem Uz(xs:List Int):Cq (hL xs)=some (iL xs):=by simp[hL,Cq,AY]
theorem anyB{xs:List Int}{f:Int->Bool}:Dx (xs.map fun x=>D.bl (f x))=some (xs.map f):=CV xs f
theorem HG{α:Type}(xs:List α)(f:α -> Bool):(xs.map f).any id=xs.any f:=by simp[any_map]
theorem D7(s1 s2:Own)(xs ys:List Int)(hl:xs.length<=1000):Am [(s1,.fz (.lst (iL xs))),(s2,hL ys)]=some (.fz (.bl (xs.any fun x=>decide (x∈ys))),[.fz (.lst (iL xs)),hL ys]):=by
 have hlim:1000<=LIM:=by decide
 have hc:=B3 (it:=By (Aa 0)) (e:=opM (inA false) (m2L (Aa 0) (Aa 2))) (Z:=[some (s1,.fz (.lst (iL xs))),some (s2,hL ys)]) (Z1:=[some (s1,.fz (.lst (iL xs))),some (s2,hL ys)]) (ds:=iL xs) (n:=none) (f:=fun d=>.bl (decide (nD d∈ys)))
  (by walk_at "eo") (by simp; lia) (fun d hd=>by
   obtain⟨i,_,rfl⟩:=Kn.mp hd;refine⟨.val (.fz (.bl (decide (i∈ys)))),?_,?_⟩
   .have e1:=ES ys
    have e2:=F0 i ys;simp only[hL] at *;clear hlim hd;walk_at "eo"
   .rfl)
 rw[MY (fun i=>D.bl (decide (i∈ys)))] at hc;refine Bk (Z:=[some (s1,.fz (.lst (iL xs))),some (s2,hL ys)]) rfl ?_;show CD [some (s1,.fz (.lst (iL xs))),some (s2,hL ys)]=_;unfold CD;refine B7 ?_;simp only[on1,on2,on3,EL,Fi,A6,Bo,fzU,BW,BQ,opM,Ab,Ad,hc,bind_some,map_some,peeks,peek,FF,Cq,AY,anyB,HG]
noncomputable def Hs.at(h:Hs)(z:Str)(i:Nat):List Int:=h.hands (z.cps.toList.getD i 0)
theorem Row.c{h:Hs}{z:Str}(hz:Row h z){i:Nat}(hi:i<z.cps.toList.length):z.cps.toList.getD i 0∈h.ls.map (·.1):=by
 have:z.cps.toList.getD i 0=z.cps.toList[i]:=by simp[List.getD,List.getElem?_eq_getElem hi]
 rw[this];exact hz.2 _ (getElem_mem hi)
theorem Hs.hands_len{h:Hs}(ok:h.Ok)(c:Nat):(h.hands c).length<=4:=by
 unfold Hs.hands;cases e:h.ls.find? (fun p=>p.1==c) with
 | none=>simp
 | some p=>simpa using ok.hl p (List.mem_of_find?_eq_some e)
theorem KR{z:Str}{i:Nat}{j:Int}(hj:j=i)(hi:i<z.cps.toList.length):atI z.cps.toList j=some (z.cps.toList.getD i 0):=by
 rw[Ca hj hi];simp[List.getD,List.getElem?_eq_getElem hi]
noncomputable def Bag(n:Nat)(as:List A):Prop:=∃x y:Int,as=[.fz (.int x),.fz (.int y)]/\0<=y/\y<=n
theorem Bag.mono{n m:Nat}{as:List A}(h:Bag n as)(hm:n<=m):Bag m as:=by
 obtain⟨x,y,e,h1,h2⟩:=h;exact⟨x,y,e,h1,by lia⟩
theorem W6(st:Own)(x:Int):∃as a1,Bag 1 as/\Cg [(st,.fz (.int x))]=some (.lst as,[a1]):=by
 have p1:decide ((0:Int)<=18/\(18:Int)<=1000000/\Int.natAbs 10<2 ^ 64)=true:=by decide
 have l2:((2:Nat)<=LIM)=True:=by simp[LIM,sizeLine]
 have p2:decide ((0:Int)<2147483647)=true:=by decide
 by_cases h:(10:Int) ^ (18:Int).toNat<=(if x<0 then -x else x)
 .refine⟨_,_,⟨(if x<0 then -x else x),0,rfl,by lia,by lia⟩,Bk (Z:=[some (st,.fz (.int x))]) rfl ?_⟩
  show C3 [some (st,.fz (.int x))]=_;unfold C3;have h':=decide_eq_true h;clear h;walk_at "eo"
 .refine⟨_,_,⟨x % 2147483647,1,rfl,by lia,by lia⟩,Bk (Z:=[some (st,.fz (.int x))]) rfl ?_⟩
  show C3 [some (st,.fz (.int x))]=_;unfold C3;have h':=decide_eq_false h;clear h;walk_at "eo"
theorem En{n:Nat}{as:List A}(hb:Bag n as)(hn:n<=1000000)(m:Int)(hm:0<m)(hm2:m<1073741824):∃(d:Int) (as':List A),0<=d/\d<m/\Bag (n+1) as'/\An [(.lent,.lst as),(.own,.fz (.int m))]=some (.fz (.int d),[.lst as',.fz (.int m)]):=by
 obtain⟨x,y,rfl,h1,h2⟩:=hb;have m1:decide (0<m)=true:=decide_eq_true hm;have m2:decide (0<m/\m<1073741824)=true:=decide_eq_true ⟨hm,hm2⟩;have i0:ixN 2 0=some 0:=by rfl
 have i1:ixN 2 1=some 1:=by rfl
 by_cases hy:y=0
 .subst hy
  refine⟨x % m,[.fz (.int (x / m)),.fz (.int 0)],Int.emod_nonneg _ (by lia),Int.emod_lt_of_pos _ hm,⟨_,_,rfl,by lia,by lia⟩,Bk (Z:=[some (.lent,.lst [.fz (.int (x / m)),.fz (.int 0)]),some (.own,.fz (.int m)),some (.own,.fz (.int (x % m)))]) rfl ?_⟩;show CJ [some (.lent,.lst [.fz (.int x),.fz (.int 0)]),some (.own,.fz (.int m)),none]=_;unfold CJ;have a0:=at0 (D.int x) [D.int 0];have a1:=at1 (D.int x) (D.int 0) [];clear hm hm2 h1 h2 hn;walk_at "eo"
 .let x':=(x*48271+7919*y*y+17) % 2147483647
  have e1:eqD (.int y) (.int 0)=false:=by simp[DT,EX,EW,Ex,Ey,hy]
  have c1:(-(2 ^ 64)<x/\x<2 ^ 64 \/ -(2 ^ 64)<(48271:Int)/\(48271:Int)<2 ^ 64)=True:=by simp
  have c2:(-(2 ^ 64)<(7919:Int)/\(7919:Int)<2 ^ 64 \/ -(2 ^ 64)<y/\y<2 ^ 64)=True:=by simp
  have c3:(-(2 ^ 64)<7919*y/\7919*y<2 ^ 64 \/ -(2 ^ 64)<y/\y<2 ^ 64)=True:=by simp; lia
  have c4:(-(2 ^ 64)<x'/\x'<2 ^ 64 \/ -(2 ^ 64)<(69621:Int)/\(69621:Int)<2 ^ 64)=True:=by simp
  have d1:decide ((0:Int)<2147483647)=true:=by decide
  have d2:decide ((0:Int)<2147483629)=true:=by decide
  have d3:decide ((0:Int)<5/\(5:Int)<1073741824)=true:=by decide
  have hx:(x*48271+7919*y*y+17) % 2147483647=x':=rfl;refine⟨x'*69621 % 2147483629 / 5 % m,[.fz (.int x'),.fz (.int (y+1))],Int.emod_nonneg _ (by lia),Int.emod_lt_of_pos _ hm,⟨_,_,rfl,by lia,by lia⟩,Bk (Z:=[some (.lent,.lst [.fz (.int x'),.fz (.int (y+1))]),some (.own,.fz (.int m)),none]) rfl ?_⟩;show CJ [some (.lent,.lst [.fz (.int x),.fz (.int y)]),some (.own,.fz (.int m)),none]=_;unfold CJ;have a0:=at0 (D.int x) [D.int y];have a1:=at1 (D.int x) (D.int y) [];have a2:=at1 (D.int x') (D.int y) [];have a3:=at0 (D.int x') [D.int (y+1)];rw[Ai (Z1:=[some (.lent,.lst [.fz (.int x),.fz (.int y)]),some (.own,.fz (.int m)),none]) (by
   simp only[DT,EX,EW,Ex,Ey] at e1;clear hm hm2 h1 h2 hn c1 c2 c3 c4 hx hy;walk_at "eo"),Ai (Z1:=[some (.lent,.lst [.fz (.int x'),.fz (.int y)]),some (.own,.fz (.int m)),none]) (by
   clear hm hm2 h1 h2 hn c4 hy e1;walk_at "eo"),Ai (Z1:=[some (.lent,.lst [.fz (.int x'),.fz (.int (y+1))]),some (.own,.fz (.int m)),none]) (by
   clear hm hm2 h1 h2 hn c4 hy e1 c1 c2 c3 hx;walk_at "eo")]
  refine B7 ?_;clear hm hm2 h1 h2 hn hy e1 c1 c2 c3 hx;walk_at "eo"
noncomputable def HJ(b:Int)(i:Nat):Bool:=eqD (.int (Builtin.bitAnd (b / 2 ^ i) 1)) (.int 1)
noncomputable def E5(n:Nat)(b:Int):List Int:=((List.range n).filter (HJ b)).map fun(i:Nat)=>(i:Int)
theorem Ol(n:Nat)(b:Int):(E5 n b).Pairwise (· < ·):=by
 unfold E5;rw[pairwise_map];have:((List.range n).filter (HJ b)).Pairwise (· < ·):=List.Pairwise.filter _ List.pairwise_lt_range;exact this.imp fun h=>by lia
theorem RJ{n:Nat}{b:Int}:∀x∈E5 n b,0<=x/\x<n:=by
 intro x hx;simp only[E5,mem_map,mem_filter,mem_range] at hx;obtain⟨i,⟨hi,_⟩,rfl⟩:=hx;lia
theorem K7:∀n∈[2,3,4],∀b∈List.range 16,1<=b->b<2 ^ n->E5 n (b:Int)≠[]:=by decide +kernel
theorem Vb:∀n∈[2,3,4],∀a∈List.range n,∀b∈List.range n,1<=Builtin.bitOr (1*2 ^ a) (1*2 ^ b)/\Builtin.bitOr (1*2 ^ a) (1*2 ^ b)<2 ^ n:=by decide +kernel
theorem RK{n:Nat}{b:Int}(hn:n=2\/n=3\/n=4)(h1:1<=b)(h2:b<2 ^ n):E5 n b≠[]:=by
 obtain⟨k,rfl⟩:∃k:Nat,b=k:=⟨b.toNat,by lia⟩;have h16:(2:Int) ^ n<=16:=by rcases hn with rfl|rfl|rfl<;>decide
 refine K7 n (by rcases hn with rfl|rfl|rfl<;>simp) k (by simp; lia) (by lia) ?_;have:((k:Nat):Int)<((2 ^ n:Nat):Int):=by simpa using h2
 lia
theorem cons_of{m:ME}{ms:MA}{Z Z1 Z2:Ro}{r:R}{rs:List R}(h1:m Z=some (r,Z1))(h2:ms Z1=some (rs,Z2)):Ab m ms Z=some (r::rs,Z2):=by simp[Ab,h1,h2]
theorem Fo{m:ME}{Z Z1 Z2:Ro}{r:R}{d:D}(h1:m Z=some (r,Z1))(h2:share Z1 r=some (d,Z2)):Aj m Z=some (.val (.fz d),Z2):=by simp[Aj,h1,h2]
theorem Of{ms:MA}{Z Z1:Ro}{a b:D}(h:ms Z=some ([.val (.fz a),.val (.fz b)],Z1)):FJ ms Z=some (.val (.fz (.tup [a,b])),Z1):=by
 simp[FJ,h,moves,move,mkT,fzs,LIM,sizeLine]
theorem JZ{m:ME}{i:Nat}{Z:Ro}{st:Own}{as:List A}{a:A}(h0:Ef Z i=some (st,as))(h:m Z=some (.val a,Z))(hl:as.length<LIM):CZ i m Z=some (.next (Z.set i (some (st,.lst (as++[a]))))):=by
 simp only[CZ,h0,bind_some,h,keep,if_pos hl]
theorem Ph(Z:Ro)(ds:List D):share Z (.val (.lst (ds.map A.fz)))=some (.lst ds,Z):=by
 simp[share,er,Ed]
theorem RH:∀k∈List.range 26,atI (Str.ofString "abcdefghijklmnopqrstuvwxyz").cps.toList (k:Int)=some (97+k):=by decide +kernel
theorem RL(n:Nat)(b:Int):(((CU 0 n).filter fun d=>HJ b (nD d).toNat).map fun d=>d)=iL (E5 n b):=by
 have e1:(fun d=>HJ b (nD d).toNat) ∘ (fun(k:Nat)=>D.int (0+(k:Int)))=HJ b:=by
  funext k;simp
 have e2:D.int ∘ (fun(i:Nat)=>(i:Int))=fun(k:Nat)=>D.int (0+(k:Int)):=by
  funext k;simp
 rw[map_id',CU,filter_map,e1,iL,E5,map_map,e2]
structure HI (n:Int) (M j:Nat) (ls:List (Nat×List Int)) (a:Int):Prop where
 len:ls.length=j
 a0:0<=a
 a1:a<=26-M+j
 ch:∀p∈ls,97<=p.1/\(p.1:Int)<97+a
 ri:(ls.map (·.1)).Pairwise (· < ·)
 hs:∀p∈ls,p.2≠[]/\p.2.Pairwise (· < ·)/\∀x∈p.2,0<=x/\x<n
theorem HI.step{n:Int}{M j:Nat}{ls:List (Nat×List Int)}{a d:Int}{hl:List Int}(h:HI n M j ls a)(d0:0<=d)(d1:d<27-M+(0+(j:Int))-a)(hl0:hl≠[])(hl1:hl.Pairwise (· < ·))(hl2:∀x∈hl,0<=x/\x<n):HI n M (j+1) (ls++[(97+(a+d).toNat,hl)]) (a+d+1):=by
 have a0:=h.a0;refine⟨by simp[h.len],by lia,by lia,?_,?_,?_⟩
 .intro p hp
  rcases mem_append.mp hp with hp|hp
  .have:=h.ch p hp; lia
  .simp only[mem_singleton] at hp; subst hp; simp only; lia
 .rw[map_append,List.pairwise_append]
  refine⟨h.ri,by simp,?_⟩;intro x hx y hy;obtain⟨p,hp,rfl⟩:=mem_map.mp hx;simp only[map_cons,map_nil,mem_singleton] at hy;subst hy;have:=(h.ch p hp).2;lia
 .intro p hp
  rcases mem_append.mp hp with hp|hp
  .exact h.hs p hp
  .simp only[mem_singleton] at hp; subst hp; exact⟨hl0,hl1,hl2⟩
theorem KJ{n M S a:Int}{Mn j N:Nat}{as:List A}{ls:List (Nat×List Int)}{x7:Slot}(hM:M=Mn)(hM2:Mn<=6)(hj:j<Mn)(hn:n=2\/n=3\/n=4)(hb:Bag N as)(hN:N<=100000)(hi:HI n Mn j ls a)(hx7:x7=none\/∃d,x7=some (Own.own,A.fz d)):
  ∃as' ls' a' b,(Ax (Ay 5 (opM AL (m2L (Aa 5) (Af An (Ab (Aa 0) (Ab (opM Ep (m2L (opM AL (m2L (opM Ep (m2L (Ae (.int 27)) (Aa 2))) (Aa 6))) (Aa 5))) Ad)))))) (Ax (Ay 7 (opM AL (m2L (Ae (.int 1)) (Af An (Ab (Aa 0) (Ab (opM Ep (m2L (opM Fq (m2L (Ae (.int 1)) (Aa 1))) (Ae (.int 1)))) Ad)))))) (Ax (ifS (Aw (opM eqA (m2L (Aa 3) (Ae (.int 1))))) (Ay 7 (opM J1 (m2L (opM Fq (m2L (Ae (.int 1)) (Af An (Ab (Aa 0) (Ab (Aa 1) Ad))))) (opM Fq (m2L (Ae (.int 1)) (Af An (Ab (Aa 0) (Ab (Aa 1) Ad)))))))) AK) (Ax (CZ 4 (FJ (Ab (Aj (opM ixA (m2L (Ae (.str (Str.ofString "abcdefghijklmnopqrstuvwxyz"))) (Aa 5)))) (Ab (Aj (AI (Bm (Aa 1)) 0 (Aw (opM eqA (m2L (opM E4 (m2L (opM IP (m2L (Aa 8) (Aa 0))) (Ae (.int 1)))) (Ae (.int 1))))) (Aa 0))) Ad)))) (Ay 5 (opM AL (m2L (Aa 5) (Ae (.int 1))))))))) [some (.lent,.lst as),oI n,oI M,oI S,some (.own,.lst (ls.map fun p=>A.fz (ld p))),oI a,oI (0+(j:Int)),x7]=some (.next [some (.lent,.lst as'),oI n,oI M,oI S,some (.own,.lst (ls'.map fun p=>A.fz (ld p))),oI a',oI (0+(j:Int)),oI b])/\Bag (N+4) as'/\HI n Mn (j+1) ls' a':=by
 have a0:=hi.a0;have a1:=hi.a1;have hp:(1:Int)*2 ^ n.toNat-1<=15/\0<(1:Int)*2 ^ n.toNat-1:=by rcases hn with rfl|rfl|rfl<;>decide
 have sh:decide (0<=n/\n<=1000000/\Int.natAbs 1<2 ^ 64)=true:=by rcases hn with rfl|rfl|rfl<;>decide
 obtain⟨d1,as1,g1,g2,b1,t1⟩:=En hb (by lia) (27-M+(0+(j:Int))-a) (by lia) (by lia);obtain⟨d2,as2,g3,g4,b2,t2⟩:=En b1 (by lia) ((1:Int)*2 ^ n.toNat-1) (by lia) (by lia);have st1:Ay 5 (opM AL (m2L (Aa 5) (Af An (Ab (Aa 0) (Ab (opM Ep (m2L (opM AL (m2L (opM Ep (m2L (Ae (.int 27)) (Aa 2))) (Aa 6))) (Aa 5))) Ad))))) [some (.lent,.lst as),oI n,oI M,oI S,some (.own,.lst (ls.map fun p=>A.fz (ld p))),oI a,oI (0+(j:Int)),x7]=some (.next [some (.lent,.lst as1),oI n,oI M,oI S,some (.own,.lst (ls.map fun p=>A.fz (ld p))),oI (a+d1),oI (0+(j:Int)),x7]):=by
  clear t2 b2 b1 g1 g2 g3 g4 sh hp a0 a1 hi hN hb hn hj hM2 hM hx7;walk_at "eo"
 have st2:Ay 7 (opM AL (m2L (Ae (.int 1)) (Af An (Ab (Aa 0) (Ab (opM Ep (m2L (opM Fq (m2L (Ae (.int 1)) (Aa 1))) (Ae (.int 1)))) Ad))))) [some (.lent,.lst as1),oI n,oI M,oI S,some (.own,.lst (ls.map fun p=>A.fz (ld p))),oI (a+d1),oI (0+(j:Int)),x7]=some (.next [some (.lent,.lst as2),oI n,oI M,oI S,some (.own,.lst (ls.map fun p=>A.fz (ld p))),oI (a+d1),oI (0+(j:Int)),oI (1+d2)]):=by
  clear t1 b2 b1 g1 g2 g3 g4 hp a0 a1 hi hN hb hn hj hM2 hM st1;rcases hx7 with rfl|⟨d,rfl⟩<;>walk_at "eo"
 have st3:∃as3 b,Bag (N+4) as3/\1<=b/\b<2 ^ n.toNat/\(ifS (Aw (opM eqA (m2L (Aa 3) (Ae (.int 1))))) (Ay 7 (opM J1 (m2L (opM Fq (m2L (Ae (.int 1)) (Af An (Ab (Aa 0) (Ab (Aa 1) Ad))))) (opM Fq (m2L (Ae (.int 1)) (Af An (Ab (Aa 0) (Ab (Aa 1) Ad)))))))) AK) [some (.lent,.lst as2),oI n,oI M,oI S,some (.own,.lst (ls.map fun p=>A.fz (ld p))),oI (a+d1),oI (0+(j:Int)),oI (1+d2)]=some (.next [some (.lent,.lst as3),oI n,oI M,oI S,some (.own,.lst (ls.map fun p=>A.fz (ld p))),oI (a+d1),oI (0+(j:Int)),oI b]):=by
  by_cases hS:S=1
  .obtain⟨d3,as3,g5,g6,b3,t3⟩:=En b2 (by lia) n (by lia) (by lia)
   obtain⟨d4,as4,g7,g8,b4,t4⟩:=En b3 (by lia) n (by lia) (by lia);have ho:=Vb n.toNat (by rcases hn with rfl|rfl|rfl<;>simp) d3.toNat (by simp; lia) d4.toNat (by simp; lia);have sh3:decide (0<=d3/\d3<=1000000/\Int.natAbs 1<2 ^ 64)=true:=by simp; lia
   have sh4:decide (0<=d4/\d4<=1000000/\Int.natAbs 1<2 ^ 64)=true:=by simp; lia
   refine⟨as4,_,b4.mono (by lia),ho.1,ho.2,?_⟩;have e1:(S==1)=true:=by simpa using hS
   clear ho g5 g6 g7 g8 b3 b4 t1 t2 st1 st2 b2 b1 g1 g2 g3 g4 hp a0 a1 hi hN hb hn hj hM2 hM hx7 sh hS;walk_at "eo"
  .refine⟨as2,_,b2.mono (by lia),(by lia:1<=1+d2),by lia,?_⟩
   have e1:(S==1)=false:=by simpa using hS
   clear t1 t2 st1 st2 b2 b1 g1 g2 g3 g4 hp a0 a1 hi hN hb hn hj hM2 hM hx7 sh hS;walk_at "eo"
 obtain⟨as3,b,b3,c1,c2,st3⟩:=st3;have hc:AI (Bm (Aa 1)) 0 (Aw (opM eqA (m2L (opM E4 (m2L (opM IP (m2L (Aa 8) (Aa 0))) (Ae (.int 1)))) (Ae (.int 1))))) (Aa 0) [some (.lent,.lst as3),oI n,oI M,oI S,some (.own,.lst (ls.map fun p=>A.fz (ld p))),oI (a+d1),oI (0+(j:Int)),oI b]=some (.val (.lst ((iL (E5 n.toNat b)).map A.fz)),[some (.lent,.lst as3),oI n,oI M,oI S,some (.own,.lst (ls.map fun p=>A.fz (ld p))),oI (a+d1),oI (0+(j:Int)),oI b]):=by
  have hlim:1000<=LIM:=by decide
  have rg:Bm (Aa 1) [some (.lent,.lst as3),oI n,oI M,oI S,some (.own,.lst (ls.map fun p=>A.fz (ld p))),oI (a+d1),oI (0+(j:Int)),oI b]=some (CU 0 n.toNat,none,[some (.lent,.lst as3),oI n,oI M,oI S,some (.own,.lst (ls.map fun p=>A.fz (ld p))),oI (a+d1),oI (0+(j:Int)),oI b]):=by
   have e0:(-(2 ^ 62)<=n/\n<2 ^ 62)=True:=by simp; lia
   clear st3 t1 t2 st1 st2 b2 b1 g1 g2 g3 g4 hp a0 a1 hi hN hb hn hj hM2 hM hx7 sh c1 c2 b3 hlim;walk_at "eo"
  have:=Ew (g:=fun d=>HJ b (nD d).toNat) (f:=fun d=>d) (c:=Aw (opM eqA (m2L (opM E4 (m2L (opM IP (m2L (Aa 8) (Aa 0))) (Ae (.int 1)))) (Ae (.int 1))))) (e:=Aa 0) rg (by rw[Ft]; lia) (fun d hd=>by
   obtain⟨i,hi⟩:=List.mem_iff_getElem?.mp hd;obtain⟨rfl,hi⟩:=Gh hi;have e0:decide (0<=(0:Int)+(i:Int))=true:=by simp
   clear rg st3 t1 t2 st1 st2 b2 b1 g1 g2 g3 g4 hp a0 a1 hN hb hn hj hM2 hM hx7 sh c1 c2 b3 hlim hd;simp only[HJ,Qy];walk_at "eo") (fun d hd _=>⟨.val (.fz d),rfl,rfl⟩)
  rw[this,RL]
 have ha:=RH (a+d1).toNat (by simp; lia);have hcx:atI (Str.ofString "abcdefghijklmnopqrstuvwxyz").cps.toList (a+d1)=some (97+(a+d1).toNat):=by
  have:(((a+d1).toNat:Nat):Int)=a+d1:=by lia
  rw[this] at ha; exact ha
 have hix:(opM ixA (m2L (Ae (.str (Str.ofString "abcdefghijklmnopqrstuvwxyz"))) (Aa 5))) [some (.lent,.lst as3),oI n,oI M,oI S,some (.own,.lst (ls.map fun p=>A.fz (ld p))),oI (a+d1),oI (0+(j:Int)),oI b]=some (.val (.fz (chD (97+(a+d1).toNat))),[some (.lent,.lst as3),oI n,oI M,oI S,some (.own,.lst (ls.map fun p=>A.fz (ld p))),oI (a+d1),oI (0+(j:Int)),oI b]):=by
  clear st3 t1 t2 st1 st2 b2 b1 g1 g2 g3 g4 hp a0 a1 hi hN hb hn hj hM2 hM hx7 sh c1 c2 b3 hc ha;simp only[chD];walk_at "eo"
 have hlsl:(ls.map fun p=>A.fz (ld p)).length<LIM:=by
  have hlim:1000<=LIM:=by decide
  have:=hi.len;simp only[length_map]; lia
 have st4:CZ 4 (FJ (Ab (Aj (opM ixA (m2L (Ae (.str (Str.ofString "abcdefghijklmnopqrstuvwxyz"))) (Aa 5)))) (Ab (Aj (AI (Bm (Aa 1)) 0 (Aw (opM eqA (m2L (opM E4 (m2L (opM IP (m2L (Aa 8) (Aa 0))) (Ae (.int 1)))) (Ae (.int 1))))) (Aa 0))) Ad))) [some (.lent,.lst as3),oI n,oI M,oI S,some (.own,.lst (ls.map fun p=>A.fz (ld p))),oI (a+d1),oI (0+(j:Int)),oI b]=some (.next [some (.lent,.lst as3),oI n,oI M,oI S,some (.own,.lst ((ls++[((97+(a+d1).toNat),E5 n.toNat b)]).map fun p=>A.fz (ld p))),oI (a+d1),oI (0+(j:Int)),oI b]):=by
  rw[JZ (st:=.own) (as:=ls.map fun p=>A.fz (ld p)) rfl (Of (cons_of (Fo hix rfl) (cons_of (Fo hc (Ph _ _)) rfl))) hlsl];simp[ld]
 have hbits:=RK (n:=n.toNat) (b:=b) (by lia) c1 c2;refine⟨as3,ls++[((97+(a+d1).toNat),E5 n.toNat b)],a+d1+1,b,?_,b3,hi.step g1 (by lia) hbits (Ol _ _) (fun x hx=>by have:=RJ x hx; lia)⟩;rw[Ai st1,Ai st2,Ai st3,Ai st4];clear st3 t1 t2 st1 st2 b2 b1 g1 g2 g3 g4 hp a0 a1 hi hN hb hn hj hM2 hM hx7 sh c1 c2 b3 hc ha hix hlsl st4 hbits;walk_at "eo"
theorem S8{N:Nat}{as:List A}(hb:Bag N as)(hN:N<=1000):∃h:Hs,∃as',h.Ok/\Bag (N+30) as'/\BK [(.lent,.lst as)]=some (.fz h.d,[.lst as']):=by
 obtain⟨d1,as1,g1,g2,b1,t1⟩:=En hb (by lia) 3 (by lia) (by lia);obtain⟨d2,as2,g3,g4,b2,t2⟩:=En b1 (by lia) 6 (by lia) (by lia);obtain⟨d3,as3,g5,g6,b3,t3⟩:=En b2 (by lia) 2 (by lia) (by lia);have l0:((0:Nat)<=LIM)=True:=by simp
 have rg:Bm (Aa 2) [some (.lent,.lst as3),oI (2+d1),oI (1+d2),oI d3,some (.own,.lst (([]:List (Nat×List Int)).map fun p=>A.fz (ld p))),oI 0,none,none]=some (CU 0 (1+d2).toNat,none,[some (.lent,.lst as3),oI (2+d1),oI (1+d2),oI d3,some (.own,.lst (([]:List (Nat×List Int)).map fun p=>A.fz (ld p))),oI 0,none,none]):=by
  have e0:(-(2 ^ 62)<=1+d2/\1+d2<2 ^ 62)=True:=by simp; lia
  clear t1 t2 t3 b1 b2 b3 g1 g2 g3 g4 g5 g6 hb hN l0;walk_at "eo"
 obtain⟨Z',f1,f2⟩:=Ck (is:=[6]) (one:=true) (b:=(Ax (Ay 5 (opM AL (m2L (Aa 5) (Af An (Ab (Aa 0) (Ab (opM Ep (m2L (opM AL (m2L (opM Ep (m2L (Ae (.int 27)) (Aa 2))) (Aa 6))) (Aa 5))) Ad)))))) (Ax (Ay 7 (opM AL (m2L (Ae (.int 1)) (Af An (Ab (Aa 0) (Ab (opM Ep (m2L (opM Fq (m2L (Ae (.int 1)) (Aa 1))) (Ae (.int 1)))) Ad)))))) (Ax (ifS (Aw (opM eqA (m2L (Aa 3) (Ae (.int 1))))) (Ay 7 (opM J1 (m2L (opM Fq (m2L (Ae (.int 1)) (Af An (Ab (Aa 0) (Ab (Aa 1) Ad))))) (opM Fq (m2L (Ae (.int 1)) (Af An (Ab (Aa 0) (Ab (Aa 1) Ad)))))))) AK) (Ax (CZ 4 (FJ (Ab (Aj (opM ixA (m2L (Ae (.str (Str.ofString "abcdefghijklmnopqrstuvwxyz"))) (Aa 5)))) (Ab (Aj (AI (Bm (Aa 1)) 0 (Aw (opM eqA (m2L (opM E4 (m2L (opM IP (m2L (Aa 8) (Aa 0))) (Ae (.int 1)))) (Ae (.int 1))))) (Aa 0))) Ad)))) (Ay 5 (opM AL (m2L (Aa 5) (Ae (.int 1))))))))))
  (fun j Z=>∃as' ls' a' x6 x7,(x6=none\/∃d,x6=some (Own.own,A.fz d))/\(x7=none\/∃d,x7=some (Own.own,A.fz d))/\Bag (N+3+4*j) as'/\HI (2+d1) (1+d2).toNat j ls' a'/\Z=[some (.lent,.lst as'),oI (2+d1),oI (1+d2),oI d3,some (.own,.lst (ls'.map fun p=>A.fz (ld p))),oI a',x6,x7]) rg ⟨as3,[],0,none,none,.inl rfl,.inl rfl,b3,⟨rfl,by lia,by lia,by simp,by simp,by simp⟩,rfl⟩ (fun j d Z hd hI=>by
   obtain⟨as',ls',a',x6,x7,hx6,hx7,hb',hi,rfl⟩:=hI;obtain⟨rfl,hj⟩:=Gh hd;obtain⟨as'',ls'',a'',b,s1,s2,s3⟩:=KJ (n:=2+d1) (M:=1+d2) (S:=d3) (Mn:=(1+d2).toNat) (j:=j) (by lia) (by lia) hj (by lia) hb' (by lia) hi hx7;refine⟨_,_,?_,.inl s1,as'',ls'',a'',_,_,.inr ⟨_,rfl⟩,.inr ⟨_,rfl⟩,s2.mono (by lia),s3,rfl⟩;rcases hx6 with rfl|⟨d,rfl⟩<;>simp[Gj,free,J.own])
 rw[Ft] at f2;obtain⟨as',ls',a',x6,x7,_,_,hb',hi,rfl⟩:=f2;have hn2:2+d1<=4:=by lia
 have ha1:=hi.a1;have hlen:=hi.len;have ok:Hs.Ok ⟨2+d1,ls'⟩:=⟨by simp only; lia,hn2,by simp only; lia,by simp only; lia,fun p hp=>by have:=hi.ch p hp; lia,hi.ri,hi.hs⟩;refine⟨⟨2+d1,ls'⟩,as',ok,hb'.mono (by lia),Bk (Z:=[some (.lent,.lst as'),oI (2+d1),oI (1+d2),oI d3,some (.own,.fz (.lst (ls'.map ld))),oI a',x6,x7]) rfl ?_⟩;show DQ [some (.lent,.lst as),none,none,none,none,none,none,none]=_;unfold DQ;rw[Ai (Z1:=[some (.lent,.lst as1),oI (2+d1),none,none,none,none,none,none]) (by clear t2 t3 b1 b2 b3 g1 g2 g3 g4 g5 g6 hb hN rg f1 ok ha1 hlen hn2 hi hb'; walk_at "eo"),
  Ai (Z1:=[some (.lent,.lst as2),oI (2+d1),oI (1+d2),none,none,none,none,none]) (by clear t1 t3 b1 b2 b3 g1 g2 g3 g4 g5 g6 hb hN rg f1 ok ha1 hlen hn2 hi hb'; walk_at "eo"),
  Ai (Z1:=[some (.lent,.lst as3),oI (2+d1),oI (1+d2),oI d3,none,none,none,none]) (by clear t1 t2 b1 b2 b3 g1 g2 g3 g4 g5 g6 hb hN rg f1 ok ha1 hlen hn2 hi hb'; walk_at "eo"),
  Ai (Z1:=[some (.lent,.lst as3),oI (2+d1),oI (1+d2),oI d3,some (.own,.lst (([]:List (Nat×List Int)).map fun p=>A.fz (ld p))),none,none,none]) (by clear t1 t2 t3 b1 b2 b3 g1 g2 g3 g4 g5 g6 hb hN rg f1 ok ha1 hlen hn2 hi hb'; walk_at "eo"),
  Ai (Z1:=[some (.lent,.lst as3),oI (2+d1),oI (1+d2),oI d3,some (.own,.lst (([]:List (Nat×List Int)).map fun p=>A.fz (ld p))),oI 0,none,none]) (by clear t1 t2 t3 b1 b2 b3 g1 g2 g3 g4 g5 g6 hb hN rg f1 ok ha1 hlen hn2 hi hb'; walk_at "eo"),
  Ai f1]
 refine B7 ?_;refine Of (cons_of (Fo rfl rfl) (cons_of (Fo (r:=.ref 4) rfl ?_) rfl));have:=Ed (ls'.map ld);rw[map_map] at this;simp only[unlock,share,List.getElem?_cons_zero,List.getElem?_cons_succ,er];rw[show(ls'.map fun p=>A.fz (ld p))=ls'.map (A.fz ∘ ld) from rfl,this];rfl
theorem app_list(z:Str)(c:Nat):(z++(⟨#[c]⟩:Str)).cps.toList=z.cps.toList++[c]:=by
 show(z.cps ++ #[c]).toList=_;simp
theorem NI(z:Str)(c:Nat):(z++(⟨#[c]⟩:Str)).length=z.length+1:=by
 show(z.cps ++ #[c]).size=z.cps.size+1;simp
theorem len_one(c:Nat):Str.length ⟨#[c]⟩=1:=rfl
theorem HD{n j:Nat}{d:D}(h:(CU 0 n)[j]? = some d):d=.int j/\j<n:=by
 obtain⟨h1,h2⟩:=Gh h;rw[Int.zero_add] at h1;exact⟨h1,h2⟩
theorem Iw:∀(ls:List (Nat×List Int)),Gf (ls.map ld)=some (ls.map fun p=>((Sum.inr (⟨#[p.1]⟩:Str):Key),D.lst (iL p.2)))
 | []=>rfl
 | p::ls=>by
  have ih:=Iw ls;simp only[map_cons,ld,chD,Gf,Ja,bind_some];rw[ih];rfl
theorem ND{h:Hs}{c:Nat}(hc:c∈h.ls.map (·.1)):Pq (h.ls.map fun p=>((Sum.inr (⟨#[p.1]⟩:Str):Key),D.lst (iL p.2))) (Sum.inr (⟨#[c]⟩:Str))=some (.lst (iL (h.hands c))):=by
 unfold Pq Hs.hands;rw[List.find?_map];have e1:((fun(kv:Key×D)=>decide (kv.1=Sum.inr (⟨#[c]⟩:Str))) ∘ fun(p:Nat×List Int)=>((Sum.inr (⟨#[p.1]⟩:Str):Key),D.lst (iL p.2)))=fun p=>p.1==c:=by
  funext p;rw[Bool.eq_iff_iff];simp
 rw[e1];cases hf:h.ls.find? (fun p=>p.1==c) with
 | none =>
  obtain⟨p,hp,rfl⟩:=mem_map.mp hc;have:=List.find?_eq_none.mp hf p hp;simp at this
 | some p=>rfl
theorem keys_nodup{h:Hs}(ok:h.Ok):((h.ls.map fun p=>((Sum.inr (⟨#[p.1]⟩:Str):Key),D.lst (iL p.2))).map (·.1)).Nodup:=by
 rw[map_map];have:=ok.ri;rw[pairwise_map] at this;unfold List.Nodup;rw[pairwise_map];refine this.imp fun {a b} hab e=>?_;simp at e;lia
theorem VP(s1 s2 s3:Own)(h:Hs)(ok:h.Ok)(c1 c2:Nat)(hc1:c1∈h.ls.map (·.1))(hc2:c2∈h.ls.map (·.1)):Bc [(s1,.fz h.d),(s2,.fz (.str ⟨#[c1]⟩)),(s3,.fz (.str ⟨#[c2]⟩))]=some (.fz (.bl ((h.hands c1).any fun x=>decide (x∈h.hands c2))),[.fz h.d,.fz (.str ⟨#[c1]⟩),.fz (.str ⟨#[c2]⟩)]):=by
 have e1:=Iw h.ls;have e2:=ND hc1;have e3:=ND hc2;have e4:((h.ls.map fun p=>((Sum.inr (⟨#[p.1]⟩:Str):Key),D.lst (iL p.2))).map (·.1)).Nodup=True:=eq_true (keys_nodup ok);have e5:=at1 (D.int h.n) (.lst (h.ls.map ld)) [];have hl:=h.hands_len ok c1;have hlim:1000<=LIM:=by decide
 generalize (h.ls.map fun p=>((Sum.inr (⟨#[p.1]⟩:Str):Key),D.lst (iL p.2)))=kvs at e1 e2 e3 e4;have hc:=B3 (it:=By (opM GU (m2L (Aa 3) (Aa 1)))) (e:=opM (inA false) (m2L (Aa 0) (opM GU (m2L (Aa 4) (Aa 3))))) (Z:=[some (s1,.fz h.d),some (s2,.fz (.str ⟨#[c1]⟩)),some (s3,.fz (.str ⟨#[c2]⟩)),some (.own,.dic kvs)]) (Z1:=[some (s1,.fz h.d),some (s2,.fz (.str ⟨#[c1]⟩)),some (s3,.fz (.str ⟨#[c2]⟩)),some (.own,.dic kvs)]) (ds:=iL (h.hands c1)) (n:=none) (f:=fun d=>.bl (decide (nD d∈h.hands c2)))
  (by clear e1 e4 e5 hl hlim hc1 hc2 ok; walk_at "eo") (by simp; lia) (fun d hd=>by
   obtain⟨i,_,rfl⟩:=Kn.mp hd;refine⟨.val (.fz (.bl (decide (i∈h.hands c2)))),?_,rfl⟩;clear e1 e4 e5 hl hlim hc1 hc2 ok hd e2;walk_at "eo")
 rw[MY (fun i=>D.bl (decide (i∈h.hands c2)))] at hc;refine Bk (Z:=[some (s1,.fz h.d),some (s2,.fz (.str ⟨#[c1]⟩)),some (s3,.fz (.str ⟨#[c2]⟩)),some (.own,.dic kvs)]) rfl ?_;show Ei [some (s1,.fz h.d),some (s2,.fz (.str ⟨#[c1]⟩)),some (s3,.fz (.str ⟨#[c2]⟩)),none]=_;unfold Ei;rw[Ai (Z1:=[some (s1,.fz h.d),some (s2,.fz (.str ⟨#[c1]⟩)),some (s3,.fz (.str ⟨#[c2]⟩)),some (.own,.dic kvs)]) (by
  clear hc e2 e3 hl hlim hc1 hc2 ok;simp only[Hs.d];walk_at "eo")]
 refine B7 ?_;simp only[on1,on2,on3,EL,Fi,A6,Bo,fzU,BW,BQ,opM,Ab,Ad,hc,bind_some,map_some,peeks,peek,FF,Cq,AY,anyB,HG]
theorem Str.list_len(z:Str):z.cps.toList.length=z.length:=by simp; rfl
theorem GN{m:ME}{Z Z1:Ro}{n:Int}(h:m Z=some (.val (.fz (.int n)),Z1))(h0:0<=n)(h1:n<=1000000):Bm m Z=some (CU 0 n.toNat,none,Z1):=by
 have e0:(-(2 ^ 62)<=n/\n<2 ^ 62)=True:=by simp; lia
 simp only[Bm,h,bind_some,e0,if_true]
theorem P2(z:Str)(j:Nat):z.cps.getD j 0=z.cps.toList.getD j 0:=by rw[Array.getD_eq_getD_getElem?]; simp[List.getD]
theorem Si{z:Str}{j:Nat}{d:D}(h:(FP z)[j]? = some d):d=.tup [.int j,.str ⟨#[z.cps.getD j 0]⟩]/\j<z.length:=by
 have hj:j<z.cps.size:=by have:=AB h; simpa[FP] using this
 simp only[FP,List.getElem?_map,List.getElem?_range hj,map_some,Option.some.injEq] at h;exact⟨h.symm,hj⟩
theorem nil_of(Z:Ro):Ad Z=some ([],Z):=rfl
theorem VN(ns:List Int)(k:Nat):∃c a2,BG [(.ro,.scr ns),(.own,.fz (.int k))]=some (.fz (.int c),[.scr ns,a2]):=by
 by_cases h:k<ns.length
 .obtain⟨c,e2⟩:∃c,atI (ns.map D.int) (k:Int)=some (.int c):=⟨ns[k],by
   have e2:=Ca (xs:=ns.map D.int) (i:=(k:Int)) (k:=k) rfl (by simpa using h);simpa using e2⟩
  refine⟨c,_,Bk (Z:=[some (.ro,.scr ns),some (.own,.fz (.int k))]) rfl ?_⟩;show CI [some (.ro,.scr ns),some (.own,.fz (.int k))]=_;unfold CI;have e1:decide ((k:Int)<(ns.length:Int))=true:=by simpa using h
  clear h;walk_at "eo"
 .refine⟨0,_,Bk (Z:=[some (.ro,.scr ns),some (.own,.fz (.int k))]) rfl ?_⟩
  show CI [some (.ro,.scr ns),some (.own,.fz (.int k))]=_;unfold CI;have e1:decide ((k:Int)<(ns.length:Int))=false:=by simpa using h
  clear h;walk_at "eo"
theorem KW(cs:List Nat):Dc (cs.map chD)=some (cs.map fun c=>(⟨#[c]⟩:Str)):=by
 have:=Hc (cs.map fun c=>(c,[]));simpa[map_map,Function.comp_def] using this
theorem Ke(cs:List Nat):glue (cs.map fun c=>(⟨#[c]⟩:Str))=⟨cs.toArray⟩:=by
 have:=Lj (cs.map fun c=>(c,[]));simpa[map_map,Function.comp_def] using this
theorem Nu(cs:List Nat):((cs.map fun c=>(⟨#[c]⟩:Str)).map (·.length)).sum=cs.length:=by
 have:=Mf (cs.map fun c=>(c,[]));simpa[map_map,Function.comp_def] using this
theorem NT{m:ME}{Z Z1:Ro}{cs:List Nat}(hm:m Z=some (.val (.lst ((cs.map chD).map A.fz)),Z1))(hl:cs.length<=1000):CN BI (Ae (.str (Str.ofString ""))) (m1L m) Z=some (.val (.fz (.str ⟨cs.toArray⟩)),Z1):=by
 have e7:((Str.ofString "").length=0)=True:=by
  have:(Str.ofString "").length=0:=by decide +kernel
  simp[this]
 have e4:(((cs.map fun c=>(⟨#[c]⟩:Str)).map (·.length)).sum<=16777216)=True:=by rw[Nu]; simp; lia
 simp only[on1,on2,on3,EL,Fi,A6,Bo,fzU,BW,BQ,CN,Ae,bind_some,m1L,Ab,Ad,hm,map_some,peeks,peek,BI,e7,if_true,Cq,AY,KW,e4,Ke]
theorem Lr{h:Hs}(ok:h.Ok){p:Nat×List Int}(hp:p∈h.ls):h.hands p.1=p.2:=by
 obtain⟨j,hj,e1,_,e3⟩:=HS ok (mem_map.mpr ⟨p,hp,rfl⟩);obtain⟨k,hk,rfl⟩:=mem_iff_getElem.mp hp;have:j=k:=by
  rcases Nat.lt_trichotomy j k with q|q|q
  .have:=pairwise_iff_getElem.mp ok.ri j k (by simpa using hj) (by simpa using hk) q
   simp at this;lia
  .exact q
  .have:=pairwise_iff_getElem.mp ok.ri k j (by simpa using hk) (by simpa using hj) q
   simp at this;lia
 subst this;exact e3
theorem TR(c:Nat)(cs:List Nat):inD (chD c) (cs.map chD)=decide (c∈cs):=by
 induction cs with
 | nil=>rfl
 | cons y ys ih =>
  have:inD (chD c) ((y::ys).map chD)=(eqD (chD y) (chD c) || inD (chD c) (ys.map chD)):=rfl;rw[this,ih];by_cases h:y=c
  .subst h; simp[E7]
  .have h':¬c=y:=fun z=>h z.symm
   simp[h,h',chD,DT,EX,EW,Ex,Ey]
theorem NO(cs:List Nat):(cs.map chD).all CA=true:=by simp[chD,CA,all_eq_true]
noncomputable def gC(cs:List Nat):D->Bool
 | .str z=>decide (z.cps.getD 0 0∈cs)
 | _=>false
noncomputable def tx(cs:List Nat):Str:=⟨cs.toArray⟩
noncomputable abbrev sT(s:Own)(z:Str):Slot:=some (s,.fz (.str z))
theorem Cy(cs:List Nat):(tx cs).cps.toList=cs:=rfl
theorem Br(cs:List Nat):(tx cs).length=cs.length:=by simp[tx,Str.length]
theorem T8(z:Str):tx z.cps.toList=z:=rfl
theorem K0{h:Hs}{cs:List Nat}(hl:cs.length<=1000)(hc:∀c∈cs,c∈h.ls.map (·.1)):Row h (tx cs):=⟨by rw[Br]; exact hl,hc⟩
theorem KI{s1 s2:Own}{h:Hs}(ok:h.Ok){c:Nat}(hc:c∈h.ls.map (·.1)){zd:D}{ps bs:List Int}{j:Nat}(l1:ps.length<=100)(l2:bs.length<=500){x6:Slot}(hx6:(x6=none\/∃d,x6=some (Own.own,A.fz d))):
  (Ax (Ay 6 (Af Ao (Ab (Aa 0) (Ab (Aa 5) Ad)))) (Ax (ifS (BF (Aw (Af Am (Ab (Aa 6) (Ab (Aa 3) Ad))))) (CZ 2 (Aa 4)) AK) (FG 3 (Aa 6)))) [sH s1 h,some (s2,.fz zd),some (.own,hL (ps)),some (.own,hL (bs)),oI j,oC c,x6]=some (.next [sH s1 h,some (s2,.fz zd),some (.own,hL (ps++if hit h.hands bs c then [] else [(j:Int)])),some (.own,hL (bs++h.hands c)),oI j,oC c,some (.own,.fz (.lst (iL (h.hands c))))]):=by
 have hlim:1000<=LIM:=by decide
 have fl:(h.hands c).length<=4:=h.hands_len ok _;have e1:=D8 .own .own h ok c hc;simp only[chD] at e1;have e2:=D7 .own .lent (h.hands c) bs (by lia);have e3:((h.hands c).any fun x=>decide (x∈bs))=hit h.hands bs c:=rfl;rw[e3] at e2;have st1:Ay 6 (Af Ao (Ab (Aa 0) (Ab (Aa 5) Ad))) [sH s1 h,some (s2,.fz zd),some (.own,hL (ps)),some (.own,hL (bs)),oI j,oC c,x6]=some (.next [sH s1 h,some (s2,.fz zd),some (.own,hL (ps)),some (.own,hL (bs)),oI j,oC c,some (.own,.fz (.lst (iL (h.hands c))))]):=by
  clear e2 fl hc hlim ok l1 l2 e3;rcases hx6 with rfl|⟨d,rfl⟩<;>walk_at "eo"
 have t1:Aw (Af Am (Ab (Aa 6) (Ab (Aa 3) Ad))) [sH s1 h,some (s2,.fz zd),some (.own,hL (ps)),some (.own,hL (bs)),oI j,oC c,some (.own,.fz (.lst (iL (h.hands c))))]=some (hit h.hands bs c,[sH s1 h,some (s2,.fz zd),some (.own,hL (ps)),some (.own,hL (bs)),oI j,oC c,some (.own,.fz (.lst (iL (h.hands c))))]):=by
  refine B8 ?_;generalize hit h.hands bs c=b at e2 |-;simp only[hL] at e2 |-;clear e1 fl hc hlim ok l1 l2 e3 st1 hx6;walk_at "eo"
 have st3:∀qs:List Int,FG 3 (Aa 6) [sH s1 h,some (s2,.fz zd),some (.own,hL (qs)),some (.own,hL (bs)),oI j,oC c,some (.own,.fz (.lst (iL (h.hands c))))]=some (.next [sH s1 h,some (s2,.fz zd),some (.own,hL (qs)),some (.own,hL (bs++h.hands c)),oI j,oC c,some (.own,.fz (.lst (iL (h.hands c))))]):=fun qs=>by
  have a2:(bs.length+(h.hands c).length<=LIM)=True:=by simp only[eq_iff_iff,iff_true]; lia
  have a4:(iL bs).map A.fz++(iL (h.hands c)).map A.fz=(iL (bs++h.hands c)).map A.fz:=by simp[iL]
  clear e1 e2 fl hc hlim ok l1 l2 e3 st1 hx6 t1;simp only[hL];walk_at "eo"
 rw[Ai st1];cases hh:hit h.hands bs c with
 | true =>
  rw[hh] at t1;have st2:=(FZ (a:=CZ 2 (Aa 4)) (b:=AK) (not_of t1));rw[Ai (st2.trans rfl),st3,if_pos rfl,append_nil]
 | false =>
  rw[hh] at t1;have st2:=(RV (a:=CZ 2 (Aa 4)) (b:=AK) (not_of t1));have st4:CZ 2 (Aa 4) [sH s1 h,some (s2,.fz zd),some (.own,hL (ps)),some (.own,hL (bs)),oI j,oC c,some (.own,.fz (.lst (iL (h.hands c))))]=some (.next [sH s1 h,some (s2,.fz zd),some (.own,hL (ps++[(j:Int)])),some (.own,hL (bs)),oI j,oC c,some (.own,.fz (.lst (iL (h.hands c))))]):=by
   have a2:(ps.length<LIM)=True:=by simp only[eq_iff_iff,iff_true]; lia
   have a4:(iL ps).map A.fz++[A.fz (.int (j:Int))]=(iL (ps++[(j:Int)])).map A.fz:=by simp[iL]
   clear e1 e2 fl hc hlim ok l1 l2 e3 st1 hx6 t1 st2 st3 hh;simp only[hL];walk_at "eo"
  rw[Ai (st2.trans st4),st3];rfl
theorem SN{f:Nat->List Int}(c:Nat):∀(u:List Nat) (bs:List Int) (k:Nat),pl f bs k (u++[c])=pl f bs k u++if hit f (bs++u.flatMap f) c then [] else [k+u.length]:=by
 intro u;induction u with
 | nil=>intro bs k; simp[pl]
 | cons d u ih =>
  intro bs k;have:=ih (bs++f d) (k+1);simp only[cons_append,pl,this,flatMap_cons,append_assoc,length_cons,show k+1+u.length=k+(u.length+1) by lia];split<;>rfl
theorem Vy{f:Nat->List Int}:∀(u:List Nat) (bs:List Int) (k:Nat),(pl f bs k u).length<=u.length:=by
 intro u;induction u with
 | nil=>intro bs k; simp[pl]
 | cons d u ih =>
  intro bs k;have:=ih (bs++f d) (k+1);simp only[pl];split<;>simp<;>lia
theorem PR{h:Hs}(ok:h.Ok):∀u:List Nat,(u.flatMap h.hands).length<=4*u.length:=by
 intro u;induction u with
 | nil=>simp
 | cons d u ih =>
  have:=h.hands_len ok d;simp only[flatMap_cons,length_append,length_cons];lia
noncomputable def plI(h:Hs)(cs:List Nat):List Int:=(pl h.hands [] 0 cs).map fun(i:Nat)=>(i:Int)
theorem QM(h:Hs)(u:List Nat)(c:Nat):plI h (u++[c])=plI h u++if hit h.hands (u.flatMap h.hands) c then [] else [(u.length:Int)]:=by
 simp only[plI,SN,map_append,nil_append,zero_add];split<;>rfl
theorem SM(h:Hs)(u:List Nat):(plI h u).length<=u.length:=by
 simp only[plI,length_map]; exact Vy u [] 0
theorem S5(s1 s2:Own)(h:Hs)(ok:h.Ok)(cs:List Nat)(hz:∀c∈cs,c∈h.ls.map (·.1))(hl:cs.length<=40):∃a1 a2,Bu [(s1,.fz h.d),(s2,.fz (.str (tx cs)))]=some (hL (plI h cs),[a1,a2]):=by
 have hit:Gu (Aa 1) [sH s1 h,sT s2 (tx cs),some (.own,hL (plI h (cs.take 0))),some (.own,hL ((cs.take 0).flatMap h.hands)),none,none,none]=some (FP (tx cs),none,[sH s1 h,sT s2 (tx cs),some (.own,hL (plI h (cs.take 0))),some (.own,hL ((cs.take 0).flatMap h.hands)),none,none,none]):=by
  have hlim:1000<=LIM:=by decide
  have e3:((tx cs).length<=LIM)=True:=by rw[Br]; simp; lia
  simp only[Gu,Aa,List.getElem?_cons_zero,List.getElem?_cons_succ,bind_some,e3,if_true]
 obtain⟨Z',f1,f2⟩:=Ck (is:=[4,5]) (one:=false) (b:=(Ax (Ay 6 (Af Ao (Ab (Aa 0) (Ab (Aa 5) Ad)))) (Ax (ifS (BF (Aw (Af Am (Ab (Aa 6) (Ab (Aa 3) Ad))))) (CZ 2 (Aa 4)) AK) (FG 3 (Aa 6)))))
  (fun j Z=>∃x4 x5 x6,(x4=none\/∃d,x4=some (Own.own,A.fz d))/\(x5=none\/∃d,x5=some (Own.own,A.fz d))/\(x6=none\/∃d,x6=some (Own.own,A.fz d))/\Z=[sH s1 h,sT s2 (tx cs),some (.own,hL (plI h (cs.take j))),some (.own,hL ((cs.take j).flatMap h.hands)),x4,x5,x6]) hit ⟨none,none,none,.inl rfl,.inl rfl,.inl rfl,rfl⟩ (fun j d Z hd hI=>by
   obtain⟨x4,x5,x6,h4,h5,h6,rfl⟩:=hI;obtain⟨rfl,hj⟩:=Si hd;rw[Br] at hj;have hc:cs.getD j 0∈h.ls.map (·.1):=hz _ (by rw[List.getD_eq_getElem?_getD,List.getElem?_eq_getElem hj]; exact getElem_mem hj);have ec:(tx cs).cps.getD j 0=cs.getD j 0:=by rw[P2]; rfl
   have et:cs.take (j+1)=cs.take j++[cs.getD j 0]:=by
    rw[take_add_one,List.getD_eq_getElem?_getD,List.getElem?_eq_getElem hj]; rfl
   have tl:(cs.take j).length=j:=by rw[length_take]; lia
   have p1:=SM h (cs.take j);have p2:=PR ok (cs.take j);have st:=KI (s1:=s1) (s2:=s2) ok hc (zd:=.str (tx cs)) (ps:=plI h (cs.take j)) (bs:=(cs.take j).flatMap h.hands) (j:=j) (by lia) (by lia) h6;rw[ec];refine⟨[sH s1 h,sT s2 (tx cs),some (.own,hL (plI h (cs.take j))),some (.own,hL ((cs.take j).flatMap h.hands)),oI j,some (.own,.fz (.str ⟨#[cs.getD j 0]⟩)),x6],_,?_,.inl st,oI j,some (.own,.fz (.str ⟨#[cs.getD j 0]⟩)),some (.own,.fz (.lst (iL (h.hands (cs.getD j 0))))),.inr ⟨_,rfl⟩,.inr ⟨_,rfl⟩,.inr ⟨_,rfl⟩,?_⟩
   .rcases h4 with rfl|⟨d4,rfl⟩<;>rcases h5 with rfl|⟨d5,rfl⟩<;>rfl
   .rw[et,QM,List.flatMap_append,tl]
    simp only[flatMap_cons,List.flatMap_nil,append_nil])
 obtain⟨x4,x5,x6,_,_,_,rfl⟩:=f2;have nl:(FP (tx cs)).length=cs.length:=by simp[FP,tx]
 rw[nl,take_length] at f1;refine⟨_,_,Bk (Z:=[sH s1 h,sT s2 (tx cs),none,some (.own,hL (cs.flatMap h.hands)),x4,x5,x6]) rfl ?_⟩;show Dh [sH s1 h,sT s2 (tx cs),none,none,none,none,none]=_;unfold Dh;have st1:Ay 2 (lstM Ad) [sH s1 h,sT s2 (tx cs),none,none,none,none,none]=some (.next [sH s1 h,sT s2 (tx cs),some (.own,hL []),none,none,none,none]):=by
  have l0:((0:Nat)<=LIM)=True:=by simp
  clear f1 hit hz hl ok;simp only[hL,iL];walk_at "eo"
 have st2:Ay 3 (lstM Ad) [sH s1 h,sT s2 (tx cs),some (.own,hL []),none,none,none,none]=some (.next [sH s1 h,sT s2 (tx cs),some (.own,hL []),some (.own,hL []),none,none,none]):=by
  have l0:((0:Nat)<=LIM)=True:=by simp
  clear f1 hit hz hl ok st1;simp only[hL,iL];walk_at "eo"
 rw[Ai st1,Ai st2];refine(Ai f1).trans ?_;rfl
theorem Lu{h:Hs}(ok:h.Ok){c:Nat}(hc:c∈h.ls.map (·.1)):h.hands c≠[]:=by
 obtain⟨p,hp,rfl⟩:=mem_map.mp hc;rw[Lr ok hp];exact(ok.hs p hp).1
theorem eq_nil(ds:List D):eqD (.lst ds) (.lst [])=ds.isEmpty:=by cases ds<;>simp[DT,EX,EW,Ex,Ey,C0]
theorem NC(x y:List Nat):tx x++tx y=tx (x++y):=by
 show(⟨x.toArray++y.toArray⟩:Str)=_;simp[tx]
theorem Uh{m1 m2:ME}{Z Z1 Z2:Ro}{x y:List Nat}(h1:m1 Z=some (.val (.fz (.str (tx x))),Z1))(h2:m2 Z1=some (.val (.fz (.str (tx y))),Z2))(hl:x.length+y.length<=1000):opM AL (m2L m1 m2) Z=some (.val (.fz (.str (tx (x++y)))),Z2):=by
 have hlim:1000<=LIM:=by decide
 have l1:((tx x).length+(tx y).length<=LIM)=True:=by rw[Br,Br]; simp only[eq_iff_iff,iff_true]; lia
 have e:=NC x y;clear hl hlim;simp only[opM,m2L,Ab,Ad,h1,h2,bind_some,map_some,peeks,peek];walk_at "eo"
theorem W8{cs:List Nat}{k:Nat}(hk:k<=cs.length):Txt.slice (tx cs) none (some (k:Int))=tx (cs.take k):=by
 have:=eq_of_beq (PyProof.Rows.slice_closes_toL (x:=tx cs) (j:=(k:Int)) (by lia) (by rw[Br]; lia));rw[this];simp[tx]
theorem PK(z:Str):∀(ns:List Int) (b:Int),Hn z b ns∈b::ns/\∀n∈b::ns,cAt z (Hn z b ns)<=cAt z n:=by
 intro ns;induction ns with
 | nil=>intro b; simp[Hn]
 | cons m ns ih =>
  intro b;simp only[Hn];split
  .rename_i hlt
   obtain⟨h1,h2⟩:=ih m;refine⟨mem_cons_of_mem _ h1,fun n hn=>?_⟩;rcases mem_cons.mp hn with rfl|hn
   .have:=h2 m mem_cons_self; lia
   .exact h2 n hn
  .rename_i hlt
   obtain⟨h1,h2⟩:=ih b;refine⟨?_,fun n hn=>?_⟩
   .rcases mem_cons.mp h1 with e|h1
    .rw[e]; exact mem_cons_self
    .exact mem_cons_of_mem _ (mem_cons_of_mem _ h1)
   .rcases mem_cons.mp hn with rfl|hn
    .exact h2 _ mem_cons_self
    .rcases mem_cons.mp hn with rfl|hn
     .have:=h2 b mem_cons_self; lia
     .exact h2 n (mem_cons_of_mem _ hn)
theorem QQ{f:Nat->List Int}{cs:List Nat}{k:Nat}(hk:k∈pl f [] 0 cs):k<cs.length:=by
 have:=(QN (f:=f) cs [] 0).1;have hk2:k∈(List.range' 0 cs.length).filter fun i=>decide (i∈pl f [] 0 cs):=by rw[this]; exact hk
 have:=(mem_filter.mp hk2).1;rw[List.mem_range'] at this;obtain⟨j,hj,e⟩:=this;lia
theorem PB{cs:List Nat}{k:Nat}(hk:k<cs.length):cAt (tx cs) (k:Int)=cs.getD k 0:=by
 have:=KR (z:=tx cs) (i:=k) (j:=(k:Int)) rfl (by rw[Cy]; exact hk);rw[Cy] at this;rw[cAt,Cy,this];rfl
theorem S9(s1 s2:Own)(h:Hs)(ok:h.Ok)(cs:List Nat)(hz:∀c∈cs,c∈h.ls.map (·.1))(hl:cs.length<=40)(h0:cs≠[]):∃(k:Nat) (a1 a2:A),k<cs.length/\cs.getD k 0=lst (fs h.hands [] cs)/\cs.take k++cs.drop (k+1)=cs.erase (lst (fs h.hands [] cs))/\AZ [(s1,.fz h.d),(s2,.fz (.str (tx cs)))]=some (.fz (.int (k:Int)),[a1,a2]):=by
 obtain⟨a1,a2,e1⟩:=S5 .own .own h ok cs hz hl;have hw:∀d∈cs,h.hands d≠[]:=fun d hd=>Lu ok (hz d hd);have pne:plI h cs≠[]:=by
  obtain⟨c,w,rfl⟩:=exists_cons_of_ne_nil h0;have:St.hit h.hands [] c=false:=by simp[St.hit]
  simp[plI,pl,this]
 obtain⟨b,ns,eps⟩:=exists_cons_of_ne_nil pne;obtain⟨m1,m2⟩:=PK (tx cs) ns b;rw[<- eps] at m1 m2;have mem:∀i:Int,i∈plI h cs->∃k:Nat,i=k/\k∈pl h.hands [] 0 cs:=fun i hi=>by
  obtain⟨k,hk,e⟩:=mem_map.mp hi;exact⟨k,e.symm,hk⟩
 obtain⟨k,ek,hk⟩:=mem _ m1;have hkl:=QQ hk;have efs:=(QN (f:=h.hands) cs [] 0).2.1;simp only[Nat.sub_zero] at efs;have hlst:lst (fs h.hands [] cs)=cs.getD k 0:=by
  refine UT (by rw[<- efs]; exact mem_map.mpr ⟨k,hk,rfl⟩) fun y hy=>?_;rw[<- efs] at hy;obtain⟨i,hi,rfl⟩:=mem_map.mp hy;have:=m2 (i:Int) (mem_map.mpr ⟨i,hi,rfl⟩);rw[ek,PB hkl,PB (QQ hi)] at this;exact this
 refine⟨k,_,_,hkl,hlst.symm,by rw[hlst]; exact(QO hw hk).2,Bk (Z:=[sH s1 h,sT s2 (tx cs)]) rfl ?_⟩;show CP [sH s1 h,sT s2 (tx cs)]=_;unfold CP;refine B7 ?_;have hc:Af Bu (Ab (Aa 0) (Ab (Aa 1) Ad)) [sH s1 h,sT s2 (tx cs)]=some (.val (hL (plI h cs)),[sH s1 h,sT s2 (tx cs)]):=by
  clear hz hl ok hw pne eps m1 m2 mem ek hk hkl efs hlst;generalize Bu=Φ at e1 |-;generalize hL (plI h cs)=A0 at e1 |-;walk_at "eo"
 have hall:((plI h cs).all fun n=>decide (0<=n)&&decide (n<((tx cs).length:Int)))=true:=by
  rw[all_eq_true];intro n hn;obtain⟨i,rfl,hi⟩:=mem n hn;have:=QQ hi;rw[Br];simp;exact this
 have hem:(plI h cs).isEmpty=false:=by rw[eps]; rfl
 have hcm:Hn (tx cs) ((plI h cs).headD 0) (plI h cs).tail=k:=by rw[eps]; exact ek
 generalize Af Bu (Ab (Aa 0) (Ab (Aa 1) Ad))=Zc at hc |-;simp only[on1,on2,on3,EL,Fi,A6,Bo,fzU,BW,BQ,opM,m2L,Ab,Ad,hc,Aa,List.getElem?_cons_zero,List.getElem?_cons_succ,bind_some,map_some,peeks,peek,NV,Bo,fzU,BQ,Uz,Fb,hall,hem,Bool.not_false,Bool.and_self,if_true,hcm]
theorem VT{cs:List Nat}{k:Nat}(hk:k+1<=cs.length):Txt.slice (tx cs) (some ((k:Int)+1)) none=tx (cs.drop (k+1)):=by
 have:=eq_of_beq (PyProof.Rows.slice_closes_fromL (x:=tx cs) (i:=(k:Int)+1) (b:=(cs.length:Int)) (by lia) (by rw[Br]; lia) (by rw[Br]));rw[this];have e:((cs.length:Int)-((k:Int)+1)).toNat=cs.length-(k+1):=by lia
 have e2:((k:Int)+1).toNat=k+1:=by lia
 rw[e,e2,Cy,List.take_of_length_le (by rw[length_drop]; exact le_refl _)];rfl
theorem Tc{s1:Own}{h:Hs}(ok:h.Ok){cs:List Nat}(hz:∀c∈cs,c∈h.ls.map (·.1))(hl:cs.length<=40)(h0:cs≠[]){acc:List Nat}(ha:acc.length<=100){x3:Slot}(h3:(x3=none\/∃d,x3=some (Own.own,A.fz d))):
  ∃k:Nat,(Ax (Ay 3 (Af AZ (Ab (Aa 0) (Ab (Aa 1) Ad)))) (Ax (CZ 2 (opM ixA (m2L (Aa 1) (Aa 3)))) (Ay 1 (opM AL (m2L (opM Jl (m2L (Aa 1) (Aa 3))) (opM Jm (m2L (Aa 1) (opM AL (m2L (Aa 3) (Ae (.int 1))))))))))) [sH s1 h,sT .own (tx cs),oL ((acc).map chD),x3]=some (.next [sH s1 h,sT .own (tx (cs.erase (lst (fs h.hands [] cs)))),some (.own,.lst (((acc++[lst (fs h.hands [] cs)]).map chD).map A.fz)),oI k]):=by
 obtain⟨k,a1,a2,hk,e2,e3,e1⟩:=S9 .own .own h ok cs hz hl h0;refine⟨k,?_⟩;have st1:Ay 3 (Af AZ (Ab (Aa 0) (Ab (Aa 1) Ad))) [sH s1 h,sT .own (tx cs),oL ((acc).map chD),x3]=some (.next [sH s1 h,sT .own (tx cs),oL ((acc).map chD),oI k]):=by
  clear hz hl ok ha e2 e3 h0 hk;generalize AZ=Φ at e1 |-;generalize tx cs=z at e1 |-;generalize acc.map chD=ds;rcases h3 with rfl|⟨ps,rfl⟩<;>walk_at "eo"
 have i1:=KR (z:=tx cs) (i:=k) (j:=(k:Int)) rfl (by rw[Cy]; exact hk);rw[Cy,e2] at i1;have e0:(tx cs).cps.toList=cs:=rfl;have v0:(opM ixA (m2L (Aa 1) (Aa 3))) [sH s1 h,sT .own (tx cs),oL ((acc).map chD),oI k]=some (.val (.fz (chD (lst (fs h.hands [] cs)))),[sH s1 h,sT .own (tx cs),oL ((acc).map chD),oI k]):=by
  clear hz hl ok ha e2 e3 h0 hk e1 st1 h3;generalize lst (fs h.hands [] cs)=a at i1 |-;generalize acc.map chD=ds;simp only[chD];generalize tx cs=z at e0 |-;walk_at "eo"
 have st2:=JZ (i:=2) (st:=.own) (as:=(acc.map chD).map A.fz) (Z:=[sH s1 h,sT .own (tx cs),oL ((acc).map chD),oI k]) rfl v0 (by
  have hlim:1000<=LIM:=by decide
  simp only[length_map]; lia)
 have ea:(acc.map chD).map A.fz++[A.fz (chD (lst (fs h.hands [] cs)))]=((acc++[lst (fs h.hands [] cs)]).map chD).map A.fz:=by simp
 rw[ea] at st2;have s1':=W8 (cs:=cs) (k:=k) (by lia);have s2':=VT (cs:=cs) (k:=k) (by lia);have v1:(opM Jl (m2L (Aa 1) (Aa 3))) [sH s1 h,sT .own (tx cs),some (.own,.lst (((acc++[lst (fs h.hands [] cs)]).map chD).map A.fz)),oI k]=some (.val (.fz (.str (tx (cs.take k)))),[sH s1 h,sT .own (tx cs),some (.own,.lst (((acc++[lst (fs h.hands [] cs)]).map chD).map A.fz)),oI k]):=by
  clear hz hl ok ha e2 e3 h0 hk e1 st1 h3 v0 st2 ea i1 e0 s2';generalize (acc++[lst (fs h.hands [] cs)]).map chD=ds;generalize tx cs=z at s1' |-;walk_at "eo"
 have v2:(opM Jm (m2L (Aa 1) (opM AL (m2L (Aa 3) (Ae (.int 1)))))) [sH s1 h,sT .own (tx cs),some (.own,.lst (((acc++[lst (fs h.hands [] cs)]).map chD).map A.fz)),oI k]=some (.val (.fz (.str (tx (cs.drop (k+1))))),[sH s1 h,sT .own (tx cs),some (.own,.lst (((acc++[lst (fs h.hands [] cs)]).map chD).map A.fz)),oI k]):=by
  clear hz hl ok ha e2 e3 h0 hk e1 st1 h3 v0 st2 ea i1 e0 s1' v1;generalize (acc++[lst (fs h.hands [] cs)]).map chD=ds;generalize tx cs=z at s2' |-;walk_at "eo"
 have tl:(cs.take k).length=k:=by rw[length_take]; lia
 have dl:(cs.drop (k+1)).length=cs.length-(k+1):=length_drop;have v3:=Uh v1 v2 (by lia);rw[e3] at v3;have st3:=Cf (i:=1) v3 rfl;rw[Ai st1];refine(Ai st2).trans ?_;exact st3
theorem VQ{s1:Own}{h:Hs}(ok:h.Ok):∀(n m:Nat) (cs acc:List Nat) (x3:Slot),cs.length<n->cs.length<=m->(∀c∈cs,c∈h.ls.map (·.1))->cs.length<=40->acc.length+cs.length<=100->(x3=none\/∃d,x3=some (Own.own,A.fz d)) ->
  ∃y3,Er (GP (Aa 1)) (Ax (Ay 3 (Af AZ (Ab (Aa 0) (Ab (Aa 1) Ad)))) (Ax (CZ 2 (opM ixA (m2L (Aa 1) (Aa 3)))) (Ay 1 (opM AL (m2L (opM Jl (m2L (Aa 1) (Aa 3))) (opM Jm (m2L (Aa 1) (opM AL (m2L (Aa 3) (Ae (.int 1))))))))))) n [sH s1 h,sT .own (tx cs),oL ((acc).map chD),x3]=some (.next [sH s1 h,sT .own (tx ([])),oL ((acc++lr h.hands m cs).map chD),y3]):=by
 intro n;induction n with
 | zero=>intro m cs acc x3 h1; lia
 | succ n ih =>
  intro m cs acc x3 h1 h2 hz hl ha h3;cases cs with
  | nil =>
   have e:lr h.hands m []=[]:=by cases m<;>rfl
   rw[e,append_nil];exact⟨x3,rfl⟩
  | cons c w =>
   cases m with
   | zero=>simp at h2
   | succ m =>
    have hmem:lst (fs h.hands [] (c::w))∈c::w:=Ux _ _ _ (Kl TM).1;have er:((c::w).erase (lst (fs h.hands [] (c::w)))).length=w.length:=by rw[List.length_erase_of_mem hmem]; rfl
    simp only[length_cons] at h1 h2 hl ha;obtain⟨k,st⟩:=Tc (s1:=s1) ok hz (by simpa using hl) (by simp) (acc:=acc) (by lia) h3;obtain⟨y3,e⟩:=ih m ((c::w).erase (lst (fs h.hands [] (c::w)))) (acc++[lst (fs h.hands [] (c::w))]) (oI k) (by lia) (by lia) (fun d hd=>hz d (List.mem_of_mem_erase hd)) (by lia) (by simp only[length_append,length_cons,length_nil]; lia) (.inr ⟨_,rfl⟩);refine⟨y3,?_⟩;have et:GP (Aa 1) [sH s1 h,sT .own (tx (c::w)),oL ((acc).map chD),x3]=some (true,[sH s1 h,sT .own (tx (c::w)),oL ((acc).map chD),x3]):=by
     have:((tx (c::w)).length=0)=False:=by rw[Br]; simp
     simp only[GP,Aa,List.getElem?_cons_zero,List.getElem?_cons_succ,bind_some,this,decide_false,Bool.not_false]
    have es:lr h.hands (m+1) (c::w)=lst (fs h.hands [] (c::w))::lr h.hands m ((c::w).erase (lst (fs h.hands [] (c::w)))):=by simp[lr]
    rw[es];simp only[Er,et,bind_some,if_true,st];rw[e];simp
theorem Nm(s1:Own)(h:Hs)(ok:h.Ok)(cs:List Nat)(hz:∀c∈cs,c∈h.ls.map (·.1))(hl:cs.length<=40):∃a1 a2,Bg [(s1,.fz h.d),(.own,.fz (.str (tx cs)))]=some (.fz (.str (tx (lr h.hands 40 cs))),[a1,a2]):=by
 obtain⟨y3,e2⟩:=VQ (s1:=s1) ok 41 40 cs [] none (by lia) hl hz hl (by simp; lia) (.inl rfl);have ll:=US (f:=h.hands) hl fun d hd=>Lu ok (hz d hd);rw[nil_append] at e2;refine⟨_,_,Bk (Z:=[sH s1 h,sT .own (tx ([])),oL ((lr h.hands 40 cs).map chD),y3]) rfl ?_⟩;show Di [sH s1 h,sT .own (tx cs),none,none]=_;unfold Di;have st2:Ay 2 (lstM Ad) [sH s1 h,sT .own (tx cs),none,none]=some (.next [sH s1 h,sT .own (tx cs),some (.own,.lst ((([]).map chD).map A.fz)),none]):=by
  have l0:((0:Nat)<=LIM)=True:=by simp
  clear e2 hz hl ok ll;simp only[map_nil];walk_at "eo"
 rw[Ai st2];refine(Ai e2).trans ?_;refine B7 ?_;have e7:((Str.ofString "").length=0)=True:=by
  have:(Str.ofString "").length=0:=by decide +kernel
  simp[this]
 have e4:((((lr h.hands 40 cs).map fun c=>(⟨#[c]⟩:Str)).map (·.length)).sum<=16777216)=True:=by rw[Nu]; simp only[eq_iff_iff,iff_true]; lia
 simp only[on1,on2,on3,EL,Fi,A6,Bo,fzU,BW,BQ,CN,Ae,bind_some,m1L,Ab,Ad,Aa,List.getElem?_cons_zero,List.getElem?_cons_succ,map_some,peeks,peek,BI,e7,if_true,Cq,AY,KW,e4,Ke];rfl
theorem Xq{s1 s2:Own}{h:Hs}(ok:h.Ok){cs:List Nat}{c:Nat}(hc:c∈h.ls.map (·.1)){hs:List Int}{x3:Slot}:(AI (By (Af Ao (Ab (Aa 0) (Ab (Aa 4) Ad)))) 0 (Aw (opM (inA true) (m2L (Aa 0) (Aa 3)))) (Aa 0)) [sH s1 h,sT s2 (tx cs),some (.own,hL (hs)),x3,oC c]=some (.val (hL ((h.hands c).filter fun x=>!decide (x∈hs))),[sH s1 h,sT s2 (tx cs),some (.own,hL (hs)),x3,oC c]):=by
 have hlim:1000<=LIM:=by decide
 have fl:(h.hands c).length<=4:=h.hands_len ok _;have e1:=D8 .own .own h ok c hc;simp only[chD] at e1;have hit:By (Af Ao (Ab (Aa 0) (Ab (Aa 4) Ad))) [sH s1 h,sT s2 (tx cs),some (.own,hL (hs)),x3,oC c]=some (iL (h.hands c),none,[sH s1 h,sT s2 (tx cs),some (.own,hL (hs)),x3,oC c]):=by
  clear fl hlim hc ok;generalize Ao=Φ at e1 |-;generalize hL hs=A0;generalize tx cs=z;walk_at "eo"
 have hcm:=Ew (g:=fun d=>!decide (nD d∈hs)) (f:=fun d=>d) (c:=(Aw (opM (inA true) (m2L (Aa 0) (Aa 3))))) (e:=Aa 0) hit (by simp; lia) (fun d hd=>by
  obtain⟨i,_,rfl⟩:=Kn.mp hd;have i1:=ES hs;have i2:=F0 i hs;have i3:nD (.int i)=i:=rfl;rw[i3];clear hit hd fl hlim hc ok e1;simp only[hL];generalize decide (i∈hs)=k at i2 |-;generalize iL hs=ds at i1 i2 |-;generalize tx cs=z;walk_at "eo";try (cases k<;>rfl)) (fun d hd _=>⟨.val (.fz d),rfl,rfl⟩)
 have em:((iL (h.hands c)).filter fun d=>!decide (nD d∈hs)).map (fun d=>d)=iL ((h.hands c).filter fun x=>!decide (x∈hs)):=by
  rw[map_id',iL,iL,filter_map];rfl
 rw[em] at hcm;exact hcm
theorem S6{s1 s2:Own}{h:Hs}(ok:h.Ok){cs:List Nat}{c:Nat}(hc:c∈h.ls.map (·.1)){hs:List Int}(l1:hs.length<=900){x3:Slot}:(ifS (Aw (Af Am (Ab (Af Ao (Ab (Aa 0) (Ab (Aa 4) Ad))) (Ab (Aa 2) Ad)))) (FG 2 (AI (By (Af Ao (Ab (Aa 0) (Ab (Aa 4) Ad)))) 0 (Aw (opM (inA true) (m2L (Aa 0) (Aa 3)))) (Aa 0))) AK) [sH s1 h,sT s2 (tx cs),some (.own,hL (hs)),x3,oC c]=some (.next [sH s1 h,sT s2 (tx cs),some (.own,hL (Cb h.hands hs c)),x3,oC c]):=by
 have hlim:1000<=LIM:=by decide
 have fl:(h.hands c).length<=4:=h.hands_len ok _;have e1:=D8 .own .own h ok c hc;simp only[chD] at e1;have e2:=D7 .own .lent (h.hands c) hs (by lia);have e3:((h.hands c).any fun x=>decide (x∈hs))=meet h.hands hs c:=rfl;rw[e3] at e2;have t1:Aw (Af Am (Ab (Af Ao (Ab (Aa 0) (Ab (Aa 4) Ad))) (Ab (Aa 2) Ad))) [sH s1 h,sT s2 (tx cs),some (.own,hL (hs)),x3,oC c]=some (meet h.hands hs c,[sH s1 h,sT s2 (tx cs),some (.own,hL (hs)),x3,oC c]):=by
  refine B8 ?_;clear fl hlim hc ok e3 l1;generalize Ao=Φ at e1 |-;generalize Am=Ψ at e2 |-;generalize meet h.hands hs c=b at e2 |-;simp only[hL] at e2 |-;generalize iL hs=ds at e2 |-;generalize tx cs=z;walk_at "eo"
 unfold Cb;cases hm:meet h.hands hs c with
 | false =>
  rw[hm] at t1;exact(FZ t1).trans rfl
 | true =>
  rw[hm] at t1;refine(RV t1).trans ?_;have xn:=Xq (s1:=s1) (s2:=s2) ok (cs:=cs) hc (hs:=hs) (x3:=x3);have fl2:=length_filter_le (fun x=>!decide (x∈hs)) (h.hands c);generalize (AI (By (Af Ao (Ab (Aa 0) (Ab (Aa 4) Ad)))) 0 (Aw (opM (inA true) (m2L (Aa 0) (Aa 3)))) (Aa 0))=Zc at xn |-;rw[if_pos rfl];generalize (h.hands c).filter (fun x=>!decide (x∈hs))=ns at xn fl2 |-;have a2:(hs.length+ns.length<=LIM)=True:=by simp only[eq_iff_iff,iff_true]; lia
  have a4:(iL hs).map A.fz++(iL ns).map A.fz=(iL (hs++ns)).map A.fz:=by simp[iL]
  clear fl hlim hc ok e3 l1 t1 e1 e2 hm fl2;simp only[hL] at xn |-;generalize tx cs=z at xn |-;walk_at "eo"
theorem Oy{h:Hs}(ok:h.Ok)(hs:List Int)(c:Nat):(Cb h.hands hs c).length<=hs.length+4:=by
 have fl:=h.hands_len ok c;unfold Cb;split
 .have:=length_filter_le (fun x=>!decide (x∈hs)) (h.hands c)
  rw[length_append]; lia
 .lia
theorem HX{h:Hs}(ok:h.Ok):∀(w:List Nat) (hs:List Int),(BP h.hands hs w).length<=hs.length+4*w.length:=by
 intro w;induction w with
 | nil=>intro hs; simp[BP]
 | cons c w ih =>
  intro hs;have h1:=ih (Cb h.hands hs c);have h2:=Oy ok hs c;show(BP h.hands (Cb h.hands hs c) w).length<=_;simp only[length_cons];lia
theorem take_snoc{cs:List Nat}{j:Nat}(hj:j<cs.length):cs.take (j+1)=cs.take j++[cs.getD j 0]:=by
 rw[take_add_one,List.getD_eq_getElem?_getD,List.getElem?_eq_getElem hj]; rfl
theorem getD_in{cs:List Nat}{j:Nat}(hj:j<cs.length):cs.getD j 0∈cs:=by
 rw[List.getD_eq_getElem?_getD,List.getElem?_eq_getElem hj]; exact getElem_mem hj
theorem PJ{cs:List Nat}{j:Nat}{d:D}(h:(cs.map chD)[j]? = some d):d=chD (cs.getD j 0)/\j<cs.length:=by
 have hj:j<cs.length:=by have:=AB h; simpa using this
 rw[List.getElem?_map,List.getElem?_eq_getElem hj] at h;refine⟨?_,hj⟩;rw[List.getD_eq_getElem?_getD,List.getElem?_eq_getElem hj];exact(Option.some.inj h).symm
theorem KU{i:Nat}{cs:List Nat}{Z:Ro}(hl:cs.length<=40)(e:Aa i Z=some (.val (.fz (.str (tx cs))),Z)):CO (Aa i) Z=some (cs.map chD,none,Z):=by
 have hlim:1000<=LIM:=by decide
 have l1:((tx cs).length<=LIM)=True:=by rw[Br]; simp only[eq_iff_iff,iff_true]; lia
 have es:Eo (tx cs)=cs.map chD:=rfl;simp only[CO,e,bind_some,l1,if_true,es]
theorem S7{s1 s2:Own}{h:Hs}(ok:h.Ok){cs:List Nat}(hz:∀c∈cs,c∈h.ls.map (·.1))(hl:cs.length<=40){hs:List Int}(l1:hs.length<=700){x3 x4:Slot}(h4:(x4=none\/∃d,x4=some (Own.own,A.fz d))):∃y4,(y4=none\/∃d,y4=some (Own.own,A.fz d))/\(Ej [4] true (CO (Aa 1)) (ifS (Aw (Af Am (Ab (Af Ao (Ab (Aa 0) (Ab (Aa 4) Ad))) (Ab (Aa 2) Ad)))) (FG 2 (AI (By (Af Ao (Ab (Aa 0) (Ab (Aa 4) Ad)))) 0 (Aw (opM (inA true) (m2L (Aa 0) (Aa 3)))) (Aa 0))) AK)) [sH s1 h,sT s2 (tx cs),some (.own,hL (hs)),x3,x4]=some (.next [sH s1 h,sT s2 (tx cs),some (.own,hL (BP h.hands hs cs)),x3,y4]):=by
 have hit:=KU (i:=1) (cs:=cs) (Z:=[sH s1 h,sT s2 (tx cs),some (.own,hL (hs)),x3,x4]) hl rfl;obtain⟨Z',f1,f2⟩:=Ck (is:=[4]) (one:=true) (b:=(ifS (Aw (Af Am (Ab (Af Ao (Ab (Aa 0) (Ab (Aa 4) Ad))) (Ab (Aa 2) Ad)))) (FG 2 (AI (By (Af Ao (Ab (Aa 0) (Ab (Aa 4) Ad)))) 0 (Aw (opM (inA true) (m2L (Aa 0) (Aa 3)))) (Aa 0))) AK))
  (fun j Z=>∃x4,(x4=none\/∃d,x4=some (Own.own,A.fz d))/\Z=[sH s1 h,sT s2 (tx cs),some (.own,hL (BP h.hands hs (cs.take j))),x3,x4]) hit ⟨x4,h4,rfl⟩ (fun j d Z hd hI=>by
   obtain⟨x4,h4,rfl⟩:=hI;obtain⟨rfl,hj⟩:=PJ hd;have gl:=HX ok (cs.take j) hs;have tl:(cs.take j).length<=40:=by rw[length_take]; lia
   have st:=S6 (s1:=s1) (s2:=s2) ok (cs:=cs) (hz _ (getD_in hj)) (hs:=BP h.hands hs (cs.take j)) (by lia) (x3:=x3);refine⟨[sH s1 h,sT s2 (tx cs),some (.own,hL (BP h.hands hs (cs.take j))),x3,some (.own,.fz (.str ⟨#[cs.getD j 0]⟩))],_,?_,.inl st,some (.own,.fz (.str ⟨#[cs.getD j 0]⟩)),.inr ⟨_,rfl⟩,?_⟩
   .rcases h4 with rfl|⟨d4,rfl⟩<;>rfl
   .rw[take_snoc hj,BP,BP,List.foldl_append]
    rfl)
 obtain⟨y4,k4,rfl⟩:=f2;rw[length_map,take_length] at f1;exact⟨y4,k4,f1⟩
theorem MC{h:Hs}(ok:h.Ok)(w:List Nat)(hs:List Int):∀t,(Bd h.hands w hs t).length<=hs.length+4*w.length*t:=by
 intro t;induction t with
 | zero=>simp[Bd]
 | succ t ih =>
  have:=HX ok w (Bd h.hands w hs t);show(BP h.hands (Bd h.hands w hs t) w).length<=_;rw[Nat.mul_succ];lia
theorem Pe(s1 s2:Own)(h:Hs)(ok:h.Ok)(cs:List Nat)(hz:∀c∈cs,c∈h.ls.map (·.1))(hl:cs.length<=40)(h0:cs≠[]):∃a1 a2,A4 [(s1,.fz h.d),(s2,.fz (.str (tx cs)))]=some (hL (Bd h.hands cs (h.hands (cs.headD 0)) h.n.toNat),[a1,a2]):=by
 have n1:=ok.n1;have n2:=ok.n2;have hp:0<cs.length:=length_pos_iff.mpr h0;have e0:cs.headD 0=cs.getD 0 0:=by cases cs<;>rfl
 have hc0:cs.headD 0∈h.ls.map (·.1):=by rw[e0]; exact hz _ (getD_in hp)
 have e1:=D8 .own .own h ok _ hc0;simp only[chD] at e1;have fl:(h.hands (cs.headD 0)).length<=4:=h.hands_len ok _;have i1:=KR (z:=tx cs) (i:=0) (j:=(0:Int)) rfl (by rw[Cy]; exact hp);rw[Cy,<- e0] at i1;have ez:(tx cs).cps.toList=cs:=rfl;have st1:Ay 2 (opM Ie (Ab (Af Ao (Ab (Aa 0) (Ab (opM ixA (m2L (Aa 1) (Ae (.int 0)))) Ad))) Ad)) [sH s1 h,sT s2 (tx cs),none,none,none]=some (.next [sH s1 h,sT s2 (tx cs),some (.own,hL (Bd h.hands cs (h.hands (cs.headD 0)) 0)),none,none]):=by
  have hlim:1000<=LIM:=by decide
  have l4:((iL (h.hands (cs.headD 0))).length<=LIM)=True:=by simp only[Fx,eq_iff_iff,iff_true]; lia
  show _=some (Fl.next [sH s1 h,sT s2 (tx cs),some (.own,hL (h.hands (cs.headD 0))),none,none]);clear n1 n2 hz hl h0 hp e0 hc0 fl hlim ok;generalize Ao=Φ at e1 |-;simp only[hL];generalize iL (h.hands (cs.headD 0))=ds at e1 l4 |-;generalize cs.headD 0=c at e1 i1;generalize tx cs=z at ez i1 |-;walk_at "eo"
 have rg:Bm (opM ixA (m2L (Aa 0) (Ae (.int 0)))) [sH s1 h,sT s2 (tx cs),some (.own,hL (Bd h.hands cs (h.hands (cs.headD 0)) 0)),none,none]=some (CU 0 h.n.toNat,none,[sH s1 h,sT s2 (tx cs),some (.own,hL (Bd h.hands cs (h.hands (cs.headD 0)) 0)),none,none]):=by
  refine GN ?_ (by lia) (by lia);have e0:=at0 (D.int h.n) [.lst (h.ls.map ld)];clear n1 n2 hz hl ok st1 h0 hp hc0 e1 fl i1 ez;simp only[sH,sH,Hs.d];walk_at "eo"
 obtain⟨Z',f1,f2⟩:=Ck (is:=[3]) (one:=true) (b:=(Ej [4] true (CO (Aa 1)) (ifS (Aw (Af Am (Ab (Af Ao (Ab (Aa 0) (Ab (Aa 4) Ad))) (Ab (Aa 2) Ad)))) (FG 2 (AI (By (Af Ao (Ab (Aa 0) (Ab (Aa 4) Ad)))) 0 (Aw (opM (inA true) (m2L (Aa 0) (Aa 3)))) (Aa 0))) AK)))
  (fun j Z=>j<=h.n.toNat->∃x3 x4,(x3=none\/∃d,x3=some (Own.own,A.fz d))/\(x4=none\/∃d,x4=some (Own.own,A.fz d))/\Z=[sH s1 h,sT s2 (tx cs),some (.own,hL (Bd h.hands cs (h.hands (cs.headD 0)) j)),x3,x4]) rg (fun _=>⟨none,none,.inl rfl,.inl rfl,rfl⟩) (fun j d Z hd hI=>by
   obtain⟨rfl,hj⟩:=HD hd;obtain⟨x3,x4,h3,h4,rfl⟩:=hI (by lia);have gl:=MC ok cs (h.hands (cs.headD 0)) j;have bound:4*cs.length*j<=4*40*4:=mul_le_mul (by lia) (by lia);obtain⟨y4,k4,st⟩:=S7 (s1:=s1) (s2:=s2) ok hz hl (hs:=Bd h.hands cs (h.hands (cs.headD 0)) j) (by lia) (x3:=oI j) h4;refine⟨[sH s1 h,sT s2 (tx cs),some (.own,hL (Bd h.hands cs (h.hands (cs.headD 0)) j)),oI j,x4],_,?_,.inl st,fun _=>⟨oI j,y4,.inr ⟨_,rfl⟩,k4,rfl⟩⟩;rcases h3 with rfl|⟨d3,rfl⟩<;>rfl)
 rw[Ft] at f2;obtain⟨x3,x4,_,_,rfl⟩:=f2 (le_refl _);refine⟨_,_,Bk (Z:=[sH s1 h,sT s2 (tx cs),none,x3,x4]) rfl ?_⟩;show C6 [sH s1 h,sT s2 (tx cs),none,none,none]=_;unfold C6;rw[Ai st1];refine(Ai f1).trans ?_;rfl
noncomputable def tsD(ss:List (List Nat)):List D:=ss.map fun s=>D.str (tx s)
theorem Xu{s1:Own}{h:Hs}(ok:h.Ok){cs:List Nat}(hz:∀c∈cs,c∈h.ls.map (·.1))(hl:cs.length<=40){acc:List (List Nat)}{hs:List Int}{x4:Slot}:(AI (CO (Aa 1)) 0 (Aw (Af Am (Ab (Af Ao (Ab (Aa 1) (Ab (Aa 0) Ad))) (Ab (Aa 4) Ad)))) (Aa 0)) [sH s1 h,sT .own (tx cs),oL (tsD (acc)),some (.own,hL hs),x4]=some (.val (.lst (((cs.filter (meet h.hands hs)).map chD).map A.fz)),[sH s1 h,sT .own (tx cs),oL (tsD (acc)),some (.own,hL hs),x4]):=by
 have hlim:1000<=LIM:=by decide
 have hit:=KU (i:=1) (cs:=cs) (Z:=[sH s1 h,sT .own (tx cs),oL (tsD (acc)),some (.own,hL hs),x4]) hl rfl;have hcm:=Ew (g:=fun d=>match d with | .str z=>meet h.hands hs (z.cps.getD 0 0)|_=>false) (f:=fun d=>d) (c:=(Aw (Af Am (Ab (Af Ao (Ab (Aa 1) (Ab (Aa 0) Ad))) (Ab (Aa 4) Ad))))) (e:=Aa 0) hit (by simp only[length_map]; lia) (fun d hd=>by
  obtain⟨c,hc,rfl⟩:=mem_map.mp hd;have fl:(h.hands c).length<=4:=h.hands_len ok _;have e1:=D8 .own .own h ok c (hz c hc);have e2:=D7 .own .lent (h.hands c) hs (by lia);have e3:((h.hands c).any fun x=>decide (x∈hs))=meet h.hands hs c:=rfl;rw[e3] at e2;show _=some (meet h.hands hs c,_);refine B8 ?_;clear hit hd hc fl hz hl ok hlim e3;simp only[chD] at e1 |-;generalize Ao=Φ at e1 |-;generalize Am=Ψ at e2 |-;generalize meet h.hands hs c=b at e2 |-;simp only[hL] at e2 |-;generalize iL hs=ds at e2 |-;generalize tsD acc=ts;generalize tx cs=z;walk_at "eo") (fun d hd _=>⟨.val (.fz d),rfl,rfl⟩)
 have em:((cs.map chD).filter fun d=>match d with | .str z=>meet h.hands hs (z.cps.getD 0 0)|_=>false).map (fun d=>d)=(cs.filter (meet h.hands hs)).map chD:=by
  rw[map_id',filter_map];rfl
 rw[em] at hcm;exact hcm
theorem Xr{s1:Own}{h:Hs}{cs v:List Nat}(hl:cs.length<=40){acc:List (List Nat)}{x3:Slot}:(CN BI (Ae (.str (Str.ofString ""))) (m1L (AI (CO (Aa 1)) 0 (Aw (opM (inA true) (m2L (Aa 0) (Aa 5)))) (Aa 0)))) [sH s1 h,sT .own (tx cs),oL (tsD (acc)),x3,oL ((v).map chD)]=some (.val (.fz (.str (tx (cs.filter fun c=>!decide (c∈v))))),[sH s1 h,sT .own (tx cs),oL (tsD (acc)),x3,oL ((v).map chD)]):=by
 have hlim:1000<=LIM:=by decide
 have hit:=KU (i:=1) (cs:=cs) (Z:=[sH s1 h,sT .own (tx cs),oL (tsD (acc)),x3,oL ((v).map chD)]) hl rfl;have hcm:=Ew (g:=fun d=>!gC v d) (f:=fun d=>d) (c:=(Aw (opM (inA true) (m2L (Aa 0) (Aa 5))))) (e:=Aa 0) hit (by simp only[length_map]; lia) (fun d hd=>by
  obtain⟨c,_,rfl⟩:=mem_map.mp hd;have i1:=NO v;have i2:=TR c v;have i3:gC v (chD c)=decide (c∈v):=rfl;rw[<- i3] at i2;generalize gC v (chD c)=b at i2 |-;generalize v.map chD=ds at i1 i2 |-;simp only[chD] at i2 |-;clear hit hd hlim i3 hl;generalize tsD acc=ts;generalize tx cs=z;walk_at "eo";try (cases b<;>rfl)) (fun d hd _=>⟨.val (.fz d),rfl,rfl⟩)
 have em:((cs.map chD).filter fun d=>!gC v d).map (fun d=>d)=(cs.filter fun c=>!decide (c∈v)).map chD:=by
  rw[map_id',filter_map];rfl
 rw[em] at hcm;exact NT hcm (by have:=length_filter_le (fun c=>!decide (c∈v)) cs; lia)
theorem VR{s1:Own}{h:Hs}(ok:h.Ok){cs:List Nat}(hz:∀c∈cs,c∈h.ls.map (·.1))(hl:cs.length<=40)(h0:cs≠[]){acc:List (List Nat)}(ha:acc.length<=100){x3 x4:Slot}(h3:(x3=none\/∃a,x3=some (Own.own,a)))(h4:(x4=none\/∃a,x4=some (Own.own,a))):
  ∃y3 y4,(y3=none\/∃a,y3=some (Own.own,a))/\(y4=none\/∃a,y4=some (Own.own,a))/\(Ax (Ay 3 (Af A4 (Ab (Aa 0) (Ab (Aa 1) Ad)))) (Ax (Ay 4 (AI (CO (Aa 1)) 0 (Aw (Af Am (Ab (Af Ao (Ab (Aa 1) (Ab (Aa 0) Ad))) (Ab (Aa 4) Ad)))) (Aa 0))) (Ax (CZ 2 (Af Bg (Ab (Aa 0) (Ab (CN BI (Ae (.str (Str.ofString ""))) (m1L (Aa 4))) Ad)))) (Ay 1 (CN BI (Ae (.str (Str.ofString ""))) (m1L (AI (CO (Aa 1)) 0 (Aw (opM (inA true) (m2L (Aa 0) (Aa 5)))) (Aa 0)))))))) [sH s1 h,sT .own (tx cs),oL (tsD (acc)),x3,x4]=some (.next [sH s1 h,sT .own (tx (out h.hands h.n.toNat cs)),some (.own,.lst ((tsD (acc++[lr h.hands 40 (win h.hands h.n.toNat cs)])).map A.fz)),y3,y4]):=by
 obtain⟨a1,a2,e1⟩:=Pe .own .own h ok cs hz hl h0;have ew:win h.hands h.n.toNat cs=cs.filter (meet h.hands (Bd h.hands cs (h.hands (cs.headD 0)) h.n.toNat)):=rfl;have eo:out h.hands h.n.toNat cs=cs.filter fun c=>!decide (c∈win h.hands h.n.toNat cs):=rfl;have wl:(win h.hands h.n.toNat cs).length<=40:=by rw[ew]; exact le_trans (length_filter_le _ _) hl
 have wz:∀c∈win h.hands h.n.toNat cs,c∈h.ls.map (·.1):=fun c hc=>hz c (by rw[ew] at hc; exact(mem_filter.mp hc).1);obtain⟨b1,b2,e2⟩:=Nm .own h ok (win h.hands h.n.toNat cs) wz wl;generalize Bd h.hands cs (h.hands (cs.headD 0)) h.n.toNat=hs at e1 ew;have st1:Ay 3 (Af A4 (Ab (Aa 0) (Ab (Aa 1) Ad))) [sH s1 h,sT .own (tx cs),oL (tsD (acc)),x3,x4]=some (.next [sH s1 h,sT .own (tx cs),oL (tsD (acc)),some (.own,hL hs),x4]):=by
  clear hz hl ok h0 ha h4 ew eo wl wz e2;generalize A4=Φ at e1 |-;generalize hL hs=A0 at e1 |-;generalize tsD acc=ts;generalize tx cs=z at e1 |-;rcases h3 with rfl|⟨a3,rfl⟩<;>walk_at "eo"
 have st2:=Cf (i:=4) (Xu (s1:=s1) ok hz hl (acc:=acc) (hs:=hs) (x4:=x4)) (by rcases h4 with rfl|⟨a4,rfl⟩<;>rfl);rw[<- ew] at st2;have jn:(CN BI (Ae (.str (Str.ofString ""))) (m1L (Aa 4))) [sH s1 h,sT .own (tx cs),oL (tsD (acc)),some (.own,hL hs),oL ((win h.hands h.n.toNat cs).map chD)]=some (.val (.fz (.str (tx (win h.hands h.n.toNat cs)))),[sH s1 h,sT .own (tx cs),oL (tsD (acc)),some (.own,hL hs),oL ((win h.hands h.n.toNat cs).map chD)]):=by
  have e7:((Str.ofString "").length=0)=True:=by
   have:(Str.ofString "").length=0:=by decide +kernel
   simp[this]
  have e4:((((win h.hands h.n.toNat cs).map fun c=>(⟨#[c]⟩:Str)).map (·.length)).sum<=16777216)=True:=by rw[Nu]; simp only[eq_iff_iff,iff_true]; lia
  simp only[on1,on2,on3,EL,Fi,A6,Bo,fzU,BW,BQ,CN,Ae,bind_some,m1L,Ab,Ad,Aa,List.getElem?_cons_zero,List.getElem?_cons_succ,map_some,peeks,peek,BI,e7,if_true,Cq,AY,KW,e4,Ke];rfl
 have v3:(Af Bg (Ab (Aa 0) (Ab (CN BI (Ae (.str (Str.ofString ""))) (m1L (Aa 4))) Ad))) [sH s1 h,sT .own (tx cs),oL (tsD (acc)),some (.own,hL hs),oL ((win h.hands h.n.toNat cs).map chD)]=some (.val (.fz (.str (tx (lr h.hands 40 (win h.hands h.n.toNat cs))))),[sH s1 h,sT .own (tx cs),oL (tsD (acc)),some (.own,hL hs),oL ((win h.hands h.n.toNat cs).map chD)]):=by
  clear hz hl ok h0 ha h3 h4 ew eo wl wz e1 st1 st2;generalize Bg=Φ at e2 |-;generalize (CN BI (Ae (.str (Str.ofString ""))) (m1L (Aa 4)))=Zc at jn |-;generalize tx (lr h.hands 40 (win h.hands h.n.toNat cs))=z' at e2 |-;generalize tx (win h.hands h.n.toNat cs)=z2 at e2 jn |-;generalize (win h.hands h.n.toNat cs).map chD=ds at jn |-;generalize tsD acc=ts at jn |-;generalize hL hs=A0 at jn |-;generalize tx cs=z at jn |-;walk_at "eo"
 have st3:=JZ (i:=2) (st:=.own) (as:=(tsD acc).map A.fz) (Z:=[sH s1 h,sT .own (tx cs),oL (tsD (acc)),some (.own,hL hs),oL ((win h.hands h.n.toNat cs).map chD)]) rfl v3 (by
  have hlim:1000<=LIM:=by decide
  simp only[tsD,length_map]; lia)
 have ea:(tsD acc).map A.fz++[A.fz (.str (tx (lr h.hands 40 (win h.hands h.n.toNat cs))))]=(tsD (acc++[lr h.hands 40 (win h.hands h.n.toNat cs)])).map A.fz:=by simp[tsD]
 rw[ea] at st3;have st4:=Cf (i:=1) (Xr (s1:=s1) (h:=h) (v:=win h.hands h.n.toNat cs) hl (acc:=acc++[lr h.hands 40 (win h.hands h.n.toNat cs)]) (x3:=some (.own,hL hs))) rfl;refine⟨some (.own,hL hs),oL ((win h.hands h.n.toNat cs).map chD),.inr ⟨_,rfl⟩,.inr ⟨_,rfl⟩,?_⟩;rw[Ai st1];refine(Ai st2).trans ?_;refine(Ai st3).trans ?_;exact st4
theorem Hg{h:Hs}(ok:h.Ok){c:Nat}(hc:c∈h.ls.map (·.1)):h.hands c≠[]/\(h.hands c).Nodup/\∀x∈h.hands c,0<=x/\x<(h.n.toNat:Int):=by
 obtain⟨p,hp,rfl⟩:=mem_map.mp hc;rw[Lr ok hp];obtain⟨h1,h2,h3⟩:=ok.hs p hp;have n1:=ok.n1;refine⟨h1,h2.imp fun h=>by lia,fun x hx=>?_⟩;have:=h3 x hx;lia
theorem Ta{s1:Own}{h:Hs}(ok:h.Ok):∀(n m:Nat) (cs:List Nat) (acc:List (List Nat)) (x3 x4:Slot),cs.length<n->cs.length<=m->(∀c∈cs,c∈h.ls.map (·.1))->cs.length<=40->acc.length+cs.length<=100->(x3=none\/∃a,x3=some (Own.own,a))->(x4=none\/∃a,x4=some (Own.own,a)) ->
  ∃y3 y4,Er (GP (Aa 1)) (Ax (Ay 3 (Af A4 (Ab (Aa 0) (Ab (Aa 1) Ad)))) (Ax (Ay 4 (AI (CO (Aa 1)) 0 (Aw (Af Am (Ab (Af Ao (Ab (Aa 1) (Ab (Aa 0) Ad))) (Ab (Aa 4) Ad)))) (Aa 0))) (Ax (CZ 2 (Af Bg (Ab (Aa 0) (Ab (CN BI (Ae (.str (Str.ofString ""))) (m1L (Aa 4))) Ad)))) (Ay 1 (CN BI (Ae (.str (Str.ofString ""))) (m1L (AI (CO (Aa 1)) 0 (Aw (opM (inA true) (m2L (Aa 0) (Aa 5)))) (Aa 0)))))))) n [sH s1 h,sT .own (tx cs),oL (tsD (acc)),x3,x4]=some (.next [sH s1 h,sT .own (tx ([])),oL (tsD (acc++(D5 h.hands h.n.toNat m cs).map (lr h.hands 40))),y3,y4]):=by
 intro n;induction n with
 | zero=>intro m cs acc x3 x4 h1; lia
 | succ n ih =>
  intro m cs acc x3 x4 h1 h2 hz hl ha h3 h4;cases cs with
  | nil =>
   have e:D5 h.hands h.n.toNat m []=[]:=by cases m<;>rfl
   rw[e,map_nil,append_nil];exact⟨x3,x4,rfl⟩
  | cons c w =>
   cases m with
   | zero=>simp at h2
   | succ m =>
    have er:=NY (f:=h.hands) (n:=h.n.toNat) (c0:=c) (r:=w) fun d hd=>Hg ok (hz d hd);simp only[length_cons] at h1 h2 hl ha;obtain⟨z3,z4,k3,k4,st⟩:=VR (s1:=s1) ok hz (by simpa using hl) (by simp) (acc:=acc) (by lia) h3 h4;obtain⟨y3,y4,e⟩:=ih m (out h.hands h.n.toNat (c::w)) (acc++[lr h.hands 40 (win h.hands h.n.toNat (c::w))]) z3 z4 (by lia) (by lia) (fun d hd=>hz d (mem_filter.mp hd).1) (by lia) (by simp only[length_append,length_cons,length_nil]; lia) k3 k4;refine⟨y3,y4,?_⟩;have et:GP (Aa 1) [sH s1 h,sT .own (tx (c::w)),oL (tsD (acc)),x3,x4]=some (true,[sH s1 h,sT .own (tx (c::w)),oL (tsD (acc)),x3,x4]):=by
     have:((tx (c::w)).length=0)=False:=by rw[Br]; simp
     simp only[GP,Aa,List.getElem?_cons_zero,List.getElem?_cons_succ,bind_some,this,decide_false,Bool.not_false]
    have es:D5 h.hands h.n.toNat (m+1) (c::w)=win h.hands h.n.toNat (c::w)::D5 h.hands h.n.toNat m (out h.hands h.n.toNat (c::w)):=by simp[D5]
    rw[es];simp only[Er,et,bind_some,if_true,st];rw[e];simp
theorem Tj(ss:List (List Nat)):Dc (tsD ss)=some (ss.map tx):=by
 induction ss with
 | nil=>rfl
 | cons s ss ih =>
  simp only[tsD,map_cons,Dc] at ih |-;rw[ih]; rfl
noncomputable def soD(ss:List (List Nat)):List D:=(IQ (ss.map tx)).map D.str
theorem Th{m:ME}{Z Z1:Ro}{ss:List (List Nat)}{r:R}(hm:m Z=some (r,Z1))(hp:peek Z1 r=some (.lst ((tsD ss).map A.fz)))(hl:ss.length<64):opM EV (Ab m Ad) Z=some (.val (.lst ((soD ss).map A.fz)),Z1):=by
 have l1:((ss.map tx).length<64)=True:=by rw[length_map]; simp only[eq_iff_iff,iff_true]; exact hl
 simp only[on1,on2,on3,EL,Fi,A6,Bo,fzU,BW,BQ,opM,Ab,Ad,hm,bind_some,map_some,peeks,hp,EV,Cq,AY,Tj,l1,if_true,soD]
theorem QS{f:Nat->List Int}{n:Nat}:∀(t:Nat) (w:List Nat),(D5 f n t w).length<=t:=by
 intro t;induction t with
 | zero=>intro w; simp[D5]
 | succ t ih =>
  intro w;have:=ih (out f n w);simp only[D5];split<;>simp<;>lia
noncomputable def pD(h:Hs)(cs:List Nat):List D:=soD ((D5 h.hands h.n.toNat 40 cs).map (lr h.hands 40))
theorem IJ(s1:Own)(h:Hs)(ok:h.Ok)(cs:List Nat)(hz:∀c∈cs,c∈h.ls.map (·.1))(hl:cs.length<=40):∃a1 a2,CY [(s1,.fz h.d),(.own,.fz (.str (tx cs)))]=some (.lst ((pD h cs).map A.fz),[a1,a2]):=by
 obtain⟨y3,y4,e2⟩:=Ta (s1:=s1) ok 41 40 cs [] none none (by lia) hl hz hl (by simp; lia) (.inl rfl) (.inl rfl);rw[nil_append] at e2;have pl:=QS (f:=h.hands) (n:=h.n.toNat) 40 cs;refine⟨_,_,Bk (Z:=[sH s1 h,sT .own (tx ([])),oL (tsD ((D5 h.hands h.n.toNat 40 cs).map (lr h.hands 40))),y3,y4]) rfl ?_⟩;show EJ [sH s1 h,sT .own (tx cs),none,none,none]=_;unfold EJ;have st2:Ay 2 (lstM Ad) [sH s1 h,sT .own (tx cs),none,none,none]=some (.next [sH s1 h,sT .own (tx cs),some (.own,.lst ((tsD ([])).map A.fz)),none,none]):=by
  have l0:((0:Nat)<=LIM)=True:=by simp
  clear e2 hz hl ok pl;simp only[tsD,map_nil];walk_at "eo"
 rw[Ai st2];refine(Ai e2).trans ?_;exact B7 (Th (r:=.ref 2) rfl rfl (by rw[length_map]; lia))
noncomputable def grD(g:List Nat):D:=.lst (g.map chD)
noncomputable def cdD:D->Nat
 | .str z=>z.cps.getD 0 0
 | _=>0
theorem Xn{s1 s2:Own}{h:Hs}(ok:h.Ok){cs:List Nat}{gs os:List (List Nat)}{mv g:List Nat}{c:Nat}(hc:c∈h.ls.map (·.1))(hg:∀d∈g,d∈h.ls.map (·.1))(hl:g.length<=100):(opM FF (Ab (AI (By (Aa 6)) 0 Cz (Af Bc (Ab (Aa 1) (Ab (Aa 4) (Ab (Aa 0) Ad))))) Ad)) [sH s1 h,sT s2 (tx cs),some (.ro,.lst (((gs).map grD).map A.fz)),oC c,oL ((mv).map chD),oL ((os).map grD),some (.own,.fz (grD g))]=some (.val (.fz (.bl (CF h.hands c g))),[sH s1 h,sT s2 (tx cs),some (.ro,.lst (((gs).map grD).map A.fz)),oC c,oL ((mv).map chD),oL ((os).map grD),some (.own,.fz (grD g))]):=by
 have hlim:1000<=LIM:=by decide
 have hit:By (Aa 6) [sH s1 h,sT s2 (tx cs),some (.ro,.lst (((gs).map grD).map A.fz)),oC c,oL ((mv).map chD),oL ((os).map grD),some (.own,.fz (grD g))]=some (g.map chD,none,[sH s1 h,sT s2 (tx cs),some (.ro,.lst (((gs).map grD).map A.fz)),oC c,oL ((mv).map chD),oL ((os).map grD),some (.own,.fz (grD g))]):=rfl;have hcm:=B3 (e:=(Af Bc (Ab (Aa 1) (Ab (Aa 4) (Ab (Aa 0) Ad))))) (f:=fun d=>.bl ((h.hands c).any fun x=>decide (x∈h.hands (cdD d)))) hit (by simp only[length_map]; lia) (fun d hd=>by
  obtain⟨k,hk,rfl⟩:=mem_map.mp hd;have e1:=VP .own .own .own h ok c k hc (hg k hk);refine⟨.val (.fz (.bl ((h.hands c).any fun x=>decide (x∈h.hands k)))),?_,rfl⟩;clear hit hd hk hl hg hc ok hlim;simp only[chD];generalize Bc=Φ at e1 |-;generalize ((h.hands c).any fun x=>decide (x∈h.hands k))=b at e1 |-;generalize gs.map grD=ds1;generalize os.map grD=ds2;generalize grD g=d3;generalize mv.map (fun c=>D.str ⟨#[c]⟩)=ds4;generalize tx cs=z;walk_at "eo")
 have em:(g.map chD).map (fun d=>D.bl ((h.hands c).any fun x=>decide (x∈h.hands (cdD d))))=g.map fun k=>D.bl ((h.hands c).any fun x=>decide (x∈h.hands k)):=by
  rw[map_map];exact map_congr_left fun k _=>rfl
 rw[em] at hcm;have eb:=CV g fun k=>((h.hands c).any fun x=>decide (x∈h.hands k));have ea:(g.map fun k=>((h.hands c).any fun x=>decide (x∈h.hands k))).any id=CF h.hands c g:=by
  rw[any_map]; rfl
 simp only[on1,on2,on3,EL,Fi,A6,Bo,fzU,BW,BQ,opM,Ab,Ad,hcm,bind_some,map_some,peeks,peek,FF,Cq,AY,eb,ea]
theorem W7{s1 s2:Own}{h:Hs}(ok:h.Ok){cs:List Nat}{gs os:List (List Nat)}{mv g:List Nat}{c:Nat}(hc:c∈h.ls.map (·.1))(hg:∀d∈g,d∈h.ls.map (·.1))(hl:g.length<=100)(l1:mv.length<=100)(l2:os.length<=100):
  (ifS (Aw (opM FF (Ab (AI (By (Aa 6)) 0 Cz (Af Bc (Ab (Aa 1) (Ab (Aa 4) (Ab (Aa 0) Ad))))) Ad))) (Ay 4 (opM AL (m2L (Aa 4) (Aa 6)))) (CZ 5 (Aa 6))) [sH s1 h,sT s2 (tx cs),some (.ro,.lst (((gs).map grD).map A.fz)),oC c,oL ((mv).map chD),oL ((os).map grD),some (.own,.fz (grD g))]=some (.next [sH s1 h,sT s2 (tx cs),some (.ro,.lst (((gs).map grD).map A.fz)),oC c,some (.own,.lst (((mv++if CF h.hands c g then g else []).map chD).map A.fz)),some (.own,.lst (((os++if CF h.hands c g then [] else [g]).map grD).map A.fz)),some (.own,.fz (grD g))]):=by
 have hlim:1000<=LIM:=by decide
 have t1:=B8 (Xn (s1:=s1) (s2:=s2) ok (cs:=cs) (gs:=gs) (os:=os) (mv:=mv) hc hg hl);cases hh:CF h.hands c g with
 | true =>
  rw[hh] at t1;refine(RV t1).trans ?_;rw[if_pos rfl,if_pos rfl,append_nil];have a2:((mv.map chD).length+(g.map chD).length<=LIM)=True:=by simp only[length_map,eq_iff_iff,iff_true]; lia
  have a4:(mv.map chD++g.map chD)=(mv++g).map chD:=by simp
  clear t1 hh hlim hl l1 l2 hc hg ok;show Ay 4 (opM AL (m2L (Aa 4) (Aa 6))) [sH s1 h,sT s2 (tx cs),some (.ro,.lst (((gs).map grD).map A.fz)),oC c,oL ((mv).map chD),oL ((os).map grD),some (.own,.fz (.lst (g.map chD)))]=some (.next [sH s1 h,sT s2 (tx cs),some (.ro,.lst (((gs).map grD).map A.fz)),oC c,oL ((mv++g).map chD),oL ((os).map grD),some (.own,.fz (.lst (g.map chD)))]);rw[<- a4];generalize g.map chD=d1 at a2 |-;generalize mv.map chD=d2 at a2 |-;generalize gs.map grD=d3;generalize os.map grD=d4;generalize tx cs=z;walk_at "eo"
 | false =>
  rw[hh] at t1;refine(FZ t1).trans ?_;rw[if_neg Bool.false_ne_true,if_neg Bool.false_ne_true,append_nil];have st:=JZ (i:=5) (st:=.own) (m:=Aa 6) (a:=.fz (grD g)) (as:=(os.map grD).map A.fz) (Z:=[sH s1 h,sT s2 (tx cs),some (.ro,.lst (((gs).map grD).map A.fz)),oC c,oL ((mv).map chD),oL ((os).map grD),some (.own,.fz (grD g))]) rfl rfl (by simp only[length_map]; lia);refine st.trans ?_;have:(os.map grD).map A.fz++[A.fz (grD g)]=((os++[g]).map grD).map A.fz:=by simp
  rw[this];rfl
theorem Ny{gs:List (List Nat)}{j:Nat}(hj:j<gs.length):gs.take (j+1)=gs.take j++[gs.getD j []]:=by
 rw[take_add_one,List.getD_eq_getElem?_getD,List.getElem?_eq_getElem hj]; rfl
theorem Xo{s1 s2:Own}{hd:D}{z:Str}{d1 d3 dm:List D}{x3 x6:Slot}(l:d1.length<=900):Ay 2 (opM AL (m2L (Aa 5) (lstM (Ab (Aj (Aa 4)) Ad)))) [some (s1,.fz hd),some (s2,.fz (.str z)),oL d3,x3,oL dm,oL d1,x6]=some (.next [some (s1,.fz hd),some (s2,.fz (.str z)),some (.own,.lst ((d1++[D.lst dm]).map A.fz)),x3,some (.own,.fz (.lst dm)),oL d1,x6]):=by
 have hlim:1000<=LIM:=by decide
 have l0:((0:Nat)+1<=LIM)=True:=by simp only[eq_iff_iff,iff_true]; lia
 have l3:(d1.length+(0+1)<=LIM)=True:=by simp only[eq_iff_iff,iff_true]; lia
 have l4:(d1.length+1<=LIM)=True:=by simp only[eq_iff_iff,iff_true]; lia
 clear l hlim;walk_at "eo"
theorem VO{s1 s2:Own}{h:Hs}(ok:h.Ok){cs:List Nat}{gs:List (List Nat)}{c:Nat}(hc:c∈h.ls.map (·.1))(hg:∀g∈gs,∀d∈g,d∈h.ls.map (·.1))(l1:gs.flatten.length<=50)(l2:gs.length<=50){x4 x5 x6:Slot}(h4:(x4=none\/∃a,x4=some (Own.own,a)))(h5:(x5=none\/∃a,x5=some (Own.own,a)))(h6:(x6=none\/∃a,x6=some (Own.own,a))):
  ∃y4 y5 y6,(y4=none\/∃a,y4=some (Own.own,a))/\(y5=none\/∃a,y5=some (Own.own,a))/\(y6=none\/∃a,y6=some (Own.own,a))/\(Ax (Ay 4 (lstM (Ab (Aj (Aa 3)) Ad))) (Ax (Ay 5 (lstM Ad)) (Ax (Ej [6] true (By (Aa 2)) (ifS (Aw (opM FF (Ab (AI (By (Aa 6)) 0 Cz (Af Bc (Ab (Aa 1) (Ab (Aa 4) (Ab (Aa 0) Ad))))) Ad))) (Ay 4 (opM AL (m2L (Aa 4) (Aa 6)))) (CZ 5 (Aa 6)))) (Ay 2 (opM AL (m2L (Aa 5) (lstM (Ab (Aj (Aa 4)) Ad)))))))) [sH s1 h,sT s2 (tx cs),oL ((gs).map grD),oC c,x4,x5,x6]=some (.next [sH s1 h,sT s2 (tx cs),oL ((E9 h.hands gs c).map grD),oC c,y4,y5,y6]):=by
 have hlim:1000<=LIM:=by decide
 have st1:Ay 4 (lstM (Ab (Aj (Aa 3)) Ad)) [sH s1 h,sT s2 (tx cs),oL ((gs).map grD),oC c,x4,x5,x6]=some (.next [sH s1 h,sT s2 (tx cs),oL ((gs).map grD),oC c,some (.own,.lst ((([c]).map chD).map A.fz)),x5,x6]):=by
  have l0:((0:Nat)+1<=LIM)=True:=by simp only[eq_iff_iff,iff_true]; lia
  clear hc hg l1 l2 ok h5 h6 hlim;generalize gs.map grD=ds;generalize tx cs=z;simp only[map_cons,map_nil,chD];rcases h4 with rfl|⟨a4,rfl⟩<;>walk_at "eo"
 have st2:Ay 5 (lstM Ad) [sH s1 h,sT s2 (tx cs),oL ((gs).map grD),oC c,some (.own,.lst ((([c]).map chD).map A.fz)),x5,x6]=some (.next [sH s1 h,sT s2 (tx cs),oL ((gs).map grD),oC c,some (.own,.lst ((([c]).map chD).map A.fz)),some (.own,.lst ((([]).map grD).map A.fz)),x6]):=by
  have l0:((0:Nat)<=LIM)=True:=by simp
  clear hc hg l1 l2 ok h4 h6 hlim st1;generalize gs.map grD=ds;generalize tx cs=z;simp only[map_nil];generalize ([c].map chD).map A.fz=as;rcases h5 with rfl|⟨a5,rfl⟩<;>walk_at "eo"
 have hit:By (Aa 2) [sH s1 h,sT s2 (tx cs),oL ((gs).map grD),oC c,some (.own,.lst ((([c]).map chD).map A.fz)),some (.own,.lst ((([]).map grD).map A.fz)),x6]=some (gs.map grD,some 2,[sH s1 h,sT s2 (tx cs),oL ((gs).map grD),oC c,some (.own,.lst ((([c]).map chD).map A.fz)),some (.own,.lst ((([]).map grD).map A.fz)),x6]):=by
  clear hc hg l1 l2 ok h4 h5 h6 hlim st1 st2;generalize gs.map grD=ds;generalize tx cs=z;generalize ([c].map chD).map A.fz=as;generalize (([]:List (List Nat)).map grD).map A.fz=as2;walk_at "eo"
 obtain⟨Z',f1,f2⟩:=Ck (is:=[6]) (one:=true) (b:=(ifS (Aw (opM FF (Ab (AI (By (Aa 6)) 0 Cz (Af Bc (Ab (Aa 1) (Ab (Aa 4) (Ab (Aa 0) Ad))))) Ad))) (Ay 4 (opM AL (m2L (Aa 4) (Aa 6)))) (CZ 5 (Aa 6))))
  (fun j Z=>∃x6,(x6=none\/∃a,x6=some (Own.own,a))/\Z=[sH s1 h,sT s2 (tx cs),some (.ro,.lst (((gs).map grD).map A.fz)),oC c,some (.own,.lst ((([c]++((gs.take j).filter (CF h.hands c)).flatten).map chD).map A.fz)),oL (((gs.take j).filter fun g=>!CF h.hands c g).map grD),x6]) hit ⟨x6,h6,rfl⟩ (fun j d Z hd hI=>by
   obtain⟨x6,h6,rfl⟩:=hI;have hj:j<gs.length:=by have:=AB hd; simpa using this
   have hgm:gs.getD j []∈gs:=by rw[List.getD_eq_getElem?_getD,List.getElem?_eq_getElem hj]; exact getElem_mem hj
   have ed:d=grD (gs.getD j []):=by
    rw[List.getElem?_map,List.getElem?_eq_getElem hj] at hd;rw[List.getD_eq_getElem?_getD,List.getElem?_eq_getElem hj];exact(Option.some.inj hd).symm
   subst ed;have b1:=Qv hgm;have b2:(((gs.take j).filter (CF h.hands c)).flatten).length<=gs.flatten.length:=by
    refine le_trans (Lh _ _) ?_
    conv=>rhs; rw[<- List.take_append_drop j gs]
    rw[List.flatten_append,length_append];lia
   have b3:((gs.take j).filter fun g=>!CF h.hands c g).length<=gs.length:=le_trans (length_filter_le _ _) (by rw[length_take]; lia);have st:=W7 (s1:=s1) (s2:=s2) ok (cs:=cs) (gs:=gs) (os:=(gs.take j).filter fun g=>!CF h.hands c g) (mv:=[c]++((gs.take j).filter (CF h.hands c)).flatten) (g:=gs.getD j []) hc (hg _ hgm) (by lia) (by simp only[length_append,length_cons,length_nil]; lia) (by lia);refine⟨[sH s1 h,sT s2 (tx cs),some (.ro,.lst (((gs).map grD).map A.fz)),oC c,some (.own,.lst ((([c]++((gs.take j).filter (CF h.hands c)).flatten).map chD).map A.fz)),oL (((gs.take j).filter fun g=>!CF h.hands c g).map grD),some (.own,.fz (grD (gs.getD j [])))],_,?_,.inl st,some (.own,.fz (grD (gs.getD j []))),.inr ⟨_,rfl⟩,?_⟩
   .rcases h6 with rfl|⟨d6,rfl⟩<;>rfl
   .rw[Ny hj,filter_append,filter_append,List.flatten_append]
    generalize gs.getD j []=g;cases hh:CF h.hands c g<;>simp[hh])
 obtain⟨y6,k6,rfl⟩:=f2;rw[length_map,take_length] at f1;refine⟨some (.own,.fz (grD ([c]++(gs.filter (CF h.hands c)).flatten))),oL ((gs.filter fun g=>!CF h.hands c g).map grD),y6,.inr ⟨_,rfl⟩,.inr ⟨_,rfl⟩,k6,?_⟩;rw[Ai st1,Ai st2];refine(Ai f1).trans ?_;show Ay 2 (opM AL (m2L (Aa 5) (lstM (Ab (Aj (Aa 4)) Ad)))) [sH s1 h,sT s2 (tx cs),oL ((gs).map grD),oC c,some (.own,.lst ((([c]++(gs.filter (CF h.hands c)).flatten).map chD).map A.fz)),oL ((gs.filter fun g=>!CF h.hands c g).map grD),y6]=some (.next [sH s1 h,sT s2 (tx cs),oL ((E9 h.hands gs c).map grD),oC c,some (.own,.fz (grD ([c]++(gs.filter (CF h.hands c)).flatten))),oL ((gs.filter fun g=>!CF h.hands c g).map grD),y6]);have eg:(E9 h.hands gs c).map grD=(gs.filter fun g=>!CF h.hands c g).map grD++[grD ([c]++(gs.filter (CF h.hands c)).flatten)]:=by rw[E9,map_append]; rfl
 rw[eg];have b3:(gs.filter fun g=>!CF h.hands c g).length<=gs.length:=length_filter_le _ _;exact Xo (d1:=(gs.filter fun g=>!CF h.hands c g).map grD) (by rw[length_map]; exact le_trans b3 (le_trans l2 (by decide)))
theorem P5{h:Hs}:∀(w:List Nat) (gs:List (List Nat)),(∀c∈w,c∈h.ls.map (·.1))->(∀g∈gs,∀d∈g,d∈h.ls.map (·.1))->∀g∈w.foldl (E9 h.hands) gs,∀d∈g,d∈h.ls.map (·.1):=by
 intro w;induction w with
 | nil=>intro gs _ h2; exact h2
 | cons c w ih =>
  intro gs h1 h2;refine ih _ (fun d hd=>h1 d (mem_cons_of_mem _ hd)) fun g hg d hd=>?_;unfold E9 at hg;rcases mem_append.mp hg with hg|hg
  .exact h2 g (mem_filter.mp hg).1 d hd
  .rw[mem_singleton.mp hg] at hd
   rcases mem_append.mp hd with hd|hd
   .rw[mem_singleton.mp hd]; exact h1 c mem_cons_self
   .obtain⟨k,hk,hdk⟩:=mem_flatten.mp hd
    exact h2 k (mem_filter.mp hk).1 d hdk
theorem L8(s1 s2:Own)(h:Hs)(ok:h.Ok)(cs:List Nat)(hz:∀c∈cs,c∈h.ls.map (·.1))(hl:cs.length<=40):∃a1 a2,Bz [(s1,.fz h.d),(s2,.fz (.str (tx cs)))]=some (.lst (((E1 h.hands cs).map grD).map A.fz),[a1,a2]):=by
 have hit:=KU (i:=1) (cs:=cs) (Z:=[sH s1 h,sT s2 (tx cs),oL ((E1 h.hands (cs.take 0)).map grD),none,none,none,none]) hl rfl;obtain⟨Z',f1,f2⟩:=Ck (is:=[3]) (one:=true) (b:=(Ax (Ay 4 (lstM (Ab (Aj (Aa 3)) Ad))) (Ax (Ay 5 (lstM Ad)) (Ax (Ej [6] true (By (Aa 2)) (ifS (Aw (opM FF (Ab (AI (By (Aa 6)) 0 Cz (Af Bc (Ab (Aa 1) (Ab (Aa 4) (Ab (Aa 0) Ad))))) Ad))) (Ay 4 (opM AL (m2L (Aa 4) (Aa 6)))) (CZ 5 (Aa 6)))) (Ay 2 (opM AL (m2L (Aa 5) (lstM (Ab (Aj (Aa 4)) Ad)))))))))
  (fun j Z=>∃x3 x4 x5 x6,(x3=none\/∃a,x3=some (Own.own,a))/\(x4=none\/∃a,x4=some (Own.own,a))/\(x5=none\/∃a,x5=some (Own.own,a))/\(x6=none\/∃a,x6=some (Own.own,a))/\Z=[sH s1 h,sT s2 (tx cs),oL ((E1 h.hands (cs.take j)).map grD),x3,x4,x5,x6]) hit ⟨none,none,none,none,.inl rfl,.inl rfl,.inl rfl,.inl rfl,rfl⟩ (fun j d Z hd hI=>by
   obtain⟨x3,x4,x5,x6,h3,h4,h5,h6,rfl⟩:=hI;obtain⟨rfl,hj⟩:=PJ hd;have sz:=OD h.hands (cs.take j) [];have tl:(cs.take j).length<=40:=by rw[length_take]; lia
   simp only[List.flatten_nil,length_nil,zero_add] at sz;obtain⟨y4,y5,y6,k4,k5,k6,st⟩:=VO (s1:=s1) (s2:=s2) ok (cs:=cs) (gs:=E1 h.hands (cs.take j)) (hz _ (getD_in hj)) (P5 _ _ (fun c hc=>hz c (List.mem_of_mem_take hc)) (fun g hg=>by simp at hg)) (by unfold E1; lia) (by unfold E1; lia) h4 h5 h6;refine⟨[sH s1 h,sT s2 (tx cs),oL ((E1 h.hands (cs.take j)).map grD),some (.own,.fz (.str ⟨#[cs.getD j 0]⟩)),x4,x5,x6],_,?_,.inl st,some (.own,.fz (.str ⟨#[cs.getD j 0]⟩)),y4,y5,y6,.inr ⟨_,rfl⟩,k4,k5,k6,?_⟩
   .rcases h3 with rfl|⟨d3,rfl⟩<;>rfl
   .rw[take_snoc hj,E1,E1,List.foldl_append]
    rfl)
 obtain⟨x3,x4,x5,x6,_,_,_,_,rfl⟩:=f2;rw[length_map,take_length] at f1;refine⟨_,_,Bk (Z:=[sH s1 h,sT s2 (tx cs),none,x3,x4,x5,x6]) rfl ?_⟩;show DR [sH s1 h,sT s2 (tx cs),none,none,none,none,none]=_;unfold DR;have st1:Ay 2 (lstM Ad) [sH s1 h,sT s2 (tx cs),none,none,none,none,none]=some (.next [sH s1 h,sT s2 (tx cs),oL ((E1 h.hands (cs.take 0)).map grD),none,none,none,none]):=by
  have l0:((0:Nat)<=LIM)=True:=by simp
  clear f1 hit hz hl ok;generalize tx cs=z;simp only[oL,take_zero,E1,List.foldl_nil,map_nil];walk_at "eo"
 rw[Ai st1];refine(Ai f1).trans ?_;rfl
local macro_rules | `(tactic| walk_at "eo")=>do
 let l <- ("Ax ifS MZ M0 Ie Aw opM m1L m2L Ab Ad Aa Ae peeks peek er ers Eu J.andM J.notM orT BF Hm Aj share move moves keep FJ mkT lstM vals fzs AY Ed Ay CH Iy Hq retS AK Fs free Ji CZ FG Ef Af Ce DN refs back KP G6 CM isInt isBool Eg isTup isStr AL Ep FH G1 Jb E8 O4 Fq IP E4 J1 Mp Bv ixA A6 Bo fzU BW BQ Option.some_or Option.none_or Option.bind_none AQ Cq eqA neA ltA leA gtA geA Hh By nameOf lock unlock GQ shB IM DM FF CN BI F5 Jl Jm slF J.own DT EX EW Ex Ey CV Fb ES F0 Fx inA CA Bm CO GU Gs Ja Gu on1 on2 on3 EL Fi GP EV Ue List.getElem?_cons_zero List.getElem?_cons_succ List.getElem?_nil Option.bind_some Option.bind_none Option.map_some Option.map_none List.map_cons List.map_nil List.cons_append List.nil_append List.append_nil List.length_cons List.length_nil List.length_map List.replicate_zero List.replicate_succ List.nodup_nil List.set_cons_zero List.set_cons_succ List.take_succ_cons List.take_zero if_true if_false Bool.not_true Bool.not_false Bool.false_eq_true reduceIte reduceCtorEq Nat.reduceSub Nat.reduceAdd Nat.sub_self Bool.true_and Bool.and_true Bool.false_and Bool.and_false Bool.true_or Bool.or_true Bool.false_or Bool.or_false decide_true decide_false beq_self_eq_true and_self and_true true_and Nat.zero_add List.nodup_cons List.not_mem_nil not_false_eq_true".splitOn " ").mapM fun s=>`(Lean.Parser.Tactic.simpLemma| $(Lean.mkIdent s.toName):ident)
 let l:=l.toArray
 `(tactic| simp only [$l,*, *])
theorem JM{a:MS}{r:MR}{Z Z1:Ro}(h:a Z=some (.next Z1)):KO a r Z=r Z1:=by simp[KO,h]
noncomputable abbrev aU(h:Hs)(cs:List Nat)(m:Int):List (Own×A):=[(.own,.fz h.d),(.own,.fz (.str (tx cs))),(.own,.fz (.int m))]
noncomputable abbrev eU(h:Hs)(cs:List Nat)(m:Int)(t r:Slot):Ro:=[sH .own h,sT .own (tx cs),oI m,t,r]
theorem Qu{ds:List D}{Z:Ro}(hr : Z[3]? = some (oL ds)):Aw (opM leA (m2L (opM Bv (Ab (Aa 3) Ad)) (Ae (.int 1)))) Z=some (decide (ds.length<=1),Z):=by
 have v:Aa 3 Z=some (.ref 3,Z):=by simp[Aa,hr]
 have l1:opM Bv (Ab (Aa 3) Ad) Z=some (.val (.fz (.int (ds.length:Int))),Z):=by
  refine Ba (cons_of v (nil_of _)) (as:=[.lst (ds.map A.fz)]) (by simp[peeks,peek,hr]) ?_;simp[Bv,on1,AQ,Bo,BQ,fzU,AY]
 have l2:=Ba (f:=leA) (BD l1 (r2:=.val (.fz (.int 1))) (m2:=Ae (.int 1)) rfl) rfl (c:=.fz (.bl (decide ((ds.length:Int)<=1)))) (by simp[leA,on2,A6,Bo,fzU,BW,BQ,Hh]);simp only[Aw,l2,bind_some,peek,Eu,map_some];congr 2;simp;exact⟨fun h=>by omega,fun h=>by omega⟩
theorem T5(h:Hs)(ok:h.Ok)(cs:List Nat)(hz:∀c∈cs,c∈h.ls.map (·.1))(hl:cs.length<=40)(m:Int):BS (aU h cs m)=if (pD h cs).length<=1 then some (Str.ofString "Whole") else none:=by
 have e1:=II .own .own h ok (tx cs) (K0 (by lia) hz);obtain⟨a1,a2,e2⟩:=IJ .own h ok cs hz hl;show(KO _ _) (eU h cs m none none)=_;refine(JM (PN (call_of rfl rfl rfl e1 rfl))).trans ?_;refine(JM (Cf (call_of rfl rfl rfl e2 rfl) rfl)).trans ?_;have t:=Qu (ds:=pD h cs) (Z:=eU h cs m (oL (pD h cs)) none) rfl;show ifR _ _ (eU h cs m (oL (pD h cs)) none)=_;simp only[ifR,t,bind_some,KD];by_cases q:(pD h cs).length<=1<;>simp[q]
theorem Mb{N j:Nat}{as:List A}{h:Hs}(ok:h.Ok){z:Str}{most:Int}(hb:Bag N as)(hN:N<=100000)(hz:Row h z)(hl:z.length<=100):∃as' c,Bag (N+1) as'/\c∈h.ls.map (·.1)/\(Ay 3 (opM AL (m2L (Aa 3) (opM ixA (m2L (opM ixA (m2L (opM ixA (m2L (Aa 1) (Ae (.int 1)))) (Af An (Ab (Aa 0) (Ab (opM Bv (Ab (opM ixA (m2L (Aa 1) (Ae (.int 1)))) Ad)) Ad))))) (Ae (.int 0))))))) [some (.lent,.lst as),sH .own h,oI most,some (.own,.fz (.str z)),oI (0+(j:Int))]=some (.next [some (.lent,.lst as'),sH .own h,oI most,some (.own,.fz (.str (z++(⟨#[c]⟩:Str)))),oI (0+(j:Int))]):=by
 have l1:=ok.l1;have l2:=ok.l2;obtain⟨d,as',g1,g2,b1,t1⟩:=En hb (by lia) (h.ls.length:Int) (by lia) (by lia);have e5:=at1 (D.int h.n) (.lst (h.ls.map ld)) [];have hd:d.toNat<h.ls.length:=by lia
 have e7:=Ca (xs:=h.ls.map ld) (i:=d) (k:=d.toNat) (by lia) (by simpa using hd);simp only[getElem_map] at e7;have e8:ld (h.ls[d.toNat])=.tup [.str ⟨#[(h.ls[d.toNat]).1]⟩,.lst (iL (h.ls[d.toNat]).2)]:=rfl;rw[e8] at e7;have e9:=at0 (D.str ⟨#[(h.ls[d.toNat]).1]⟩) [.lst (iL (h.ls[d.toNat]).2)];have hlim:1000<=LIM:=by decide
 have e10:(z.length+1<=LIM)=True:=by simp only[eq_iff_iff,iff_true]; lia
 have e11:=len_one (h.ls[d.toNat]).1;refine⟨as',(h.ls[d.toNat]).1,b1,mem_map.mpr ⟨_,getElem_mem hd,rfl⟩,?_⟩;simp only[sH,sH,Hs.d];clear hlim e8 b1 g1 g2 l1 l2 hb hN hz hl ok;walk_at "eo"
theorem Nq{N:Nat}{as:List A}{h:Hs}(ok:h.Ok)(hb:Bag N as)(hN:N<=1000)(most:Int)(hm:0<=most)(hm2:most<=40):∃z as' a2 a3,Row h z/\z.length<=40/\Bag (N+50) as'/\Bi [(.lent,.lst as),(.own,.fz h.d),(.own,.fz (.int most))]=some (.fz (.str z),[.lst as',a2,a3]):=by
 obtain⟨d1,as1,g1,g2,b1,t1⟩:=En hb (by lia) (most+1) (by lia) (by lia);have c1:Af An (Ab (Aa 0) (Ab (opM AL (m2L (Aa 2) (Ae (.int 1)))) Ad)) [some (.lent,.lst as),sH .own h,oI most,some (.own,.fz (.str (Str.ofString ""))),none]=some (.val (.fz (.int d1)),[some (.lent,.lst as1),sH .own h,oI most,some (.own,.fz (.str (Str.ofString ""))),none]):=by
  refine call_of (cons_of (r:=.ref 0) rfl (cons_of (r:=.val (.fz (.int (most+1)))) rfl (nil_of _))) rfl rfl t1 rfl
 have rg:=GN c1 (by lia) (by lia);have em:(Str.ofString "").cps.toList=[]:=by decide +kernel
 have em2:(Str.ofString "").length=0:=by decide +kernel
 obtain⟨Z',f1,f2⟩:=Ck (is:=[4]) (one:=true) (b:=(Ay 3 (opM AL (m2L (Aa 3) (opM ixA (m2L (opM ixA (m2L (opM ixA (m2L (Aa 1) (Ae (.int 1)))) (Af An (Ab (Aa 0) (Ab (opM Bv (Ab (opM ixA (m2L (Aa 1) (Ae (.int 1)))) Ad)) Ad))))) (Ae (.int 0))))))))
  (fun j Z=>∃as' z x5,(x5=none\/∃d,x5=some (Own.own,A.fz d))/\Bag (N+1+j) as'/\Row h z/\z.length=j/\Z=[some (.lent,.lst as'),sH .own h,oI most,some (.own,.fz (.str z)),x5]) rg ⟨as1,Str.ofString "",none,.inl rfl,b1,⟨by rw[em2]; lia,by rw[em]; simp⟩,em2,rfl⟩ (fun j d Z hd hI=>by
   obtain⟨as',z,x5,hx5,hb',hz,hzl,rfl⟩:=hI;obtain⟨rfl,hj⟩:=Gh hd;obtain⟨as'',c,s1,s2,s3⟩:=Mb (j:=j) (most:=most) ok hb' (by lia) hz (by lia);refine⟨_,_,?_,.inl s3,as'',_,_,.inr ⟨_,rfl⟩,s1,⟨?_,?_⟩,?_,rfl⟩
   .rcases hx5 with rfl|⟨d,rfl⟩<;>simp[Gj,free,J.own]
   .rw[NI]; lia
   .rw[app_list]
    intro x hx;rcases mem_append.mp hx with hx|hx
    .exact hz.2 x hx
    .simp only[mem_singleton] at hx; subst hx; exact s2
   .rw[NI,hzl])
 rw[Ft] at f2;obtain⟨as',z,x5,_,hb',hz,hzl,rfl⟩:=f2;refine⟨z,as',_,_,hz,by lia,hb'.mono (by lia),Bk (Z:=[some (.lent,.lst as'),sH .own h,oI most,some (.own,.fz (.str z)),x5]) rfl ?_⟩;show C5 [some (.lent,.lst as),sH .own h,oI most,none,none]=_;unfold C5;rw[Ai (Z1:=[some (.lent,.lst as),sH .own h,oI most,some (.own,.fz (.str (Str.ofString ""))),none]) (by rfl),Ai f1];exact B7 rfl
noncomputable def prD(u v:Str):D->D
 | .int i=>.tup [.str (D6 u i.toNat),.str (D6 v i.toNat)]
 | d=>d
theorem strs_map(zs:List Str):Dc (zs.map D.str)=some zs:=by
 induction zs with
 | nil=>rfl
 | cons z zs ih=>simp[Dc,ih]
theorem R6{m:ME}{Z Z1:Ro}{zs:List Str}(hm:m Z=some (.val (.lst ((zs.map D.str).map A.fz)),Z1))(hl:(zs.map (·.length)).sum<=16777216):CN BI (Ae (.str (Str.ofString ""))) (m1L m) Z=some (.val (.fz (.str (glue zs))),Z1):=by
 have e0:(Str.ofString "").length=0:=by decide +kernel
 simp only[CN,Ae,m1L,Ab,Ad,hm,bind_some,map_some,peeks,peek,BI,on1,e0,if_true,Cq,AY,strs_map,hl]
theorem Np(h:Hs)(ok:h.Ok)(cs:List Nat)(hz:∀c∈cs,c∈h.ls.map (·.1))(hl:cs.length<=40){m:Int}(hm0:0<=m)(hm:m<=100){u:Str}{zs:List Str}(e:pD h cs=(u::zs).map D.str)(hne:zs≠[])(hu:u.length<=1000)(hv:(glue zs).length<=1000)(hs:(zs.map (·.length)).sum<=16777216):
  ∃a1 a2 a3,Ee (aU h cs m)=some (.lst (((CU 0 m.toNat).map (prD u (glue zs))).map A.fz),[a1,a2,a3]):=by
 have e1:=II .own .own h ok (tx cs) (K0 (by lia) hz);obtain⟨a1,a2,e2⟩:=IJ .own h ok cs hz hl;rw[e] at e2;have t:=Qu (ds:=(u::zs).map D.str) (Z:=eU h cs m (oL ((u::zs).map D.str)) none) rfl;have hf:decide (((u::zs).map D.str).length<=1)=false:=by
  cases zs with
  | nil=>exact absurd rfl hne
  | cons _ _=>simp
 rw[hf] at t;have j1:opM LC (m2L (Aa 3) (Ae (.int 1))) (eU h cs m (oL ((u::zs).map D.str)) none)=some (.val (.lst ((zs.map D.str).map A.fz)),eU h cs m (oL ((u::zs).map D.str)) none):=by
  refine Ba (BD (r1:=.ref 3) rfl (r2:=.val (.fz (.int 1))) rfl) rfl ?_;simp only[LC,on2,A6,fzU,BW,bind_some,Cq,AY,map_some,map_cons,Le];rw[<- map_cons,AY];simp only[map_some,map_cons,Le]
 refine⟨_,_,_,Bk (Z:=eU h cs m (oL ((u::zs).map D.str)) (some (.own,.fz (.str (glue zs))))) rfl ?_⟩;show EK (eU h cs m none none)=_;unfold EK;refine(Ai (PN (call_of rfl rfl rfl e1 rfl))).trans ?_;refine(Ai (Cf (call_of rfl rfl rfl e2 rfl) rfl)).trans ?_;refine(Ai ((FZ t).trans rfl)).trans ?_;refine(Ai (Cf (R6 j1 hs) rfl)).trans ?_;have hlim:1000<=LIM:=by decide
 have hle:(CU 0 m.toNat).length<=LIM:=by rw[Ft]; lia
 refine B7 ?_;show AI (Bm (Aa 2)) 0 Cz _ (eU h cs m (oL ((u::zs).map D.str)) (some (.own,.fz (.str (glue zs)))))=_;refine B3 (f:=prD u (glue zs)) (GN (n:=m) rfl (by lia) (by lia)) hle fun d hd=>?_;obtain⟨j,hj⟩:=List.getElem?_of_mem hd;obtain⟨rfl,hj⟩:=Gh hj;have hc1:(u.length<=1000/\0<=(0+(j:Int))/\0+(j:Int)<=1000)=True:=by simp only[eq_iff_iff,iff_true]; lia
 have hc2:((glue zs).length<=1000/\0<=(0+(j:Int))/\0+(j:Int)<=1000)=True:=by simp only[eq_iff_iff,iff_true]; lia
 have x1:opM ixA (m2L (Aa 4) (Ae (.int 0))) (J.own (.int (0+(j:Int)))::eU h cs m (oL ((u::zs).map D.str)) (some (.own,.fz (.str (glue zs)))))=some (.val (.fz (.str u)),J.own (.int (0+(j:Int)))::eU h cs m (oL ((u::zs).map D.str)) (some (.own,.fz (.str (glue zs))))):=by
  refine Ba (BD (r1:=.ref 4) rfl (r2:=.val (.fz (.int 0))) rfl) rfl ?_;have e9:=at0 (D.str u) (zs.map D.str);rw[<- map_cons] at e9;simp only[ixA,on2,A6,fzU,BW,AQ,Bo,BQ,AY,e9,bind_some,map_some,some_or,none_or,bind_none,Option.map_none]
 have x2:=Ba (f:=Jj) (BD x1 (m2:=Aa 0) (r2:=.val (.fz (.int (0+(j:Int))))) rfl) rfl (c:=.fz (.str (D6 u (0+(j:Int)).toNat))) (by simp only[Jj,on2,Bo,BQ,A6,fzU,BW,bind_some,hc1,if_true]);have x3:opM Jj (m2L (Aa 5) (Aa 0)) (J.own (.int (0+(j:Int)))::eU h cs m (oL ((u::zs).map D.str)) (some (.own,.fz (.str (glue zs)))))=some (.val (.fz (.str (D6 (glue zs) (0+(j:Int)).toNat))),J.own (.int (0+(j:Int)))::eU h cs m (oL ((u::zs).map D.str)) (some (.own,.fz (.str (glue zs))))):=
  Ba (BD (r1:=.val (.fz (.str (glue zs)))) rfl (r2:=.val (.fz (.int (0+(j:Int))))) rfl) rfl (by simp only[Jj,on2,Bo,BQ,A6,fzU,BW,bind_some,hc2,if_true])
 have h2:(2<=LIM)=True:=by simp only[eq_iff_iff,iff_true]; lia
 refine⟨.val (.fz (prD u (glue zs) (.int (0+(j:Int))))),?_,rfl⟩;rw[GZ];simp only[FJ,Ab,Ad,Aj,x2,x3,share,er,bind_some,map_some,moves,move,mkT,fzs,length_cons,length_nil,h2,if_true,prD]
local macro_rules | `(tactic| walk_at "eo")=>do
 let l <- ("Ax ifS upA MZ M0 Ie Aw opM m1L m2L Ab Ad Aa Ae peeks peek er ers Eu J.andM J.notM orT BF Hm Aj share move moves keep FJ mkT lstM vals fzs AY Ed Ay CH Iy Hq retS AK Fs free Ji CZ FG Ef Af Ce DN refs back KP G6 CM isInt isBool Eg isTup isStr AL Ep FH G1 Jb E8 O4 Fq IP E4 J1 Mp Bv ixA A6 Bo fzU BW BQ Option.some_or Option.none_or Option.bind_none AQ Cq eqA neA ltA leA gtA geA Hh By nameOf lock unlock GQ shB IM DM FF CN BI F5 Jl Jm slF J.own DT EX EW Ex Ey CV Fb ES F0 Fx inA CA Bm CO GU Gs Ja Gu on1 on2 on3 EL Fi GP EV Ue List.getElem?_cons_zero List.getElem?_cons_succ List.getElem?_nil Option.bind_some Option.bind_none Option.map_some Option.map_none List.map_cons List.map_nil List.cons_append List.nil_append List.append_nil List.length_cons List.length_nil List.length_map List.replicate_zero List.replicate_succ List.nodup_nil List.set_cons_zero List.set_cons_succ List.take_succ_cons List.take_zero if_true if_false Bool.not_true Bool.not_false Bool.false_eq_true reduceIte reduceCtorEq Nat.reduceSub Nat.reduceAdd Nat.sub_self Bool.true_and Bool.and_true Bool.false_and Bool.and_false Bool.true_or Bool.or_true Bool.false_or Bool.or_false decide_true decide_false beq_self_eq_true and_self and_true true_and Nat.zero_add List.nodup_cons List.not_mem_nil not_false_eq_true".splitOn " ").mapM fun s=>`(Lean.Parser.Tactic.simpLemma| $(Lean.mkIdent s.toName):ident)
 let l:=l.toArray
 `(tactic| simp only [$l,*, *])
noncomputable def sees(h:Hs)(cs:List Nat)(x:Int):List Nat:=cs.filter fun c=>decide (x∈h.hands c)
noncomputable def gQ(h:Hs)(x:Int):D->Bool
 | .str z=>decide (x∈h.hands (z.cps.getD 0 0))
 | _=>false
noncomputable def K4(h:Hs)(cs:List Nat):List D:=(CU 0 h.n.toNat).map fun d=>.str ⟨(sees h cs (nD d)).toArray⟩
theorem Xt{s1 s2:Own}{h:Hs}(ok:h.Ok){z:Str}:Bm (opM ixA (m2L (Aa 0) (Ae (.int 0)))) [sH s1 h,some (s2,.fz (.str z))]=some (CU 0 h.n.toNat,none,[sH s1 h,some (s2,.fz (.str z))]):=by
 have e0:=at0 (D.int h.n) [.lst (h.ls.map ld)];have n1:=ok.n1;have n2:=ok.n2;have e1:(-(2 ^ 62)<=h.n/\h.n<2 ^ 62)=True:=by simp; lia
 clear ok n1 n2;simp only[sH,sH,Hs.d];walk_at "eo"
theorem RB{h:Hs}(ok:h.Ok):(CU 0 h.n.toNat).length<=LIM:=by
 have hlim:1000<=LIM:=by decide
 have n2:=ok.n2;rw[Ft];lia
theorem TF{s1 s2:Own}{h:Hs}(ok:h.Ok){z:Str}(hz:Row h z)(x:Int):(CN BI (Ae (.str (Str.ofString ""))) (m1L (AI (CO (Aa 2)) 0 (Aw (opM (inA false) (m2L (Aa 1) (opM GU (m2L (opM Gs (Ab (opM ixA (m2L (Aa 2) (Ae (.int 1)))) Ad)) (Aa 0)))))) (Aa 0)))) (J.own (.int x)::[sH s1 h,some (s2,.fz (.str z))])=some (.val (.fz (.str ⟨(sees h z.cps.toList x).toArray⟩)),J.own (.int x)::[sH s1 h,some (s2,.fz (.str z))]):=by
 have hz1:=hz.1;have hlim:1000<=LIM:=by decide
 have l1:(z.length<=LIM)=True:=by simp; lia
 have zl:z.cps.toList.length=z.length:=Str.list_len z;have e1:=Iw h.ls;have e4:((h.ls.map fun p=>((Sum.inr (⟨#[p.1]⟩:Str):Key),D.lst (iL p.2))).map (·.1)).Nodup=True:=eq_true (keys_nodup ok);have e5:=at1 (D.int h.n) (.lst (h.ls.map ld)) [];have hit:CO (Aa 2) (J.own (.int x)::[sH s1 h,some (s2,.fz (.str z))])=some (z.cps.toList.map chD,none,J.own (.int x)::[sH s1 h,some (s2,.fz (.str z))]):=by
  have es:Eo z=z.cps.toList.map chD:=rfl;rw[<- es];clear hz1 hlim hz ok es zl e1 e4 e5;walk_at "eo"
 have hc:=Ew (g:=fun d=>gQ h x d) (f:=fun d=>d) (c:=(Aw (opM (inA false) (m2L (Aa 1) (opM GU (m2L (opM Gs (Ab (opM ixA (m2L (Aa 2) (Ae (.int 1)))) Ad)) (Aa 0))))))) (e:=Aa 0) hit (by simp only[length_map]; lia) (fun d hd=>by
  obtain⟨c,hcz,rfl⟩:=mem_map.mp hd;have e2:=ND (hz.2 c hcz);have i1:=ES (h.hands c);have i2:=F0 x (h.hands c);have i3:gQ h x (chD c)=decide (x∈h.hands c):=rfl;rw[<- i3] at i2;generalize gQ h x (chD c)=b at i2 |-;generalize iL (h.hands c)=ds at i1 i2 e2;generalize (h.ls.map fun p=>((Sum.inr (⟨#[p.1]⟩:Str):Key),D.lst (iL p.2)))=kvs at e1 e2 e4;clear hit hd hz1 hlim hz ok l1 zl i3 hcz;simp only[chD,sH,Hs.d] at e2 |-;walk_at "eo";try (cases b<;>rfl)) (fun d hd _=>⟨.val (.fz d),rfl,rfl⟩)
 have em:((z.cps.toList.map chD).filter fun d=>gQ h x d).map (fun d=>d)=(sees h z.cps.toList x).map chD:=by
  rw[map_id',filter_map];rfl
 rw[em] at hc;exact NT hc (by have:=length_filter_le (fun c=>decide (x∈h.hands c)) z.cps.toList; simp only[sees]; lia)
theorem L9(s1 s2:Own)(h:Hs)(ok:h.Ok)(z:Str)(hz:Row h z):∃a1 a2,BO [(s1,.fz h.d),(s2,.fz (.str z))]=some (.lst ((K4 h z.cps.toList).map A.fz),[a1,a2]):=by
 have hc:=B3 (e:=(CN BI (Ae (.str (Str.ofString ""))) (m1L (AI (CO (Aa 2)) 0 (Aw (opM (inA false) (m2L (Aa 1) (opM GU (m2L (opM Gs (Ab (opM ixA (m2L (Aa 2) (Ae (.int 1)))) Ad)) (Aa 0)))))) (Aa 0))))) (f:=fun d=>.str ⟨(sees h z.cps.toList (nD d)).toArray⟩) (Xt (s1:=s1) (s2:=s2) ok (z:=z)) (RB ok) (fun d hd=>by
  simp only[CU,mem_map] at hd;obtain⟨k,_,rfl⟩:=hd;refine⟨.val (.fz (.str ⟨(sees h z.cps.toList (0+(k:Int))).toArray⟩)),TF ok hz _,?_⟩;simp only[share,er,map_some,Qy])
 refine⟨_,_,Bk (Z:=[sH s1 h,some (s2,.fz (.str z))]) rfl ?_⟩;show Dy [sH s1 h,some (s2,.fz (.str z))]=_;unfold Dy;exact B7 hc
theorem Te(h:Hs)(cs:List Nat):shB 16 (.lst (K4 h cs))=true:=by
 simp only[shB,K4];generalize CU 0 h.n.toNat=l;induction l with
 | nil=>rfl
 | cons a l ih=>simp only[map_cons,IM,shB,Bool.true_and,ih]
theorem eq_str(a b:Str):eqD (.str a) (.str b)=decide (a=b):=by
 by_cases h:a=b
 .subst h; simp[E7]
 .simp[h,DT,EX,EW,Ex,Ey]
theorem Wh{u v:List Nat}(h:tx u=tx v):u=v:=by rw[<- Cy u,h,Cy]
theorem NL:∀(ss ts:List Str),C0 (ss.map D.str) (ts.map D.str)=decide (ss=ts)
 | [],[]=>by simp[C0]
 | [],_::_=>by simp[C0]
 | _::_,[]=>by simp[C0]
 | a::ss,c::ts=>by
  rw[map_cons,map_cons,C0,NL ss ts,eq_str];by_cases h1:a=c<;>by_cases h2:ss=ts<;>simp[h1,h2]
theorem UU{ss ts:List (List Nat)}:ss.map tx=ts.map tx↔ss=ts:=by
 constructor
 .intro h
  induction ss generalizing ts with
  | nil=>cases ts with|nil=>rfl|cons _ _=>simp at h
  | cons s ss ih=>cases ts with
   | nil=>simp at h
   | cons t ts =>
    rw[map_cons,map_cons,List.cons.injEq] at h;rw[Wh h.1,ih h.2]
 .intro h; rw[h]
noncomputable def sgT(h:Hs)(cs:List Nat):List (List Nat):=(CU 0 h.n.toNat).map fun d=>sees h cs (nD d)
theorem Jp(h:Hs)(cs:List Nat):K4 h cs=((sgT h cs).map tx).map D.str:=by
 simp only[K4,sgT,map_map];rfl
theorem N8{h:Hs}{u v:List Nat}:sgT h u=sgT h v↔∀d∈CU 0 h.n.toNat,sees h u (nD d)=sees h v (nD d):=by
 unfold sgT;rw[List.map_inj_left]
theorem RQ(h:Hs)(u v:List Nat):C0 (K4 h u) (K4 h v)=decide (sgT h u=sgT h v):=by
 rw[Jp,Jp,NL];exact decide_eq_decide.mpr UU
theorem eqL{ds es:List D}{b:Bool}(h1:IM 15 ds=true)(h2:C0 ds es=b):eqA [.lst (ds.map A.fz),.lst (es.map A.fz)]=some (.fz (.bl b)):=by
 simp only[on1,on2,on3,EL,Fi,A6,Bo,fzU,BW,BQ,eqA,J.er,Ed,map_some,bind_some,shB,h1,if_true,DT,EX,EW,Ex,Ey,h2]
noncomputable abbrev eG(h:Hs)(x y:List Nat)(t:Slot):Ro:=[sH .own h,sT .own (tx x),sT .own (tx y),t]
noncomputable def agn(h:Hs)(x y:List Nat):Bool:=decide (x.length=x.length / y.length*y.length)&&decide (sgT h x=sgT h (Ps57.rep (x.length / y.length) y))
theorem Kj{i:Nat}{Z:Ro}{x:List Nat}(e:Aa i Z=some (.val (.fz (.str (tx x))),Z)):opM Bv (Ab (Aa i) Ad) Z=some (.val (.fz (.int (x.length:Int))),Z):=by
 refine Ba (cons_of e (nil_of _)) (as:=[.fz (.str (tx x))]) rfl ?_;simp only[Bv,on1,Bo,BQ,fzU,bind_some,map_some,some_or,Br]
theorem Ui{a b:ME}{Z:Ro}{p q:Bool}(h1:a Z=some (.val (.fz (.bl p)),Z))(h2:b Z=some (.val (.fz (.bl q)),Z)):J.andM a b Z=some (.val (.fz (.bl (p&&q))),Z):=by
 cases p<;>simp[J.andM,B8 h1,h2]
theorem Q7(n:Nat)(y:List Nat):D6 (tx y) n=tx (Ps57.rep n y):=by
 rw[<- T8 (D6 (tx y) n),Hb,Cy]; rfl
theorem GL{n:Nat}{y:List Nat}{c:Nat}(h:c∈Ps57.rep n y):c∈y:=by
 obtain⟨l,hl,hc⟩:=mem_flatten.mp h;rw[(List.mem_replicate.mp hl).2] at hc;exact hc
theorem RS{i j:Int}(h:0<j/\j<1073741824):E8 [.fz (.int i),.fz (.int j)]=some (.fz (.int (i / j))):=by
 have h:=decide_eq_true h;simp only[E8,FH,on2,A6,fzU,BW,bind_some,h,if_true]
theorem UW{i j:Int}(h:(-(2 ^ 64)<i/\i<2 ^ 64)\/(-(2 ^ 64)<j/\j<2 ^ 64)):G1 [.fz (.int i),.fz (.int j)]=some (.fz (.int (i*j))):=by
 simp only[G1,on2,A6,fzU,BW,bind_some];rw[if_pos h]
theorem Wl(h:Hs)(x y:List Nat)(ly:0<y.length)(hx1:x.length<=1000)(hy1:y.length<=1000):opM E8 (m2L (opM Bv (Ab (Aa 1) Ad)) (opM Bv (Ab (Aa 2) Ad))) (eG h x y none)=some (.val (.fz (.int ((x.length / y.length:Nat):Int))),eG h x y none):=by
 refine Ba (BD (Kj (i:=1) (x:=x) rfl) (Kj (i:=2) (x:=y) rfl)) rfl ?_;exact RS ⟨by lia,by lia⟩
theorem Xp(h:Hs)(x y:List Nat)(ly:0<y.length)(hx1:x.length<=1000)(hy1:y.length<=1000):opM G1 (m2L (Aa 3) (opM Bv (Ab (Aa 2) Ad))) (eG h x y (oI ((x.length / y.length:Nat):Int)))=some (.val (.fz (.int (((x.length / y.length:Nat):Int)*(y.length:Int)))),eG h x y (oI ((x.length / y.length:Nat):Int))):=by
 refine Ba (BD (r1:=.val (.fz (.int ((x.length / y.length:Nat):Int)))) rfl (Kj (i:=2) (x:=y) rfl)) rfl ?_;exact UW (.inr ⟨by lia,by lia⟩)
theorem Xs(h:Hs)(x y:List Nat)(ly:0<y.length)(hx1:x.length<=1000)(hy1:y.length<=1000):opM Jj (m2L (Aa 2) (Aa 3)) (eG h x y (oI ((x.length / y.length:Nat):Int)))=some (.val (.fz (.str (tx (Ps57.rep (x.length / y.length) y)))),eG h x y (oI ((x.length / y.length:Nat):Int))):=by
 refine Ba (BD (r1:=.val (.fz (.str (tx y)))) rfl (r2:=.val (.fz (.int ((x.length / y.length:Nat):Int)))) rfl) rfl ?_;have ht2:x.length / y.length<=x.length:=Nat.div_le_self ..;have c:((tx y).length<=1000/\0<=((x.length / y.length:Nat):Int)/\((x.length / y.length:Nat):Int)<=1000)=True:=by rw[Br]; simp only[eq_iff_iff,iff_true]; lia
 simp only[Jj,on2,Bo,BQ,A6,fzU,BW,bind_some,c,if_true,Int.toNat_natCast,Q7]
theorem s_again(h:Hs)(ok:h.Ok)(x y:List Nat)(hx:Row h (tx x))(hy:Row h (tx y))(hne:y≠[]):∃a1 a2 a3,Bh [(.own,.fz h.d),(.own,.fz (.str (tx x))),(.own,.fz (.str (tx y)))]=some (.fz (.bl (agn h x y)),[a1,a2,a3]):=by
 have ly:0<y.length:=length_pos_iff.mpr hne;have hx1:=hx.1;have hy1:=hy.1;rw[Br] at hx1 hy1;have ht:x.length / y.length*y.length<=x.length:=Nat.div_mul_le_self ..;have ht2:x.length / y.length<=x.length:=Nat.div_le_self ..;have hr:Row h (tx (Ps57.rep (x.length / y.length) y)):=⟨by rw[Br,Ps57.DH]; lia,fun c hc=>hy.2 c (GL hc)⟩;obtain⟨a1,a2,e1⟩:=L9 .own .own h ok (tx x) hx;obtain⟨b1,b2,e2⟩:=L9 .own .own h ok (tx (Ps57.rep (x.length / y.length) y)) hr;rw[Cy] at e1 e2;have g1:=Te h x;have g2:=RQ h x (Ps57.rep (x.length / y.length) y);have gl:decide (((x.length:Int))=((x.length / y.length:Nat):Int)*(y.length:Int))=decide (x.length=x.length / y.length*y.length):=by
  rw[decide_eq_decide,<- Int.natCast_mul];exact Int.ofNat_inj
 refine⟨_,_,_,Bk (Z:=eG h x y (oI ((x.length / y.length:Nat):Int))) rfl ?_⟩;show C4 (eG h x y none)=_;unfold C4;have t1:Aw (opM eqA (m2L (Aa 2) (Ae (.str (Str.ofString ""))))) (eG h x y none)=some (false,eG h x y none):=by
  refine B8 (Ba (BD (r1:=.val (.fz (.str (tx y)))) rfl (r2:=.val (.fz (.str (Str.ofString "")))) rfl) rfl ?_);have q:eqD (.str (tx y)) (.str (Str.ofString ""))=false:=by
   rw[eq_str];refine decide_eq_false fun e=>?_;have e:=congrArg Str.length e;rw[Br] at e;have e0:(Str.ofString "").length=0:=by decide +kernel
   lia
  simp only[eqA,on2,J.er,bind_some,shB,if_true,q]
 refine(Ai ((FZ t1).trans rfl)).trans ?_;refine(Ai (Cf (Wl h x y ly hx1 hy1) rfl)).trans (B7 ?_);show J.andM _ _ (eG h x y (oI ((x.length / y.length:Nat):Int)))=_;refine Ui ?_ ?_
 .rw[<- gl]
  refine Ba (BD (Kj (i:=1) (x:=x) rfl) (Xp h x y ly hx1 hy1)) rfl ?_;simp only[eqA,on2,J.er,bind_some,shB,if_true,DT];rfl
 .rw[<- g2]
  have p1:Af BO (Ab (Aa 0) (Ab (Aa 1) Ad)) (eG h x y (oI ((x.length / y.length:Nat):Int)))=some (.val (.lst ((K4 h x).map A.fz)),eG h x y (oI ((x.length / y.length:Nat):Int))):=call_of rfl rfl rfl e1 rfl;have p3:=call_of (cons_of (m:=Aa 0) (Z:=eG h x y (oI ((x.length / y.length:Nat):Int))) (r:=.val (.fz h.d)) rfl (cons_of (Xs h x y ly hx1 hy1) (nil_of _))) rfl rfl e2 rfl;exact Ba (BD p1 p3) rfl (eqL (by simpa only[shB] using g1) rfl)
theorem RF{h:Hs}(ok:h.Ok){cs u v:List Nat}(hz:∀c∈cs,c∈h.ls.map (·.1))(T:Two h.hands cs u v)(i j:Nat):agn h (Ps57.rep i u++Ps57.rep j v) cs=decide (i=j):=by
 have hf:∀c∈cs,h.hands c≠[]:=fun c hc=>(Hg ok (hz c hc)).1;have hp:∀x,Ps57.fl h.hands x cs=Ps57.fl h.hands x (u++v):=T.sn;have el:cs.length=(u++v).length:=Ic hf (fun c hc=>hf c (T.sub c hc)) T.sn;have pos:0<cs.length:=by
  have:=length_pos_iff.mpr T.nu;rw[el,length_append]; lia
 by_cases e:i=j
 .subst e
  have l:(Ps57.rep i u++Ps57.rep i v).length=i*cs.length:=by rw[length_append,Ps57.DH,Ps57.DH,el,length_append,Nat.mul_add]
  have d:i*cs.length / cs.length=i:=Nat.mul_div_cancel _ pos;have s:sgT h (Ps57.rep i u++Ps57.rep i v)=sgT h (Ps57.rep i cs):=N8.mpr fun d _=>Ps57.Rg T.ap hp i (nD d);simp only[agn,l,d,s,decide_true,Bool.and_self]
 .rw[decide_eq_false e]
  cases q:agn h (Ps57.rep i u++Ps57.rep j v) cs
  .rfl
  .exfalso
   simp only[agn,and_eq_true,decide_eq_true_eq] at q;refine e (Ps57.QR T.nu T.nv (fun c hc=>hf c (T.sub c hc)) T.ap hp (t:=(Ps57.rep i u++Ps57.rep j v).length / cs.length) fun c hc x hx=>?_);have b:=(Hg ok (hz c (T.sub c hc))).2.2 x hx;exact N8.mp q.2 (.int x) (by simp only[CU,mem_map,mem_range]; exact⟨x.toNat,by lia,by congr 1; lia⟩)
theorem NX{a b:MT}{Z Z1 Z2:Ro}(h1:a Z=some (false,Z1))(h2:b Z1=some (false,Z2)):orT a b Z=some (false,Z2):=by simp[orT,h1,h2]
theorem NH{m:ME}{Z:Ro}{ds:List D}(h:m Z=some (.val (.lst ((ds.map fun _=>D.bl true).map A.fz)),Z)):Aw (opM DM (Ab m Ad)) Z=some (true,Z):=by
 have eb:=CV ds fun _=>true;have ea:(ds.map fun _=>true).all id=true:=by simp
 exact B8 (Ba (cons_of h (nil_of _)) rfl (by simp only[DM,on1,Cq,AY,eb,bind_some,map_some,ea]))
noncomputable abbrev prr(a b:List Nat):D:=.tup [.str (tx a),.str (tx b)]
theorem Sy{Z:Ro}{a b L:List Nat}(h5 : Z[5]? = some (some (.own,.fz (prr a b))))(h4 : Z[4]? = some (oL (L.map chD)))(hl:(a++b).length<=1000)(hab:∀c∈a++b,c∈L):(Ax (ifS (orT (BF (Aw (opM (CM isTup) (m1L (Aa 5))))) (orT (Aw (opM neA (m2L (opM Bv (Ab (Aa 5) Ad)) (Ae (.int 2))))) (BF (Aw (opM DM (Ab (AI (By (Aa 5)) 0 Cz (opM (CM isStr) (m1L (Aa 0)))) Ad)))))) (retS (Ae (.bl false))) AK) (ifS (BF (Aw (opM DM (Ab (AI (CO (opM AL (m2L (opM ixA (m2L (Aa 5) (Ae (.int 0)))) (opM ixA (m2L (Aa 5) (Ae (.int 1))))))) 0 Cz (opM (inA false) (m2L (Aa 0) (Aa 5)))) Ad)))) (retS (Ae (.bl false))) AK)) Z=some (.next Z):=by
 have hlim:1000<=LIM:=by decide
 have v5:Aa 5 Z=some (.val (.fz (prr a b)),Z):=by simp[Aa,h5]
 have t1:Aw (opM (CM isTup) (m1L (Aa 5))) Z=some (true,Z):=B8 (Ba (cons_of v5 (nil_of _)) rfl rfl);have t2:opM Bv (Ab (Aa 5) Ad) Z=some (.val (.fz (.int 2)),Z):=Ba (cons_of v5 (nil_of _)) rfl rfl;have t3:Aw (opM neA (m2L (opM Bv (Ab (Aa 5) Ad)) (Ae (.int 2)))) Z=some (false,Z):=B8 (Ba (BD t2 (r2:=.val (.fz (.int 2))) rfl) rfl rfl);have s5:By (Aa 5) Z=some ([.str (tx a),.str (tx b)],none,Z):=by simp[By,v5,peek,AQ,nameOf]
 have c1:=B3 (e:=(opM (CM isStr) (m1L (Aa 0)))) (f:=fun _=>.bl true) s5 (by simp only[length_cons,length_nil]; lia) (fun d hd=>by
  simp only[mem_cons,not_mem_nil,or_false] at hd;rcases hd with rfl|rfl<;>exact⟨.val (.fz (.bl true)),rfl,rfl⟩)
 have i1:(ifS (orT (BF (Aw (opM (CM isTup) (m1L (Aa 5))))) (orT (Aw (opM neA (m2L (opM Bv (Ab (Aa 5) Ad)) (Ae (.int 2))))) (BF (Aw (opM DM (Ab (AI (By (Aa 5)) 0 Cz (opM (CM isStr) (m1L (Aa 0)))) Ad)))))) (retS (Ae (.bl false))) AK) Z=some (.next Z):=(FZ (NX (not_of t1) (NX t3 (not_of (NH c1))))).trans rfl;have e0:=at0 (D.str (tx a)) [.str (tx b)];have e1:=at1 (D.str (tx a)) (.str (tx b)) [];have x0:opM ixA (m2L (Aa 5) (Ae (.int 0))) Z=some (.val (.fz (.str (tx a))),Z):=Ba (BD v5 (r2:=.val (.fz (.int 0))) rfl) rfl (by
  simp only[ixA,on2,A6,fzU,BW,AQ,Bo,BQ,e0,bind_some,map_some,none_or,bind_none])
 have x1:opM ixA (m2L (Aa 5) (Ae (.int 1))) Z=some (.val (.fz (.str (tx b))),Z):=Ba (BD v5 (r2:=.val (.fz (.int 1))) rfl) rfl (by
  simp only[ixA,on2,A6,fzU,BW,AQ,Bo,BQ,e1,bind_some,map_some,none_or,bind_none])
 have cl:((tx a).length+(tx b).length<=LIM)=True:=by
  rw[length_append] at hl;rw[Br,Br]; simp only[eq_iff_iff,iff_true]; lia
 have ad:(opM AL (m2L (opM ixA (m2L (Aa 5) (Ae (.int 0)))) (opM ixA (m2L (Aa 5) (Ae (.int 1)))))) Z=some (.val (.fz (.str (tx (a++b)))),Z):=Ba (BD x0 x1) rfl (by
  simp only[AL,on2,A6,BW,Bo,BQ,fzU,bind_some,bind_none,none_or,some_or,cl,if_true,NC])
 have s6:CO (opM AL (m2L (opM ixA (m2L (Aa 5) (Ae (.int 0)))) (opM ixA (m2L (Aa 5) (Ae (.int 1)))))) Z=some ((a++b).map chD,none,Z):=by
  have cl2:((tx (a++b)).length<=LIM)=True:=by rw[Br]; simp only[eq_iff_iff,iff_true]; lia
  simp only[CO,ad,bind_some,cl2,if_true];rfl
 have c2:=B3 (e:=(opM (inA false) (m2L (Aa 0) (Aa 5)))) (f:=fun _=>.bl true) s6 (by rw[length_map]; lia) (fun d hd=>by
  obtain⟨c,hc,rfl⟩:=mem_map.mp hd;refine⟨.val (.fz (.bl true)),?_,rfl⟩;rw[GZ];have j1:=NO L;have j2:=TR c L;rw[decide_eq_true (hab c hc)] at j2;have j3:CA (chD c)=true:=rfl;refine Ba (BD (r1:=.val (.fz (chD c))) rfl (r2:=.ref 5) (by simp[Aa,h4])) (as:=[.fz (chD c),.lst ((L.map chD).map A.fz)]) (by simp[peeks,peek,h4]) ?_;simp only[inA,on2,Bo,BQ,fzU,chD,bind_some,bind_none,Option.map_none,none_or,AQ,AY] at j1 j2 j3 |-;simp only[j1,j2,j3,Bool.and_self,if_true,false_eq_true,if_false])
 have i2:(ifS (BF (Aw (opM DM (Ab (AI (CO (opM AL (m2L (opM ixA (m2L (Aa 5) (Ae (.int 0)))) (opM ixA (m2L (Aa 5) (Ae (.int 1))))))) 0 Cz (opM (inA false) (m2L (Aa 0) (Aa 5)))) Ad)))) (retS (Ae (.bl false))) AK) Z=some (.next Z):=(FZ (not_of (NH c2))).trans rfl;exact(Ai i1).trans i2
noncomputable def fD(u v:List Nat)(n:Nat):List D:=(List.range n).map fun k=>prr (Ps57.rep k u) (Ps57.rep k v)
noncomputable abbrev eQ(h:Hs)(cs:List Nat)(st:Own)(ds:List D)(m:Int)(x4 x5 x6 x7:Slot):Ro:=[sH .own h,sT .own (tx cs),some (st,.lst (ds.map A.fz)),oI m,x4,x5,x6,x7]
theorem ixL{T:List D}{i:Int}{d:D}(h:atI T i=some d):ixA [.lst (T.map A.fz),.fz (.int i)]=some (.fz d):=by
 simp only[on2,ixA,A6,fzU,BW,AQ,Bo,BQ,AY,h,bind_some,map_some,none_or,bind_none]
theorem Qc{Z:Ro}{st:Own}{u v:List Nat}{n i s:Nat}(h2 : Z[2]? = some (some (st,.lst ((fD u v n).map A.fz))))(hs : Z[s]? = some (oI i))(hi:i<n):opM ixA (m2L (Aa 2) (Aa s)) Z=some (.val (.fz (prr (Ps57.rep i u) (Ps57.rep i v))),Z):=by
 have e:=Ca (xs:=fD u v n) (i:=(i:Int)) (k:=i) rfl (by simpa[fD] using hi);have e2:(fD u v n)[i]'(by simpa[fD] using hi)=prr (Ps57.rep i u) (Ps57.rep i v):=by simp[fD]
 rw[e2] at e;have w2:Aa 2 Z=some (.ref 2,Z):=by simp[Aa,h2]
 have w3:Aa s Z=some (.val (.fz (.int (i:Int))),Z):=by simp[Aa,hs]
 exact Ba (BD w2 w3) (as:=[.lst ((fD u v n).map A.fz),.fz (.int (i:Int))]) (by simp[peeks,peek,h2]) (ixL e)
theorem Px{h:Hs}(ok:h.Ok){cs u v:List Nat}(hz:∀c∈cs,c∈h.ls.map (·.1))(hl:cs.length<=40)(T:Two h.hands cs u v){st:Own}{n i j:Nat}(hi:i<n)(hj:j<n)(hn:(Ps57.rep i u++Ps57.rep j v).length<=1000){x4 x5:Slot}:
  (ifS (Aw (opM neA (m2L (Af Bh (Ab (Aa 0) (Ab (opM AL (m2L (opM ixA (m2L (opM ixA (m2L (Aa 2) (Aa 6))) (Ae (.int 0)))) (opM ixA (m2L (opM ixA (m2L (Aa 2) (Aa 7))) (Ae (.int 1)))))) (Ab (Aa 1) Ad)))) (opM eqA (m2L (Aa 6) (Aa 7)))))) (retS (Ae (.bl false))) AK) (eQ h cs st (fD u v n) (n:Int) x4 x5 (oI i) (oI j))=some (.next (eQ h cs st (fD u v n) (n:Int) x4 x5 (oI i) (oI j))):=by
 have hlim:1000<=LIM:=by decide
 have r1:Row h (tx (Ps57.rep i u++Ps57.rep j v)):=K0 hn fun c hc=>hz c (T.sub c (by
  rcases mem_append.mp hc with q|q
  .exact mem_append.mpr (.inl (GL q))
  .exact mem_append.mpr (.inr (GL q))))
 have r2:Row h (tx cs):=K0 (by lia) hz;have hne:cs≠[]:=fun e=>by
  obtain⟨c,hc⟩:=exists_mem_of_ne_nil _ T.nu;have:=T.sub c (mem_append.mpr (.inl hc));rw[e] at this; simp at this
 obtain⟨a1,a2,a3,e⟩:=s_again h ok (Ps57.rep i u++Ps57.rep j v) cs r1 r2 hne;rw[RF ok hz T] at e;have x0:=Qc (Z:=eQ h cs st (fD u v n) (n:Int) x4 x5 (oI i) (oI j)) (s:=6) rfl rfl hi;have x1:=Qc (Z:=eQ h cs st (fD u v n) (n:Int) x4 x5 (oI i) (oI j)) (s:=7) rfl rfl hj;have e0:=at0 (D.str (tx (Ps57.rep i u))) [.str (tx (Ps57.rep i v))];have e1:=at1 (D.str (tx (Ps57.rep j u))) (.str (tx (Ps57.rep j v))) [];have y0:=Ba (f:=ixA) (BD x0 (m2:=Ae (.int 0)) (r2:=.val (.fz (.int 0))) rfl) rfl (c:=.fz (.str (tx (Ps57.rep i u)))) (by
  simp only[ixA,on2,A6,fzU,BW,AQ,Bo,BQ,e0,bind_some,map_some,none_or,bind_none])
 have y1:=Ba (f:=ixA) (BD x1 (m2:=Ae (.int 1)) (r2:=.val (.fz (.int 1))) rfl) rfl (c:=.fz (.str (tx (Ps57.rep j v)))) (by
  simp only[ixA,on2,A6,fzU,BW,AQ,Bo,BQ,e1,bind_some,map_some,none_or,bind_none])
 have cl:((tx (Ps57.rep i u)).length+(tx (Ps57.rep j v)).length<=LIM)=True:=by
  rw[length_append] at hn;rw[Br,Br]; simp only[eq_iff_iff,iff_true]; lia
 have ad:=Ba (f:=AL) (BD y0 y1) rfl (c:=.fz (.str (tx (Ps57.rep i u++Ps57.rep j v)))) (by
  simp only[AL,on2,A6,BW,Bo,BQ,fzU,bind_some,bind_none,none_or,some_or,cl,if_true,NC])
 have ca:=call_of (cons_of (m:=Aa 0) (Z:=eQ h cs st (fD u v n) (n:Int) x4 x5 (oI i) (oI j)) (r:=.val (.fz h.d)) rfl (cons_of ad (cons_of (m:=Aa 1) (r:=.val (.fz (.str (tx cs)))) rfl (nil_of _)))) rfl rfl e rfl;have eq:=Ba (f:=eqA) (ms:=m2L (Aa 6) (Aa 7)) (Z:=eQ h cs st (fD u v n) (n:Int) x4 x5 (oI i) (oI j)) (BD (r1:=.val (.fz (.int (i:Int)))) rfl (r2:=.val (.fz (.int (j:Int)))) rfl) rfl (c:=.fz (.bl (decide (i=j)))) (by
  simp only[eqA,on2,J.er,bind_some,shB,if_true,DT];congr 3;exact decide_eq_decide.mpr Int.ofNat_inj)
 have ne:=Ba (f:=neA) (BD ca eq) rfl (c:=.fz (.bl false)) (by
  simp only[neA,on2,J.er,bind_some,shB,if_true,EW,beq_self_eq_true,Bool.not_true])
 exact(FZ (B8 ne)).trans rfl
theorem Rb(st:Own){h:Hs}(ok:h.Ok){cs u v:List Nat}(hz:∀c∈cs,c∈h.ls.map (·.1))(hl:cs.length<=40)(T:Two h.hands cs u v){n:Nat}(hn:n<=20):Bb [(.own,.fz h.d),(.own,.fz (.str (tx cs))),(st,.lst ((fD u v n).map A.fz)),(.own,.fz (.int (n:Int)))]=some (.fz (.bl true),[.fz h.d,.fz (.str (tx cs)),.lst ((fD u v n).map A.fz),.fz (.int (n:Int))]):=by
 have hlim:1000<=LIM:=by decide
 have hf:∀c∈cs,h.hands c≠[]:=fun c hc=>(Hg ok (hz c hc)).1;have el:cs.length=(u++v).length:=Ic hf (fun c hc=>hf c (T.sub c hc)) T.sn;rw[length_append] at el;have ll:∀i j,i<n->j<n->(Ps57.rep i u++Ps57.rep j v).length<=1000:=fun i j hi hj=>by
  rw[length_append,Ps57.DH,Ps57.DH];have h1:i*u.length<=20*u.length:=Nat.mul_le_mul_right _ (by lia);have h2:j*v.length<=20*v.length:=Nat.mul_le_mul_right _ (by lia);lia
 have fl:(fD u v n).length=n:=by simp[fD]
 have l2:=ok.l2;have v2:∀x4 x5 x6 x7,Aa 2 (eQ h cs st (fD u v n) (n:Int) x4 x5 x6 x7)=some (.ref 2,eQ h cs st (fD u v n) (n:Int) x4 x5 x6 x7):=fun _ _ _ _=>rfl;have i1:Nx (ifS (orT (BF (Aw (opM (CM Eg) (m1L (Aa 2))))) (Aw (opM neA (m2L (opM Bv (Ab (Aa 2) Ad)) (Aa 3))))) (retS (Ae (.bl false))) AK) (eQ h cs st (fD u v n) (n:Int) none none none none):=by
  have q:J.er (.lst ((fD u v n).map A.fz))=some (.lst (fD u v n)):=by simp only[J.er,Ed,map_some]
  have t1:Aw (opM (CM Eg) (m1L (Aa 2))) (eQ h cs st (fD u v n) (n:Int) none none none none)=some (true,eQ h cs st (fD u v n) (n:Int) none none none none):=
   B8 (Ba (cons_of (v2 _ _ _ _) (nil_of _)) (as:=[.lst ((fD u v n).map A.fz)]) rfl (by simp only[CM,on1,q,map_some,Eg]))
  have t2:opM Bv (Ab (Aa 2) Ad) (eQ h cs st (fD u v n) (n:Int) none none none none)=some (.val (.fz (.int (n:Int))),eQ h cs st (fD u v n) (n:Int) none none none none):=by
   refine Ba (cons_of (v2 _ _ _ _) (nil_of _)) (as:=[.lst ((fD u v n).map A.fz)]) rfl ?_;simp only[Bv,on1,Bo,BQ,fzU,AQ,AY,bind_none,Option.map_none,none_or,map_some,fl]
  exact(FZ (NX (not_of t1) (B8 (Ba (BD t2 (r2:=.val (.fz (.int (n:Int)))) rfl) rfl (c:=.fz (.bl false)) (by simp only[neA,on2,J.er,bind_some,shB,if_true,DT,beq_self_eq_true,Bool.not_true]))))).trans rfl
 have lt:(AI (By (opM ixA (m2L (Aa 0) (Ae (.int 1))))) 2 Cz (Aa 0)) (eQ h cs st (fD u v n) (n:Int) none none none none)=some (.val (.lst (((h.ls.map (·.1)).map chD).map A.fz)),eQ h cs st (fD u v n) (n:Int) none none none none):=by
  have e5:=at1 (D.int h.n) (.lst (h.ls.map ld)) [];have ep:h.ls.map ld=(h.ls.map fun p=>(chD p.1,D.lst (iL p.2))).map fun d=>.tup [d.1,d.2]:=by simp[ld]
  have x0:opM ixA (m2L (Aa 0) (Ae (.int 1))) (eQ h cs st (fD u v n) (n:Int) none none none none)=some (.val (.fz (.lst (h.ls.map ld))),eQ h cs st (fD u v n) (n:Int) none none none none):=Ba (BD (r1:=.val (.fz h.d)) rfl (r2:=.val (.fz (.int 1))) rfl) rfl (by
   simp only[sH,Hs.d,ixA,on2,A6,fzU,BW,AQ,Bo,BQ,e5,bind_some,map_some,none_or,bind_none])
  have hit:By (opM ixA (m2L (Aa 0) (Ae (.int 1)))) (eQ h cs st (fD u v n) (n:Int) none none none none)=some ((h.ls.map fun p=>(chD p.1,D.lst (iL p.2))).map (fun d=>.tup [d.1,d.2]),none,eQ h cs st (fD u v n) (n:Int) none none none none):=by
   rw[<- ep];simp only[By,x0,bind_some,peek,AQ,map_some,nameOf]
  have hc:=Mw (e:=Aa 0) (f:=fun d _=>d) hit (by simp only[length_map]; lia) (fun d hd=>⟨.val (.fz d.1),rfl,rfl⟩);have em:((h.ls.map fun p=>(chD p.1,D.lst (iL p.2))).map fun d=>d.1)=(h.ls.map (·.1)).map chD:=by simp only[map_map]; rfl
  rw[em] at hc;exact hc
 have st2:=Cf (i:=4) lt rfl;have it:By (Aa 2) (eQ h cs st (fD u v n) (n:Int) (oL ((h.ls.map (·.1)).map chD)) none none none)=some (fD u v n,some 2,eQ h cs st (fD u v n) (n:Int) (oL ((h.ls.map (·.1)).map chD)) none none none):=by
  simp only[By,v2,bind_some,peek,List.getElem?_cons_succ,List.getElem?_cons_zero,map_some,AQ,AY,nameOf]
 obtain⟨Z',f1,f2⟩:=Ck (is:=[5]) (one:=true) (b:=(Ax (ifS (orT (BF (Aw (opM (CM isTup) (m1L (Aa 5))))) (orT (Aw (opM neA (m2L (opM Bv (Ab (Aa 5) Ad)) (Ae (.int 2))))) (BF (Aw (opM DM (Ab (AI (By (Aa 5)) 0 Cz (opM (CM isStr) (m1L (Aa 0)))) Ad)))))) (retS (Ae (.bl false))) AK) (ifS (BF (Aw (opM DM (Ab (AI (CO (opM AL (m2L (opM ixA (m2L (Aa 5) (Ae (.int 0)))) (opM ixA (m2L (Aa 5) (Ae (.int 1))))))) 0 Cz (opM (inA false) (m2L (Aa 0) (Aa 5)))) Ad)))) (retS (Ae (.bl false))) AK)))
  (fun _ Z=>∃x5,(x5=none\/∃d,x5=some (Own.own,A.fz d))/\Z=eQ h cs .ro (fD u v n) (n:Int) (oL ((h.ls.map (·.1)).map chD)) x5 none none) it ⟨none,.inl rfl,rfl⟩ (fun j d Z hd hI=>by
   obtain⟨x5,hx5,rfl⟩:=hI;have hj:j<n:=by have:=(List.getElem?_eq_some_iff.mp hd).1; lia
   have ed:d=prr (Ps57.rep j u) (Ps57.rep j v):=by
    simp only[fD,List.getElem?_map,List.getElem?_range hj,map_some,Option.some.injEq] at hd;exact hd.symm
   subst ed;refine⟨eQ h cs .ro (fD u v n) (n:Int) (oL ((h.ls.map (·.1)).map chD)) (some (.own,.fz (prr (Ps57.rep j u) (Ps57.rep j v)))) none none,_,?_,.inl (Sy rfl rfl (ll j j hj hj) fun c hc=>hz c (T.sub c ?_)),_,.inr ⟨_,rfl⟩,rfl⟩
   .rcases hx5 with rfl|⟨d,rfl⟩<;>rfl
   .rcases mem_append.mp hc with q|q
    .exact mem_append.mpr (.inl (GL q))
    .exact mem_append.mpr (.inr (GL q)))
 obtain⟨x5,hx5,rfl⟩:=f2;have rg:∀x6 x7,Bm (Aa 3) (eQ h cs st (fD u v n) (n:Int) (oL ((h.ls.map (·.1)).map chD)) x5 x6 x7)=some (CU 0 n,none,eQ h cs st (fD u v n) (n:Int) (oL ((h.ls.map (·.1)).map chD)) x5 x6 x7):=fun x6 x7=>by
  have:=GN (m:=Aa 3) (Z:=eQ h cs st (fD u v n) (n:Int) (oL ((h.ls.map (·.1)).map chD)) x5 x6 x7) (n:=(n:Int)) rfl (by lia) (by lia);rw[Int.toNat_natCast] at this;exact this
 obtain⟨Z',g1,g2⟩:=Ck (is:=[6]) (one:=true) (b:=(Ej [7] true (Bm (Aa 3)) (ifS (Aw (opM neA (m2L (Af Bh (Ab (Aa 0) (Ab (opM AL (m2L (opM ixA (m2L (opM ixA (m2L (Aa 2) (Aa 6))) (Ae (.int 0)))) (opM ixA (m2L (opM ixA (m2L (Aa 2) (Aa 7))) (Ae (.int 1)))))) (Ab (Aa 1) Ad)))) (opM eqA (m2L (Aa 6) (Aa 7)))))) (retS (Ae (.bl false))) AK)))
  (fun _ Z=>∃x6 x7,(x6=none\/∃d,x6=some (Own.own,A.fz d))/\(x7=none\/∃d,x7=some (Own.own,A.fz d))/\Z=eQ h cs st (fD u v n) (n:Int) (oL ((h.ls.map (·.1)).map chD)) x5 x6 x7) (rg none none) ⟨none,none,.inl rfl,.inl rfl,rfl⟩ (fun i d Z hd hI=>by
   obtain⟨x6,x7,hx6,hx7,rfl⟩:=hI;obtain⟨rfl,hi⟩:=HD hd;obtain⟨Z2,k1,k2⟩:=Ck (is:=[7]) (one:=true) (b:=(ifS (Aw (opM neA (m2L (Af Bh (Ab (Aa 0) (Ab (opM AL (m2L (opM ixA (m2L (opM ixA (m2L (Aa 2) (Aa 6))) (Ae (.int 0)))) (opM ixA (m2L (opM ixA (m2L (Aa 2) (Aa 7))) (Ae (.int 1)))))) (Ab (Aa 1) Ad)))) (opM eqA (m2L (Aa 6) (Aa 7)))))) (retS (Ae (.bl false))) AK))
    (fun _ Z=>∃x7,(x7=none\/∃d,x7=some (Own.own,A.fz d))/\Z=eQ h cs st (fD u v n) (n:Int) (oL ((h.ls.map (·.1)).map chD)) x5 (oI i) x7) (rg (oI i) x7) ⟨x7,hx7,rfl⟩ (fun j d Z hd hI=>by
     obtain⟨x7,hx7,rfl⟩:=hI;obtain⟨rfl,hj⟩:=HD hd;refine⟨eQ h cs st (fD u v n) (n:Int) (oL ((h.ls.map (·.1)).map chD)) x5 (oI i) (oI j),_,?_,.inl (Px ok hz hl T hi hj (ll i j hi hj)),_,.inr ⟨_,rfl⟩,rfl⟩;rcases hx7 with rfl|⟨d,rfl⟩<;>rfl)
   obtain⟨x7',hx7',rfl⟩:=k2;rw[show ∀a b:Ro,unlock a b none=b from fun _ _=>rfl] at k1;refine⟨eQ h cs st (fD u v n) (n:Int) (oL ((h.ls.map (·.1)).map chD)) x5 (oI i) x7,eQ h cs st (fD u v n) (n:Int) (oL ((h.ls.map (·.1)).map chD)) x5 (oI i) x7',?_,.inl ?_,oI i,x7',.inr ⟨_,rfl⟩,hx7',rfl⟩
   rotate_left
   .exact k1
   rcases hx6 with rfl|⟨d,rfl⟩<;>rfl)
 obtain⟨x6,x7,hx6,hx7,rfl⟩:=g2;refine Eq.trans (Bk (np:=4) (nn:=8) (b:=Dr) (a:=.fz (.bl true)) (Z:=eQ h cs st (fD u v n) (n:Int) (oL ((h.ls.map (·.1)).map chD)) x5 x6 x7) rfl ?_) rfl;show Dr (eQ h cs st (fD u v n) (n:Int) none none none none)=_;unfold Dr;refine(Ai i1).trans ?_;refine(Ai st2).trans ?_;refine(Ai f1).trans ?_;refine(Ai g1).trans ?_;exact B7 rfl
theorem CT{ms:MA}{Z Z1:Ro}{rs:List R}{as:List A}(h1:ms Z=some (rs,Z1))(h2:vals rs=some as)(h3:decide (as.length<=LIM)=true):lstM ms Z=some (.val (.lst as),Z1):=by
 simp only[lstM,h1,h2,bind_some,if_pos (of_decide_eq_true h3)]
theorem JY{xs ys:List D}(h:decide (xs.length+ys.length<=LIM)=true):AL [.lst (xs.map A.fz),.lst (ys.map A.fz)]=some (.lst ((xs++ys).map A.fz)):=by
 have h:=of_decide_eq_true h;simp only[AL,on2,A6,BW,Bo,BQ,fzU,Cq,AY,bind_none,none_or,bind_some,if_pos h]
noncomputable abbrev sL(l:List D):Slot:=oL l
noncomputable abbrev eW(a:Addr)(o:Obj)(x y z:Slot):Ro:=[some (.lent,.opq a o),x,y,z]
noncomputable abbrev v10:List D:=[.str (Str.ofString "NoHouse"),.str (Str.ofString "NoRow"),.str (Str.ofString "NoMachine"),.str (Str.ofString "NoRoom"),.str (Str.ofString "NoHand"),.str (Str.ofString "Unlike"),.str (Str.ofString "NoPast"),.str (Str.ofString "TooMany"),.str (Str.ofString "Torn"),.str (Str.ofString "NoTable")]
noncomputable abbrev v15:List D:=[.str (Str.ofString "NoHouse"),.str (Str.ofString "NoRow"),.str (Str.ofString "NoMachine"),.str (Str.ofString "NoRoom"),.str (Str.ofString "NoHand"),.str (Str.ofString "Unlike"),.str (Str.ofString "NoPast"),.str (Str.ofString "TooMany"),.str (Str.ofString "Torn"),.str (Str.ofString "NoTable"),.str (Str.ofString "NoSet"),.str (Str.ofString "Falls"),.str (Str.ofString "Whole"),.str (Str.ofString "NoText"),.str (Str.ofString "NoWord")]
noncomputable abbrev q0(j:Nat):List D:=[.bl (0==j),.bl (1==j),.bl (2==j),.bl (3==j)]
noncomputable abbrev p1(j:Nat):List D:=[.bl (4==j),.bl (5==j),.bl (6==j),.bl (7==j)]
noncomputable abbrev q1(j:Nat):List D:=q0 j++p1 j
noncomputable abbrev p2(j:Nat):List D:=[.bl (8==j),.bl (9==j),.bl (10==j),.bl (11==j)]
noncomputable abbrev q2(j:Nat):List D:=q1 j++p2 j
noncomputable abbrev p3(j:Nat):List D:=[.bl (12==j),.bl (13==j),.bl (14==j)]
noncomputable abbrev q3(j:Nat):List D:=q2 j++p3 j
theorem UB{C:Addr}{b:Bool}{a:Addr}{o:Obj}(h:o.cls=.ref C):Bs C b [.opq a o]=some (.fz (.bl b)):=by
 have e:(o.cls==.ref C)=true:=by rw[h]; exact beq_self_eq_true _
 simp only[Bs,on1,UA,e,if_true]
theorem VS{C a:Addr}{o:Obj}{j:Nat}{wd:Str}(h:o.cls=.ref C)(h6:Ay 3 (AI (Bm (Ae (.int 15))) 0 (Aw (opM ixA (m2L (Aa 2) (Aa 0)))) (opM ixA (m2L (Aa 3) (Aa 0)))) (eW a o (sL (q3 j)) (sL v15) none)=some (.next (eW a o (sL (q3 j)) (sL v15) (sL [.str wd])))):Gv C j [(.lent,.opq a o)]=some (.fz (.str wd),[.opq a o]):=by
 have ix:∀(b:Bool) (x y z:Slot),opM (Bs C b) (m1L (Aa 0)) (eW a o x y z)=some (.val (.fz (.bl b)),eW a o x y z):=fun b x y z=>Ba rfl rfl (UB h);have ip:∀(b:Bool) (x y z:Slot),Aj (opM (Bs C b) (m1L (Aa 0))) (eW a o x y z)=some (.val (.fz (.bl b)),eW a o x y z):=fun b x y z=>Fo (ix b x y z) rfl;have st0:Ay 1 (lstM (Ab (Aj (opM (Bs C (0==j)) (m1L (Aa 0)))) (Ab (Aj (opM (Bs C (1==j)) (m1L (Aa 0)))) (Ab (Aj (opM (Bs C (2==j)) (m1L (Aa 0)))) (Ab (Aj (opM (Bs C (3==j)) (m1L (Aa 0)))) Ad))))) (eW a o none none none)=some (.next (eW a o (sL (q0 j)) none none)):=Cf (CT (cons_of (ip _ _ _ _) (cons_of (ip _ _ _ _) (cons_of (ip _ _ _ _) (cons_of (ip _ _ _ _) (nil_of _))))) rfl rfl) rfl;have l1:Vl (lstM (Ab (Aj (opM (Bs C (4==j)) (m1L (Aa 0)))) (Ab (Aj (opM (Bs C (5==j)) (m1L (Aa 0)))) (Ab (Aj (opM (Bs C (6==j)) (m1L (Aa 0)))) (Ab (Aj (opM (Bs C (7==j)) (m1L (Aa 0)))) Ad))))) (eW a o (sL (q0 j)) none none) (.lst ((p1 j).map A.fz)):=(CT (cons_of (ip _ _ _ _) (cons_of (ip _ _ _ _) (cons_of (ip _ _ _ _) (cons_of (ip _ _ _ _) (nil_of _))))) rfl rfl);have st1:Ay 1 (opM AL (m2L (Aa 1) (lstM (Ab (Aj (opM (Bs C (4==j)) (m1L (Aa 0)))) (Ab (Aj (opM (Bs C (5==j)) (m1L (Aa 0)))) (Ab (Aj (opM (Bs C (6==j)) (m1L (Aa 0)))) (Ab (Aj (opM (Bs C (7==j)) (m1L (Aa 0)))) Ad))))))) (eW a o (sL (q0 j)) none none)=some (.next (eW a o (sL (q1 j)) none none)):=Cf (Ba (BD (r1:=.ref 1) rfl l1) rfl (JY (xs:=q0 j) (ys:=p1 j) rfl)) rfl;have l2:Vl (lstM (Ab (Aj (opM (Bs C (8==j)) (m1L (Aa 0)))) (Ab (Aj (opM (Bs C (9==j)) (m1L (Aa 0)))) (Ab (Aj (opM (Bs C (10==j)) (m1L (Aa 0)))) (Ab (Aj (opM (Bs C (11==j)) (m1L (Aa 0)))) Ad))))) (eW a o (sL (q1 j)) none none) (.lst ((p2 j).map A.fz)):=(CT (cons_of (ip _ _ _ _) (cons_of (ip _ _ _ _) (cons_of (ip _ _ _ _) (cons_of (ip _ _ _ _) (nil_of _))))) rfl rfl)
 have st2:Ay 1 (opM AL (m2L (Aa 1) (lstM (Ab (Aj (opM (Bs C (8==j)) (m1L (Aa 0)))) (Ab (Aj (opM (Bs C (9==j)) (m1L (Aa 0)))) (Ab (Aj (opM (Bs C (10==j)) (m1L (Aa 0)))) (Ab (Aj (opM (Bs C (11==j)) (m1L (Aa 0)))) Ad))))))) (eW a o (sL (q1 j)) none none)=some (.next (eW a o (sL (q2 j)) none none)):=Cf (Ba (BD (r1:=.ref 1) rfl l2) rfl (JY (xs:=q1 j) (ys:=p2 j) rfl)) rfl;have l3:Vl (lstM (Ab (Aj (opM (Bs C (12==j)) (m1L (Aa 0)))) (Ab (Aj (opM (Bs C (13==j)) (m1L (Aa 0)))) (Ab (Aj (opM (Bs C (14==j)) (m1L (Aa 0)))) Ad)))) (eW a o (sL (q2 j)) none none) (.lst ((p3 j).map A.fz)):=(CT (cons_of (ip _ _ _ _) (cons_of (ip _ _ _ _) (cons_of (ip _ _ _ _) (nil_of _)))) rfl rfl);have st3:Ay 1 (opM AL (m2L (Aa 1) (lstM (Ab (Aj (opM (Bs C (12==j)) (m1L (Aa 0)))) (Ab (Aj (opM (Bs C (13==j)) (m1L (Aa 0)))) (Ab (Aj (opM (Bs C (14==j)) (m1L (Aa 0)))) Ad)))))) (eW a o (sL (q2 j)) none none)=some (.next (eW a o (sL (q3 j)) none none)):=Cf (Ba (BD (r1:=.ref 1) rfl l3) rfl (JY (xs:=q2 j) (ys:=p3 j) rfl)) rfl;have st4:Ay 2 (lstM (Ab (Aj (Ae (.str (Str.ofString "NoHouse")))) (Ab (Aj (Ae (.str (Str.ofString "NoRow")))) (Ab (Aj (Ae (.str (Str.ofString "NoMachine")))) (Ab (Aj (Ae (.str (Str.ofString "NoRoom")))) (Ab (Aj (Ae (.str (Str.ofString "NoHand")))) (Ab (Aj (Ae (.str (Str.ofString "Unlike")))) (Ab (Aj (Ae (.str (Str.ofString "NoPast")))) (Ab (Aj (Ae (.str (Str.ofString "TooMany")))) (Ab (Aj (Ae (.str (Str.ofString "Torn")))) (Ab (Aj (Ae (.str (Str.ofString "NoTable")))) Ad))))))))))) (eW a o (sL (q3 j)) none none)=some (.next (eW a o (sL (q3 j)) (sL v10) none)):=rfl
 have st5:Ay 2 (opM AL (m2L (Aa 2) (lstM (Ab (Aj (Ae (.str (Str.ofString "NoSet")))) (Ab (Aj (Ae (.str (Str.ofString "Falls")))) (Ab (Aj (Ae (.str (Str.ofString "Whole")))) (Ab (Aj (Ae (.str (Str.ofString "NoText")))) (Ab (Aj (Ae (.str (Str.ofString "NoWord")))) Ad)))))))) (eW a o (sL (q3 j)) (sL v10) none)=some (.next (eW a o (sL (q3 j)) (sL v15) none)):=rfl;have c2:Tl (orT (Aw (opM neA (m2L (opM Bv (Ab (Aa 3) Ad)) (Ae (.int 1))))) (BF (Aw (opM (Bs C true) (m1L (Aa 0)))))) (eW a o (sL (q3 j)) (sL v15) (sL [.str wd])) false:=NX rfl (not_of (B8 (ix true _ _ _)));refine Bk (Z:=(eW a o (sL (q3 j)) (sL v15) (sL [.str wd]))) rfl ?_;show HN C j (eW a o none none none)=_;unfold HN;exact(Ai st0).trans ((Ai st1).trans ((Ai st2).trans ((Ai st3).trans ((Ai st4).trans ((Ai st5).trans ((Ai h6).trans ((Ai ((FZ c2).trans rfl)).trans (B7 rfl))))))))
theorem Ma{C a:Addr}{o:Obj}(h:o.cls=.ref C):Gv C 12 [(.lent,.opq a o)]=some (.fz (.str "Whole"),[.opq a o]):=VS h rfl
theorem JN{a:MS}{r:MR}{Z:Ro}{z:Str}(h:KO a r Z=some z):∃Z1,r Z1=some z:=by
 obtain⟨f,_,h⟩:=bind_eq_some_iff.mp h;cases f with
 | next Z1=>exact⟨Z1,h⟩
 | _=>cases h
theorem S1{args:List (Own×A)}{z:Str}(e:BS args=some z):z = "Whole" := by
 unfold BS fnR at e;split at e
 .obtain⟨_,e⟩:=JN e
  obtain⟨_,e⟩:=JN e;obtain⟨p,_,e⟩:=bind_eq_some_iff.mp e;split at e
  .cases e; rfl
  .cases e
 .cases e
theorem Tg(ss:List (List Nat)):∃L:List (List Nat),IQ (ss.map tx)=L.map tx/\L.Perm ss:=by
 refine⟨(IQ (ss.map tx)).map fun z=>z.cps.toList,?_,?_⟩
 .rw[map_map]
  exact(map_id _).symm
 .have p:=(List.mergeSort_perm (ss.map tx) leS).map fun z=>z.cps.toList
  rw[map_map] at p;have e:ss.map ((fun z:Str=>z.cps.toList) ∘ tx)=ss:=map_id ss;rw[e] at p;exact p
theorem Vc(h:Hs)(cs:List Nat):(pD h cs).length=(D5 h.hands h.n.toNat 40 cs).length:=by simp only[pD,soD,IQ,length_map,List.length_mergeSort]
theorem Sx{h:Hs}(ok:h.Ok){cs:List Nat}(hz:∀c∈cs,c∈h.ls.map (·.1))(hl:cs.length<=40):(E1 h.hands cs).length=(pD h cs).length:=by
 have p:=((OM (f:=h.hands) (w:=cs) fun c hc=>(Hg ok (hz c hc)).1).perm (N3 (n:=h.n.toNat) 40 cs hl fun c hc=>Hg ok (hz c hc))).length_eq;rw[length_map] at p;rw[Vc,p]
theorem Vd{h:Hs}(ok:h.Ok){cs:List Nat}(hz:∀c∈cs,c∈h.ls.map (·.1))(hl:cs.length<=40)(h2:¬(pD h cs).length<=1):∃(u:List Nat) (L:List (List Nat)),pD h cs=(tx u::L.map tx).map D.str/\L≠[]/\Two h.hands cs u L.flatten:=by
 obtain⟨L,e,p⟩:=Tg ((D5 h.hands h.n.toNat 40 cs).map (lr h.hands 40));have el:(pD h cs).length=L.length:=by rw[pD,soD,e]; simp
 cases L with
 | nil=>rw[el] at h2; simp at h2
 | cons u L =>
  have hn:L≠[]:=fun q=>by rw[el,q] at h2; simp at h2
  exact⟨u,L,by rw[pD,soD,e]; rfl,hn,Bl hl (fun c hc=>Hg ok (hz c hc)) p hn⟩
theorem NR(L:List (List Nat)):glue (L.map tx)=tx L.flatten:=by
 have e:(L.map tx).map (fun y=>y.cps.toList)=L:=by rw[map_map]; exact map_id L
 rw[glue,e];rfl
theorem Wy(u v:List Nat)(n:Nat):(CU 0 n).map (prD (tx u) (tx v))=fD u v n:=by
 simp only[CU,fD,map_map];refine map_congr_left fun k _=>?_;have e:(0+(k:Int)).toNat=k:=by lia
 simp only[Function.comp,prD,e,Q7]
theorem Pc{h:Hs}(ok:h.Ok){cs:List Nat}(hz:∀c∈cs,c∈h.ls.map (·.1))(hl:cs.length<=40)(m:Int)(h1:(pD h cs).length<=1):∃os,AG (aU h cs m)=some (.fz (.str (Str.ofString "Whole")),os):=by
 have r:=T5 h ok cs hz hl m;rw[if_pos h1] at r;have p:B0 (aU h cs m)=true:=rfl;refine⟨(aU h cs m).map (·.2),?_⟩;unfold AG Mt;rw[if_pos p,r]
theorem Pb{h:Hs}(ok:h.Ok){cs:List Nat}(hz:∀c∈cs,c∈h.ls.map (·.1))(hl:cs.length<=40){n:Nat}(hn:n<=20)(h2:¬(pD h cs).length<=1):∃u v os,Two h.hands cs u v/\AG (aU h cs (n:Int))=some (.lst ((fD u v n).map A.fz),os):=by
 obtain⟨u,L,e,hL,T⟩:=Vd ok hz hl h2;have hf:∀c∈cs,h.hands c≠[]:=fun c hc=>(Hg ok (hz c hc)).1;have el:cs.length=(u++L.flatten).length:=Ic hf (fun c hc=>hf c (T.sub c hc)) T.sn;rw[length_append] at el;have r:=T5 h ok cs hz hl (n:Int);rw[if_neg h2] at r;have p:B0 (aU h cs (n:Int))=true:=rfl;obtain⟨a1,a2,a3,q⟩:=Np h ok cs hz hl (m:=(n:Int)) (by lia) (by lia) e (by simpa using hL) (by rw[Br]; lia) (by rw[NR,Br]; lia) (by
  have:((L.map tx).map (·.length)).sum=L.flatten.length:=by
   rw[map_map,List.length_flatten];exact congrArg List.sum (map_congr_left fun c _=>Br c)
  rw[this]; lia)
 rw[NR,Int.toNat_natCast,Wy] at q;refine⟨u,L.flatten,(aU h cs (n:Int)).map (·.2),T,?_⟩;unfold AG Mt;rw[if_pos p,r];simp only[q,map_some]
theorem TJ(a b c:A)(os:List A)(Z:Ro):back [.val a,.val b,.val c] os Z=Z:=by
 match os with
 | []=>rfl
 | [_]=>rfl
 | [_,_]=>rfl
 | _::_::_::_=>rfl
noncomputable abbrev eL(ns:List Int)(k b r o m f:Slot):Ro:=[some (.ro,.scr ns),k,b,r,o,m,f]
theorem Nl{ns:List Int}{k:Nat}{x2 x3 x4 x5 x6:Slot}(h2:(x2=none\/∃a,x2=some (Own.own,a)))(h3:(x3=none\/∃a,x3=some (Own.own,a)))(h4:(x4=none\/∃a,x4=some (Own.own,a)))(h5:(x5=none\/∃a,x5=some (Own.own,a)))(h6:(x6=none\/∃a,x6=some (Own.own,a))):
  ∃y2 y3 y4 y5 y6,(y2=none\/∃a,y2=some (Own.own,a))/\(y3=none\/∃a,y3=some (Own.own,a))/\(y4=none\/∃a,y4=some (Own.own,a))/\(y5=none\/∃a,y5=some (Own.own,a))/\(y6=none\/∃a,y6=some (Own.own,a))/\(Ax (Ay 2 (Af Cg (Ab (opM AL (m2L (Af BG (Ab (Aa 0) (Ab (Aa 1) Ad))) (Aa 1))) Ad))) (Ax (Ay 3 (Af BK (Ab (Aa 2) Ad))) (Ax (Ay 4 (Af Bi (Ab (Aa 2) (Ab (Aa 3) (Ab (Ae (.int 6)) Ad))))) (Ax (Ay 5 (opM AL (m2L (Ae (.int 1)) (Af An (Ab (Aa 2) (Ab (Ae (.int 12)) Ad)))))) (Ax (Ay 6 (Af AG (Ab (Aa 3) (Ab (Aa 4) (Ab (Aa 5) Ad))))) (ifS (Aw (opM ltA (m2L (opM Bv (Ab (Af Bz (Ab (Aa 3) (Ab (Aa 4) Ad))) Ad)) (Ae (.int 2))))) (ifS (Aw (opM neA (m2L (Aa 6) (Ae (.str (Str.ofString "Whole")))))) (retS (Ae (.bl false))) AK) (Ax (ifS (BF (Aw (Af Bb (Ab (Aa 3) (Ab (Aa 4) (Ab (Aa 6) (Ab (Aa 5) Ad))))))) (retS (Ae (.bl false))) AK) (Ax (Oq 6) (ifS (BF (Aw (Af Bb (Ab (Aa 3) (Ab (Aa 4) (Ab (Af AG (Ab (Aa 3) (Ab (Aa 4) (Ab (Aa 5) Ad)))) (Ab (Aa 5) Ad))))))) (retS (Ae (.bl false))) AK))))))))) (eL ns (oI k) x2 x3 x4 x5 x6)=some (.next (eL ns (oI k) y2 y3 y4 y5 y6)):=by
 obtain⟨c,c2,t1⟩:=VN ns k;obtain⟨as,q1,hb,t2⟩:=W6 .own (c+k);obtain⟨h,as1,ok,hb1,t3⟩:=S8 hb (by lia);obtain⟨z0,as2,q2,q3,hz,hl,hb2,t4⟩:=Nq ok hb1 (by lia) 6 (by lia) (by lia);obtain⟨cs,rfl⟩:∃cs,z0=tx cs:=⟨z0.cps.toList,(T8 z0).symm⟩;rw[Br] at hl;have hz:=hz.2;rw[Cy] at hz;obtain⟨d,as3,g1,g2,hb3,t5⟩:=En hb2 (by lia) 12 (by lia) (by lia);obtain⟨n,hn⟩:∃n:Nat,1+d=(n:Int):=⟨(1+d).toNat,by lia⟩;have hn2:n<=20:=by lia
 obtain⟨b1,b2,t6⟩:=L8 .own .own h ok cs hz hl;have gl:=Sx ok hz hl;have st1:Ay 2 (Af Cg (Ab (opM AL (m2L (Af BG (Ab (Aa 0) (Ab (Aa 1) Ad))) (Aa 1))) Ad)) (eL ns (oI k) x2 x3 x4 x5 x6)=some (.next (eL ns (oI k) (some (.own,.lst as)) x3 x4 x5 x6)):=by
  have c1:Vl (Af BG (Ab (Aa 0) (Ab (Aa 1) Ad))) (eL ns (oI k) x2 x3 x4 x5 x6) (.fz (.int c)):=call_of (cons_of (r:=.ref 0) rfl (cons_of (r:=.val (.fz (.int (k:Int)))) rfl (nil_of _))) rfl rfl t1 rfl;have c2:=Ba (f:=AL) (BD c1 (m2:=Aa 1) (r2:=.val (.fz (.int (k:Int)))) rfl) rfl rfl;exact(Cf (call_of (cons_of c2 (nil_of _)) rfl rfl t2 rfl) (by rcases h2 with rfl|⟨a,rfl⟩<;>rfl)).trans rfl
 have st2:Ay 3 (Af BK (Ab (Aa 2) Ad)) (eL ns (oI k) (some (.own,.lst as)) x3 x4 x5 x6)=some (.next (eL ns (oI k) (some (.own,.lst as1)) (sH .own h) x4 x5 x6)):=
  (Cf (call_of (cons_of (r:=.ref 2) rfl (nil_of _)) rfl rfl t3 rfl) (by rcases h3 with rfl|⟨a,rfl⟩<;>rfl)).trans rfl
 have st3:Ay 4 (Af Bi (Ab (Aa 2) (Ab (Aa 3) (Ab (Ae (.int 6)) Ad)))) (eL ns (oI k) (some (.own,.lst as1)) (sH .own h) x4 x5 x6)=some (.next (eL ns (oI k) (some (.own,.lst as2)) (sH .own h) (sT .own (tx cs)) x5 x6)):=
  (Cf (call_of (cons_of (r:=.ref 2) rfl (cons_of (r:=.val (.fz h.d)) rfl (cons_of (r:=.val (.fz (.int 6))) rfl (nil_of _)))) rfl rfl t4 rfl) (by rcases h4 with rfl|⟨a,rfl⟩<;>rfl)).trans rfl
 have st4:Ay 5 (opM AL (m2L (Ae (.int 1)) (Af An (Ab (Aa 2) (Ab (Ae (.int 12)) Ad))))) (eL ns (oI k) (some (.own,.lst as2)) (sH .own h) (sT .own (tx cs)) x5 x6)=some (.next (eL ns (oI k) (some (.own,.lst as3)) (sH .own h) (sT .own (tx cs)) (oI n) x6)):=by
  have c1:Af An (Ab (Aa 2) (Ab (Ae (.int 12)) Ad)) (eL ns (oI k) (some (.own,.lst as2)) (sH .own h) (sT .own (tx cs)) x5 x6)=some (.val (.fz (.int d)),(eL ns (oI k) (some (.own,.lst as3)) (sH .own h) (sT .own (tx cs)) x5 x6)):=call_of (cons_of (r:=.ref 2) rfl (cons_of (r:=.val (.fz (.int 12))) rfl (nil_of _))) rfl rfl t5 rfl;have c2:=Ba (f:=AL) (BD (m1:=Ae (.int 1)) (r1:=.val (.fz (.int 1))) rfl c1) rfl (c:=.fz (.int (n:Int))) (by
   simp only[AL,on2,A6,fzU,BW,bind_some,map_some,some_or,hn])
  exact(Cf c2 (by rcases h5 with rfl|⟨a,rfl⟩<;>rfl)).trans rfl
 clear t1 t2 t3 t4 t5 h2 h3 h4 h5;have pa:∀x6,(Aw (opM ltA (m2L (opM Bv (Ab (Af Bz (Ab (Aa 3) (Ab (Aa 4) Ad))) Ad)) (Ae (.int 2))))) (eL ns (oI k) (some (.own,.lst as3)) (sH .own h) (sT .own (tx cs)) (oI n) x6)=some (decide ((pD h cs).length<2),(eL ns (oI k) (some (.own,.lst as3)) (sH .own h) (sT .own (tx cs)) (oI n) x6)):=fun x6=>by
  have c1:Vl (Af Bz (Ab (Aa 3) (Ab (Aa 4) Ad))) (eL ns (oI k) (some (.own,.lst as3)) (sH .own h) (sT .own (tx cs)) (oI n) x6) (.lst (((E1 h.hands cs).map grD).map A.fz)):=call_of (cons_of (r:=.val (.fz h.d)) rfl (cons_of (r:=.val (.fz (.str (tx cs)))) rfl (nil_of _))) rfl rfl t6 rfl;have c2:=Ba (f:=Bv) (cons_of c1 (nil_of _)) rfl (c:=.fz (.int ((pD h cs).length:Int))) (by
   simp only[Bv,on1,Bo,BQ,fzU,AQ,AY,bind_none,Option.map_none,none_or,map_some,length_map,gl])
  refine B8 (Ba (BD c2 (r2:=.val (.fz (.int 2))) rfl) rfl ?_);have dd:decide (((pD h cs).length:Int)<2)=decide ((pD h cs).length<2):=decide_eq_decide.mpr (by lia);simp only[ltA,on2,A6,fzU,BW,bind_some,map_some,some_or,dd]
 have fin:∀(f:A),Af AG (Ab (Aa 3) (Ab (Aa 4) (Ab (Aa 5) Ad))) (eL ns (oI k) (some (.own,.lst as3)) (sH .own h) (sT .own (tx cs)) (oI n) x6)=some (.val f,(eL ns (oI k) (some (.own,.lst as3)) (sH .own h) (sT .own (tx cs)) (oI n) x6))->Ay 6 (Af AG (Ab (Aa 3) (Ab (Aa 4) (Ab (Aa 5) Ad)))) (eL ns (oI k) (some (.own,.lst as3)) (sH .own h) (sT .own (tx cs)) (oI n) x6)=some (.next (eL ns (oI k) (some (.own,.lst as3)) (sH .own h) (sT .own (tx cs)) (oI n) (some (.own,f)))):=fun f e =>
  (Cf e (by rcases h6 with rfl|⟨a,rfl⟩<;>rfl)).trans rfl
 by_cases q:(pD h cs).length<=1
 .obtain⟨os,ea⟩:=Pc ok hz hl (n:Int) q
  have c6:∀x6,(Af AG (Ab (Aa 3) (Ab (Aa 4) (Ab (Aa 5) Ad)))) (eL ns (oI k) (some (.own,.lst as3)) (sH .own h) (sT .own (tx cs)) (oI n) x6)=some (.val (.fz (.str (Str.ofString "Whole"))),(eL ns (oI k) (some (.own,.lst as3)) (sH .own h) (sT .own (tx cs)) (oI n) x6)):=fun x6=>call_of (cons_of (r:=.val (.fz h.d)) rfl (cons_of (r:=.val (.fz (.str (tx cs)))) rfl (cons_of (r:=.val (.fz (.int (n:Int)))) rfl (nil_of _)))) rfl rfl ea (TJ _ _ _ _ _);have st5:=fin _ (c6 x6);have p:=pa (some (.own,.fz (.str (Str.ofString "Whole"))));rw[decide_eq_true (by lia)] at p;have w:Nx (ifS (Aw (opM neA (m2L (Aa 6) (Ae (.str (Str.ofString "Whole")))))) (retS (Ae (.bl false))) AK) (eL ns (oI k) (some (.own,.lst as3)) (sH .own h) (sT .own (tx cs)) (oI n) (some (.own,.fz (.str (Str.ofString "Whole"))))):=by
   refine(FZ (B8 (Ba (BD (r1:=.val (.fz (.str (Str.ofString "Whole")))) rfl (r2:=.val (.fz (.str (Str.ofString "Whole")))) rfl) rfl (c:=.fz (.bl false)) ?_))).trans rfl;simp only[neA,on2,J.er,bind_some,shB,if_true,EX,beq_self_eq_true,Bool.not_true]
  refine⟨some (.own,.lst as3),sH .own h,sT .own (tx cs),oI n,some (.own,.fz (.str (Str.ofString "Whole"))),.inr ⟨_,rfl⟩,.inr ⟨_,rfl⟩,.inr ⟨_,rfl⟩,.inr ⟨_,rfl⟩,.inr ⟨_,rfl⟩,?_⟩;refine(Ai st1).trans ((Ai st2).trans ((Ai st3).trans ((Ai st4).trans ((Ai st5).trans ?_))));exact(RV p).trans w
 .obtain⟨u,v,os,T,ea⟩:=Pb ok hz hl hn2 q
  have c6:∀x6,(Af AG (Ab (Aa 3) (Ab (Aa 4) (Ab (Aa 5) Ad)))) (eL ns (oI k) (some (.own,.lst as3)) (sH .own h) (sT .own (tx cs)) (oI n) x6)=some (.val (.lst ((fD u v n).map A.fz)),(eL ns (oI k) (some (.own,.lst as3)) (sH .own h) (sT .own (tx cs)) (oI n) x6)):=fun x6=>call_of (cons_of (r:=.val (.fz h.d)) rfl (cons_of (r:=.val (.fz (.str (tx cs)))) rfl (cons_of (r:=.val (.fz (.int (n:Int)))) rfl (nil_of _)))) rfl rfl ea (TJ _ _ _ _ _);have st5:=fin _ (c6 x6);have p:=pa (oL (fD u v n));rw[decide_eq_false (by lia)] at p;have k1:=Rb .lent ok hz hl T hn2;have k2:=Rb .own ok hz hl T hn2;have i1:Nx (ifS (BF (Aw (Af Bb (Ab (Aa 3) (Ab (Aa 4) (Ab (Aa 6) (Ab (Aa 5) Ad))))))) (retS (Ae (.bl false))) AK) (eL ns (oI k) (some (.own,.lst as3)) (sH .own h) (sT .own (tx cs)) (oI n) (oL (fD u v n))):=
   (FZ (not_of (B8 (b:=true) (call_of (cons_of (r:=.val (.fz h.d)) rfl (cons_of (r:=.val (.fz (.str (tx cs)))) rfl (cons_of (r:=.ref 6) rfl (cons_of (r:=.val (.fz (.int (n:Int)))) rfl (nil_of _))))) rfl rfl k1 rfl)))).trans rfl
  have i2:Nx (ifS (BF (Aw (Af Bb (Ab (Aa 3) (Ab (Aa 4) (Ab (Af AG (Ab (Aa 3) (Ab (Aa 4) (Ab (Aa 5) Ad)))) (Ab (Aa 5) Ad))))))) (retS (Ae (.bl false))) AK) (eL ns (oI k) (some (.own,.lst as3)) (sH .own h) (sT .own (tx cs)) (oI n) (some (.own,.lst []))):=
   (FZ (not_of (B8 (b:=true) (call_of (cons_of (r:=.val (.fz h.d)) rfl (cons_of (r:=.val (.fz (.str (tx cs)))) rfl (cons_of (c6 _) (cons_of (r:=.val (.fz (.int (n:Int)))) rfl (nil_of _))))) rfl rfl k2 rfl)))).trans rfl
  refine⟨some (.own,.lst as3),sH .own h,sT .own (tx cs),oI n,some (.own,.lst []),.inr ⟨_,rfl⟩,.inr ⟨_,rfl⟩,.inr ⟨_,rfl⟩,.inr ⟨_,rfl⟩,.inr ⟨_,rfl⟩,?_⟩;refine(Ai st1).trans ((Ai st2).trans ((Ai st3).trans ((Ai st4).trans ((Ai st5).trans ?_))));refine(FZ p).trans ?_;refine(Ai i1).trans ?_;exact(Ai (Z1:=(eL ns (oI k) (some (.own,.lst as3)) (sH .own h) (sT .own (tx cs)) (oI n) (some (.own,.lst [])))) rfl).trans i2
theorem Qs(ns:List Int)(hl:ns.length<=63):∃as',HU [(.ro,.scr ns)]=some (.fz (.bl true),as'):=by
 have hrg:∃n:Int,0<=n/\n<=1000000/\(opM MZ (Ab (Ae (.int 1)) (Ab (opM M0 (Ab (Ae (.int 3)) (Ab (opM Bv (Ab (Aa 0) Ad)) Ad))) Ad))) (eL ns none none none none none none)=some (.val (.fz (.int n)),(eL ns none none none none none none)):=by
  refine⟨if (if (ns.length:Int)<3 then (ns.length:Int) else 3) > 1 then (if (ns.length:Int)<3 then (ns.length:Int) else 3) else 1,by split<;>split<;>lia,by split<;>split<;>lia,?_⟩;clear hl;walk_at "eo"
 obtain⟨n,n0,n1,hn⟩:=hrg;have rg:=GN hn n0 n1;obtain⟨Z',f1,f2⟩:=Ck (is:=[1]) (one:=true) (b:=(Ax (Ay 2 (Af Cg (Ab (opM AL (m2L (Af BG (Ab (Aa 0) (Ab (Aa 1) Ad))) (Aa 1))) Ad))) (Ax (Ay 3 (Af BK (Ab (Aa 2) Ad))) (Ax (Ay 4 (Af Bi (Ab (Aa 2) (Ab (Aa 3) (Ab (Ae (.int 6)) Ad))))) (Ax (Ay 5 (opM AL (m2L (Ae (.int 1)) (Af An (Ab (Aa 2) (Ab (Ae (.int 12)) Ad)))))) (Ax (Ay 6 (Af AG (Ab (Aa 3) (Ab (Aa 4) (Ab (Aa 5) Ad))))) (ifS (Aw (opM ltA (m2L (opM Bv (Ab (Af Bz (Ab (Aa 3) (Ab (Aa 4) Ad))) Ad)) (Ae (.int 2))))) (ifS (Aw (opM neA (m2L (Aa 6) (Ae (.str (Str.ofString "Whole")))))) (retS (Ae (.bl false))) AK) (Ax (ifS (BF (Aw (Af Bb (Ab (Aa 3) (Ab (Aa 4) (Ab (Aa 6) (Ab (Aa 5) Ad))))))) (retS (Ae (.bl false))) AK) (Ax (Oq 6) (ifS (BF (Aw (Af Bb (Ab (Aa 3) (Ab (Aa 4) (Ab (Af AG (Ab (Aa 3) (Ab (Aa 4) (Ab (Aa 5) Ad)))) (Ab (Aa 5) Ad))))))) (retS (Ae (.bl false))) AK))))))))))
  (fun t Z=>∃x1 x2 x3 x4 x5 x6,(x1=none\/∃a,x1=some (Own.own,a))/\(x2=none\/∃a,x2=some (Own.own,a))/\(x3=none\/∃a,x3=some (Own.own,a))/\(x4=none\/∃a,x4=some (Own.own,a))/\(x5=none\/∃a,x5=some (Own.own,a))/\(x6=none\/∃a,x6=some (Own.own,a))/\Z=(eL ns x1 x2 x3 x4 x5 x6)) rg ⟨none,none,none,none,none,none,.inl rfl,.inl rfl,.inl rfl,.inl rfl,.inl rfl,.inl rfl,rfl⟩ (fun t d Z hd hI=>by
   obtain⟨x1,x2,x3,x4,x5,x6,h1,h2,h3,h4,h5,h6,rfl⟩:=hI;obtain⟨rfl,ht⟩:=HD hd;obtain⟨y2,y3,y4,y5,y6,k2,k3,k4,k5,k6,q⟩:=Nl (ns:=ns) (k:=t) h2 h3 h4 h5 h6;refine⟨_,_,?_,.inl q,_,y2,y3,y4,y5,y6,.inr ⟨_,rfl⟩,k2,k3,k4,k5,k6,rfl⟩;rcases h1 with rfl|⟨d,rfl⟩<;>simp[Gj,free,J.own])
 refine⟨_,Bk (Z:=unlock (eL ns none none none none none none) Z' none) rfl ?_⟩;show J7 (eL ns none none none none none none)=_;unfold J7;rw[Ai f1];exact B7 rfl
end Gk57
end
section
namespace Gk57
open PySem PySem.Spec PyProof.Rows L2 J
noncomputable def Fe(K:Frag)(n:Str)(st:Stmt):Prop:=∃(f:Addr) (fd:FuncData),PySem.W.nsIn K mainGlobals n=some (some (.ref f))/\Fun K n n st f fd
theorem Wz{K:Frag}{n:Str}{st:Stmt}{f:Addr}{oc:Value}{od an:Option Addr}{sl:Array (Option Value)}{kV dc pm cd ct:Value}(a:PySem.W.nsIn K mainGlobals n=some (some (.ref f)))(l:K.lookup f=some ⟨oc,od,.func (PySem.W.fnOf n n (Ec st) (BV st) (As st) .none kV dc pm an cd ct),sl⟩)(c:PySem.W.codeIn K cd n=true)(k:PySem.W.keepIn K (.ref f)=true):Fe K n st:=⟨f,_,a,Uy l c k⟩
theorem df{CX:CXT}(P:Program)(w:World){K:Frag}{h:Heap}{mg:Str->Option Value}{N:Nat}{n:Str}{st:Stmt}{ps:List Str}{sp:Sp}(X:K.In h)(G:h.Ns mainGlobals mg)(e:Fe K n st)(ok:∀{f fd},Fun K n n st f fd->∀base,FnOk P w K mg base CX N f fd ps sp)(hb:∀(kV doc pm:Value) (an:Option Addr) (cdv ct:Value) (us:List Value),us.length=ps.length->bindArgs (PySem.W.fnOf n n (Ec st) (BV st) (As st) .none kV doc pm an cdv ct) ⟨us,[]⟩=pure (ps.zip us)):∀base,Def P w K mg base CX N n ps sp:=by
 obtain⟨f,fd,a,F⟩:=e;exact fun base=>⟨f,fd,PySem.W.mg_of X G a,F.kp,F.binds hb,ok F base⟩
theorem dfL(P:Program)(w:World){K:Frag}{h:Heap}{mg:Str->Option Value}{N:Nat}{st:Stmt}{ps:List Str}{sp:Sp}(X:K.In h)(G:h.Ns mainGlobals mg)(e:Fe K Be st)(ok:∀{f fd},PySem.W.nsIn K mainGlobals Be=some (some (.ref f))->Fun K Be Be st f fd->∀base,FnOk P w K mg base CX0 N f fd ps sp)(hb:∀(kV doc pm:Value) (an:Option Addr) (cdv ct:Value) (us:List Value),us.length=ps.length->bindArgs (PySem.W.fnOf Be Be (Ec st) (BV st) (As st) .none kV doc pm an cdv ct) ⟨us,[]⟩=pure (ps.zip us)):∀base,Def P w K mg base CX0 N Be ps sp:=by
 obtain⟨f,fd,a,F⟩:=e;exact fun base=>⟨f,fd,PySem.W.mg_of X G a,F.kp,F.binds hb,ok a F base⟩
theorem ar1{α:Type}{P:List α -> Prop}(h:∀a,P [a])(us:List α)(e:us.length=1):P us:=by
 obtain⟨a,rfl⟩:=R9 e;exact h a
theorem ar2{α:Type}{P:List α -> Prop}(h:∀a b,P [a,b])(us:List α)(e:us.length=2):P us:=by
 obtain⟨a,b,rfl⟩:=Sa e;exact h a b
theorem ar3{α:Type}{P:List α -> Prop}(h:∀a b c,P [a,b,c])(us:List α)(e:us.length=3):P us:=by
 cases us with
 | nil=>cases e
 | cons a t=>exact ar2 (P:=fun t=>P (a::t)) (h a) t (Nat.succ.inj e)
theorem ar4{α:Type}{P:List α -> Prop}(h:∀a b c d,P [a,b,c,d])(us:List α)(e:us.length=4):P us:=by
 cases us with
 | nil=>cases e
 | cons a t=>exact ar3 (P:=fun t=>P (a::t)) (h a) t (Nat.succ.inj e)
noncomputable def xok(K:Frag)(C HE:Addr)(wd:Str):Bool:=
 PySem.W.nsIn K mainGlobals wd==some (some (.ref C))&&PySem.W.excIn K C RC "ValueError.__new__" && PySem.W.nsIn K mainGlobals "HandError" == some (some (.ref HE))&&PySem.W.excIn K HE RC "ValueError.__new__" && PySem.W.mroIn K C (.ref HE)==some true&&!(C==HE)
 && PySem.W.findIn K (.ref C) "__getattribute__" == some (some (.builtin "BaseException.__getattribute__"))&&PySem.W.findIn K (.ref C) "__getattr__" == some none&&PySem.W.findIn K (.ref C) "__class__" == some (some (.builtin "object.__class__"))&&PySem.W.mroIn K C (.type "object")==some true&&PySem.W.mroIn K C (.type "BaseException")==some true
 && (PySem.W.clsIn K C).isSome&&(K2.all fun y=>match PySem.W.nsIn K mainGlobals y with|some (some (.ref a))=>PySem.W.kitOne K (.ref C) (.ref a)==some (y==wd)|_=>false)&&PySem.W.nsIn K mainGlobals "ValueError" == some none&&PySem.W.kitOne K (.ref C) (.type "ValueError")==some true
theorem Wm{K:Frag}{h:Heap}{mg:Str->Option Value}{C HE:Addr}{wd:Str}(X:K.In h)(G:h.Ns mainGlobals mg)(e:xok K C HE wd=true):Exc K mg wd C/\mg "HandError" = some (.ref HE)/\(∀base,K.In base->Above base C HE)/\XW K mg C wd:=by
 simp only[xok,and_eq_true,beq_iff_eq,not_eq_true',all_eq_true] at e;obtain⟨⟨⟨⟨⟨⟨⟨⟨⟨⟨⟨⟨⟨⟨e1,e2⟩,e3⟩,e4⟩,e5⟩,e6⟩,e7⟩,e8⟩,e9⟩,e10⟩,e11⟩,e12⟩,e13⟩,e14⟩,e15⟩:=e;refine⟨⟨PySem.W.mg_of X G e1,e2⟩,PySem.W.mg_of X G e3,fun base hK=>Pw hK e2 e4 e5 (by simpa using e6),⟨e7,e8,e9,e10,e11⟩,e12,fun y hy=>?_,PySem.W.mg_none_of X G e14,e15⟩;have q:=e13 y hy;split at q
 .rename_i a ha
  exact⟨a,PySem.W.mg_of X G ha,by simpa using q⟩
 .cases q
theorem all_mk{l:PySem.W.OpenLaw}{w:World}{K:Frag}{h:Heap}{mg:Str->Option Value}{fa:Addr}(X:K.In h)(G:h.Ns mainGlobals mg)(hfa:mg "law" = some (.ref fa))(e0:Fe K "is_pair" (top 20))(e1:Fe K "is_whole" (top 18))(e2:Fe K "is_count_of_hands" (top 29))(e3:Fe K "is_number_below" (top 19))(e4:Fe K "are_numbers_below" (top 22))(e5:Fe K "is_list_of_numbers_below" (top 21))(e6:Fe K "is_rising_list_below" (top 23))(e7:Fe K "is_small_letter" (top 32))(e8:Fe K "is_entry" (top 31))(e9:Fe K "are_entries" (top 30))(e10:Fe K "is_house" (top 28))(e11:Fe K "need_house" (top 33))(e12:Fe K "letters_of" (top 34))(e13:Fe K "is_row" (top 37))(e14:Fe K "need_row" (top 38))(e15:Fe K "hands_of" (top 35))(e16:Fe K "is_hand_in_both" (top 36))(e17:Fe K "hands_hanging" (top 45))(e18:Fe K "front_places" (top 42))(e19:Fe K "place_of_first" (top 41))(e20:Fe K "least_row_of" (top 40))(e21:Fe K "parts_of" (top 44))(e22:Fe K "_law_bag" (top 51))(e23:Fe K "_law_take" (top 53))(e24:Fe K "_law_house" (top 54))(e25:Fe K "_law_word_row" (top 55))(e26:Fe K "unparted" (top 46))(e27:Fe K "_law_asked" (top 58))(e28:Fe K "_law_cell" (top 52))(e29:Fe K "_law_hang" (top 56))(e30:Fe K "_law_parts" (top 57))(e31:Fe K "_law_sights" (top 49))(e32:Fe K "_law_is_again" (top 50))(e33:Fe K "_law_good" (top 59))(e34:Fe K "law" (top 60))(e__law_word:Fe K "_law_word" (top 48)){t_FEWEST_HANDS:Tok}(i_FEWEST_HANDS:PySem.W.nsIn K mainGlobals "FEWEST_HANDS" = some (some (.int 2 t_FEWEST_HANDS))){t_MOST_HANDS:Tok}(i_MOST_HANDS:PySem.W.nsIn K mainGlobals "MOST_HANDS" = some (some (.int 4 t_MOST_HANDS))){t_MOST_LETTERS:Tok}(i_MOST_LETTERS:PySem.W.nsIn K mainGlobals "MOST_LETTERS" = some (some (.int 6 t_MOST_LETTERS)))(z_isinstance:PySem.W.nsIn K mainGlobals "isinstance" = some none)(z_len:PySem.W.nsIn K mainGlobals "len" = some none)(z_all:PySem.W.nsIn K mainGlobals "all" = some none)(z_any:PySem.W.nsIn K mainGlobals "any" = some none)(z_range:PySem.W.nsIn K mainGlobals "range" = some none)(z_list:PySem.W.nsIn K mainGlobals "list" = some none)(z_int:PySem.W.nsIn K mainGlobals "int" = some none)(z_bool:PySem.W.nsIn K mainGlobals "bool" = some none)(z_tuple:PySem.W.nsIn K mainGlobals "tuple" = some none)(z_str:PySem.W.nsIn K mainGlobals "str" = some none)(z_abs:PySem.W.nsIn K mainGlobals "abs" = some none)(z_max:PySem.W.nsIn K mainGlobals "max" = some none)(z_min:PySem.W.nsIn K mainGlobals "min" = some none)(z_dict:PySem.W.nsIn K mainGlobals "dict" = some none)(z_sorted:PySem.W.nsIn K mainGlobals "sorted" = some none)(z_set:PySem.W.nsIn K mainGlobals "set" = some none)(z_enumerate:PySem.W.nsIn K mainGlobals "enumerate" = some none){c b:Addr}(ht:PySem.W.tabIn K Be=some (c,b))(hh:PySem.W.codeHdIn K c b=true){HE:Addr}{C_Whole:Addr}(hx_Whole:xok K C_Whole HE "Whole" = true): ∃fd:FuncData,(∀(s:Shared) (v:Value),BindsTo s fd ⟨[v],[]⟩ [("_law_script",v)])/\∀base:Heap,K.In base->base.Ns mainGlobals mg->FnOk l.prog w K mg base CX0 14 fa fd ["_law_script"] (spJ K HU 1):=by
 have z {n:Str} (e:PySem.W.nsIn K mainGlobals n=some none):=PySem.W.mg_none_of X G e;have B:Blt mg K:=⟨z z_isinstance,z z_len,z z_all,z z_any,z z_range,z z_list,z z_int,z z_bool,z z_tuple,z z_str,z z_abs,z z_max,z z_min,z z_dict⟩;have B2:Blt2 mg:=⟨z z_sorted,z z_set,z z_enumerate⟩;have DW:GInt mg "FEWEST_HANDS" 2:=⟨⟨_,PySem.W.mg_of X G i_FEWEST_HANDS⟩⟩;have EO:GInt mg "MOST_HANDS" 4:=⟨⟨_,PySem.W.mg_of X G i_MOST_HANDS⟩⟩;have DX:GInt mg "MOST_LETTERS" 6:=⟨⟨_,PySem.W.mg_of X G i_MOST_LETTERS⟩⟩;have DI:=df l.prog w X G e0 (fun F s=>M6 F B B2) fun _ _ _ _ _ _=>ar1 fun _=>rfl;have Dd:=df l.prog w X G e1 (fun F s=>LN F B B2) fun _ _ _ _ _ _=>ar1 fun _=>rfl;have CC:=df l.prog w X G e2 (fun F s=>Fm F B B2 (Dd s) DW EO) fun _ _ _ _ _ _=>ar1 fun _=>rfl;have C1:=df l.prog w X G e3 (fun F s=>Gd F B B2 (Dd s)) fun _ _ _ _ _ _=>ar2 fun _ _=>rfl;have CB:=df l.prog w X G e4 (fun F s=>Fj F B B2 (C1 s)) fun _ _ _ _ _ _=>ar2 fun _ _=>rfl;have BB:=df l.prog w X G e5 (fun F s=>DF F B B2 (CB s)) fun _ _ _ _ _ _=>ar2 fun _ _=>rfl;have BU:=df l.prog w X G e6 (fun F s=>EC F B B2 (BB s)) fun _ _ _ _ _ _=>ar2 fun _ _=>rfl;have C2:=df l.prog w X G e7 (fun F s=>Ge F B B2) fun _ _ _ _ _ _=>ar1 fun _=>rfl;have FT:=df l.prog w X G e8 (fun F s=>LL F B B2 (BU s) (DI s) (C2 s)) fun _ _ _ _ _ _=>ar2 fun _ _=>rfl;have Eh:=df l.prog w X G e9 (fun F s=>Ih F B B2 (FT s) DX) fun _ _ _ _ _ _=>ar2 fun _ _=>rfl;have FU:=df l.prog w X G e10 (fun F s=>LM F B B2 (DI s) (CC s) (Eh s)) fun _ _ _ _ _ _=>ar1 fun _=>rfl;have EH:=df l.prog w X G e11 (fun F s=>Jg F B B2 (FU s)) fun _ _ _ _ _ _=>ar1 fun _=>rfl
 have Cr:=df l.prog w X G e12 (fun F s=>Jf F B B2) fun _ _ _ _ _ _=>ar1 fun _=>rfl;have HF:=df l.prog w X G e13 (fun F s=>OT F B B2 (EH s) (Cr s)) fun _ _ _ _ _ _=>ar2 fun _ _=>rfl;have De:=df l.prog w X G e14 (fun F s=>LQ F B B2 (HF s)) fun _ _ _ _ _ _=>ar2 fun _ _=>rfl;have BA:=df l.prog w X G e15 (fun F s=>LJ F B B2 (Cr s)) fun _ _ _ _ _ _=>ar2 fun _ _=>rfl;have AS:=df l.prog w X G e16 (fun F s=>Gb F B B2) fun _ _ _ _ _ _=>ar2 fun _ _=>rfl;have Dw:=df l.prog w X G e17 (fun F s=>G5 F B B2 (BA s) (AS s)) fun _ _ _ _ _ _=>ar2 fun _ _=>rfl;have DJ:=df l.prog w X G e18 (fun F s=>Ht F B B2 (BA s) (AS s)) fun _ _ _ _ _ _=>ar2 fun _ _=>rfl;have Dg:=dfL l.prog w X G e19 (fun a F s=>GF F a ht hh B B2 (DJ s)) fun _ _ _ _ _ _=>ar2 fun _ _=>rfl;have DK:=df l.prog w X G e20 (fun F s=>Hu F B B2 (Dg s)) fun _ _ _ _ _ _=>ar2 fun _ _=>rfl;have Df:=df l.prog w X G e21 (fun F s=>LR F B B2 (Dw s) (DK s) (AS s) (BA s)) fun _ _ _ _ _ _=>ar2 fun _ _=>rfl;have FR:=df l.prog w X G e22 (fun F s=>LI F B B2) fun _ _ _ _ _ _=>ar1 fun _=>rfl;have AR:=df l.prog w X G e23 (fun F s=>Kt F B B2) fun _ _ _ _ _ _=>ar2 fun _ _=>rfl;have EF:=df l.prog w X G e24 (fun F s=>Jd F B B2 (AR s)) fun _ _ _ _ _ _=>ar1 fun _=>rfl;have Dv:=df l.prog w X G e25 (fun F s=>G4 F B B2 (AR s)) fun _ _ _ _ _ _=>ar3 fun _ _ _=>rfl;have FV:=df l.prog w X G e26 (fun F s=>LS F B B2 (De s) (Df s)) fun _ _ _ _ _ _=>ar3 fun _ _ _=>rfl;obtain⟨X_Whole,hHE,hab_Whole,W_Whole⟩:=Wm X G hx_Whole;obtain⟨fw,fdw,aw,Fw⟩:=e__law_word;have DR_unparted:=df (sp:=spR K (fun _=>C_Whole) BS 3) l.prog w X G e26 (fun F s=>Ko F B B2 (De s) (Df s) X_Whole) (fun _ _ _ _ _ _=>ar3 fun _ _ _=>rfl)
 obtain⟨f__law_asked,fd__law_asked,a__law_asked,F__law_asked⟩:=e27;have DE:∀base,K.In base->Def l.prog w K mg base CX0 13 "_law_asked" ["_law_house_here","_law_row","_law_many"] (spJ K AG 3):=fun base hK=>⟨f__law_asked,fd__law_asked,PySem.W.mg_of X G a__law_asked,F__law_asked.kp,F__law_asked.binds (fun _ _ _ _ _ _=>ar3 fun _ _ _=>rfl),Jc (XC:=fun _=>C_Whole) F__law_asked (FV base) (DR_unparted base) hHE ⟨fw,fdw,PySem.W.mg_of X G aw,Fw.kp,Fw.binds (fun _ _ _ _ _ _=>ar1 fun _=>rfl),So Fw B W_Whole dK⟩ fun args z e=>by cases S1 e; exact⟨hab_Whole base hK,dK,fun a o q=>Ma q⟩⟩;have E2:=df l.prog w X G e28 (fun F s=>Kq F B B2) fun _ _ _ _ _ _=>ar2 fun _ _=>rfl;have E3:=df l.prog w X G e29 (fun F s=>Ks F B B2) fun _ _ _ _ _ _=>ar3 fun _ _ _=>rfl;have EG:=df l.prog w X G e30 (fun F s=>Je F B B2 (E3 s)) fun _ _ _ _ _ _=>ar2 fun _ _=>rfl;have Dq:=df l.prog w X G e31 (fun F s=>Ig F B B2) fun _ _ _ _ _ _=>ar2 fun _ _=>rfl;have Du:=df l.prog w X G e32 (fun F s=>G3 F B B2 (Dq s)) fun _ _ _ _ _ _=>ar3 fun _ _ _=>rfl;have Eb:=df l.prog w X G e33 (fun F s=>Kr F B B2 (Du s)) fun _ _ _ _ _ _=>ar4 fun _ _ _ _=>rfl;obtain⟨f,fd,a,F⟩:=e34;cases hfa.symm.trans (PySem.W.mg_of X G a);refine⟨fd,?_,fun s hK _=>U1 F B B2 (FR s) (EF s) (Dv s) (DE s hK) (AR s) (E2 s) (EG s) (Eb s)⟩;obtain⟨_,_,_,_,_,_,_,_,_,rfl,_,_⟩:=F.ex;exact fun s v=>.of_eq rfl
theorem walk{l:PySem.W.OpenLaw}{q:Program}{loose:List Str}{XP:(Str->Option Value)->Heap->Prop}{YP:World->Heap->Prop}{d:DefRec}{K:Params->Frag}(hn:l.most=some 63)(hdf:d.params.defaults=[])(hY:∀(w:World) (h:Heap),YP w h->(K w.params).In h)(F:∀(w:World) (mg:Str->Option Value) (fa:Addr) (h:Heap),(K w.params).In h->h.Ns mainGlobals mg->mg d.name=some (.ref fa) ->
   ∃fd:FuncData,(∀(s:Shared) (u:Value),BindsTo s fd ⟨[u],[]⟩ [("_law_script",u)])/\∀base:Heap,(K w.params).In base->base.Ns mainGlobals mg->FnOk l.prog w (K w.params) mg base CX0 14 fa fd ["_law_script"] (spJ (K w.params) HU 1))(hT:∀(w:World) (c b:Addr),PySem.W.tabIn (K w.params) Be=some (c,b)->(∃d2,(recsOf q).find? (fun e=>e.name==Be)=some d2)/\(K w.params).lookup b=none):
  PySem.W.WalkO q loose XP YP l.row.toRowW d [] (fun f vs=>PySem.call f vs):=
 L2.TC (n:=63) (k:=14) (x := "_law_script") (CX:=fun _=>CX0) (sp:=fun w=>spJ (K w.params) HU 1) hn (by decide) hdf ⟨rfl,by decide,by decide⟩ hY F (fun _ H a ns hl hO hS=>let⟨_,e⟩:=Qs ns hl; UR hl hO hS e) (fun _ _ _ _ _ z=>z) hT
noncomputable def fo(n:Str)(i:Nat)(m:Str)(t:Tok)(c:Addr):Obj:={ cls:=.type "function",data:=.func (PySem.W.fnOf n n (Ec (top i)) (BV (top i)) (As (top i)) .none .none .none (.str m t) none (.ref c) .none) }
noncomputable def co(n:Str)(t:Nat)(l k:Int)(r:Nat)(x y:Value)(q:Nat)(u:Int)(v:Nat):Obj:={ cls:=.type "code",data:=.fields #[.str n t,.str n (t+1),.str "/claim/cut.py" (t+2),.int l 0,.int k 0,.int 0 0,.int 0 0,.int 3 0,.ref r,.bool true,.int 181 0,.ref (r+1),.none,x,y,.ref q,.int u 0,.int l 0,.str "/claim/cut.py" v] }
noncomputable def en(P:Params)(n:Str)(t:Tok)(v:Value):DictEntry:=⟨PyData.keyHash P n,.str n t,v⟩
noncomputable def kc(n:Str)(bs m:List Value)(ns:Addr)(sb:List Value)(b:Addr)(t u:Tok):Obj:={ cls:=.type "type",data:=.cls { name:=n,bases:=bs,mro:=m++[.type "ValueError",.type "Exception",.type "BaseException",.type "object"],ns:=ns,qualname:=n,subclasses:=sb },slots:=#[some (.ref b),none,some (.str n t),some (.str n u),some (.builtin "ValueError.__new__"),some (.bool true)] }
noncomputable def nd(es:Array DictEntry)(ep:Nat):Obj:={ cls:=.type "dict",data:=.dict es ep }
noncomputable def gE(P:Params):List DictEntry:=[en P "__name__" 165 (.str "law_handsapart_k57_unparted" 649),
 en P "__doc__" 166 .none,
 en P "__package__" 167 .none,
 en P "__loader__" 168 (.builtin "__main__.__loader__#opaque"),
 en P "__spec__" 169 .none,
 en P "__annotations__" 170 (.ref 6),
 en P "__builtins__" 171 (.ref 4),
 en P "__file__" 173 (.str "/claim/cut.py" 172),
 en P "__cached__" 174 .none,
 en P "HandError" 206 (.ref 24),
 en P "NoHouse" 222 (.ref 37),
 en P "NoRow" 238 (.ref 49),
 en P "NoMachine" 254 (.ref 61),
 en P "NoRoom" 270 (.ref 73),
 en P "NoHand" 286 (.ref 85),
 en P "Unlike" 302 (.ref 97),
 en P "NoPast" 318 (.ref 109),
 en P "TooMany" 334 (.ref 121),
 en P "Torn" 361 (.ref 140),
 en P "NoTable" 377 (.ref 152),
 en P "NoSet" 393 (.ref 164),
 en P "Falls" 418 (.ref 183),
 en P "Whole" 434 (.ref 195),
 en P "NoText" 450 (.ref 207),
 en P "NoWord" 466 (.ref 219),
 en P "is_whole" 475 (.ref 228),
 en P "is_number_below" 483 (.ref 235),
 en P "is_pair" 490 (.ref 242),
 en P "is_list_of_numbers_below" 498 (.ref 249),
 en P "are_numbers_below" 504 (.ref 254),
 en P "is_rising_list_below" 510 (.ref 259),
 en P "FEWEST_HANDS" 514 (.int 2 513),
 en P "MOST_HANDS" 516 (.int 4 515),
 en P "MOST_LETTERS" 518 (.int 6 517),
 en P "is_house" 525 (.ref 266),
 en P "is_count_of_hands" 532 (.ref 273),
 en P "are_entries" 538 (.ref 278),
 en P "is_entry" 546 (.ref 285),
 en P "is_small_letter" 553 (.ref 292),
 en P "need_house" 560 (.ref 299),
 en P "letters_of" 566 (.ref 304),
 en P "hands_of" 574 (.ref 311),
 en P "is_hand_in_both" 580 (.ref 316),
 en P "is_row" 586 (.ref 321),
 en P "need_row" 594 (.ref 328),
 en P "least_row_of" 606 (.ref 335),
 en P "place_of_first" 615 (.ref 342),
 en P "front_places" 628 (.ref 349),
 en P "parts_of" 636 (.ref 354),
 en P "hands_hanging" 642 (.ref 359),
 en P "unparted" 648 (.ref 364),
 en P "_law_word" 656 (.ref 369),
 en P "_law_sights" 662 (.ref 374),
 en P "_law_is_again" 672 (.ref 381),
 en P "_law_bag" 679 (.ref 388),
 en P "_law_cell" 687 (.ref 395),
 en P "_law_take" 696 (.ref 402),
 en P "_law_house" 702 (.ref 407),
 en P "_law_word_row" 713 (.ref 414),
 en P "_law_hang" 719 (.ref 419),
 en P "_law_parts" 725 (.ref 424),
 en P "_law_asked" 735 (.ref 431),
 en P "_law_good" 741 (.ref 436),
 en P "law" 754 (.ref 443)]
noncomputable def gD(P:Params):Obj:={ cls:=.type "dict",data:=.dict (gE P).toArray 64 }
noncomputable def Kf:Params->Frag:=fun P=>(nat_lit 3,gD P) ::
 (nat_lit 23,nd #[en P "__module__" 196 (.str "handsapart.errors" 187),en P "__firstlineno__" 200 (.int 2 199),en P "__static_attributes__" 201 (.ref 22),en P "__weakref__" 203 (.ref 25),en P "__doc__" 204 .none] 3) ::
 (nat_lit 24,kc "HandError" [.type "ValueError"] [.ref 24] 23 [.ref 37,.ref 49,.ref 61,.ref 73,.ref 85,.ref 97,.ref 109,.ref 121,.ref 140,.ref 152,.ref 164,.ref 183,.ref 195,.ref 207,.ref 219] 15 189 197) ::
 (nat_lit 37,kc "NoHouse" [.ref 24] [.ref 37,.ref 24] 36 [] 28 207 215) ::
 (nat_lit 49,kc "NoRow" [.ref 24] [.ref 49,.ref 24] 48 [] 40 223 231) ::
 (nat_lit 61,kc "NoMachine" [.ref 24] [.ref 61,.ref 24] 60 [] 52 239 247) ::
 (nat_lit 73,kc "NoRoom" [.ref 24] [.ref 73,.ref 24] 72 [] 64 255 263) ::
 (nat_lit 85,kc "NoHand" [.ref 24] [.ref 85,.ref 24] 84 [] 76 271 279) ::
 (nat_lit 97,kc "Unlike" [.ref 24] [.ref 97,.ref 24] 96 [] 88 287 295) ::
 (nat_lit 109,kc "NoPast" [.ref 24] [.ref 109,.ref 24] 108 [] 100 303 311) ::
 (nat_lit 121,kc "TooMany" [.ref 24] [.ref 121,.ref 24] 120 [] 112 319 327) ::
 (nat_lit 140,kc "Torn" [.ref 24] [.ref 140,.ref 24] 139 [] 124 335 343) ::
 (nat_lit 152,kc "NoTable" [.ref 24] [.ref 152,.ref 24] 151 [] 143 362 370) ::
 (nat_lit 164,kc "NoSet" [.ref 24] [.ref 164,.ref 24] 163 [] 155 378 386) ::
 (nat_lit 183,kc "Falls" [.ref 24] [.ref 183,.ref 24] 182 [] 167 394 402) ::
 (nat_lit 194,nd #[en P "__module__" 426 (.str "handsapart.errors" 187),en P "__firstlineno__" 430 (.int 33 429),en P "__static_attributes__" 431 (.ref 193),en P "__doc__" 432 .none] 2) ::
 (nat_lit 195,kc "Whole" [.ref 24] [.ref 195,.ref 24] 194 [] 186 419 427) ::
 (nat_lit 207,kc "NoText" [.ref 24] [.ref 207,.ref 24] 206 [] 198 435 443) ::
 (nat_lit 219,kc "NoWord" [.ref 24] [.ref 219,.ref 24] 218 [] 210 451 459) ::
 (nat_lit 227,co "is_whole" 469 40 1 222 (.ref 224) (.ref 225) 226 473 474) ::
 (nat_lit 228,fo "is_whole" 18 "handsapart.checks" 467 227) ::
 (nat_lit 234,co "is_number_below" 476 42 2 229 (.ref 231) (.ref 232) 233 481 482) ::
 (nat_lit 235,fo "is_number_below" 19 "handsapart.checks" 467 234) ::
 (nat_lit 241,co "is_pair" 484 44 1 236 (.ref 238) (.ref 239) 240 488 489) ::
 (nat_lit 242,fo "is_pair" 20 "handsapart.checks" 467 241) ::
 (nat_lit 248,co "is_list_of_numbers_below" 491 46 2 243 (.ref 245) (.ref 246) 247 496 497) ::
 (nat_lit 249,fo "is_list_of_numbers_below" 21 "handsapart.checks" 467 248) ::
 (nat_lit 253,co "are_numbers_below" 499 48 2 250 .none .none 252 502 503) ::
 (nat_lit 254,fo "are_numbers_below" 22 "handsapart.checks" 467 253) ::
 (nat_lit 258,co "is_rising_list_below" 505 50 2 255 .none .none 257 508 509) ::
 (nat_lit 259,fo "is_rising_list_below" 23 "handsapart.checks" 467 258) ::
 (nat_lit 265,co "is_house" 519 58 1 260 (.ref 262) (.ref 263) 264 523 524) ::
 (nat_lit 266,fo "is_house" 28 "handsapart.houses" 511 265) ::
 (nat_lit 272,co "is_count_of_hands" 526 62 1 267 (.ref 269) (.ref 270) 271 530 531) ::
 (nat_lit 273,fo "is_count_of_hands" 29 "handsapart.houses" 511 272) ::
 (nat_lit 277,co "are_entries" 533 64 2 274 .none .none 276 536 537) ::
 (nat_lit 278,fo "are_entries" 30 "handsapart.houses" 511 277) ::
 (nat_lit 284,co "is_entry" 539 70 2 279 (.ref 281) (.ref 282) 283 544 545) ::
 (nat_lit 285,fo "is_entry" 31 "handsapart.houses" 511 284) ::
 (nat_lit 291,co "is_small_letter" 547 74 1 286 (.ref 288) (.ref 289) 290 551 552) ::
 (nat_lit 292,fo "is_small_letter" 32 "handsapart.houses" 511 291) ::
 (nat_lit 298,co "need_house" 554 76 1 293 (.ref 295) (.ref 296) 297 558 559) ::
 (nat_lit 299,fo "need_house" 33 "handsapart.houses" 511 298) ::
 (nat_lit 303,co "letters_of" 561 79 1 300 .none .none 302 564 565) ::
 (nat_lit 304,fo "letters_of" 34 "handsapart.houses" 511 303) ::
 (nat_lit 310,co "hands_of" 567 81 2 305 (.ref 307) (.ref 308) 309 572 573) ::
 (nat_lit 311,fo "hands_of" 35 "handsapart.houses" 511 310) ::
 (nat_lit 315,co "is_hand_in_both" 575 83 2 312 .none .none 314 578 579) ::
 (nat_lit 316,fo "is_hand_in_both" 36 "handsapart.houses" 511 315) ::
 (nat_lit 320,co "is_row" 581 85 2 317 .none .none 319 584 585) ::
 (nat_lit 321,fo "is_row" 37 "handsapart.houses" 511 320) ::
 (nat_lit 327,co "need_row" 587 91 2 322 (.ref 324) (.ref 325) 326 592 593) ::
 (nat_lit 328,fo "need_row" 38 "handsapart.houses" 511 327) ::
 (nat_lit 334,co "least_row_of" 597 95 2 329 (.ref 331) (.ref 332) 333 604 605) ::
 (nat_lit 335,fo "least_row_of" 40 "handsapart.rows" 595 334) ::
 (nat_lit 341,co "place_of_first" 607 102 2 336 (.ref 338) (.ref 339) 340 613 614) ::
 (nat_lit 342,fo "place_of_first" 41 "handsapart.rows" 595 341) ::
 (nat_lit 348,co "front_places" 616 104 2 343 (.ref 345) (.ref 346) 347 626 627) ::
 (nat_lit 349,fo "front_places" 42 "handsapart.rows" 595 348) ::
 (nat_lit 353,co "parts_of" 631 114 2 350 .none .none 352 634 635) ::
 (nat_lit 354,fo "parts_of" 44 "handsapart.repeats" 629 353) ::
 (nat_lit 358,co "hands_hanging" 637 122 2 355 .none .none 357 640 641) ::
 (nat_lit 359,fo "hands_hanging" 45 "handsapart.repeats" 629 358) ::
 (nat_lit 363,co "unparted" 643 129 3 360 .none .none 362 646 647) ::
 (nat_lit 364,fo "unparted" 46 "handsapart.repeats" 629 363) ::
 (nat_lit 368,co "_law_word" 651 137 1 365 .none .none 367 654 655) ::
 (nat_lit 369,fo "_law_word" 48 "law_handsapart_k57_unparted" 649 368) ::
 (nat_lit 373,co "_law_sights" 657 148 2 370 .none .none 372 660 661) ::
 (nat_lit 374,fo "_law_sights" 49 "law_handsapart_k57_unparted" 649 373) ::
 (nat_lit 380,co "_law_is_again" 663 150 3 375 (.ref 377) (.ref 378) 379 670 671) ::
 (nat_lit 381,fo "_law_is_again" 50 "law_handsapart_k57_unparted" 649 380) ::
 (nat_lit 387,co "_law_bag" 673 155 1 382 (.ref 384) (.ref 385) 386 677 678) ::
 (nat_lit 388,fo "_law_bag" 51 "law_handsapart_k57_unparted" 649 387) ::
 (nat_lit 394,co "_law_cell" 680 159 2 389 (.ref 391) (.ref 392) 393 685 686) ::
 (nat_lit 395,fo "_law_cell" 52 "law_handsapart_k57_unparted" 649 394) ::
 (nat_lit 401,co "_law_take" 688 163 2 396 (.ref 398) (.ref 399) 400 694 695) ::
 (nat_lit 402,fo "_law_take" 53 "law_handsapart_k57_unparted" 649 401) ::
 (nat_lit 406,co "_law_house" 697 171 1 403 .none .none 405 700 701) ::
 (nat_lit 407,fo "_law_house" 54 "law_handsapart_k57_unparted" 649 406) ::
 (nat_lit 413,co "_law_word_row" 703 185 3 408 (.ref 410) (.ref 411) 412 711 712) ::
 (nat_lit 414,fo "_law_word_row" 55 "law_handsapart_k57_unparted" 649 413) ::
 (nat_lit 418,co "_law_hang" 714 190 3 415 .none .none 417 717 718) ::
 (nat_lit 419,fo "_law_hang" 56 "law_handsapart_k57_unparted" 649 418) ::
 (nat_lit 423,co "_law_parts" 720 193 2 420 .none .none 422 723 724) ::
 (nat_lit 424,fo "_law_parts" 57 "law_handsapart_k57_unparted" 649 423) ::
 (nat_lit 430,co "_law_asked" 726 205 3 425 (.ref 427) (.ref 428) 429 733 734) ::
 (nat_lit 431,fo "_law_asked" 58 "law_handsapart_k57_unparted" 649 430) ::
 (nat_lit 435,co "_law_good" 736 210 4 432 .none .none 434 739 740) ::
 (nat_lit 436,fo "_law_good" 59 "law_handsapart_k57_unparted" 649 435) ::
 (nat_lit 442,co "law" 742 224 1 437 (.ref 439) (.ref 440) 441 752 753) ::
 (nat_lit 443,fo "law" 60 "law_handsapart_k57_unparted" 649 442)::[]
theorem Rx(P:Params):PySem.W.tabIn (Kf P) Be=some (nat_lit 341,nat_lit 337):=by kernel_rfl
theorem WD(P:Params):PySem.W.codeHdIn (Kf P) (nat_lit 341) (nat_lit 337)=true:=by kernel_rfl
theorem WK(P:Params):(Kf P).lookup (nat_lit 337)=none:=by kernel_rfl
theorem NF(P:Params):xok (Kf P) (nat_lit 195) (nat_lit 24) "Whole" = true:=by kernel_rfl
end Gk57
def PySem.W.Fast.tw592983034204381438:Nat:=0
def PySem.W.Fast.tw6712145394827235858:Nat:=0
def PySem.W.Fast.tw11051531519343737041:Nat:=0
def PySem.W.Fast.tw7390936131746097580:Nat:=0
def PySem.W.Fast.tw5225059118540700194:Nat:=0
def PySem.W.Fast.tw180988970586591368:Nat:=0
def PySem.W.Fast.tw8953683130864882052:Nat:=0
def PySem.W.Fast.tw15957199483959349322:Nat:=0
def PySem.W.Fast.tw15668479679390588538:Nat:=0
def PySem.W.Fast.tw11353803250646153150:Nat:=0
def PySem.W.Fast.tw16874494209553824199:Nat:=0
def PySem.W.Fast.tw2266733339605906486:Nat:=0
def PySem.W.Fast.tw15524420239106560517:Nat:=0
def PySem.W.Fast.tw8700070849552142583:Nat:=0
def PySem.W.Fast.tw18118405237131884411:Nat:=0
def PySem.W.Fast.tw9379499513821990824:Nat:=0
def PySem.W.Fast.tw2603051008828323532:Nat:=0
def PySem.W.Fast.tw11163473272248724488:Nat:=0
def PySem.W.Fast.tw2685843518443368013:Nat:=0
def PySem.W.Fast.tw10363882179620189912:Nat:=0
def PySem.W.Fast.tw5174317781163021917:Nat:=0
def PySem.W.Fast.tw18440042517483011233:Nat:=0
open PySem PySem.W PyProof.Rows
set_option maxRecDepth 100000 in
set_option maxHeartbeats 0 in
theorem PySem.Challenge.cw_handsapart_k57_unparted_holds : PySem.Challenge.rw_handsapart_k57_unparted.Holds := by
 w_on; o_law; o_head (PySem.W.kHook Gk57.Kf (nat_lit 3 :: nat_lit 23 :: nat_lit 24 :: nat_lit 37 :: nat_lit 49 :: nat_lit 61 :: nat_lit 73 :: nat_lit 85 :: nat_lit 97 :: nat_lit 109 :: nat_lit 121 :: nat_lit 140 :: nat_lit 152 :: nat_lit 164 :: nat_lit 183 :: nat_lit 194 :: nat_lit 195 :: nat_lit 207 :: nat_lit 219 :: nat_lit 227 :: nat_lit 228 :: nat_lit 234 :: nat_lit 235 :: nat_lit 241 :: nat_lit 242 :: nat_lit 248 :: nat_lit 249 :: nat_lit 253 :: nat_lit 254 :: nat_lit 258 :: nat_lit 259 :: nat_lit 265 :: nat_lit 266 :: nat_lit 272 :: nat_lit 273 :: nat_lit 277 :: nat_lit 278 :: nat_lit 284 :: nat_lit 285 :: nat_lit 291 :: nat_lit 292 :: nat_lit 298 :: nat_lit 299 :: nat_lit 303 :: nat_lit 304 :: nat_lit 310 :: nat_lit 311 :: nat_lit 315 :: nat_lit 316 :: nat_lit 320 :: nat_lit 321 :: nat_lit 327 :: nat_lit 328 :: nat_lit 334 :: nat_lit 335 :: nat_lit 341 :: nat_lit 342 :: nat_lit 348 :: nat_lit 349 :: nat_lit 353 :: nat_lit 354 :: nat_lit 358 :: nat_lit 359 :: nat_lit 363 :: nat_lit 364 :: nat_lit 368 :: nat_lit 369 :: nat_lit 373 :: nat_lit 374 :: nat_lit 380 :: nat_lit 381 :: nat_lit 387 :: nat_lit 388 :: nat_lit 394 :: nat_lit 395 :: nat_lit 401 :: nat_lit 402 :: nat_lit 406 :: nat_lit 407 :: nat_lit 413 :: nat_lit 414 :: nat_lit 418 :: nat_lit 419 :: nat_lit 423 :: nat_lit 424 :: nat_lit 430 :: nat_lit 431 :: nat_lit 435 :: nat_lit 436 :: nat_lit 442 :: nat_lit 443 :: []) (fun _=>by kernel_rfl)); (case hw=>w_witness2)
 k_fill
 refine Gk57.walk (l:=PySem.Challenge.rw_handsapart_k57_unparted) rfl rfl (fun w h Y=>PySem.W.kIn_of Y) ?F (fun w c b e=>by
  rw [Gk57.Rx w.params] at e;cases e;exact ⟨Option.isSome_iff_exists.mp (by kernel_rfl),Gk57.WK w.params⟩)
 case F =>
  intro w mg fa h KX G hmg;refine' Gk57.all_mk KX G hmg ?_ ?_ ?_ ?_ ?_ ?_ ?_ ?_ ?_ ?_ ?_ ?_ ?_ ?_ ?_ ?_ ?_ ?_ ?_ ?_ ?_ ?_ ?_ ?_ ?_ ?_ ?_ ?_ ?_ ?_ ?_ ?_ ?_ ?_ ?_ ?_ ?_ ?_ ?_ ?_ ?_ ?_ ?_ ?_ ?_ ?_ ?_ ?_ ?_ ?_ ?_ ?_ ?_ ?_ ?_ ?_ (Gk57.Rx w.params) (Gk57.WD w.params) (Gk57.NF w.params);all_goals first | k_is | (refine' Gk57.Wz ?a ?l ?c ?k; (case a=>k_is); (case l=>k_is); (case c=>k_is); (case k=>k_is)) | skip
end
