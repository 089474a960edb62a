import PyProof.Rows.All
import Wide.All
import OpenK.AllK
import PySem.Challenge.RW_handsapart_k62_machines_written
local macro_rules|`(command|$d:declaration)=>do
 let s:=d.raw
 if s[0].getArgs.any (·.getNumArgs>0) then Lean.Macro.throwUnsupported
 let a:=s[1]
 let k:=a.getKind
 if k== ``Lean.Parser.Command.definition&&(a[3][1].getKind.toString.startsWith "Lean.Parser.Term.byTactic")&&a[2][1].getNumArgs>0 then return s.setArg 1 (.node .none ``Lean.Parser.Command.«theorem» #[Lean.mkAtom "theorem",a[1],.node .none ``Lean.Parser.Command.declSig #[a[2][0],a[2][1][0]],a[3]])
 if k== ``Lean.Parser.Command.definition||k== ``Lean.Parser.Command.abbrev then return s.setArg 0 (<-`(command|noncomputable def x:=1)).raw[0]
 Lean.Macro.throwUnsupported
open PySem.W (Frag)
open Option (bind_eq_some_iff map_eq_some_iff)
set_option Elab.async false
set_option linter.all false
set_option maxRecDepth 100000
set_option maxHeartbeats 4000000
theorem dK{p:Prop}(h:p:=by decide +kernel):p:=h
section
namespace L2
open PySem PySem.Spec PyProof.Rows
abbrev Key:=Sum Int Str
def Vc:Key->Value->Bool
 | .inl k,v=>Value.isInt k v
 | .inr x,v=>Value.isStrOf x v
def YW(w:World):Key->Int
 | .inl k=>hashInt k
 | .inr x=>hashStr w x
theorem Cg:∀{k:Key} {v:Value},Vc k v=true->(∃i t,k=Sum.inl i/\v=Value.int i t)\/(∃x t,k=Sum.inr x/\v=Value.str x t)
 | .inl i,v,h=>by
  obtain⟨t,e⟩:=Value.isInt_shape (k:=i) (v:=v) h;exact .inl ⟨i,t,rfl,e⟩
 | .inr x,v,h=>by
  obtain⟨t,e⟩:=Value.isStrOf_shape (x:=x) (v:=v) h;exact .inr ⟨x,t,rfl,e⟩
def V7(a b:Int):decide ((Sum.inl a:Key)=Sum.inl b)=(a==b):=by
 by_cases e:a=b
 .subst e; simp
 .have h:¬(Sum.inl a:Key)=Sum.inl b:=fun q=>e (Sum.inl.inj q)
  rw[decide_eq_false h];exact(beq_eq_false_iff_ne.mpr e).symm
def Wa(a b:Str):decide ((Sum.inr a:Key)=Sum.inr b)=decide (a=b):=by
 by_cases e:a=b
 .subst e; simp
 .have h:¬(Sum.inr a:Key)=Sum.inr b:=fun q=>e (Sum.inr.inj q)
  rw[decide_eq_false h,decide_eq_false e]
theorem V8(a:Int)(b:Str):decide ((Sum.inl a:Key)=Sum.inr b)=false:=decide_eq_false (fun q=>nomatch q)
theorem V9(a:Str)(b:Int):decide ((Sum.inr a:Key)=Sum.inl b)=false:=decide_eq_false (fun q=>nomatch q)
def T7(prog:Program)(w:World):PySem.KeyKind prog w Key where
 is:=Vc
 hash:=YW w
 inj:=fun v a b ha hb=>by
  rcases Cg ha with ⟨i,t,rfl,rfl⟩|⟨x,t,rfl,rfl⟩
  .rcases Cg hb with ⟨j,u,rfl,e⟩|⟨y,u,rfl,e⟩
   .injection e with e1 _; rw[e1]
   .exact nomatch e
  .rcases Cg hb with ⟨j,u,rfl,e⟩|⟨y,u,rfl,e⟩
   .exact nomatch e
   .injection e with e1 _; rw[e1]
 byValue:=fun k v h=>by
  rcases Cg h with ⟨i,t,rfl,rfl⟩|⟨x,t,rfl,rfl⟩<;>rfl
 pyHash:=fun hv h=>by
  rcases Cg hv with ⟨i,t,rfl,rfl⟩|⟨x,t,rfl,rfl⟩
  .exact wpAny_pyHash_int h
  .exact wpAny_pyHash_str h
 eqBool:=fun hu hv h=>by
  rcases Cg hu with ⟨i,t,rfl,rfl⟩|⟨x,t,rfl,rfl⟩
  .rcases Cg hv with ⟨j,u,rfl,rfl⟩|⟨y,u,rfl,rfl⟩
   .rw[V7] at h; exact wpAny_eqBool_int h
   .rw[V8] at h; exact SeqAt.EqAt.int_str i t y u _ _ _ _ h
  .rcases Cg hv with ⟨j,u,rfl,rfl⟩|⟨y,u,rfl,rfl⟩
   .rw[V9] at h; exact SeqAt.EqAt.str_int x t j u _ _ _ _ h
   .rw[Wa] at h; exact wpAny_eqBool_str h
 «strs»:=fun k x t v h=>by
  rcases Cg h with ⟨i,u,rfl,e⟩|⟨y,u,rfl,e⟩
  .exact nomatch e
  .injection e with e1 _
   subst e1;cases v<;>rfl
end L2
namespace L2
open PySem PySem.Spec PyProof.Rows
inductive V where
 | non|bl (b:Bool)|int (i:Int)|str (x:Str)|byt (b:Array UInt8)|flt (b:UInt64)|ref (a:Addr)|ty (n:String)
 deriving DecidableEq
def RelV:V->Value->Prop
 | .non,u=>u=Value.none
 | .bl b,u=>u=Value.bool b
 | .int i,u=>∃t,u=Value.int i t
 | .str x,u=>∃t,u=Value.str x t
 | .byt b,u=>∃t,u=Value.bytes b t
 | .flt b,u=>∃t,u=Value.float b t
 | .ref a,u=>u=Value.ref a
 | .ty n,u=>u=Value.type n
abbrev Vals:List V->List Value->Prop:=Paired RelV
theorem Vals.length{xs:List V}{us:List Value}(r:Vals xs us):xs.length=us.length:=Paired.length r
theorem Vals.get:∀{xs:List V} {us:List Value} {i:Nat} {x:V},Vals xs us->xs[i]? = some x->∃u,us[i]? = some u/\RelV x u
 | _,_,_,_,.nil,e=>by simp at e
 | _,_,0,_,.cons r _,e=>by simp at e; subst e; exact⟨_,rfl,r⟩
 | _,_,i+1,x,.cons _ t,e=>by
  obtain⟨u,h1,h2⟩:=Vals.get (i:=i) (x:=x) t (by simpa using e);exact⟨u,by simpa using h1,h2⟩
theorem Vals.set{x:V}{u:Value}(r:RelV x u):∀{xs:List V} {us:List Value} (i:Nat),Vals xs us->Vals (xs.set i x) (us.set i u)
 | _,_,_,.nil=>.nil
 | _,_,0,.cons _ t=>.cons r t
 | _,_,i+1,.cons q t=>.cons q (Vals.set r i t)
def Vals.append{xs ys:List V}{us ws:List Value}(h:Vals xs us)(s:Vals ys ws):Vals (xs++ys) (us++ws):=by
 induction h with
 | nil=>exact s
 | cons r t ih=>exact .cons r ih
theorem Vals.take:∀{xs:List V} {us:List Value} (n:Nat),Vals xs us->Vals (xs.take n) (us.take n)
 | _,_,0,_=>.nil
 | _,_,_+1,.nil=>.nil
 | _,_,n+1,.cons r t=>.cons r (Vals.take n t)
theorem Vals.drop:∀{xs:List V} {us:List Value} (n:Nat),Vals xs us->Vals (xs.drop n) (us.drop n)
 | _,_,0,r=>r
 | _,_,_+1,.nil=>.nil
 | _,_,n+1,.cons _ t=>Vals.drop n t
def VA:Option V->Option Value->Prop
 | some v,some u=>RelV v u
 | none,none=>True
 | _,_=>False
def KV{κ:Type}:List (κ×V)->List (κ×Value)->Prop:=Paired fun(p : κ×V) (q : κ×Value)=>p.1=q.1/\RelV p.2 q.2
def kV:Key->V
 | .inl i=>.int i
 | .inr x=>.str x
inductive D where
 | non|bl (b:Bool)|int (i:Int)|str (x:Str)|lst (ds:List D)|tup (ds:List D)
mutual
noncomputable def eqS:D->D->Bool
 | .non,.non=>true
 | .bl a,.bl b=>a==b
 | .int a,.int b=>a==b
 | .str a,.str b=>a==b
 | .lst xs,.lst ys=>Od xs ys
 | .tup xs,.tup ys=>Od xs ys
 | _,_=>false
noncomputable def Od:List D->List D->Bool
 | [],[]=>true
 | x::xs,y::ys=>eqS x y&&Od xs ys
 | _,_=>false
end
mutual
theorem Nc:∀d,eqS d d=true
 | .non=>rfl
 | .bl a=>by show(a==a)=true; exact beq_self_eq_true a
 | .int a=>by show(a==a)=true; exact beq_self_eq_true a
 | .str a=>by show(a==a)=true; exact beq_self_eq_true a
 | .lst xs=>Ig xs
 | .tup xs=>Ig xs
theorem Ig:∀ds,Od ds ds=true
 | []=>rfl
 | d::ds=>by show(eqS d d&&Od ds ds)=true; rw[Nc d,Ig ds]; rfl
end
mutual
theorem Q8:∀(d e:D),eqS d e=true->d=e
 | .non,e,h=>by cases e<;>first|rfl|exact nomatch h
 | .bl a,e,h=>by
  cases e with
  | bl b=>rw[eq_of_beq (show(a==b)=true from h)]
  | _=>exact nomatch h
 | .int a,e,h=>by
  cases e with
  | int b=>rw[eq_of_beq (show(a==b)=true from h)]
  | _=>exact nomatch h
 | .str a,e,h=>by
  cases e with
  | str b=>rw[eq_of_beq (show(a==b)=true from h)]
  | _=>exact nomatch h
 | .lst xs,e,h=>by
  cases e with
  | lst ys=>rw[LO xs ys h]
  | _=>exact nomatch h
 | .tup xs,e,h=>by
  cases e with
  | tup ys=>rw[LO xs ys h]
  | _=>exact nomatch h
theorem LO:∀(xs ys:List D),Od xs ys=true->xs=ys
 | [],ys,h=>by cases ys with|nil=>rfl|cons _ _=>exact nomatch h
 | x::xs,ys,h=>by
  cases ys with
  | nil=>exact nomatch h
  | cons y ys =>
   have h':(eqS x y&&Od xs ys)=true:=h;rw[Bool.and_eq_true] at h';rw[Q8 x y h'.1,LO xs ys h'.2]
end
noncomputable instance:DecidableEq D:=fun a b=>decidable_of_iff (eqS a b=true) ⟨Q8 a b,fun e=>e ▸ Nc a⟩
mutual
noncomputable def U9(w:World):D->Int
 | .int i=>hashInt i
 | .str x=>hashStr w x
 | .tup ds=>reduceHash (Builtin.Tuple.tupleHashOf (Rj w ds))
 | .non=>0xFCA86420
 | .bl _=>0
 | .lst _=>0
noncomputable def Rj(w:World):List D->List Int
 | []=>[]
 | d::ds=>U9 w d::Rj w ds
end
inductive HO where
 /-- a list -/
 | lst (xs:List V)
 /-- a tuple (never changes) -/
 | tup (xs:List V)
 /-- a dict whose keys are ints and texts; one whose keys are tuples of ints and texts (the empty one is both) -/
 | dK (kvs:List (Key×V))|dT (kvs:List (D×V))
 /-- a set of ints: its members,its size -/
 | set (S:Int->Bool) (n:Nat)
 /-- an instance of the class at C,its dict at dx,its attributes -/
 | ins (C dx:Addr) (fs:List (Str×V))
 /-- the dict of the instance at x -/
 | own (x:Addr)
 /-- the dict of an exception -/
 | xd (fs:List (Str×V))
 /-- a bound method,f of x -/
 | met (f x:Addr)
 /-- a range object lo,lo+1,.. below hi -/
 | rng (lo hi:Int)
 /-- a thing that is known to the object (the script; a dict while a loop walks it): read,never written while it is so -/
 | frz (o:Obj) (u:HO)
 /-- a code object's table -/
 | tbl (ps:Array Value)
 /-- any other thing,by what is true of its one object (a def of one's own: SetO a S n:=HO.ext fun h=>..) -/
 | ext (φ : Heap->Prop)
abbrev Hp:=Addr->Option HO
def upd(H:Hp)(a:Addr)(o:HO):Hp:=fun b=>if b=a then some o else H b
def AU{H:Hp}{a:Addr}{o:HO}:upd H a o a=some o:=by unfold upd; rw[if_pos rfl]
def AB{H:Hp}{a b:Addr}{o:HO}(h:b≠a):upd H a o b=H b:=by unfold upd; rw[if_neg h]
def Ea{H:Hp}{a b:Addr}{o:HO}(h:H a=some o)(h':H b=none):a≠b:=by
 intro e; subst e; rw[h] at h'; cases h'
inductive Sh:Nat->D->Prop where
 | non {n:Nat}:Sh n .non
 | bl {n:Nat} (b:Bool):Sh n (.bl b)
 | int {n:Nat} (i:Int):Sh n (.int i)
 | str {n:Nat} (x:Str):Sh n (.str x)
 | lst {n:Nat} {ds:List D} (h:∀d∈ds,Sh n d):Sh (n+1) (.lst ds)
 | tup {n:Nat} {ds:List D} (h:∀d∈ds,Sh n d):Sh (n+1) (.tup ds)
inductive KR (H:Hp):V->D->Prop where
 | non:KR H .non .non
 | int (i:Int):KR H (.int i) (.int i)
 | str (x:Str) (hx:x.length<=sizeLine):KR H (.str x) (.str x)
 | tup {a:Addr} {vs:List V} {ds:List D} (h:H a=some (.tup vs)) (hz:vs.length<=sizeLine) (hl:vs.length=ds.length) (hr:∀(i:Nat) v d,vs[i]? = some v->ds[i]? = some d->KR H v d):KR H (.ref a) (.tup ds)
def KR.mono{H H':Hp}(t:∀b xs,H b=some (.tup xs)->H' b=some (.tup xs)){v:V}{d:D}(r:KR H v d):KR H' v d:=by
 induction r with
 | non=>exact .non
 | int i=>exact .int i
 | str x hx=>exact .str x hx
 | tup h hz hl _ ih=>exact .tup (t _ _ h) hz hl ih
def YR(w:World)(x:D×Value×Value):DictEntry:=⟨U9 w x.1,x.2.1,x.2.2⟩
abbrev LZ:Str := "law"
abbrev BW:Str := "law.<locals>.<lambda>"
abbrev T4:Str := "place_of_first"
abbrev RL:Str := "place_of_first.<locals>.<lambda>"
def JY:List (Str×Str):=[(LZ,BW),(T4,RL)]
theorem Wb:(LZ,BW)∈JY:=List.mem_cons_self
def XJ(H:Hp)(h:Heap)(a:Addr)(ps:Array Value):Prop:=∃qs:Array Value,h.get? a=some { cls:=.none,data:=.fields qs }/\TriplesOk qs.toList /\
 ∀pos c,codeAmong pos qs.toList=some c->∃c' oc vs t q,c=.ref c'/\H c'=some (.own a)/\h.get? c'=some oc/\oc.data=.fields vs/\vs[1]? = some (.str q t)/\ps[0]? = some (.str q 0)
def P8(K:Frag)(H:Hp):Prop:=∀(n q:Str),(n,q)∈JY->∀c P,PySem.W.tabIn K n=some (c,P)->∃ps,H P=some (.tbl ps)/\ps[0]? = some (.str q 0)
section
variable(P:Program)(w:World)
def CT(H:Hp)(h:Heap)(a:Addr):HO->Prop
 | .lst xs=>xs.length<=sizeLine/\∃(its:List Value) (n:Nat),Vals xs its/\h.get? a=some { cls:=.type "list",data:=.seq its.toArray n }
 | .tup xs=>xs.length<=sizeLine/\∃its:List Value,Vals xs its/\IsTup h a its.toArray
 | .dK kvs=>kvs.length<=sizeLine/\(a==sysModules)=false/\∃vs,KV kvs vs/\h.DictOf (T7 P w) a vs
 | .dT kvs=>kvs.length<=sizeLine/\(a==sysModules)=false/\∃xs:List (D×Value×Value),
   Paired (fun(p:D×V) (q:D×Value×Value)=>p.1=q.1/\(Sh 8 p.1/\∃y,KR H y p.1/\RelV y q.2.1)/\RelV p.2 q.2.2) kvs xs /\
   ∃o es ep,h.get? a=some o/\o.ExactDict/\o.data=.dict es ep/\es.toList=xs.map (YR w)/\(xs.map (·.1)).Nodup
 | .set S n=>h.SetOf (intKind P w) a S n
 | .ins C dx fs=>H dx=some (.own a)/\fs.length<=1000/\dx≠a/\h.get? a=some (PySem.W.instObj C dx) /\
   ∃mA,h.Ns1 dx mA/\(∀f,VA (fs.lookup f) (mA f))/\PySem.Within mA (fs.map (·.1))
 | .own _=>∃o,h.get? a=some o
 | .xd fs=>∃mA,h.Ns1 a mA/\∀f,VA (fs.lookup f) (mA f)
 | .rng lo hi=>∃t u v,h.get? a=some { cls:=.type "range",data:=.fields #[.int lo t,.int hi u,.int 1 v] }
 | .frz o u=>h.get? a=some o/\CT H h a u
 | .tbl ps=>XJ H h a ps
 | .met f x=>h.get? a=some (PySem.W.methodObj (.ref f) (.ref x))
 | .ext φ=>φ h/\(∃o,h.get? a=some o)/\∀h1 h2:Heap,φ h1->(∀o,h1.get? a=some o->h2.get? a=some o) -> φ h2
def HOk(H:Hp)(h:Heap):Prop:=∀a o,H a=some o->CT P w H h a o
end
section
variable{P:Program}{w:World}{H H':Hp}{h h':Heap}{a:Addr}{o:HO}
def CT.lt(x:CT P w H h a o):a<h.objs.size:=by
 cases o with
 | lst xs=>obtain⟨_,_,_,_,e⟩:=x; exact Heap.lt_size e
 | tup xs=>obtain⟨_,_,_,p⟩:=x; exact p.lt
 | dK kvs=>obtain⟨_,_,_,_,o,_,_,e,_⟩:=x; exact Heap.lt_size e
 | dT kvs=>obtain⟨_,_,_,_,o,_,_,e,_⟩:=x; exact Heap.lt_size e
 | set S n=>obtain⟨o,_,_,_,e,_⟩:=x; exact Heap.lt_size e
 | ins C dx fs=>obtain⟨_,_,_,e,_⟩:=x; exact Heap.lt_size e
 | own y=>obtain⟨_,e⟩:=x; exact Heap.lt_size e
 | xd fs=>obtain⟨_,⟨_,_,_,e,_⟩,_⟩:=x; exact Heap.lt_size e
 | rng lo hi=>obtain⟨_,_,_,e⟩:=x; exact Heap.lt_size e
 | frz ob u=>obtain⟨e,_⟩:=x; exact Heap.lt_size e
 | tbl ps=>obtain⟨_,e,_⟩:=x; exact Heap.lt_size e
 | met f y=>exact Heap.lt_size (show h.get? a=some _ from x)
 | ext φ=>obtain⟨_,⟨_,e⟩,_⟩:=x; exact Heap.lt_size e
def Paired.mapP{α β:Type}{F G:α -> β -> Prop}{l₁:List α}{l₂:List β}(h:Paired F l₁ l₂)(f:∀a b,F a b->G a b):Paired G l₁ l₂:=by
 induction h with
 | nil=>exact .nil
 | cons r t ih=>exact .cons (f _ _ r) ih
def CT.stay(x:CT P w H h a o)(k:∀b u,(b=a\/H b=some (.own a))->h.get? b=some u->h'.get? b=some u)(ho:∀b,H b=some (.own a)->H' b=some (.own a))(ht:∀b xs,H b=some (.tup xs)->H' b=some (.tup xs)):CT P w H' h' a o:=by
 induction o with
 | lst xs=>obtain⟨z,its,n,r,e⟩:=x; exact⟨z,its,n,r,k _ _ (.inl rfl) e⟩
 | tup xs=>obtain⟨z,its,r,ob,e,c⟩:=x; exact⟨z,its,r,ob,k _ _ (.inl rfl) e,c⟩
 | dK kvs=>obtain⟨z,y,vs,r,ob,es,ep,e,c⟩:=x; exact⟨z,y,vs,r,ob,es,ep,k _ _ (.inl rfl) e,c⟩
 | dT kvs =>
  obtain⟨z,y,xs,r,ob,es,ep,e,c⟩:=x;exact⟨z,y,xs,Paired.mapP r fun p q z=>⟨z.1,⟨z.2.1.1,z.2.1.2.imp fun y yy=>⟨yy.1.mono ht,yy.2⟩⟩,z.2.2⟩,ob,es,ep,k _ _ (.inl rfl) e,c⟩
 | set S n=>obtain⟨ob,es,ep,t,e,c⟩:=x; exact⟨ob,es,ep,t,k _ _ (.inl rfl) e,c⟩
 | ins C dx fs =>
  obtain⟨d,z,ne,e,mA,⟨od,es,ep,e2,c⟩,r⟩:=x;exact⟨ho _ d,z,ne,k _ _ (.inl rfl) e,mA,⟨od,es,ep,k _ _ (.inr d) e2,c⟩,r⟩
 | own y=>obtain⟨ob,e⟩:=x; exact⟨ob,k _ _ (.inl rfl) e⟩
 | xd fs=>obtain⟨mA,⟨od,es,ep,e,c⟩,r⟩:=x; exact⟨mA,⟨od,es,ep,k _ _ (.inl rfl) e,c⟩,r⟩
 | rng lo hi=>obtain⟨t,u,v,e⟩:=x; exact⟨t,u,v,k _ _ (.inl rfl) e⟩
 | frz ob u ih=>obtain⟨e,q⟩:=x; exact⟨k _ _ (.inl rfl) e,ih q⟩
 | tbl ps =>
  obtain⟨qs,e,tr,f⟩:=x;refine⟨qs,k _ _ (.inl rfl) e,tr,fun pos c hc=>?_⟩;obtain⟨c',oc,vs,t,q,e1,e2,e3,e4⟩:=f pos c hc;exact⟨c',oc,vs,t,q,e1,ho _ e2,k _ _ (.inr e2) e3,e4⟩
 | met f y =>
  have e:h.get? a=some (PySem.W.methodObj (.ref f) (.ref y)):=x;show h'.get? a=some (PySem.W.methodObj (.ref f) (.ref y));exact k a _ (.inl rfl) e
 | ext φ=>obtain⟨p,⟨o,e⟩,st⟩:=x; exact⟨st _ _ p fun o q=>k _ _ (.inl rfl) q,⟨o,k _ _ (.inl rfl) e⟩,st⟩
theorem HOk.lt(x:HOk P w H h)(e:H a=some o):a<h.objs.size:=(x a o e).lt
def HOk.fresh(x:HOk P w H h)(e:h.objs.size<=a):H a=none:=by
 cases q:H a with
 | none=>rfl
 | some u=>exact absurd (Nat.lt_of_lt_of_le (x.lt q) e) (Nat.lt_irrefl _)
theorem HOk.kept(x:HOk P w H h)(k:∀b u,h.get? b=some u->h'.get? b=some u):HOk P w H h':=fun a o e =>
 (x a o e).stay (fun b u _ q=>k b u q) (fun _ q=>q) fun _ _ q=>q
theorem HOk.laid(x:HOk P w H h)(k:∀b u,h.get? b=some u->h'.get? b=some u)(hp:h.objs.size<=a)(new:CT P w (upd H a o) h' a o):HOk P w (upd H a o) h':=fun b u e=>by
 have hn:=x.fresh hp;by_cases hb:b=a
 .subst hb; rw[AU] at e; cases e; exact new
 .rw[AB hb] at e
  exact(x b u e).stay (fun c v _ q=>k c v q) (fun c q=>by rw[AB (Ea q hn)]; exact q) fun c xs q=>by rw[AB (Ea q hn)]; exact q
end
def Rd(H:Hp)(a:Addr)(u:HO):Prop:=H a=some u\/∃o,H a=some (.frz o u)
def Rd.ok{P:Program}{w:World}{H:Hp}{h:Heap}{a:Addr}{u:HO}(r:Rd H a u)(x:HOk P w H h):CT P w H h a u:=by
 rcases r with r|⟨o,r⟩
 .exact x a u r
 .obtain⟨_,q⟩:=x a _ r
  exact q
def Mut:Option HO->Prop
 | some (.lst _)=>True
 | some (.dK _)=>True
 | some (.dT _)=>True
 | some (.set _ _)=>True
 | some (.ins _ _ _)=>True
 | some (.ext _)=>True
 | _=>False
section
variable{P:Program}{w:World}{H:Hp}{h h':Heap}{x e:Addr}{o':HO}
theorem HOk.write(ok:HOk P w H h)(mu:Mut (H x))(he:e=x\/H e=some (.own x))(k:∀b u,b≠e->h.get? b=some u->h'.get? b=some u)(heo:∃u,h'.get? e=some u)(new:CT P w (upd H x o') h' x o'):HOk P w (upd H x o') h':=fun b u q=>by
 have nown:∀c y,H c=some (.own y)->c≠x:=fun c y r z=>by subst z; rw[r] at mu; exact mu
 have ntup:∀c xs,H c=some (.tup xs)->c≠x:=fun c xs r z=>by subst z; rw[r] at mu; exact mu
 by_cases hb:b=x
 .subst hb; rw[AU] at q; cases q; exact new
 .rw[AB hb] at q
  by_cases hbe:b=e
  .have q':H b=some (.own x):=by
    rcases he with z|z
    .exact absurd (hbe.trans z) hb
    .rw[hbe]; exact z
   rw[q] at q'; cases q';obtain⟨v,hv⟩:=heo;exact⟨v,by rw[hbe]; exact hv⟩
  .refine(ok b u q).stay (fun c v hc r=>k c v ?_ r) (fun c r=>by rw[AB (nown c b r)]; exact r) fun c xs r=>by rw[AB (ntup c xs r)]; exact r
   rcases hc with rfl|hc
   .exact hbe
   .rintro rfl
    rcases he with z|z
    .exact nown c b hc z
    .rw[hc] at z; cases z; exact hb rfl
end
structure Un (fs ex:List Addr) (H H':Hp) (h h':Heap):Prop where
 keep:∀b o,h.get? b=some o->H b=none->b∉fs->b∉ex->h'.get? b=some o
 slot:∀b o,h.get? b=some o->H b=none->b∈fs->b∉ex->∃sl,h'.get? b=some { o with slots:=sl }
 free:∀b o,h.get? b=some o->H b=none->b∉ex->H' b=none
 there:∀b o,h.get? b=some o->b∉ex->∃o',h'.get? b=some o'
 tups:∀b xs,H b=some (.tup xs)->H' b=some (.tup xs)
 frzs:∀b o u,H b=some (.frz o u)->H' b=some (.frz o u)
 tbls:∀b ps,H b=some (.tbl ps)->∃more,H' b=some (.tbl (ps++more))
section
variable{fs fs' ex ex':List Addr}{H H1 H2:Hp}{h h1 h2 h':Heap}{a x e:Addr}{o:HO}
def Un.any(u:Un fs ex H H1 h h1){b:Addr}{ob:Obj}(q:h.get? b=some ob)(n:H b=none)(hx:b∉ex):∃sl,h1.get? b=some { ob with slots:=sl }:=by
 by_cases hb:b∈fs
 .exact u.slot b ob q n hb hx
 .exact⟨ob.slots,u.keep b ob q n hb hx⟩
theorem Un.kept(k:∀b u,h.get? b=some u->h'.get? b=some u):Un fs ex H H h h':=
 ⟨fun b ob q _ _ _=>k b ob q,fun b ob q _ _ _=>⟨ob.slots,k b ob q⟩,fun _ _ _ n _=>n,fun b ob q _=>⟨ob,k b ob q⟩,fun _ _ q=>q,fun _ _ _ q=>q,fun _ ps q=>⟨#[],by rw[q]; simp⟩⟩
theorem Un.refl:Un fs ex H H h h:=Un.kept fun _ _ q=>q
theorem Un.laid(k:∀b u,h.get? b=some u->h'.get? b=some u)(hp:h.objs.size<=a)(hn:H a=none):Un fs ex H (upd H a o) h h' where
 keep:=fun b u q _ _ _=>k b u q
 slot:=fun b u q _ _ _=>⟨u.slots,k b u q⟩
 free:=fun b u q n _=>by rw[AB (Nat.ne_of_lt (Nat.lt_of_lt_of_le (Heap.lt_size q) hp))]; exact n
 there:=fun b u q _=>⟨u,k b u q⟩
 tups:=fun b xs q=>by rw[AB (Ea q hn)]; exact q
 frzs:=fun b u xs q=>by rw[AB (Ea q hn)]; exact q
 tbls:=fun b ps q=>⟨#[],by rw[AB (Ea q hn),q]; simp⟩
def Un.write(mu:Mut (H x))(he:e=x\/H e=some (.own x))(k:∀b u,b≠e->h.get? b=some u->h'.get? b=some u)(heo:∃u,h'.get? e=some u):Un fs ex H (upd H x o) h h':=by
 have hx:∀b,H b=none->b≠x:=fun b n z=>by subst z; rw[n] at mu; exact mu
 have hb:∀b,H b=none->b≠e:=fun b n z=>by
  subst z;rcases he with r|r
  .exact hx b n r
  .rw[n] at r; cases r
 have hm:∀b u,H b=some u->¬Mut (some u)->b≠x:=fun b u q nm z=>by subst z; rw[q] at mu; exact nm mu
 refine⟨fun b u q n _ _=>k b u (hb b n) q,fun b u q n _ _=>⟨u.slots,k b u (hb b n) q⟩,fun b u q n _=>by rw[AB (hx b n)]; exact n,fun b u q _=>?_,
  fun b xs q=>by rw[AB (hm b _ q fun z=>z)]; exact q,fun b u xs q=>by rw[AB (hm b _ q fun z=>z)]; exact q,fun b ps q=>⟨#[],by rw[AB (hm b _ q fun z=>z),q]; simp⟩⟩
 by_cases hbe:b=e
 .subst hbe; exact heo
 .exact⟨u,k b u hbe q⟩
end
def trk(h:Heap)(H:Hp):List Addr:=(List.range h.objs.size).filter fun a=>(H a).isSome
def KI(h:Heap)(H:Hp):Heap:=PySem.W.hideAll h (trk h H)
theorem Qf(h:Heap)(H:Hp):(KI h H).objs.size=h.objs.size:=PySem.W.hideAll_size _ _
theorem Rl{h:Heap}{H:Hp}{b:Addr}{o:Obj}(e:h.get? b=some o)(n:H b=none):(KI h H).get? b=some o:=
 PySem.W.hideAll_get _ e fun hm=>by
  have q:(H b).isSome=true:=(List.mem_filter.mp hm).2;rw[n] at q; simp at q
def Ue{h:Heap}{H:Hp}{b:Addr}{o:Obj}(e:(KI h H).get? b=some o):h.get? b=some o/\H b=none:=by
 have e':h.get? b=some o:=PySem.W.of_hideAll (trk h H) e;refine⟨e',?_⟩;cases q:H b with
 | none=>rfl
 | some x =>
  have hm:b∈trk h H:=List.mem_filter.mpr ⟨List.mem_range.mpr (Heap.lt_size e'),by simp[q]⟩;have z:(KI h H).get? b=none:=PySem.W.hideAll_none (trk h H) hm;rw[z] at e; cases e
def Tj(g h:Heap)(L:Addr):List (Addr×Obj):=(List.range h.objs.size).filterMap fun a=>if a=L\/(g.get? a).isSome=true then none else (h.get? a).map fun o=>(a,o)
def rest(g h:Heap)(L d:Addr):List (Addr×Obj):=(Tj g h L).filter fun p=>decide (p.1≠d)
end L2
namespace L2
open PySem PySem.Spec PyProof.Rows
structure Mod (K:Frag) (mg:Str->Option Value) (base:Heap):Prop where
 kin:K.In base
 glob:base.Ns mainGlobals mg
 blt:∃mb,base.Ns builtinsNs mb/\∀x:Str,x ≠ "__name__" -> mb x=bootBuiltins x
 nolimit:base.NoLimit
 bmain:∃bm ob,mg "__builtins__" = some (.ref bm)/\bm≠builtinsNs/\base.get? bm=some ob/\ob.cls=.type "module" /\ ob.dict=some builtinsNs/\ob.data=.plain
structure Cx where
 prog:Program
 w:World
 K:Frag
 mg:Str->Option Value
 base:Heap
 A:Around
 N:List Str
 s₀:Shared
 H₀:Hp
 env:Env
 outer:List Env
 stack:List Env
 ex:List Addr
 fn:Str->Bool
 calm:Bool
 pn:List (Addr×Obj)
 xe:Value->Shared->Prop
def frs(l:List Env):List Addr:=l.filterMap (·.frame)
abbrev Cx.fs(X:Cx):List Addr:=frs X.outer
def Vis(sc:Scope)(x:Str):Prop:=sc.names.lookup x=some .local\/sc.names.lookup x=some .cell\/sc.names.lookup x=some .free
def Loc(sc:Scope)(x:Str):Prop:=sc.names.lookup x=some .local\/sc.names.lookup x=some .cell
def Look(env:Env)(h:Heap)(m:Str->Option Value)(x:Str)(u:Value):Prop:=
 (env.kindOf x=some .local/\m x=some u)\/((env.kindOf x=some .cell\/env.kindOf x=some .free)/\∃c,env.cells.lookup x=some c/\h.IsCell c (some u))
structure Cx.Ok (X:Cx):Prop where
 mod:Mod X.K X.mg X.base
 kind:X.env.scope.kind=.function
 glob:X.env.globals=mainGlobals
 blt:X.env.builtins=builtinsNs
 above:X.s₀.heap.objs.size<=X.env.locals
 inj:∀x y c,X.env.cells.lookup x=some c->X.env.cells.lookup y=some c->x=y
 has:∀x,(X.env.kindOf x=some .cell\/X.env.kindOf x=some .free)->∃c,X.env.cells.lookup x=some c
 cab:∀x c,X.fn x=true->X.env.cells.lookup x=some c->X.s₀.heap.objs.size<=c
 hd:X.calm=true->X.A.handled=none
 frames:X.A.frames=some X.stack
 stk:X.stack=X.outer\/(X.stack=X.env::X.outer/\X.env.frame=some X.env.locals)
 exf:∀b∈X.ex,b≠X.env.locals/\∀x c,X.env.cells.lookup x=some c->c≠b
 bs:∀b o,X.base.get? b=some o->X.s₀.heap.get? b=some o/\X.H₀ b=none
 bsz:X.base.objs.size<=X.s₀.heap.objs.size
 noex:∀b o,X.base.get? b=some o->b∉X.ex
 exfs:∀b∈X.ex,b∉X.fs
 funs:X.s₀.heap.FunFrames X.base X.outer
 frf:∀b∈X.fs,X.H₀ b=none
 tb:P8 X.K X.H₀
structure Inv (X:Cx) (pins:List (Addr×Obj)) (σ:List (Option V)) (H:Hp) (s:Shared):Prop where
 ok:X.Ok
 os:s.os=X.s₀.os
 bare:AllBare s.gens
 base:Un X.fs X.ex X.H₀ H X.s₀.heap s.heap
 loc:∃m,s.heap.Ns X.env.locals m/\∀(i:Nat) (x:Str) (v:V),X.N[i]? = some x -> σ[i]? = some (some v)->Vis X.env.scope x->∃u,RelV v u/\Look X.env s.heap m x u
 cell:∀x c,X.env.cells.lookup x=some c->∃v,s.heap.IsCell c v
 free:H X.env.locals=none
 freeC:∀x c,X.env.cells.lookup x=some c->H c=none
 pin:∀p∈X.pn++pins,s.heap.get? p.1=some p.2/\H p.1=none/\p.1≠X.env.locals/\p.1∉X.fs/\∀v,p.2.data≠.cell v
 hok:HOk X.prog X.w H s.heap
 len : σ.length=X.N.length
section
variable{X:Cx}{pins:List (Addr×Obj)}{σ:List (Option V)}{H H':Hp}{s:Shared}{h':Heap}
theorem Cx.Ok.nofr(ok:X.Ok){b:Addr}{o:Obj}(e:X.base.get? b=some o):b∉X.fs:=fun hb=>by
 have:=(ok.funs.mem hb).1;rw[e] at this; cases this
theorem P8.grow{K:Frag}{H H':Hp}(x:P8 K H)(h:∀b ps,H b=some (.tbl ps)->∃more,H' b=some (.tbl (ps++more))):P8 K H':=fun n q hm c P e=>by
 obtain⟨ps,e1,e2⟩:=x n q hm c P e;obtain⟨more,e3⟩:=h P ps e1;refine⟨ps++more,e3,?_⟩;have hl:0<ps.size:=by
  cases hs:ps[0]? with
  | none=>rw[hs] at e2; cases e2
  | some v=>exact(Array.getElem?_eq_some_iff.mp hs).1
 rw[Array.getElem?_append_left hl];exact e2
theorem Inv.tabs(I:Inv X pins σ H s):P8 X.K H:=I.ok.tb.grow I.base.tbls
theorem Inv.bs(I:Inv X pins σ H s):∀b o,X.base.get? b=some o->s.heap.get? b=some o/\H b=none:=fun b o e =>
 ⟨I.base.keep b o (I.ok.bs b o e).1 (I.ok.bs b o e).2 (I.ok.nofr e) (I.ok.noex b o e),I.base.free b o (I.ok.bs b o e).1 (I.ok.bs b o e).2 (I.ok.noex b o e)⟩
theorem Inv.bk(I:Inv X pins σ H s):∀b o,X.base.get? b=some o->s.heap.get? b=some o:=fun b o e=>(I.bs b o e).1
theorem Inv.mod(I:Inv X pins σ H s):Mod X.K X.mg X.base:=I.ok.mod
theorem Inv.kIn(I:Inv X pins σ H s):X.K.In s.heap:=I.ok.mod.kin.keeps I.bk
theorem Inv.lt(I:Inv X pins σ H s):X.env.locals<s.heap.objs.size:=let⟨_,hn,_⟩:=I.loc; hn.lt
theorem Inv.sz(I:Inv X pins σ H s):X.s₀.heap.objs.size<=s.heap.objs.size:=Nat.le_trans I.ok.above (Nat.le_of_lt I.lt)
theorem Inv.nofs(I:Inv X pins σ H s){a:Addr}(h:s.heap.objs.size<=a):a∉X.fs:=fun hb=>by
 obtain⟨_,o,ho,_⟩:=I.ok.funs.mem hb;exact absurd (Nat.lt_of_lt_of_le (Heap.lt_size ho) (Nat.le_trans I.sz h)) (Nat.lt_irrefl _)
theorem Inv.cne(I:Inv X pins σ H s):∀x c,X.env.cells.lookup x=some c->c≠X.env.locals:=fun x c e z=>by
 obtain⟨v,o,ho,hd⟩:=I.cell x c e;obtain⟨m,⟨o',es,ep,ho',hd',_⟩,_⟩:=I.loc;rw[z,ho'] at ho; cases ho; rw[hd'] at hd; cases hd
def Inv.funs(I:Inv X pins σ H s):s.heap.FunFrames X.base X.outer:=by
 have all:∀(l:List Env),(∀b∈frs l,b∈X.fs)->X.s₀.heap.FunFrames X.base l->s.heap.FunFrames X.base l:=by
  intro l;induction l with
  | nil=>intro _ _; trivial
  | cons env r ih =>
   intro hs hl;obtain⟨hk,⟨L,o,hf,hn,ho,hd⟩,hr⟩:=hl;have hL:L∈X.fs:=hs L (by unfold frs; rw[List.filterMap_cons,hf]; exact List.mem_cons_self);obtain⟨sl,e⟩:=I.base.slot L o ho (I.ok.frf L hL) hL fun z=>I.ok.exfs L z hL;exact⟨hk,⟨L,_,hf,hn,e,hd⟩,ih (fun b hb=>hs b (by unfold frs; rw[List.filterMap_cons,hf]; exact List.mem_cons_of_mem _ hb)) hr⟩
 exact all X.outer (fun _ hb=>hb) I.ok.funs
def Inv.stack(I:Inv X pins σ H s):s.heap.FunFrames X.base X.stack:=by
 rcases I.ok.stk with e|⟨e,hf⟩
 .rw[e]; exact I.funs
 .rw[e]
  obtain⟨m,hn,_⟩:=I.loc;refine .cons (by rw[I.ok.kind]; decide) hf hn ?_ I.funs;exact Heap.get?_none_of_le (Nat.le_trans I.ok.bsz I.ok.above)
theorem Inv.stkSub(I:Inv X pins σ H s):∀b∈frs X.stack,b∈X.env.locals::X.fs:=fun b hb=>by
 rcases I.ok.stk with e|⟨e,hf⟩
 .rw[e] at hb; exact List.mem_cons_of_mem _ hb
 .rw[e] at hb
  unfold frs at hb;rw[List.filterMap_cons,hf] at hb;exact hb
theorem Inv.stkFree(I:Inv X pins σ H s):∀b∈frs X.stack,H b=none:=fun b hb=>by
 rcases List.mem_cons.mp (I.stkSub b hb) with e|hb
 .rw[e]; exact I.free
 .obtain⟨_,o,ho,_⟩:=I.ok.funs.mem hb
  exact I.base.free b o ho (I.ok.frf b hb) fun z=>I.ok.exfs b z hb
def Inv.step{g':Array GenState}{t':Nat}{d':Drawn}{ch:List Addr}(I:Inv X pins σ H s)(hch:∀b∈ch,(b∈X.ex\/X.s₀.heap.objs.size<=b)/\b≠X.env.locals/\(∀x c,X.env.cells.lookup x=some c->c≠b)/\∀p∈X.pn++pins,p.1≠b)(keep:∀b o,b≠X.env.locals->b∉X.fs->b∉ch->s.heap.get? b=some o->H b=none->h'.get? b=some o)(slot:∀b o,b≠X.env.locals->b∈X.fs->b∉ch->s.heap.get? b=some o->H b=none->∃sl,h'.get? b=some { o with slots:=sl })(free:∀b o,b∉ch->s.heap.get? b=some o->H b=none->H' b=none)(there:∀b o,b∉ch->s.heap.get? b=some o->∃o',h'.get? b=some o')(tups:∀b xs,H b=some (.tup xs)->H' b=some (.tup xs))(frzs:∀b o u,H b=some (.frz o u)->H' b=some (.frz o u))(tbls:∀b ps,H b=some (.tbl ps)->∃more,H' b=some (.tbl (ps++more)))(ns:∀m,s.heap.Ns X.env.locals m->h'.Ns X.env.locals m)(hok:HOk X.prog X.w H' h')(hg:AllBare g'):
  Inv X pins σ H' { s with heap:=h',gens:=g',drawn:=d',toks:=t' }:=by
 have neL:∀b o,X.s₀.heap.get? b=some o->b≠X.env.locals:=fun b o e=>Nat.ne_of_lt (Nat.lt_of_lt_of_le (Heap.lt_size e) I.ok.above);have neC:∀b o,X.s₀.heap.get? b=some o->b∉X.ex->b∉ch:=fun b o e hx hb=>by
  rcases(hch b hb).1 with z|z
  .exact hx z
  .exact absurd (Nat.lt_of_lt_of_le (Heap.lt_size e) z) (Nat.lt_irrefl _)
 have cellK:∀x c,X.env.cells.lookup x=some c->∀v,s.heap.IsCell c v->h'.IsCell c v:=fun x c e v ⟨o,ho,hd⟩=>by
  have nch:c∉ch:=fun z=>(hch c z).2.2.1 x c e rfl;by_cases hc:c∈X.fs
  .obtain⟨sl,q⟩:=slot c o (I.cne x c e) hc nch ho (I.freeC x c e)
   exact⟨_,q,hd⟩
  .exact⟨o,keep c o (I.cne x c e) hc nch ho (I.freeC x c e),hd⟩
 refine⟨I.ok,I.os,hg,⟨fun b o e n hb hx=>?_,fun b o e n hb hx=>?_,fun b o e n hx=>?_,fun b o e hx=>?_,fun b xs e=>tups b xs (I.base.tups b xs e),fun b o xs e=>frzs b o xs (I.base.frzs b o xs e),fun b ps e=>?_⟩,?_,fun x c e=>?_,?_,fun x c e=>?_,fun p hp=>?_,hok,I.len⟩
 .exact keep b o (neL b o e) hb (neC b o e hx) (I.base.keep b o e n hb hx) (I.base.free b o e n hx)
 .obtain⟨sl,e1⟩:=I.base.slot b o e n hb hx
  obtain⟨sl',e2⟩:=slot b _ (neL b o e) hb (neC b o e hx) e1 (I.base.free b o e n hx);exact⟨sl',e2⟩
 .obtain⟨o',e1⟩:=I.base.there b o e hx
  exact free b o' (neC b o e hx) e1 (I.base.free b o e n hx)
 .obtain⟨o',e1⟩:=I.base.there b o e hx
  exact there b o' (neC b o e hx) e1
 .obtain⟨m1,e1⟩:=I.base.tbls b ps e
  obtain⟨m2,e2⟩:=tbls b _ e1;exact⟨m1++m2,by rw[e2,Array.append_assoc]⟩
 .obtain⟨m,hn,hl⟩:=I.loc
  refine⟨m,ns m hn,fun i x v e1 e2 e3=>?_⟩;obtain⟨u,r,l⟩:=hl i x v e1 e2 e3;refine⟨u,r,?_⟩;rcases l with l|⟨k,c,e,z⟩
  .exact .inl l
  .exact .inr ⟨k,c,e,cellK x c e _ z⟩
 .obtain⟨v,z⟩:=I.cell x c e
  exact⟨v,cellK x c e v z⟩
 .obtain⟨m,⟨o,_,_,ho,_⟩,_⟩:=I.loc
  exact free _ o (fun z=>(hch _ z).2.1 rfl) ho I.free
 .obtain⟨v,o,ho,hd⟩:=I.cell x c e
  exact free c o (fun z=>(hch c z).2.2.1 x c e rfl) ho (I.freeC x c e)
 .obtain⟨e,n,ne,nf,d⟩:=I.pin p hp
  have nch:p.1∉ch:=fun z=>(hch p.1 z).2.2.2 p hp rfl;exact⟨keep p.1 p.2 ne nf nch e n,free p.1 p.2 nch e n,ne,nf,d⟩
def Inv.un{t':Nat}(I:Inv X pins σ H s)(u:Un X.fs [] H H' s.heap h')(hok:HOk X.prog X.w H' h'):Inv X pins σ H' { s with heap:=h',toks:=t' }:=by
 obtain⟨m,⟨o,es,ep,ho,r⟩,_⟩:=id I.loc;obtain⟨sl,hL⟩:=u.any ho I.free (by simp);exact I.step (g':=s.gens) (d':=s.drawn) (ch:=[]) (fun _ z=>nomatch z) (fun b o _ hb _ e n=>u.keep b o e n hb (by simp)) (fun b o _ hb _ e n=>u.slot b o e n hb (by simp)) (fun b o _ e n=>u.free b o e n (by simp)) (fun b o _ e=>u.there b o e (by simp)) u.tups u.frzs u.tbls (fun m' hm=>by
  obtain⟨o',es',ep',ho',r'⟩:=hm;rw[ho] at ho'; cases ho';exact⟨_,es',ep',hL,r'⟩) hok I.bare
def Inv.call{g':Array GenState}{t':Nat}{d':Drawn}{ch:List Addr}(I:Inv X pins σ H s)(u:Un (frs X.stack) ch H H' s.heap h')(hok:HOk X.prog X.w H' h')(hg:AllBare g')(hch:∀b∈ch,(b∈X.ex\/X.s₀.heap.objs.size<=b)/\b≠X.env.locals/\(∀x c,X.env.cells.lookup x=some c->c≠b)/\∀p∈X.pn++pins,p.1≠b):
  Inv X pins σ H' { s with heap:=h',gens:=g',drawn:=d',toks:=t' }:=by
 obtain⟨m,⟨o,es,ep,ho,r⟩,_⟩:=id I.loc;obtain⟨sl,hL⟩:=u.any ho I.free fun z=>(hch _ z).2.1 rfl;exact I.step (ch:=ch) hch (fun b o hL hb hc e n=>u.keep b o e n (fun z=>(List.mem_cons.mp (I.stkSub b z)).elim hL hb) hc) (fun b o _ _ hc e n=>u.any e n hc) (fun b o hc e n=>u.free b o e n hc) (fun b o hc e=>u.there b o e hc) u.tups u.frzs u.tbls (fun m' hm=>by
  obtain⟨o',es',ep',ho',r'⟩:=hm;rw[ho] at ho'; cases ho';exact⟨_,es',ep',hL,r'⟩) hok hg
def Inv.turned{t':Nat}{it:Addr}(I:Inv X pins σ H s)(k:∀b o,b≠it->s.heap.get? b=some o->h'.get? b=some o)(hn:H it=none)(hL:it≠X.env.locals)(h1:it∈X.ex\/X.s₀.heap.objs.size<=it)(h2:∀x c,X.env.cells.lookup x=some c->c≠it)(h3:∀p∈X.pn++pins,p.1≠it):Inv X pins σ H { s with heap:=h',toks:=t' }:=by
 have nit:∀b u,H b=some u->b≠it:=fun b u e z=>by rw[z,hn] at e; cases e
 refine I.step (g':=s.gens) (d':=s.drawn) (ch:=[it]) (fun b hb=>?_) (fun b o _ _ hc e _=>k b o (fun z=>hc (by simp[z])) e) (fun b o _ _ hc e _=>⟨o.slots,k b o (fun z=>hc (by simp[z])) e⟩) (fun _ _ _ _ n=>n)
  (fun b o hc e=>⟨o,k b o (fun z=>hc (by simp[z])) e⟩) (fun _ _ e=>e) (fun _ _ _ e=>e) (fun b ps e=>⟨#[],by rw[e]; simp⟩) (fun m hm=>?_) (fun b u e=>?_) I.bare
 .have e:b=it:=by simpa using hb
  subst e;exact⟨h1,hL,h2,h3⟩
 .obtain⟨o,es,ep,ho,r⟩:=hm
  exact⟨o,es,ep,k _ o (Ne.symm hL) ho,r⟩
 .refine(I.hok b u e).stay (fun c v hc q=>k c v ?_ q) (fun _ q=>q) fun _ _ q=>q
  rcases hc with z|z
  .rw[z]; exact nit b u e
  .exact nit c _ z
theorem Inv.tok(I:Inv X pins σ H s)(t:Nat):Inv X pins σ H { s with toks:=t }:=I.un (h':=s.heap) (t':=t) Un.refl I.hok
theorem Inv.kept{t':Nat}(I:Inv X pins σ H s)(k:∀b u,s.heap.get? b=some u->h'.get? b=some u):Inv X pins σ H { s with heap:=h',toks:=t' }:=I.un (Un.kept k) (I.hok.kept k)
theorem Inv.laid{a:Addr}{o:HO}{t':Nat}(I:Inv X pins σ H s)(k:∀b u,s.heap.get? b=some u->h'.get? b=some u)(hp:s.heap.objs.size<=a)(new:CT X.prog X.w (upd H a o) h' a o):
  Inv X pins σ (upd H a o) { s with heap:=h',toks:=t' }:=I.un (Un.laid k hp (I.hok.fresh hp)) (I.hok.laid k hp new)
theorem Inv.write{x e:Addr}{o:HO}{t':Nat}(I:Inv X pins σ H s)(mu:Mut (H x))(he:e=x\/H e=some (.own x))(k:∀b u,b≠e->s.heap.get? b=some u->h'.get? b=some u)(heo:∃u,h'.get? e=some u)(new:CT X.prog X.w (upd H x o) h' x o):Inv X pins σ (upd H x o) { s with heap:=h',toks:=t' }:=I.un (Un.write mu he k heo) (I.hok.write mu he k heo new)
theorem Inv.pins_of{pins':List (Addr×Obj)}(I:Inv X pins σ H s)(h:∀p∈pins',s.heap.get? p.1=some p.2/\H p.1=none/\p.1≠X.env.locals/\p.1∉X.fs/\∀v,p.2.data≠.cell v):Inv X pins' σ H s:=
 ⟨I.ok,I.os,I.bare,I.base,I.loc,I.cell,I.free,I.freeC,fun p hp=>(List.mem_append.mp hp).elim (fun z=>I.pin p (List.mem_append_left _ z)) (h p),I.hok,I.len⟩
def Nv{N:List Str}(hN:N.Nodup){i j:Nat}{x:Str}(a:N[i]? = some x)(b:N[j]? = some x):i=j:=by
 obtain⟨h1,e1⟩:=List.getElem?_eq_some_iff.mp a;obtain⟨h2,e2⟩:=List.getElem?_eq_some_iff.mp b;exact(List.getElem_inj hN).mp (e1.trans e2.symm)
def QN{M:Model}{A:Around}{E:Value->Shared->Prop}{i:Nat}{x:Str}{v:V}{u:Value}{Q:Unit->Shared->Prop}(I:Inv X pins σ H s)(hN:X.N.Nodup)(hi:X.N[i]? = some x)(hx:Loc X.env.scope x)(r:RelV v u)(h:∀s',Inv X pins (σ.set i (some v)) H s'->(∃a,Heap.SameBut a s.heap s'.heap/\(a=X.env.locals\/X.env.cells.lookup x=some a))->Q () s')(hf:X.fn x=true\/X.env.scope.names.lookup x=some .local:=by first|exact .inl rfl|exact .inr rfl|assumption):wpAny M A (storeName X.env x u) Q E s:=by
 obtain⟨m,hn,hl⟩:=id I.loc;have hcls:(X.env.scope.kind==.class || (X.env.scope.kind==.module&&X.env.locals != X.env.globals))=false:=by rw[I.ok.kind]; rfl
 have hiσ:i<σ.length:=by rw[I.len]; exact(List.getElem?_eq_some_iff.mp hi).1
 have cne:=I.cne;have tracked:∀{a:Addr} {h':Heap},(∃o,s.heap.get? a=some o/\H a=none)->Heap.SameBut a s.heap h'->HOk X.prog X.w H h':=fun {a h'} ha hs b ob e=>by
  obtain⟨_,_,hfree⟩:=ha;refine(I.hok b ob e).stay (fun c w' hc q=>(hs.2 c ?_).trans q) (fun _ q=>q) fun _ _ q=>q;rintro rfl;rcases hc with rfl|hc
  .rw[hfree] at e; cases e
  .rw[hfree] at hc; cases hc
 rcases hx with hk|hk
 .refine wpAny_storeName_local hk hn (fun h' hn' hs=>?_) hcls
  obtain⟨oL,_,_,hoL,_⟩:=id hn;refine h _ ⟨I.ok,I.os,I.bare,⟨fun b o e n hb hx=>?_,fun b o e n hb hx=>?_,I.base.free,fun b o e hx=>?_,I.base.tups,I.base.frzs,I.base.tbls⟩,⟨_,hn',fun j y v' e1 e2 e3=>?_⟩,fun y c e=>?_,I.free,I.freeC,fun p hp=>?_,tracked ⟨oL,hoL,I.free⟩ hs,by simpa using I.len⟩ ⟨_,hs,.inl rfl⟩
  .exact(hs.2 b (Nat.ne_of_lt (Nat.lt_of_lt_of_le (Heap.lt_size e) I.ok.above))).trans (I.base.keep b o e n hb hx)
  .obtain⟨sl,e1⟩:=I.base.slot b o e n hb hx
   exact⟨sl,(hs.2 b (Nat.ne_of_lt (Nat.lt_of_lt_of_le (Heap.lt_size e) I.ok.above))).trans e1⟩
  .obtain⟨o',e1⟩:=I.base.there b o e hx
   exact⟨o',(hs.2 b (Nat.ne_of_lt (Nat.lt_of_lt_of_le (Heap.lt_size e) I.ok.above))).trans e1⟩
  .by_cases hj:j=i
   .subst hj
    rw[hi] at e1; cases e1;rw[List.getElem?_set_self hiσ] at e2;cases e2;exact⟨u,r,.inl ⟨hk,by simp⟩⟩
   .rw[List.getElem?_set_ne (Ne.symm hj)] at e2
    obtain⟨u',r',q⟩:=hl j y v' e1 e2 e3;refine⟨u',r',?_⟩;rcases q with ⟨k,e⟩|⟨k,c,e,z⟩
    .refine .inl ⟨k,?_⟩
     have:y≠x:=fun e=>hj (Nv hN e1 (e ▸ hi));simp[this,e]
    .exact .inr ⟨k,c,e,z.sameBut hs (cne y c e)⟩
  .obtain⟨w',z⟩:=I.cell y c e
   exact⟨w',z.sameBut hs (cne y c e)⟩
  .obtain⟨e,n,ne,nf,d⟩:=I.pin p hp
   exact⟨(hs.2 p.1 ne).trans e,n,ne,nf,d⟩
 .have hfn:X.fn x=true:=by
   rcases hf with z|z
   .exact z
   .rw[z] at hk; cases hk
  obtain⟨c,hc⟩:=I.ok.has x (.inl hk);obtain⟨w',z⟩:=I.cell x c hc;refine wpAny_storeName_cell I.ok.kind hk hc z (fun h' hc' hs=>?_);obtain⟨oc,hoc,hocd⟩:=id z;refine h { s with heap:=h' } ⟨I.ok,I.os,I.bare,⟨fun b o e n hb hx=>?_,fun b o e n hb hx=>?_,I.base.free,fun b o e hx=>?_,I.base.tups,I.base.frzs,I.base.tbls⟩,⟨m,hn.sameBut hs (Ne.symm (cne x c hc)),fun j y v' e1 e2 e3=>?_⟩,fun y c' e=>?_,I.free,I.freeC,fun p hp=>?_,tracked ⟨oc,hoc,I.freeC x c hc⟩ hs,by simpa using I.len⟩ ⟨c,hs,.inr hc⟩
  .exact(hs.2 b (Nat.ne_of_lt (Nat.lt_of_lt_of_le (Heap.lt_size e) (I.ok.cab x c hfn hc)))).trans (I.base.keep b o e n hb hx)
  .obtain⟨sl,e1⟩:=I.base.slot b o e n hb hx
   exact⟨sl,(hs.2 b (Nat.ne_of_lt (Nat.lt_of_lt_of_le (Heap.lt_size e) (I.ok.cab x c hfn hc)))).trans e1⟩
  .obtain⟨o',e1⟩:=I.base.there b o e hx
   exact⟨o',(hs.2 b (Nat.ne_of_lt (Nat.lt_of_lt_of_le (Heap.lt_size e) (I.ok.cab x c hfn hc)))).trans e1⟩
  .by_cases hj:j=i
   .subst hj
    rw[hi] at e1; cases e1;rw[List.getElem?_set_self hiσ] at e2;cases e2;exact⟨u,r,.inr ⟨.inl hk,c,hc,hc'⟩⟩
   .rw[List.getElem?_set_ne (Ne.symm hj)] at e2
    obtain⟨u',r',q⟩:=hl j y v' e1 e2 e3;refine⟨u',r',?_⟩;rcases q with q|⟨k,c',e,z'⟩
    .exact .inl q
    .refine .inr ⟨k,c',e,z'.sameBut hs ?_⟩
     rintro rfl;exact hj (Nv hN e1 (I.ok.inj _ _ _ e hc ▸ hi))
  .by_cases hcc:c'=c
   .subst hcc; exact⟨_,hc'⟩
   .obtain⟨w2,z2⟩:=I.cell y c' e
    exact⟨w2,z2.sameBut hs hcc⟩
  .obtain⟨e,n,ne,nf,d⟩:=I.pin p hp
   refine⟨(hs.2 p.1 ?_).trans e,n,ne,nf,d⟩;intro q;rw[q,hoc] at e;have q':oc=p.2:=Option.some.inj e;exact d w' (by rw[<- q']; exact hocd)
theorem Fv{M:Model}{A:Around}{E:Value->Shared->Prop}{i:Nat}{x:Str}{v:V}{u:Value}{Q:Unit->Shared->Prop}(I:Inv X pins σ H s)(hN:X.N.Nodup)(hi:X.N[i]? = some x)(hx:Loc X.env.scope x)(r:RelV v u)(h:∀s',Inv X pins (σ.set i (some v)) H s'->Q () s')(hf:X.fn x=true\/X.env.scope.names.lookup x=some .local:=by first|exact .inl rfl|exact .inr rfl|assumption):wpAny M A (storeName X.env x u) Q E s:=
 QN I hN hi hx r (fun s' I' _=>h s' I') hf
def Inv.call'{s':Shared}{ch:List Addr}(I:Inv X pins σ H s)(ho:s'.os=s.os)(u:Un (frs X.stack) ch H H' s.heap s'.heap)(hok:HOk X.prog X.w H' s'.heap)(hg:AllBare s'.gens)(hch:∀b∈ch,(b∈X.ex\/X.s₀.heap.objs.size<=b)/\b≠X.env.locals/\(∀x c,X.env.cells.lookup x=some c->c≠b)/\∀p∈X.pn++pins,p.1≠b):Inv X pins σ H' s':=by
 obtain⟨h',g',d',t',o'⟩:=s';have e:o'=s.os:=ho;subst e;exact I.call (g':=g') (t':=t') (d':=d') u hok hg hch
end
abbrev XK:=Value->Option Addr->Hp->Prop
abbrev St:=List (Option V)
abbrev VK:=V->Hp->Prop
abbrev TE:=St->Hp->VK->Prop
abbrev TT:=St->Hp->(Bool->Hp->Prop)->Prop
abbrev TA:=St->Hp->(List V->Hp->Prop)->Prop
structure Ends where
 nx:St->Hp->Prop
 rt:VK
 bk:St->Hp->Prop:=fun _ _=>False
 ct:St->Hp->Prop:=fun _ _=>False
abbrev TS:=Ends->St->Hp->Prop
def EP(X:Cx)(pins:List (Addr×Obj))(σ:St)(Q:VK)(u:Value)(s':Shared):Prop:=∃v H',Inv X pins σ H' s'/\RelV v u/\Q v H'
def TP(X:Cx)(pins:List (Addr×Obj))(σ:St)(Q:Bool->Hp->Prop)(b:Bool)(s':Shared):Prop:=∃H',Inv X pins σ H' s'/\Q b H'
def AP(X:Cx)(pins:List (Addr×Obj))(σ:St)(Q:List V->Hp->Prop)(us:List Value)(s':Shared):Prop:=∃vs H',Inv X pins σ H' s'/\Vals vs us/\Q vs H'
def SP(X:Cx)(pins:List (Addr×Obj))(D:Ends)(f:Flow)(s':Shared):Prop:=
 match f with
 | .next=>∃σ' H',Inv X pins σ' H' s'/\D.nx σ' H'
 | .brk=>∃σ' H',Inv X pins σ' H' s'/\D.bk σ' H'
 | .cont=>∃σ' H',Inv X pins σ' H' s'/\D.ct σ' H'
 | .ret u=>∃v σ' H',Inv X pins σ' H' s'/\RelV v u/\D.rt v H'
def PE(X:Cx)(e:Expr)(t:TE):Prop:=
 ∀(pins:List (Addr×Obj)) (s:Shared) (σ:St) (H:Hp) (Q:VK),Inv X pins σ H s->t σ H Q->wpAny (model X.prog X.w) X.A (eval e X.env) (EP X pins σ Q) X.xe s
def PT(X:Cx)(e:Expr)(t:TT):Prop:=
 ∀(pins:List (Addr×Obj)) (s:Shared) (σ:St) (H:Hp) (Q:Bool->Hp->Prop),Inv X pins σ H s->t σ H Q->wpAny (model X.prog X.w) X.A (isTrue e X.env (eval e X.env)) (TP X pins σ Q) X.xe s
def PW(X:Cx)(e:Expr)(t:TT):Prop:=
 ∀(whole:Sem Value) (pins:List (Addr×Obj)) (s:Shared) (σ:St) (H:Hp) (Q:Bool->Hp->Prop),Inv X pins σ H s->t σ H Q->wpAny (model X.prog X.w) X.A (isTrue e X.env whole) (TP X pins σ Q) X.xe s
theorem PW.pt{X:Cx}{e:Expr}{t:TT}(h:PW X e t):PT X e t:=h _
def PA(X:Cx)(es:List Expr)(t:TA):Prop:=
 ∀(pos:Pos) (pins:List (Addr×Obj)) (s:Shared) (σ:St) (H:Hp) (Q:List V->Hp->Prop),Inv X pins σ H s->t σ H Q->wpAny (model X.prog X.w) X.A (spliced (backTo pos (starEach es X.env))) (AP X pins σ Q) X.xe s
def PS(X:Cx)(st:Stmt)(t:TS):Prop:=
 ∀(pins:List (Addr×Obj)) (s:Shared) (σ:St) (H:Hp) (D:Ends),Inv X pins σ H s->t D σ H->wpAny (model X.prog X.w) X.A (exec st X.env) (SP X pins D) X.xe s
def PSs(X:Cx)(st:List Stmt)(t:TS):Prop:=
 ∀(pins:List (Addr×Obj)) (s:Shared) (σ:St) (H:Hp) (D:Ends),Inv X pins σ H s->t D σ H->wpAny (model X.prog X.w) X.A (execs st X.env) (SP X pins D) X.xe s
theorem thn{α:Type}{t:Sem α}{Q Q':α -> Shared->Prop}{M:Model}{A:Around}{E:Value->Shared->Prop}{s:Shared}(h:wpAny M A t Q E s)(hQ:∀a s,Q a s->Q' a s):wpAny M A t Q' E s:=wpAny_mono h hQ fun _ _ x=>x
end L2
namespace L2
open PySem PySem.Spec PyProof.Rows
section
variable{X:Cx}
def OT(i:Nat):TE:=fun σ H Q=>∃v,σ[i]? = some (some v)/\Q v H
def tC(v:V):TE:=fun _ H Q=>Q v H
def Ms{i:Nat}{x:Str}{pos:Pos}(hN:X.N[i]? = some x)(hv:Vis X.env.scope x)(hd:(x==("__debug__" : Str))=false:=by decide)(hcd:(x==("__classdict__" : Str))=false:=by decide):PE X (.Name x pos) (OT i):=by
 intro pins s σ H Q I h;obtain⟨v,e,h⟩:=h;obtain⟨m,hn,hl⟩:=I.loc;obtain⟨u,r,l⟩:=hl i x v hN e hv;have fin:EP X pins σ Q u s:=⟨v,H,I,r,h⟩;rcases l with ⟨hk,hm⟩|⟨hk,c,hc,hcell⟩
 .exact wpAny_Name (wpAny_loadName_local I.ok.kind hk hn hm fin) hd
 .rcases hk with hk|hk
  .exact wpAny_Name (wpAny_loadName_cell I.ok.kind hk hc hcell fin) hd
  .exact wpAny_Name (wpAny_loadName_free I.ok.kind hk hc hcell fin hcd) hd
theorem OF{i j pos}:PE X (.Constant (.int i) j pos) (tC (.int i)):=fun _ _ _ H _ I h=>wpAny_Constant_int ⟨.int i,H,I.tok _,⟨_,rfl⟩,h⟩
theorem Ye{b j pos}:PE X (.Constant (.bool b) j pos) (tC (.bl b)):=fun _ _ _ H _ I h=>Constant_bool ⟨.bl b,H,I,rfl,h⟩
theorem WK{j pos}:PE X (.Constant .none j pos) (tC .non):=fun _ _ _ H _ I h=>Constant_none ⟨.non,H,I,rfl,h⟩
theorem WN{x j pos}:PE X (.Constant (.str x) j pos) (tC (.str x)):=fun _ _ _ H _ I h=>Calls.Constant_str ⟨.str x,H,I.tok _,⟨_,rfl⟩,h⟩
def Gl(X:Cx)(x:Str):Prop:=X.env.kindOf x=some .globalImplicit
theorem GN{E:Value->Shared->Prop}{pins:List (Addr×Obj)}{s:Shared}{σ:St}{H:Hp}{x:Str}{u:Value}{pos:Pos}{Q:Value->Shared->Prop}(I:Inv X pins σ H s)(hg:Gl X x)(hm:X.mg x=some u)(h:Q u s)(hd:(x==("__debug__" : Str))=false:=by decide):wpAny (model X.prog X.w) X.A (eval (.Name x pos) X.env) Q E s:=
 Calls.Name_function_global I.ok.kind hg (Calls.loadGlobal_global (by rw[I.ok.glob]; exact I.mod.glob.keeps I.bk) hm h) hd
def JZ{E:Value->Shared->Prop}{pins:List (Addr×Obj)}{s:Shared}{σ:St}{H:Hp}{x:Str}{u:Value}{pos:Pos}{Q:Value->Shared->Prop}(I:Inv X pins σ H s)(hg:Gl X x)(hm:X.mg x=none)(hv:bootBuiltins x=some u)(h:Q u s)(hn:x ≠ "__name__" := by decide)(hd:(x==("__debug__" : Str))=false:=by decide):wpAny (model X.prog X.w) X.A (eval (.Name x pos) X.env) Q E s:=by
 obtain⟨mb,h1,h2⟩:=I.mod.blt;exact Calls.Name_function_global I.ok.kind hg (Calls.loadGlobal_builtin (by rw[I.ok.glob]; exact I.mod.glob.keeps I.bk) hm (by rw[I.ok.blt]; exact h1.keeps I.bk) ((h2 x hn).trans hv) h) hd
theorem Mr{x:Str}{v:V}{u:Value}{pos:Pos}(hg:Gl X x)(hm:X.mg x=some u)(r:RelV v u)(hd:(x==("__debug__" : Str))=false:=by decide):PE X (.Name x pos) (tC v):=
 fun _ _ _ H _ I h=>GN I hg hm ⟨v,H,I,r,h⟩ hd
theorem GP{x:Str}{v:V}{u:Value}{pos:Pos}(hg:Gl X x)(hm:X.mg x=none)(hv:bootBuiltins x=some u)(r:RelV v u)(hn:x ≠ "__name__" := by decide)(hd:(x==("__debug__" : Str))=false:=by decide):PE X (.Name x pos) (tC v):=
 fun _ _ _ H _ I h=>JZ I hg hm hv ⟨v,H,I,r,h⟩ hn hd
variable{a b:Expr}{ta tb:TE}{pos:Pos}
def tB(t:TE):TT:=fun σ H Q=>t σ H fun x H1=>∃c,x=.bl c/\Q c H1
def Sv{e:Expr}{t:TE}(h:PE X e t)(he:∀whole,isTrue e X.env whole=(do let v <- whole; standAt e.pos; holding [v] (truthy v)):=by intro _; rfl):PT X e (tB t):=by
 intro pins s σ H Q I hw;refine isTrue_plain (thn (h pins s σ H _ I hw) fun v s1 ⟨x,H1,I1,r1,q1⟩=>?_) (he _);obtain⟨d,rfl,q⟩:=q1;cases r1;exact wpAny_truthy_bool ⟨H1,I1,q⟩
variable{tA tB':TT}{rest:List Expr}
def tOr(t u:TT):TT:=fun σ H Q=>t σ H fun c H1=>if c=true then Q true H1 else u σ H1 Q
def Y5(t:TT):TT:=fun σ H Q=>t σ H fun c H1=>Q (!c) H1
def WW(ha:PT X a tA):PW X (.BoolOp .Or [a] pos) tA:=by
 intro wh pins s σ H Q I h;refine isTrue_or (thn (ha pins s σ H Q I h) fun c s1 e=>?_);cases c with
 | false=>exact isTrue_or_nil e
 | true=>exact e
def Yj(ha:PT X a tA)(hb:PW X (.BoolOp .Or (b::rest) pos) tB'):PW X (.BoolOp .Or (a::b::rest) pos) (tOr tA tB'):=by
 intro wh pins s σ H Q I h;refine isTrue_or (thn (ha pins s σ H _ I h) fun c s1 yy=>?_);obtain⟨H1,I1,q1⟩:=yy;cases c with
 | true=>exact⟨H1,I1,q1⟩
 | false=>exact hb wh pins s1 σ H1 Q I1 q1
def Su(ha:PT X a tA):PT X (.UnaryOp .Not a pos) (Y5 tA):=by
 intro pins s σ H Q I h;exact isTrue_not (ha pins s σ H (fun c H1=>Q (!c) H1) I h)
def Yz(ta tb:TE):TE:=fun σ H Q=>ta σ H fun x H1=>∃c,x=.bl c/\if c=true then tb σ H1 Q else Q (.bl false) H1
def Y6(ta tb:TE):TE:=fun σ H Q=>ta σ H fun x H1=>∃c,x=.bl c/\if c=true then Q (.bl true) H1 else tb σ H1 Q
def YD(ta:TE):TE:=fun σ H Q=>ta σ H fun x H1=>∃c,x=.bl c/\Q (.bl (!c)) H1
theorem WM{op}{t:TE}(h:PE X a t):PE X (.BoolOp op [a] pos) t:=fun pins s σ H Q I hw=>BoolOp_one (h pins s σ H Q I hw)
def WB(ha:PE X a ta)(hb:PE X (.BoolOp .And (b::rest) pos) tb):PE X (.BoolOp .And (a::b::rest) pos) (Yz ta tb):=by
 intro pins s σ H Q I h;refine BoolOp_and (thn (ha pins s σ H _ I h) fun v s1 yy=>?_);obtain⟨x,H1,I1,r1,q1⟩:=yy;obtain⟨c,rfl,q1⟩:=q1;cases r1;refine wpAny_truthy_bool ?_;cases c with
 | true=>exact hb pins s1 σ H1 Q I1 q1
 | false=>exact⟨.bl false,H1,I1,rfl,q1⟩
def Yh(ha:PE X a ta)(hb:PE X (.BoolOp .Or (b::rest) pos) tb):PE X (.BoolOp .Or (a::b::rest) pos) (Y6 ta tb):=by
 intro pins s σ H Q I h;refine BoolOp_or (thn (ha pins s σ H _ I h) fun v s1 yy=>?_);obtain⟨x,H1,I1,r1,q1⟩:=yy;obtain⟨c,rfl,q1⟩:=q1;cases r1;refine wpAny_truthy_bool ?_;cases c with
 | false=>exact hb pins s1 σ H1 Q I1 q1
 | true=>exact⟨.bl true,H1,I1,rfl,q1⟩
def WL(ha:PE X a ta):PE X (.UnaryOp .Not a pos) (YD ta):=by
 intro pins s σ H Q I h;refine UnaryOp_ (thn (ha pins s σ H _ I h) fun v s1 yy=>?_);obtain⟨x,H1,I1,r1,q1⟩:=yy;obtain⟨c,rfl,q1⟩:=q1;cases r1;exact not_of (wpAny_truthy_bool ⟨.bl (!c),H1,I1,rfl,q1⟩)
end
end L2
namespace L2
open PySem PySem.Spec PyProof.Rows
def SqL(K:Frag)(H:Hp)(a:Addr)(xs:List V):Prop:=
 Rd H a (.lst xs) \/
  ∃(o:Obj) (its:Array Value) (n:Nat),K.lookup a=some o/\o.cls=.type "list" /\ o.dict=none/\o.data=.seq its n/\its.size<=sizeLine/\Vals xs its.toList
def SqT(K:Frag)(H:Hp)(a:Addr)(xs:List V):Prop:=
 Rd H a (.tup xs) \/
  ∃(o:Obj) (its:Array Value) (n:Nat),K.lookup a=some o/\o.cls=.type "tuple" /\ o.data=.seq its n/\its.size<=sizeLine/\Vals xs its.toList
def YM:Value->Option V
 | .none=>some .non
 | .bool b=>some (.bl b)
 | .int i _=>some (.int i)
 | .str x _=>some (.str x)
 | .bytes b _=>some (.byt b)
 | .float b _=>some (.flt b)
 | .ref a=>some (.ref a)
 | .type n=>some (.ty n)
 | _=>none
def RelV.abs{x:V}{u:Value}(r:RelV x u):YM u=some x:=by
 cases x with
 | non=>cases r; rfl
 | bl _=>cases r; rfl
 | int _=>obtain⟨t,rfl⟩:=r; rfl
 | str _=>obtain⟨t,rfl⟩:=r; rfl
 | byt _=>obtain⟨t,rfl⟩:=r; rfl
 | flt _=>obtain⟨t,rfl⟩:=r; rfl
 | ref _=>cases r; rfl
 | ty _=>cases r; rfl
theorem RelV.inj{x y:V}{u:Value}(r:RelV x u)(q:RelV y u):x=y:=Option.some.inj (r.abs.symm.trans q.abs)
def Vals.inj{xs ys:List V}{us:List Value}(h:Vals xs us):Vals ys us->xs=ys:=by
 induction h generalizing ys with
 | nil=>intro q; cases q; rfl
 | cons r t ih =>
  intro q;cases q with
  | cons r' t'=>rw[r.inj r',ih t']
section
variable{X:Cx}{pins:List (Addr×Obj)}{σ:St}{H:Hp}{s:Shared}{a:Addr}{xs ys:List V}
def Inv.list(I:Inv X pins σ H s)(h:SqL X.K H a xs):∃its:List Value,Vals xs its/\PlainL s.heap a its.toArray/\xs.length<=sizeLine:=by
 rcases h with h|⟨o,its,n,hk,hc,hd,hs,hz,r⟩
 .obtain⟨z,its,n,r,e⟩:=h.ok I.hok
  exact⟨its,r,⟨_,n,e,rfl,rfl,rfl⟩,z⟩
 .refine⟨its.toList,r,⟨o,n,I.kIn a o hk,hc,hd,by simpa using hs⟩,?_⟩
  have e:=r.length;simp only[Array.length_toList] at e;lia
def Inv.tuple(I:Inv X pins σ H s)(h:SqT X.K H a xs):∃its:List Value,Vals xs its/\IsTup s.heap a its.toArray/\xs.length<=sizeLine:=by
 rcases h with h|⟨o,its,n,hk,hc,hs,hz,r⟩
 .obtain⟨z,its,r,p⟩:=h.ok I.hok
  exact⟨its,r,p,z⟩
 .refine⟨its.toList,r,⟨o,I.kIn a o hk,hc,n,by simpa using hs⟩,?_⟩
  have e:=r.length;simp only[Array.length_toList] at e;lia
def Inv.list_inj(I:Inv X pins σ H s)(h:SqL X.K H a xs)(h':SqL X.K H a ys):xs=ys:=by
 obtain⟨its,r,⟨o,n,e,_,_,d⟩,_⟩:=I.list h;obtain⟨its',r',⟨o',n',e',_,_,d'⟩,_⟩:=I.list h';rw[e] at e'; cases e';rw[d] at d';injection d' with d1 _;have:its=its':=by simpa using congrArg Array.toList d1
 subst this;exact r.inj r'
def Inv.tuple_inj(I:Inv X pins σ H s)(h:SqT X.K H a xs)(h':SqT X.K H a ys):xs=ys:=by
 obtain⟨its,r,⟨o,e,_,n,d⟩,_⟩:=I.tuple h;obtain⟨its',r',⟨o',e',_,n',d'⟩,_⟩:=I.tuple h';rw[e] at e'; cases e';rw[d] at d';injection d' with d1 _;have:its=its':=by simpa using congrArg Array.toList d1
 subst this;exact r.inj r'
end
abbrev Cx.wish(X:Cx)(E:Value->Shared->Prop):Cx:={ X with xe:=E }
abbrev Cx.nox(X:Cx):Cx:=X.wish fun _ _=>False
theorem Cx.Ok.wish{X:Cx}(ok:X.Ok)(E:Value->Shared->Prop):(X.wish E).Ok:=
 ⟨ok.mod,ok.kind,ok.glob,ok.blt,ok.above,ok.inj,ok.has,ok.cab,ok.hd,ok.frames,ok.stk,ok.exf,ok.bs,ok.bsz,ok.noex,ok.exfs,ok.funs,ok.frf,ok.tb⟩
theorem Cx.Ok.unwish{X:Cx}{E:Value->Shared->Prop}(ok:(X.wish E).Ok):X.Ok:=
 ⟨ok.mod,ok.kind,ok.glob,ok.blt,ok.above,ok.inj,ok.has,ok.cab,ok.hd,ok.frames,ok.stk,ok.exf,ok.bs,ok.bsz,ok.noex,ok.exfs,ok.funs,ok.frf,ok.tb⟩
section
variable{X:Cx}{pins:List (Addr×Obj)}{σ:St}{H:Hp}{s:Shared}{E:Value->Shared->Prop}
theorem Inv.wish(I:Inv X pins σ H s)(E:Value->Shared->Prop):Inv (X.wish E) pins σ H s:=⟨I.ok.wish E,I.os,I.bare,I.base,I.loc,I.cell,I.free,I.freeC,I.pin,I.hok,I.len⟩
theorem Inv.unwish(I:Inv (X.wish E) pins σ H s):Inv X pins σ H s:=⟨I.ok.unwish,I.os,I.bare,I.base,I.loc,I.cell,I.free,I.freeC,I.pin,I.hok,I.len⟩
def SP.unwish{D:Ends}{f:Flow}{s':Shared}(h:SP (X.wish E) pins D f s'):SP X pins D f s':=by
 cases f with
 | next=>obtain⟨σ',H',I,q⟩:=h; exact⟨σ',H',I.unwish,q⟩
 | brk=>obtain⟨σ',H',I,q⟩:=h; exact⟨σ',H',I.unwish,q⟩
 | cont=>obtain⟨σ',H',I,q⟩:=h; exact⟨σ',H',I.unwish,q⟩
 | ret u=>obtain⟨v,σ',H',I,r,q⟩:=h; exact⟨v,σ',H',I.unwish,r,q⟩
theorem PSs.nox{st:List Stmt}{t:TS}(h:PSs X.nox st t):PSs X st t:=fun pins s σ H D I hw =>
 wpAny_mono (h pins s σ H D (I.wish _) hw) (fun _ _ q=>q.unwish) fun _ _ z=>False.elim z
end
section
variable{X:Cx}{st:Stmt}{rest:List Stmt}{t u:TS}{e:Expr}{te:TE}{pos:Pos}
def Vq:TS:=fun D σ H=>D.nx σ H
def YI(t u:TS):TS:=fun D σ H=>t { D with nx:=u D } σ H
theorem Uw:PSs X [] Vq:=fun _ _ σ H _ I h=>wpAny_execs_nil ⟨σ,H,I,h⟩
def NF(h1:PS X st t)(h2:PSs X rest u):PSs X (st::rest) (YI t u):=by
 intro pins s σ H D I h;refine wpAny_execs_cons (thn (h1 pins s σ H { D with nx:=u D } I h) fun f s1 q=>?_);cases f with
 | next =>
  obtain⟨σ',H',I',q⟩:=q;exact h2 pins s1 σ' H' D I' q
 | ret v=>exact q
 | brk=>exact q
 | cont=>exact q
def Ux(h1:PS X st t):PSs X [st] t:=by
 intro pins s σ H D I h;refine wpAny_execs_cons (thn (h1 pins s σ H D I h) fun f s1 q=>?_);cases f with
 | next=>exact wpAny_execs_nil q
 | ret v=>exact q
 | brk=>exact q
 | cont=>exact q
def Inv.quiet{pins:List (Addr×Obj)}{σ:St}{H:Hp}{s:Shared}(I:Inv X pins σ H s):interactive X.env=false:=by simp[interactive,I.ok.kind]
def NX(te:TE):TS:=fun D σ H=>te σ H fun _ H1=>D.nx σ H1
def Jp(he:PE X e te)(hs:swapsWith e none pos.line X.env=pure false:=by rfl):PS X (.Expr e pos) (NX te):=by
 intro pins s σ H D I h;exact wpAny_Expr_any (thn (he pins s σ H _ I h) fun v s1 ⟨x,H1,I1,r1,q1⟩=>⟨σ,H1,I1,q1⟩) I.quiet hs
def YG(te:TE):TS:=fun D σ H=>te σ H D.rt
def WU(he:PE X e te):PS X (.Return (some e) pos) (YG te):=by
 intro pins s σ H D I h;exact wpAny_Return_some (thn (he pins s σ H _ I h) fun v s1 ⟨x,H1,I1,r1,q1⟩=>⟨x,σ,H1,I1,r1,q1⟩)
def Xm(c:TT)(t u:TS):TS:=fun D σ H=>c σ H fun b H1=>if b=true then t D σ H1 else u D σ H1
def So{c:Expr}{a b:List Stmt}{tc:TT}(hc:PT X c tc)(ha:PSs X a t)(hb:PSs X b u):PS X (.If c a b pos) (Xm tc t u):=by
 intro pins s σ H D I h;refine wpAny_If (thn (hc pins s σ H _ I h) fun d s1 yy=>?_);obtain⟨H1,I1,q1⟩:=yy;cases d with
 | true=>exact ha pins s1 σ H1 D I1 q1
 | false=>exact hb pins s1 σ H1 D I1 q1
end
abbrev TG:=V->St->Hp->(St->Hp->Prop)->Prop
abbrev TGs:=List V->St->Hp->(St->Hp->Prop)->Prop
def PG(X:Cx)(target:Expr)(t:TG):Prop:=
 ∀(pins:List (Addr×Obj)) (s:Shared) (σ:St) (H:Hp) (v:V) (u:Value) (Q:St->Hp->Prop),Inv X pins σ H s->RelV v u->t v σ H Q ->
  wpAny (model X.prog X.w) X.A (assign target X.env u) (fun _ s'=>∃σ' H',Inv X pins σ' H' s'/\Q σ' H') X.xe s
def PGs(X:Cx)(ts:List Expr)(t:TGs):Prop:=
 ∀(pins:List (Addr×Obj)) (s:Shared) (σ:St) (H:Hp) (vs:List V) (us:List Value) (Q:St->Hp->Prop),Inv X pins σ H s->Vals vs us->t vs σ H Q ->
  wpAny (model X.prog X.w) X.A (assignInOrder ((assignEach ts X.env).map (·.2)) us) (fun _ s'=>∃σ' H',Inv X pins σ' H' s'/\Q σ' H') X.xe s
abbrev VB:=V->V->V->Hp->(Hp->Prop)->Prop
def XF(X:Cx)(t:VB):Prop:=
 ∀(pins:List (Addr×Obj)) (s:Shared) (σ:St) (H:Hp) (o i v:V) (ov iv u:Value) (Q:Hp->Prop),Inv X pins σ H s->RelV o ov->RelV i iv->RelV v u->t o i v H Q ->
  wpAny (model X.prog X.w) X.A (setItem ov iv u) (fun _ s'=>∃H',Inv X pins σ H' s'/\Q H') X.xe s
section
variable{X:Cx}{pos:Pos}
def HF(i:Nat):TG:=fun v σ H Q=>Q (σ.set i (some v)) H
def Pt{i:Nat}{x:Str}(hN:X.N.Nodup)(hi:X.N[i]? = some x)(hx:Loc X.env.scope x)(hf:X.fn x=true\/X.env.scope.names.lookup x=some .local:=by first|exact .inl rfl|exact .inr rfl|assumption):PG X (.Name x pos) (HF i):=by
 intro pins s σ H v u Q I r h;exact wpAny_assign_Name (Fv I hN hi hx r (fun s' I'=>⟨_,H,I',h⟩) hf)
def XU:TGs:=fun vs σ H Q=>vs=[]/\Q σ H
def U8(t:TG)(u:TGs):TGs:=fun vs σ H Q=>∃v r,vs=v::r/\t v σ H fun σ' H'=>u r σ' H' Q
def Uv:PGs X [] XU:=by
 intro pins s σ H vs us Q I r h;obtain⟨e,h⟩:=h;subst e;cases r;exact assignInOrder_nil ⟨σ,H,I,h⟩
def Sj{e:Expr}{es:List Expr}{t:TG}{u:TGs}(h1:PG X e t)(h2:PGs X es u)(hs:(assignEach (e::es) X.env).map (·.2)=assign e X.env::(assignEach es X.env).map (·.2):=by rfl):PGs X (e::es) (U8 t u):=by
 intro pins s σ H vs us Q I r h;obtain⟨v,vr,e1,h⟩:=h;subst e1;cases r with
 | cons r rr =>
  rw[hs];refine assignInOrder_cons (thn (h1 pins s σ H _ _ _ I r h) fun _ s1 yy=>?_);obtain⟨σ1,H1,I1,q1⟩:=yy;exact h2 pins s1 σ1 H1 _ _ Q I1 rr q1
def VU(K:Frag)(n:Nat)(t:TGs):TG:=fun v σ H Q=>∃a xs,v=.ref a/\SqT K H a xs/\xs.length=n/\t xs σ H Q
def WQ{es:List Expr}{k:Nat}{t:TGs}{n:Nat}(hc:X.calm=true)(h:PGs X es t)(hn:(assignEach es X.env).length=n:=by rfl)(hst:(assignEach es X.env).findIdx? (·.1)=none:=by rfl):PG X (.Tuple es k pos) (VU X.K n t):=by
 intro pins s σ H v u Q I r hw;obtain⟨a,xs,e1,hq,hl,hw⟩:=hw;subst e1;cases r;obtain⟨its,rv,ht,hz⟩:=I.tuple hq;refine assign_Tuple_tuple (I.ok.hd hc) ht (by simp[hn,<- hl,rv.length]) hst fun h' hx=>?_;have I1:Inv X pins σ H { s with heap:=h' }:=I.kept (t':=s.toks) fun b o e=>hx b o (Nat.ne_of_lt (Heap.lt_size e)) e;exact h pins _ σ H xs _ Q I1 (by simpa using rv) hw
def XX(to ti:TE)(t:VB):TG:=fun v σ H Q=>to σ H fun o H1=>ti σ H1 fun i H2=>t o i v H2 fun H3=>Q σ H3
def WO{o i:Expr}{to ti:TE}{t:VB}(ho:PE X o to)(hi:PE X i ti)(hs:XF X t)(ha:∀v,assign (.Subscript o i pos) X.env v=(do
   let ov <- holding [v] (eval o X.env)
   let iv <- holding [v,ov] (eval i X.env)
   standAt pos
   holding [v,ov,iv] (setItem ov iv v)
   release [v,ov,iv] []):=by intro _; rfl):PG X (.Subscript o i pos) (XX to ti t):=by
 intro pins s σ H v u Q I r h;rw[ha];refine wpAny_bind (wpAny_holding (thn (ho pins s σ H _ I h) fun ov s1 yy=>?_));obtain⟨x,H1,I1,r1,q1⟩:=yy;refine wpAny_bind (wpAny_holding (thn (hi pins s1 σ H1 _ I1 q1) fun iv s2 yy=>?_));obtain⟨y,H2,I2,r2,q2⟩:=yy;refine wpAny_bind (wpAny_standAt (wpAny_bind (wpAny_holding (thn (hs pins s2 σ H2 x y v ov iv u _ I2 r1 r2 r q2) fun _ s3 yy=>?_))));obtain⟨H3,I3,q3⟩:=yy;exact wpAny_release ⟨σ,H3,I3,q3⟩
def OP(te:TE)(g:TG):TS:=fun D σ H=>te σ H fun x H1=>g x σ H1 D.nx
def Sn{tg e:Expr}{te:TE}{g:TG}(he:PE X e te)(hg:PG X tg g)(hs:swapsWithSole [tg] e pos.line X.env=pure false:=by rfl)(hw:swappedStores [tg] e X.env=pure none:=by rfl)(h1:(assignEach [tg] X.env).map (·.2)=[assign tg X.env]:=by rfl):PS X (.Assign [tg] e pos) (OP te g):=by
 intro pins s σ H D I h;refine wpAny_Assign_stores (thn (he pins s σ H _ I h) fun v s1 yy=>?_) hs hw;obtain⟨x,H1,I1,r1,q1⟩:=yy;rw[h1];exact thn (hg pins s1 σ H1 x v _ I1 r1 q1) fun _ s2 q=>q
def WV{i:Nat}{x:Str}{e:Expr}{te:TE}{pos':Pos}(hN:X.N.Nodup)(hi:X.N[i]? = some x)(hx:Loc X.env.scope x)(he:PE X e te)(hs:swapsWith e (some (.Name x pos')) pos.line X.env=pure false:=by rfl)(hf:X.fn x=true\/X.env.scope.names.lookup x=some .local:=by first|exact .inl rfl|exact .inr rfl|assumption):
  PS X (.Assign [.Name x pos'] e pos) (OP te (HF i)):=by
 intro pins s σ H D I h;refine wpAny_Assign_Name (thn (he pins s σ H _ I h) fun v s1 yy=>?_) hs;obtain⟨y,H1,I1,r1,q1⟩:=yy;exact Fv I1 hN hi hx r1 (fun s2 I2=>⟨_,H1,I2,q1⟩) hf
end
structure It where
 go:Nat->Hp->Prop
 yld:Nat->Hp->V->Hp->Prop
 stop:Nat->Hp->Prop
def E5(X:Cx)(pins:List (Addr×Obj))(H:Hp)(b:Addr):Prop:=
 H b=none/\b≠X.env.locals/\b∉X.fs/\(b∈X.ex\/X.s₀.heap.objs.size<=b)/\(∀x c,X.env.cells.lookup x=some c->c≠b)/\∀p∈X.pn++pins,p.1≠b
def Inv.fpOk{X:Cx}{pins:List (Addr×Obj)}{σ:St}{H H':Hp}{s:Shared}{b:Addr}(I:Inv X pins σ H s)(hb:s.heap.objs.size<=b)(hn:H' b=none):E5 X pins H' b:=by
 refine⟨hn,Nat.ne_of_gt (Nat.lt_of_lt_of_le I.lt hb),I.nofs hb,.inr (Nat.le_trans I.sz hb),fun x c e z=>?_,fun p hp z=>?_⟩
 .obtain⟨v,q⟩:=I.cell x c e
  exact absurd (Nat.lt_of_lt_of_le q.lt (by rw[z]; exact hb)) (Nat.lt_irrefl _)
 .exact absurd (Nat.lt_of_lt_of_le (Heap.lt_size (I.pin p hp).1) (by rw[z]; exact hb)) (Nat.lt_irrefl _)
structure Turn (P:Program) (w:World) (K:Frag) (tg:Expr) (J:It) (fp:List Addr) (it:Addr) (tn:Nat->Heap->Prop):Prop where
 mem:it∈fp
 obj:∀i h,tn i h->∀b∈fp,∃o,h.get? b=some o/\∀v,o.data≠.cell v
 keep:∀i h h',tn i h->(∀b∈fp,∀o,h.get? b=some o->h'.get? b=some o)->tn i h'
 item:∀(X:Cx),X.prog=P->X.w=w->X.K=K->X.calm=true->∀(i:Nat) (pins:List (Addr×Obj)) (s:Shared) (σ:St) (H:Hp) (E:Value->Shared->Prop),Inv X pins σ H s->(∀b∈fp,E5 X pins H b)->tn i s.heap->J.go i H ->
  wpAny (model P w) X.A (pyNext (.ref it)) (fun r s1=>∃u,r=some u /\
   wpAny (model P w) X.A (letOwnedTupleGo tg (.ref it) u) (fun _ s2=>∃x H',Inv X pins σ H' s2/\RelV x u/\J.yld i H x H'/\tn (i+1) s2.heap/\∀b∈fp,H' b=none) E s1) E s
 done:∀(X:Cx),X.prog=P->X.w=w->X.K=K->X.calm=true->∀(i:Nat) (pins:List (Addr×Obj)) (s:Shared) (σ:St) (H:Hp) (E:Value->Shared->Prop),Inv X pins σ H s->(∀b∈fp,E5 X pins H b)->tn i s.heap->J.stop i H ->
  wpAny (model P w) X.A (pyNext (.ref it)) (fun r s1=>r=none/\Inv X pins σ H s1) E s
 self:∀(A:Around) (i:Nat) (s:Shared) (Q:Value->Shared->Prop) (E:Value->Shared->Prop),tn i s.heap->Q (.ref it) s->wpAny (model P w) A (pyIter (.ref it)) Q E s
abbrev TI:=St->Hp->(It->Hp->Prop)->Prop
def PIE(X:Cx)(pins:List (Addr×Obj))(σ:St)(tg:Expr)(R:It->Hp->Prop)(itv:Value)(s2:Shared):Prop:=
 ∃(it:Addr) (fp:List Addr) (tn:Nat->Heap->Prop) (J:It) (H':Hp),itv=.ref it/\Inv X pins σ H' s2/\Turn X.prog X.w X.K tg J fp it tn/\tn 0 s2.heap/\(∀b∈fp,E5 X pins H' b)/\R J H'
def PI(X:Cx)(tg iter:Expr)(wi:TI):Prop:=
 ∀(pins:List (Addr×Obj)) (s:Shared) (σ:St) (H:Hp) (R:It->Hp->Prop),Inv X pins σ H s->wi σ H R ->
  wpAny (model X.prog X.w) X.A (eval iter X.env) (fun v s1=>wpAny (model X.prog X.w) X.A (pyIter v) (PIE X pins σ tg R) X.xe s1) X.xe s
def Ng{M:Model}{A:Around}{E:Value->Shared->Prop}{s:Shared}{tg:Expr}{it:Addr}{u:Value}{o:Obj}{n:String}{vs:Array Value}{Q:Unit->Shared->Prop}(ho:s.heap.get? it=some o)(hc:o.cls=.type n)(hd:o.data=.fields vs)(hn:["enumerate","zip","dict_itemiterator","dict_reverseitemiterator","odict_iterator","itertools.zip_longest","itertools.pairwise"].contains n=false)(hQ:Q () s):wpAny M A (letOwnedTupleGo tg (.ref it) u) Q E s:=by
 unfold letOwnedTupleGo;cases tg<;>first
  | exact wpAny_pure hQ
  | (cases u<;>first
    | exact wpAny_pure hQ
    | (refine wpAny_bind (wpAny_load ho ?_)
       rw[hc,hd];show wpAny M A (if (["enumerate","zip","dict_itemiterator","dict_reverseitemiterator","odict_iterator","itertools.zip_longest","itertools.pairwise"].contains n&&vs[0]? == some (rawInt _))=true then _ else _) Q E s;rw[if_neg (by intro h; rw[hn,Bool.false_and] at h; cases h)];exact wpAny_pure hQ))
def Itl(K:Frag)(a:Addr):It:=
 ⟨fun i H=>∃xs x,SqL K H a xs/\xs[i]? = some x,fun i H x H'=>H'=H/\∀xs,SqL K H a xs->xs[i]? = some x,fun i H=>∃xs,SqL K H a xs/\xs.length<=i⟩
def Itt(K:Frag)(a:Addr):It:=
 ⟨fun i H=>∃xs x,SqT K H a xs/\xs[i]? = some x,fun i H x H'=>H'=H/\∀xs,SqT K H a xs->xs[i]? = some x,fun i H=>∃xs,SqT K H a xs/\xs.length<=i⟩
def Itr(lo:Int)(n:Nat):It:=⟨fun i _=>i<n,fun i H x H'=>H'=H/\x=.int (lo+i),fun i _=>n<=i⟩
def QO{P:Program}{w:World}{K:Frag}{tg:Expr}(a it:Addr):Turn P w K tg (Itl K a) [it] it (fun i h=>h.IsListIter it a i) where
 mem:=by simp
 obj:=fun i h st b hb=>by
  have e:b=it:=by simpa using hb
  subst e;obtain⟨o,e,c,d⟩:=st;exact⟨o,e,fun v z=>by rw[d] at z; cases z⟩
 keep:=fun i h h' st k=>st.at fun o e=>k it (by simp) o e
 item:=by
  intro X hP hw hK hc i pins s σ H E I hf st hg;subst hP hw hK;obtain⟨xs,x,hq,hx⟩:=hg;obtain⟨its,rv,p,hz⟩:=I.list hq;obtain⟨u,hu,ru⟩:=rv.get hx;obtain⟨f0,f1,f2,f3,f4,f5⟩:=hf it (by simp);refine wpAny_pyNext_list_item st p.isList (x:=u) (by simpa using hu) fun h' st' sb=>?_;have I1:Inv X pins σ H { s with heap:=h' }:=I.turned (t':=s.toks) (fun b o hb e=>(sb.2 b hb).trans e) f0 f1 f3 f4 f5;obtain⟨o,e,c,d⟩:=id st';exact⟨u,rfl,Ng (s:={ s with heap:=h' }) e c d (by decide) ⟨x,H,I1,ru,⟨rfl,fun ys hy=>by rw[I.list_inj hy hq]; exact hx⟩,st',fun b hb=>(hf b hb).1⟩⟩
 done:=by
  intro X hP hw hK hc i pins s σ H E I hf st hg;subst hP hw hK;obtain⟨xs,hq,hx⟩:=hg;obtain⟨its,rv,p,hz⟩:=I.list hq;obtain⟨f0,f1,f2,f3,f4,f5⟩:=hf it (by simp);have hl:=rv.length;exact wpAny_pyNext_list_end (I.ok.hd hc) st p.isList (by simp; lia) fun h' eb=>⟨rfl,I.turned (t':=s.toks) (fun b o hb e=>eb b o hb e) f0 f1 f3 f4 f5⟩
 self:=fun _ _ _ _ _ st h=>wpAny_pyIter_listiter st h
def OV{P:Program}{w:World}{K:Frag}{tg:Expr}(a it:Addr):Turn P w K tg (Itt K a) [it] it (fun i h=>h.IsTupleIter it a i) where
 mem:=by simp
 obj:=fun i h st b hb=>by
  have e:b=it:=by simpa using hb
  subst e;obtain⟨o,e,c,d⟩:=st;exact⟨o,e,fun v z=>by rw[d] at z; cases z⟩
 keep:=fun i h h' st k=>st.at fun o e=>k it (by simp) o e
 item:=by
  intro X hP hw hK hc i pins s σ H E I hf st hg;subst hP hw hK;obtain⟨xs,x,hq,hx⟩:=hg;obtain⟨its,rv,p,hz⟩:=I.tuple hq;obtain⟨u,hu,ru⟩:=rv.get hx;obtain⟨f0,f1,f2,f3,f4,f5⟩:=hf it (by simp);refine wpAny_pyNext_tuple_item st (show s.heap.IsTuple a its.toArray from p) (x:=u) (by simpa using hu) fun h' st' sb=>?_;have I1:Inv X pins σ H { s with heap:=h' }:=I.turned (t':=s.toks) (fun b o hb e=>(sb.2 b hb).trans e) f0 f1 f3 f4 f5;obtain⟨o,e,c,d⟩:=id st';exact⟨u,rfl,Ng (s:={ s with heap:=h' }) e c d (by decide) ⟨x,H,I1,ru,⟨rfl,fun ys hy=>by rw[I.tuple_inj hy hq]; exact hx⟩,st',fun b hb=>(hf b hb).1⟩⟩
 done:=by
  intro X hP hw hK hc i pins s σ H E I hf st hg;subst hP hw hK;obtain⟨xs,hq,hx⟩:=hg;obtain⟨its,rv,p,hz⟩:=I.tuple hq;obtain⟨f0,f1,f2,f3,f4,f5⟩:=hf it (by simp);have hl:=rv.length;exact wpAny_pyNext_tuple_end (I.ok.hd hc) st (show s.heap.IsTuple a its.toArray from p) (by simp; lia) fun h' eb=>⟨rfl,I.turned (t':=s.toks) (fun b o hb e=>eb b o hb e) f0 f1 f3 f4 f5⟩
 self:=fun _ _ _ _ _ st h=>wpAny_pyIter_tupleiter st h
def OU{P:Program}{w:World}{K:Frag}{tg:Expr}(it:Addr)(lo:Int)(n:Nat):Turn P w K tg (Itr lo n) [it] it (fun i h=>IsRangeIter h it (lo+(i:Nat)*1) ((n:Int)-(i:Nat)) 1) where
 mem:=by simp
 obj:=fun i h st b hb=>by
  have e:b=it:=by simpa using hb
  subst e;exact⟨_,st,fun v z=>by
   have z':Data.fields _=Data.cell v:=z;cases z'⟩
 keep:=fun i h h' st k=>k it (by simp) _ st
 item:=by
  intro X hP hw hK hc i pins s σ H E I hf st hg;subst hP hw hK;obtain⟨f0,f1,f2,f3,f4,f5⟩:=hf it (by simp);have W:=Walks.range (prog:=X.prog) (w:=X.w) (I.ok.hd hc) it lo 1 n;refine W.item i s _ _ hg st fun v h' tk hv st' kk=>?_;obtain⟨t,rfl⟩:=hv;have I1:Inv X pins σ H { s with heap:=h',toks:=tk }:=I.turned (fun b o hb e=>kk b o (by simpa using hb) e) f0 f1 f3 f4 f5;refine⟨_,rfl,Ng (s:={ s with heap:=h',toks:=tk }) (n := "range_iterator") st' rfl rfl (by decide) ⟨.int (lo+i),H,I1,⟨t,?_⟩,⟨rfl,rfl⟩,st',fun b hb=>(hf b hb).1⟩⟩;rw[Int.mul_one]
 done:=by
  intro X hP hw hK hc i pins s σ H E I hf st hg;subst hP hw hK;obtain⟨f0,f1,f2,f3,f4,f5⟩:=hf it (by simp);exact wpAny_pyNext_range_end (I.ok.hd hc) st (by have:n<=i:=hg; lia) fun h' eb=>⟨rfl,I.turned (t':=s.toks) (fun b o hb e=>eb b o hb e) f0 f1 f3 f4 f5⟩
 self:=fun _ _ _ _ _ st h=>wpAny_pyIter_rangeiter st h
end L2
namespace L2
open PySem PySem.Spec PyProof.Rows
section
variable{X:Cx}{tg:Expr}
def Sz{pins:List (Addr×Obj)}{σ:St}{H:Hp}{s:Shared}{R:It->Hp->Prop}{E:Value->Shared->Prop}{lo hi:Int}{t u v:Tok}{tk:Nat}(I:Inv X pins σ H s)(h1 : -(2 ^ 62)<=lo)(h2:lo<2 ^ 62)(h3 : -(2 ^ 62)<=hi)(h4:hi<2 ^ 62)(q:R (Itr lo (hi-lo).toNat) H):wpAny (model X.prog X.w) X.A (pyIter (.ref s.heap.objs.size)) (PIE X pins σ tg R) E { s with heap:=s.heap.push { cls:=.type "range",data:=.fields #[.int lo t,.int hi u,.int 1 v] },toks:=tk }:=by
 refine wpAny_pyIter_range (IsRange.new ..) (small_one h1 h2 h3 h4) ?_;have I1:Inv X pins σ H { s with heap:=s.heap.push { cls:=.type "range",data:=.fields #[.int lo t,.int hi u,.int 1 v] },toks:=tk }:=I.kept fun b o e=>Heap.get?_push_of_some _ e;refine⟨(s.heap.push { cls:=.type "range",data:=.fields #[.int lo t,.int hi u,.int 1 v] }).objs.size,[(s.heap.push { cls:=.type "range",data:=.fields #[.int lo t,.int hi u,.int 1 v] }).objs.size],_,_,H,rfl,
  I1.kept (t':=tk) fun b o e=>Heap.get?_push_of_some _ e,OU _ lo (hi-lo).toNat,?_,fun b hb=>?_,q⟩
 .have e1:lo+((0:Nat):Int)*1=lo:=by simp
  have e2:(((hi-lo).toNat:Nat):Int)-((0:Nat):Int)=Builtin.Range.rangeSize lo hi 1:=by rw[rangeSize_one]; split<;>lia
  show IsRangeIter _ _ (lo+((0:Nat):Int)*1) ((((hi-lo).toNat:Nat):Int)-((0:Nat):Int)) 1;rw[e1,e2];exact Heap.get?_push_size _ rfl
 .have e:b=(s.heap.push { cls:=.type "range",data:=.fields #[.int lo t,.int hi u,.int 1 v] }).objs.size:=by simpa using hb
  subst e;exact I1.fpOk (Nat.le_refl _) (I1.hok.fresh (Nat.le_refl _))
def Rm(ta:TA):TI:=fun σ H R=>ta σ H fun vs H1=>∃j:Int,vs=[.int j]/\-(2 ^ 62)<=j/\j<2 ^ 62/\R (Itr 0 j.toNat) H1
def Qz{a:Expr}{ta:TA}{p pos:Pos}(hg:Gl X "range")(hm:X.mg "range" = none)(ha:PA X [a] ta)(hs:starEach [a] X.env=[(false,eval a X.env)]:=by rfl):PI X tg (.Call (.Name "range" p) [a] [] pos) (Rm ta):=by
 intro pins s σ H R I h;refine Call_ (JZ I hg hm boot_range (PyProof.Rows.callWith_type1 (thn (ha pos pins s σ H _ I h) fun us s1 ⟨vs,H1,I1,r1,q1⟩=>?_) hs rfl));obtain⟨j,e,q1,q2,q⟩:=q1;subst e;cases r1 with
 | cons r rr =>
  cases rr;obtain⟨t,rfl⟩:=r;exact call_range_1 (Sz I1 (by lia) (by lia) q1 q2 (by simpa using q))
def YB(wi:TI)(g:TG)(tb:TS):TS:=fun D σ H=>wi σ H fun J H1=>∃W:Nat->Nat->St->Hp->Prop,(∃m,W 0 m σ H1)/\∀i m σ H,W i m σ H ->
 (J.stop i H/\D.nx σ H)\/(J.go i H/\∃N:St->Hp->Prop,(∀σ' H',N σ' H'->∃m',m'<m/\W (i+1) m' σ' H')/\∀x H',J.yld i H x H'->g x σ H' fun σ2 H2=>tb { D with nx:=N,ct:=N,bk:=D.nx } σ2 H2)
def IG(fp:List Addr)(h:Heap):List (Addr×Obj):=fp.filterMap fun b=>(h.get? b).map fun o=>(b,o)
theorem D8{fp:List Addr}{h:Heap}{b:Addr}{o:Obj}(hb:b∈fp)(e:h.get? b=some o):(b,o)∈IG fp h:=List.mem_filterMap.mpr ⟨b,hb,by rw[e]; rfl⟩
def Qr{fp:List Addr}{h:Heap}{p:Addr×Obj}(hp:p∈IG fp h):p.1∈fp/\h.get? p.1=some p.2:=by
 obtain⟨b,hb,e⟩:=List.mem_filterMap.mp hp;cases q:h.get? b with
 | none=>rw[q] at e; cases e
 | some o =>
  rw[q] at e;have e':(b,o)=p:=Option.some.inj e;subst e';exact⟨hb,q⟩
theorem Inv.pinned{pins:List (Addr×Obj)}{σ:St}{H:Hp}{s:Shared}{fp:List Addr}(I:Inv X pins σ H s)(hf:∀b∈fp,E5 X pins H b)(ho:∀b∈fp,∃o,s.heap.get? b=some o/\∀v,o.data≠.cell v):Inv X (pins++IG fp s.heap) σ H s:=
 I.pins_of fun p hp=>(List.mem_append.mp hp).elim (fun z=>I.pin p (List.mem_append_right _ z)) fun z=>by
  obtain⟨hb,e⟩:=Qr z;obtain⟨f0,f1,f2,_⟩:=hf p.1 hb;obtain⟨o,e',d⟩:=ho p.1 hb;rw[e] at e'; cases e';exact⟨e,f0,f1,f2,d⟩
theorem Inv.unpinned{pins pl:List (Addr×Obj)}{σ:St}{H:Hp}{s:Shared}(I:Inv X (pins++pl) σ H s):Inv X pins σ H s:=I.pins_of fun p hp=>I.pin p (List.mem_append_right _ (List.mem_append_left _ hp))
def WT{iter:Expr}{body:List Stmt}{wi:TI}{g:TG}{tb:TS}{pos:Pos}(hp:PassesOwn (model X.prog X.w) X.A X.env X.xe)(hc:X.calm=true)(hi:PI X tg iter wi)(hg:PG X tg g)(hb:PSs X body tb)(hs:∀x,foldedSetIterable iter X.env x=pure x:=by intro _; rfl):PS X (.For tg iter body [] pos) (YB wi g tb):=by
 intro pins s σ H D I h;refine wpAny_For (thn (hi pins s σ H _ I h) fun v s1 h1=>thn h1 fun itv s2 h2=>?_) hs;obtain⟨it,fp,tn,J,H2,e,I2,T,st2,f2,W,⟨m0,w0⟩,turn⟩:=h2;subst e
 -- what stays true of the iterator's objects through the loop
 have stat:∀{H':Hp},(∀b∈fp,H' b=none)->∀b∈fp,E5 X pins H' b:=fun hn b hb=>⟨hn b hb,(f2 b hb).2⟩;refine codeAny_forLoop_any (fun n s'=>∃i σ' H',Inv X pins σ' H' s'/\tn i s'.heap/\(∀b∈fp,H' b=none)/\W i n σ' H') ?_ m0 ⟨0,σ,H2,I2,st2,fun b hb=>(f2 b hb).1,w0⟩;rintro n s3 ⟨i,σ3,H3,I3,st3,fr3,w3⟩;rcases turn i n σ3 H3 w3 with ⟨stop,qn⟩|⟨go,N,hN,step⟩
 .refine wpAny_passesOwn hp (thn (T.done X rfl rfl rfl hc i pins s3 σ3 H3 X.xe I3 (stat fr3) st3 stop) fun r s4 yy=>?_)
  obtain⟨hr,I4⟩:=yy;subst hr;exact wpAny_execs_nil ⟨σ3,H3,I4,qn⟩
 .refine wpAny_passesOwn hp (thn (T.item X rfl rfl rfl hc i pins s3 σ3 H3 X.xe I3 (stat fr3) st3 go) fun r s4 yy=>?_)
  obtain⟨u,hr,h4⟩:=yy;subst hr;refine wpAny_passesOwn hp (thn h4 fun _ s5 yy=>?_);obtain⟨x,H5,I5,r5,y5,st5,fr5⟩:=yy;have I5':=I5.pinned (stat fr5) (T.obj _ _ st5);refine wpAny_passesOwn hp (thn (hg _ s5 σ3 H5 x u _ I5' r5 (step x H5 y5)) fun _ s6 yy=>?_);obtain⟨σ6,H6,I6,q6⟩:=yy;refine wpAny_passesOwn hp (thn (hb _ s6 σ6 H6 _ I6 q6) fun f s7 q7=>?_);have again:∀{σ7:St} {H7:Hp},Inv X (pins++IG fp s5.heap) σ7 H7 s7->N σ7 H7->∃m,m<n/\∃i σ' H',Inv X pins σ' H' s7/\tn i s7.heap/\(∀b∈fp,H' b=none)/\W i m σ' H':=fun {σ7 H7} I7 n7=>by
   obtain⟨m',hm,w7⟩:=hN σ7 H7 n7;refine⟨m',hm,i+1,σ7,H7,I7.unpinned,T.keep _ _ _ st5 fun b hb o e=>(I7.pin (b,o) (List.mem_append_right _ (List.mem_append_right _ (D8 hb e)))).1,fun b hb=>?_,w7⟩;obtain⟨o,e,d⟩:=T.obj _ _ st5 b hb;exact(I7.pin (b,o) (List.mem_append_right _ (List.mem_append_right _ (D8 hb e)))).2.1
  cases f with
  | next=>obtain⟨σ7,H7,I7,n7⟩:=q7; exact again I7 n7
  | cont=>obtain⟨σ7,H7,I7,n7⟩:=q7; exact again I7 n7
  | brk=>obtain⟨σ7,H7,I7,q7⟩:=q7; exact⟨σ7,H7,I7.unpinned,q7⟩
  | ret v=>obtain⟨x7,σ7,H7,I7,r7,q7⟩:=q7; exact⟨x7,σ7,H7,I7.unpinned,r7,q7⟩
end
end L2
namespace L2
open PySem PySem.Spec PyProof.Rows
abbrev R2:=V->V->Hp->VK->Prop
def OpR(X:Cx)(f:Value->Value->Sem Value)(r:R2):Prop:=
 ∀(pins:List (Addr×Obj)) (s:Shared) (σ:St) (H:Hp) (x y:V) (v u:Value) (Q:VK),Inv X pins σ H s->RelV x v->RelV y u->r x y H Q ->
  wpAny (model X.prog X.w) X.A (f v u) (EP X pins σ Q) X.xe s
def UnR(X:Cx)(f:Value->Sem Value)(r:V->Hp->VK->Prop):Prop:=
 ∀(pins:List (Addr×Obj)) (s:Shared) (σ:St) (H:Hp) (x:V) (v:Value) (Q:VK),Inv X pins σ H s->RelV x v->r x H Q ->
  wpAny (model X.prog X.w) X.A (f v) (EP X pins σ Q) X.xe s
def CF(X:Cx)(f:Value)(r:List V->Hp->VK->Prop):Prop:=
 ∀(pins:List (Addr×Obj)) (s:Shared) (σ:St) (H:Hp) (xs:List V) (us:List Value) (Q:VK),Inv X pins σ H s->Vals xs us->r xs H Q ->
  wpAny (model X.prog X.w) X.A (call f us) (EP X pins σ Q) X.xe s
def tOp(r:R2)(ta tb:TE):TE:=fun σ H Q=>ta σ H fun x H1=>tb σ H1 fun y H2=>r x y H2 Q
def tUn(r:V->Hp->VK->Prop)(ta:TE):TE:=fun σ H Q=>ta σ H fun x H1=>r x H1 Q
def rI(C:Int->Int->Prop)(g:Int->Int->V):R2:=fun x y H Q=>∃i j,x=.int i/\y=.int j/\C i j/\Q (g i j) H
def rI0(g:Int->Int->V):R2:=fun x y H Q=>∃i j,x=.int i/\y=.int j/\Q (g i j) H
def rU(g:Int->V):V->Hp->VK->Prop:=fun x H Q=>∃i,x=.int i/\Q (g i) H
section
variable{X:Cx}{a b c:Expr}{ta tb tc:TE}{pos:Pos}
def VI(ha:PE X a ta)(hb:PE X b tb){pins:List (Addr×Obj)}{s:Shared}{σ:St}{H:Hp}{R:V->V->Hp->Prop}(I:Inv X pins σ H s)(h:ta σ H fun x H1=>tb σ H1 fun y H2=>R x y H2){Q:Value->Shared->Prop}{f:Value->Value->Sem Value}(hf:∀v u s2 x y H2,Inv X pins σ H2 s2->RelV x v->RelV y u->R x y H2->wpAny (model X.prog X.w) X.A (f v u) Q X.xe s2):
  wpAny (model X.prog X.w) X.A (eval a X.env) (fun v s₁=>wpAny (model X.prog X.w) X.A (eval b X.env) (fun u s₂=>wpAny (model X.prog X.w) X.A (f v u) Q X.xe s₂) X.xe s₁) X.xe s:=by
 refine thn (ha pins s σ H _ I h) fun v s1 yy=>?_;obtain⟨x,H1,I1,r1,q1⟩:=yy;refine thn (hb pins s1 σ H1 _ I1 q1) fun u s2 yy=>?_;obtain⟨y,H2,I2,r2,q2⟩:=yy;exact hf v u s2 x y H2 I2 r1 r2 q2
def Yg{op:Operator}{r:R2}(ho:OpR X (binaryOp op) r)(ha:PE X a ta)(hb:PE X b tb):PE X (.BinOp a op b pos) (tOp r ta tb):=by
 intro pins s σ H Q I h;exact wpAny_BinOp (VI ha hb I h fun v u s2 x y H2 I2 rx ry q=>ho pins s2 σ H2 x y v u Q I2 rx ry q)
def Yi{op:UnaryOp}{r:V->Hp->VK->Prop}(ho:UnR X (unaryOp op) r)(ha:PE X a ta):PE X (.UnaryOp op a pos) (tUn r ta):=by
 intro pins s σ H Q I h;exact UnaryOp_ (thn (ha pins s σ H _ I h) fun v s1 ⟨x,H1,I1,r1,q1⟩=>ho pins s1 σ H1 x v Q I1 r1 q1)
def opI{f:Value->Value->Sem Value}{C:Int->Int->Prop}{g:Int->Int->Int}(rule:∀(i j:Int) (t u:Tok) (s:Shared) (Q:Value->Shared->Prop) (E:Value->Shared->Prop),C i j->Q (.int (g i j) s.toks) { s with toks:=s.toks+1 }->wpAny (model X.prog X.w) X.A (f (.int i t) (.int j u)) Q E s):
  OpR X f (rI C fun i j=>.int (g i j)):=by
 intro pins s σ H x y v u Q I rx ry h;obtain⟨i,j,rfl,rfl,hc,q⟩:=h;obtain⟨t,rfl⟩:=rx;obtain⟨t',rfl⟩:=ry;exact rule i j t t' s _ _ hc ⟨.int (g i j),H,I.tok _,⟨_,rfl⟩,q⟩
def Ul{f:Value->Value->Sem Value}{g:Int->Int->Int}(rule:∀(i j:Int) (t u:Tok) (s:Shared) (Q:Value->Shared->Prop) (E:Value->Shared->Prop),Q (.int (g i j) s.toks) { s with toks:=s.toks+1 }->wpAny (model X.prog X.w) X.A (f (.int i t) (.int j u)) Q E s):
  OpR X f (rI0 fun i j=>.int (g i j)):=by
 intro pins s σ H x y v u Q I rx ry h;obtain⟨i,j,rfl,rfl,q⟩:=h;obtain⟨t,rfl⟩:=rx;obtain⟨t',rfl⟩:=ry;exact rule i j t t' s _ _ ⟨.int (g i j),H,I.tok _,⟨_,rfl⟩,q⟩
def Uk{f:Value->Value->Sem Value}{g:Int->Int->Bool}(rule:∀(i j:Int) (t u:Tok) (s:Shared) (Q:Value->Shared->Prop) (E:Value->Shared->Prop),Q (.bool (g i j)) s->wpAny (model X.prog X.w) X.A (f (.int i t) (.int j u)) Q E s):
  OpR X f (rI0 fun i j=>.bl (g i j)):=by
 intro pins s σ H x y v u Q I rx ry h;obtain⟨i,j,rfl,rfl,q⟩:=h;obtain⟨t,rfl⟩:=rx;obtain⟨t',rfl⟩:=ry;exact rule i j t t' s _ _ ⟨.bl (g i j),H,I,rfl,q⟩
theorem fdB{x y:Int}(h:y.natAbs<1099511627776):Builtin.divisionGoesByPylong x y=false:=PyProof.noPylong_of_log2 (by
 by_cases h0:y.natAbs=0
 .rw[h0]; decide
 .have h1:y.natAbs<2 ^ 40:=by simpa using h
  have:=(Nat.log2_lt h0).mpr h1;omega)
def Vz(i j:Int):Prop:=0<j/\j<1099511627776
def P7(i j:Int):Prop:=0<=j/\j<=1000000/\i.natAbs<2 ^ 64
def Th(i j:Int):Prop:=(-(2 ^ 64)<i/\i<2 ^ 64)\/(-(2 ^ 64)<j/\j<2 ^ 64)
def Th.ok{i j:Int}(h:Th i j):IntMulOk i j:=by
 rcases h with ⟨h1,h2⟩|⟨h1,h2⟩
 .exact .of_left (intBits_le_64 h1 h2)
 .exact .of_right (intBits_le_64 h1 h2)
def OW(k:Nat):(0:Int)<=2 ^ k:=by
 rw[two_pow_cast];exact Int.natCast_nonneg _
theorem Wx:OpR X (binaryOp .Add) (rI0 fun i j=>.int (i+j)):=Ul fun _ _ _ _ _ _ _ q=>add_int q
theorem Hm:OpR X (binaryOp .Sub) (rI0 fun i j=>.int (i-j)):=Ul fun _ _ _ _ _ _ _ q=>sub_int q
theorem Ml:OpR X (binaryOp .Mult) (rI Th fun i j=>.int (i*j)):=opI fun _ _ _ _ _ _ _ hc q=>mul_int q hc.ok
theorem Po:OpR X (binaryOp .FloorDiv) (rI Vz fun i j=>.int (i / j)):=opI fun i j _ _ _ _ _ hc q=>by
 have h1:(0:Int)<j:=hc.1;have h2:j<1099511627776:=hc.2;exact floordiv_int (by lia) (by rw[Int.fdiv_eq_ediv_of_nonneg i (by lia)]; exact q) (.inl (fdB (by lia)))
theorem IF:OpR X (binaryOp .Mod) (rI (fun _ j=>0<j) fun i j=>.int (i % j)):=opI fun i j _ _ _ _ _ hc q=>by
 have h1:(0:Int)<j:=hc;exact mod_int' (by lia) (by rw[Int.fmod_eq_emod_of_nonneg i (by lia)]; exact q)
theorem J8:OpR X (binaryOp .Pow) (rI P7 fun i j=>.int (i ^ j.toNat)):=opI fun _ _ _ _ _ _ _ hc q=>pow_int_small hc.1 hc.2.1 hc.2.2 q
theorem Mm:OpR X (binaryOp .LShift) (rI P7 fun i j=>.int (i*2 ^ j.toNat)):=opI fun _ _ _ _ _ _ _ hc q=>lshift_int_small hc.1 hc.2.1 hc.2.2 q
theorem Sa:OpR X (binaryOp .RShift) (rI (fun _ j=>0<=j) fun i j=>.int (i / 2 ^ j.toNat)):=opI fun i j _ _ _ _ _ hc q =>
 rshift_int hc (by rw[Int.fdiv_eq_ediv_of_nonneg i (OW _)]; exact q)
theorem R7:OpR X (binaryOp .BitAnd) (rI0 fun i j=>.int (Builtin.bitAnd i j)):=Ul fun _ _ _ _ _ _ _ q=>and_int q
theorem Yd:OpR X (binaryOp .BitOr) (rI0 fun i j=>.int (Builtin.bitOr i j)):=Ul fun _ _ _ _ _ _ _ q=>or_int q
def unI{f:Value->Sem Value}{g:Int->Int}(rule:∀(i:Int) (t:Tok) (s:Shared) (Q:Value->Shared->Prop) (E:Value->Shared->Prop),Q (.int (g i) s.toks) { s with toks:=s.toks+1 }->wpAny (model X.prog X.w) X.A (f (.int i t)) Q E s):
  UnR X f (rU fun i=>.int (g i)):=by
 intro pins s σ H x v Q I rx h;obtain⟨i,rfl,q⟩:=h;obtain⟨t,rfl⟩:=rx;exact rule i t s _ _ ⟨.int (g i),H,I.tok _,⟨_,rfl⟩,q⟩
theorem Ep:UnR X (unaryOp .USub) (rU fun i=>.int (-i)):=unI fun _ _ _ _ _ q=>neg_int q
end
def Xb:V->V->Bool
 | .non,.non=>true | .non,.int _=>true | .int _,.non=>true | .non,.bl _=>true | .bl _,.non=>true | .non,.str _=>true | .str _,.non=>true
 | .int _,.int _=>true | .bl _,.bl _=>true | .str _,.str _=>true | .byt _,.byt _=>true
 | .int _,.str _=>true | .str _,.int _=>true | .bl _,.str _=>true | .str _,.bl _=>true
 | _,_=>false
section
variable{X:Cx}{a b c:Expr}{ta tb tc:TE}{pos:Pos}
def LS{pins:List (Addr×Obj)}{σ:St}{H:Hp}{s:Shared}{Q:VK}{k k':Bool}(I:Inv X pins σ H s)(q:Q (.bl k) H)(e:k=k'):EP X pins σ Q (.bool k') s:=by
 subst e;exact⟨.bl k,H,I,rfl,q⟩
theorem Yc:OpR X (compareOp .Lt) (rI0 fun i j=>.bl (decide (i<j))):=Uk fun _ _ _ _ _ _ _ q=>lt_int q
theorem Yb:OpR X (compareOp .LtE) (rI0 fun i j=>.bl (decide (i<=j))):=Uk fun _ _ _ _ _ _ _ q=>le_int q
theorem Vh:OpR X (compareOp .Gt) (rI0 fun i j=>.bl (decide (j<i))):=Uk fun _ _ _ _ _ _ _ q=>gt_int q
theorem Ya:OpR X (compareOp .GtE) (rI0 fun i j=>.bl (decide (j<=i))):=Uk fun _ _ _ _ _ _ _ q=>ge_int q
def Qv:OpR X (compareOp .Lt) (fun x y H Q=>∃i j,x=.str i/\y=.str j/\Q (.bl (decide (i.cps.toList<j.cps.toList))) H):=by
 intro pins s σ H x y v u Q I rx ry h;obtain⟨i,j,rfl,rfl,q⟩:=h;obtain⟨t,rfl⟩:=rx;obtain⟨t',rfl⟩:=ry;exact lt_str (LS I q rfl)
def Qt:OpR X (compareOp .In) (fun x y H Q=>∃i j,x=.str i/\y=.str j/\Q (.bl (!(Builtin.Str.occurrences j i 0 j.length 1).isEmpty)) H):=by
 intro pins s σ H x y v u Q I rx ry h;obtain⟨i,j,rfl,rfl,q⟩:=h;obtain⟨t,rfl⟩:=rx;obtain⟨t',rfl⟩:=ry;exact in_str (LS I q rfl)
def R8:OpR X (compareOp .Is) (fun x y H Q=>y=.non/\Q (.bl (decide (x=.non))) H):=by
 intro pins s σ H x y v u Q I rx ry h;obtain⟨rfl,q⟩:=h;cases ry;refine is_none_gen (LS I q ?_);cases x<;>first
  | (cases rx; rfl)
  | (obtain⟨t,rfl⟩:=rx; rfl)
def OpR.or{f:Value->Value->Sem Value}{r r':R2}(h:OpR X f r)(h':OpR X f r'):OpR X f (fun x y H Q=>r x y H Q\/r' x y H Q):=by
 intro pins s σ H x y v u Q I rx ry q;rcases q with q|q
 .exact h pins s σ H x y v u Q I rx ry q
 .exact h' pins s σ H x y v u Q I rx ry q
def A4(b:Expr){op:CmpOp}(h:op≠.In:=by decide)(h2:op≠.NotIn:=by decide):behindInMarks op b=false:=by
 have e1:(op==CmpOp.In)=false:=by cases op<;>first|rfl|exact absurd rfl h
 have e2:(op==CmpOp.NotIn)=false:=by cases op<;>first|rfl|exact absurd rfl h2
 cases b with
 | Set elts k pos =>
  show(k==0&&(op==.In || op==.NotIn)&&elts.all (constantsAlone 8))=false;rw[e1,e2,Bool.or_self,Bool.and_false,Bool.false_and]
 | _=>rfl
def Ur{op:CmpOp}{r:R2}(ho:OpR X (compareOp op) r)(ha:PE X a ta)(hb:PE X b tb)(hm:behindInMarks op b=false):PE X (.Compare a [op] [b] pos) (tOp r ta tb):=by
 intro pins s σ H Q I h;exact wpAny_Compare1 (VI ha hb I h fun v u s2 x y H2 I2 rx ry q=>ho pins s2 σ H2 x y v u Q I2 rx ry q) hm
def Vr(t:TE):TT:=fun σ H Q=>t σ H fun x H'=>∃k,x=.bl k/\Q k H'
def Uy{op:CmpOp}{r:R2}(ho:OpR X (compareOp op) r)(ha:PE X a ta)(hb:PE X b tb)(hm:behindInMarks op b=false):PT X (.Compare a [op] [b] pos) (Vr (tOp r ta tb)):=by
 intro pins s σ H Q I h;refine wpAny_isTrue_Compare1 (thn (ha pins s σ H _ I h) fun v s1 yy=>?_) hm;obtain⟨x,H1,I1,r1,q1⟩:=yy;refine thn (hb pins s1 σ H1 _ I1 q1) fun u s2 yy=>?_;obtain⟨y,H2,I2,r2,q2⟩:=yy;refine thn (ho pins s2 σ H2 x y v u _ I2 r1 r2 q2) fun c s3 yy=>?_;obtain⟨z,H3,I3,r3,k,e,q3⟩:=yy;subst e;cases r3;exact wpAny_truthy_bool ⟨H3,I3,q3⟩
def OQ(r r':R2)(ta tb tc:TE):TE:=fun σ H Q=>ta σ H fun x H1=>tb σ H1 fun y H2=>r x y H2 fun z H3=>∃k,z=.bl k /\
 (if k=true then tc σ H3 fun w' H4=>r' y w' H4 Q else Q (.bl false) H3)
def Sd{op op':CmpOp}{r r':R2}(ho:OpR X (compareOp op) r)(ho':OpR X (compareOp op') r')(ha:PE X a ta)(hb:PE X b tb)(hc:PE X c tc)(hm:lastMarks [op,op'] [b,c]=false:=by with_unfolding_all rfl):PE X (.Compare a [op,op'] [b,c] pos) (OQ r r' ta tb tc):=by
 intro pins s σ H Q I h;refine Compare_chain (thn (ha pins s σ H _ I h) fun v s1 yy=>?_) hm;obtain⟨x,H1,I1,r1,q1⟩:=yy;refine chain_link (thn (hb pins s1 σ H1 _ I1 q1) fun u s2 yy=>?_);obtain⟨y,H2,I2,r2,q2⟩:=yy;refine thn (ho pins s2 σ H2 x y v u _ I2 r1 r2 q2) fun d s3 yy=>?_;obtain⟨z,H3,I3,r3,k,e,q3⟩:=yy;subst e;cases r3;refine wpAny_truthy_bool ?_;cases k with
 | false=>exact ite_ff ⟨.bl false,H3,I3,rfl,q3⟩
 | true=>exact ite_tt (chain_last (thn (hc pins s3 σ H3 _ I3 q3) fun w' s4 ⟨z',H4,I4,r4,q4⟩=>ho' pins s4 σ H4 y z' u w' Q I4 r2 r4 q4))
def Ss{op op':CmpOp}{r r':R2}(ho:OpR X (compareOp op) r)(ho':OpR X (compareOp op') r')(ha:PE X a ta)(hb:PE X b tb)(hc:PE X c tc)(hm:lastMarks [op,op'] [b,c]=false:=by with_unfolding_all rfl):PT X (.Compare a [op,op'] [b,c] pos) (Vr (OQ r r' ta tb tc)):=by
 intro pins s σ H Q I h;refine isTrue_chain (thn (ha pins s σ H _ I h) fun v s1 yy=>?_) hm;obtain⟨x,H1,I1,r1,q1⟩:=yy;refine test_link (thn (hb pins s1 σ H1 _ I1 q1) fun u s2 yy=>?_);obtain⟨y,H2,I2,r2,q2⟩:=yy;refine thn (ho pins s2 σ H2 x y v u _ I2 r1 r2 q2) fun d s3 yy=>?_;obtain⟨z,H3,I3,r3,k,e,q3⟩:=yy;subst e;cases r3;refine wpAny_truthy_bool ?_;cases k with
 | false =>
  obtain⟨k',e',q'⟩:=q3;cases e';exact ite_ff ⟨H3,I3,q'⟩
 | true =>
  refine ite_tt (test_last (thn (hc pins s3 σ H3 _ I3 q3) fun w' s4 ⟨z',H4,I4,r4,q4⟩=>thn (ho' pins s4 σ H4 y z' u w' _ I4 r2 r4 q4) fun d' s5 yy=>?_));obtain⟨z2,H5,I5,r5,k2,e2,q5⟩:=yy;subst e2;cases r5;exact wpAny_truthy_bool ⟨H5,I5,q5⟩
def Iw:(sizeLine:Nat)<2 ^ 63:=by rw[sizeLine_eq]; decide
def OD:OpR X (binaryOp .Add) (fun x y H Q=>∃i j,x=.str i/\y=.str j/\i.length+j.length<=sizeLine/\Q (.str (i++j)) H):=by
 intro pins s σ H x y v u Q I rx ry h;obtain⟨i,j,rfl,rfl,hz,q⟩:=h;obtain⟨t,rfl⟩:=rx;obtain⟨t',rfl⟩:=ry;exact add_str (fun t' tk=>⟨.str (i++j),H,I.tok _,⟨_,rfl⟩,q⟩) hz
def vals1{x:V}{us:List Value}(r:Vals [x] us):∃u,us=[u]/\RelV x u:=by
 cases r with
 | cons r1 r2=>cases r2; exact⟨_,rfl,r1⟩
def vals2{x y:V}{us:List Value}(r:Vals [x,y] us):∃u w',us=[u,w']/\RelV x u/\RelV y w':=by
 cases r with
 | cons r1 r2 =>
  cases r2 with
  | cons r3 r4=>cases r4; exact⟨_,_,rfl,r1,r3⟩
def M7:CF X (.builtin "abs") (fun xs H Q=>∃i,xs=[.int i]/\Q (.int (if i<0 then -i else i)) H):=by
 intro pins s σ H xs us Q I r h;obtain⟨i,rfl,q⟩:=h;obtain⟨u,rfl,t,rfl⟩:=vals1 r;exact call_abs_int fun u tk=>⟨.int (if i<0 then -i else i),H,I.tok _,⟨_,rfl⟩,q⟩
def Qc(hc:X.calm=true):CF X (.builtin "max") (fun xs H Q=>∃i j,xs=[.int i,.int j]/\Q (.int (if j > i then j else i)) H):=by
 intro pins s σ H xs us Q I r h;obtain⟨i,j,rfl,q⟩:=h;obtain⟨u,w',rfl,⟨t,rfl⟩,⟨t',rfl⟩⟩:=vals2 r;refine max_two_ints (I.ok.hd hc) fun h' tk k=>⟨_,H,I.kept k,?_,q⟩;by_cases hj:j > i
 .rw[if_pos hj,if_pos hj]; exact⟨_,rfl⟩
 .rw[if_neg hj,if_neg hj]; exact⟨_,rfl⟩
def Le(hc:X.calm=true):CF X (.builtin "min") (fun xs H Q=>∃i j,xs=[.int i,.int j]/\Q (.int (if j<i then j else i)) H):=by
 intro pins s σ H xs us Q I r h;obtain⟨i,j,rfl,q⟩:=h;obtain⟨u,w',rfl,⟨t,rfl⟩,⟨t',rfl⟩⟩:=vals2 r;refine min_two_ints (I.ok.hd hc) fun h' tk k=>⟨_,H,I.kept k,?_,q⟩;by_cases hj:j<i
 .rw[if_pos hj,if_pos hj]; exact⟨_,rfl⟩
 .rw[if_neg hj,if_neg hj]; exact⟨_,rfl⟩
end
end L2
namespace L2
open PySem PySem.Spec PyProof.Rows
structure ObjM (h:Heap) (x dx C:Addr) (mA:Str->Option Value):Prop where
 obj:h.get? x=some (PySem.W.instObj C dx)
 ns:h.Ns1 dx mA
 ne:dx≠x
def Qp{h:Heap}{dx:Addr}{mA:Str->Option Value}(n:h.Ns1 dx mA):∃od,h.get? dx=some od/\∀name,PySem.W.lookIn name od=some (mA name):=by
 obtain⟨o,es,ep,ho,hd,hk,_,hm⟩:=n;refine⟨o,ho,fun name=>?_⟩;have e:=hm name;unfold nsFind findBy at e;rw[<- Array.find?_toList] at e;unfold PySem.W.lookIn;rw[hd];dsimp only;split
 .rename_i y q
  rw[q] at e;exact congrArg some e
 .rename_i q
  rw[q] at e;have a:es.toList.any (·.refKey)=false:=by
   rw[List.any_eq_false];intro y hy;obtain⟨z,t,hkey⟩:=hk y (Array.mem_toList_iff.mp hy);simp[DictEntry.refKey,hkey]
  have a':¬es.toList.any (·.refKey)=true:=by rw[a]; exact Bool.false_ne_true
  rw[if_neg a'];exact congrArg some e
theorem ObjM.look{h:Heap}{x dx C:Addr}{mA:Str->Option Value}(I:ObjM h x dx C mA):∃od,PySem.W.InstAt h x (PySem.W.instObj C dx) C (some od)/\∀name,PySem.W.lookIn name od=some (mA name):=
 let⟨od,ho,hl⟩:=Qp I.ns
 ⟨od,⟨I.obj,rfl,rfl,ho⟩,hl⟩
section
variable{P:Program}{w:World}{H H':Hp}{h h':Heap}{a C dx:Addr}{fs fs':List (Str×V)}
def TH(hok:HOk P w H h)(e:H a=some (.ins C dx fs)):∃mA,ObjM h a dx C mA/\(∀f,VA (fs.lookup f) (mA f))/\PySem.Within mA (fs.map (·.1))/\fs.length<=1000/\H dx=some (.own a):=by
 obtain⟨d,z,ne,ob,mA,n,r,q⟩:=(show CT P w H h a (.ins C dx fs) from hok a _ e);exact⟨mA,⟨ob,n,ne⟩,r,q,z,d⟩
end
structure Cls (K:Frag) (C:Addr):Prop where
 pg:PySem.W.plainGet K C Str.empty=true
 hd:PySem.W.hasDictIn K C=true
 po:PySem.W.plainOver K C=true
 sa:PySem.W.findIn K (.ref C) "__setattr__" = some (some (.builtin "object.__setattr__"))
theorem Cls.get{K:Frag}{C:Addr}(c:Cls K C)(f:Str):PySem.W.plainGet K C f=true:=c.pg
section
variable{X:Cx}{pins:List (Addr×Obj)}{σ:St}{H:Hp}{s:Shared}{A:Around}{E:Value->Shared->Prop}{Q:Value->Shared->Prop}{c:Value}{b:Bool}
inductive TyOf (K:Frag) (H:Hp):V->Value->Prop where
 | non:TyOf K H .non (.type "NoneType")
 | bl (x:Bool):TyOf K H (.bl x) (.type "bool")
 | int (i:Int):TyOf K H (.int i) (.type "int")
 | str (x:Str):TyOf K H (.str x) (.type "str")
 | flt (x:UInt64):TyOf K H (.flt x) (.type "float")
 | lst {a:Addr} {xs:List V} (e:H a=some (.lst xs)):TyOf K H (.ref a) (.type "list")
 | frz {a:Addr} {o:Obj} {xs:List V} (e:H a=some (.frz o (.lst xs))):TyOf K H (.ref a) (.type "list")
 | tup {a:Addr} {xs:List V} (e:H a=some (.tup xs)):TyOf K H (.ref a) (.type "tuple")
 | dK {a:Addr} {kvs:List (Key×V)} (e:H a=some (.dK kvs)):TyOf K H (.ref a) (.type "dict")
 | dT {a:Addr} {kvs:List (D×V)} (e:H a=some (.dT kvs)):TyOf K H (.ref a) (.type "dict")
 | ins {a C dx:Addr} {fs:List (Str×V)} (e:H a=some (.ins C dx fs)) (cl:Cls K C) (ha:PySem.W.findIn K (.ref C) "__class__" = some (some (.builtin "object.__class__")))
   (hn:PySem.W.specialIn K (.builtin "object.__class__") "__get__" = some (some (.builtin "getset_descriptor.__get__"))) (htk:PySem.W.takesIn K (.builtin "object.__class__")=some true)
   (hm:PySem.W.mroIn K C (.type "object")=some true):TyOf K H (.ref a) (.ref C)
def Qh{x:V}{u t:Value}(I:Inv X pins σ H s)(rx:RelV x u)(ty:TyOf X.K H x t)(e:PySem.W.kitOne X.K t c=some b)(h:∀tk,Q (.bool b) { s with toks:=tk }):
  wpAny (model X.prog X.w) A (call (.builtin "isinstance") [u,c]) Q E s:=by
 cases ty with
 | non=>cases (show u=Value.none from rx); exact PySem.W.kia_one PySem.W.kitx_none I.kIn True.intro e (fun z=>nomatch z) h
 | bl y=>cases (show u=Value.bool y from rx); exact PySem.W.kia_one PySem.W.kitx_bool I.kIn True.intro e (fun z=>nomatch z) h
 | int i=>obtain⟨t,q⟩:=(show ∃t,u=Value.int i t from rx); cases q; exact PySem.W.kia_one PySem.W.kitx_int I.kIn True.intro e (fun z=>nomatch z) h
 | str y=>obtain⟨t,q⟩:=(show ∃t,u=Value.str y t from rx); cases q; exact PySem.W.kia_one PySem.W.kitx_str I.kIn True.intro e (fun z=>nomatch z) h
 | flt y=>obtain⟨t,q⟩:=(show ∃t,u=Value.float y t from rx); cases q; exact PySem.W.kia_one PySem.W.kitx_float I.kIn True.intro e (fun z=>nomatch z) h
 | @lst a xs ea =>
  cases (show u=Value.ref a from rx);obtain⟨_,_,n,_,h1⟩:=(show CT X.prog X.w H s.heap a (.lst xs) from I.hok a _ ea);exact PySem.W.kia_one PySem.W.kitx_list I.kIn ⟨_,h1,rfl⟩ e (fun z=>nomatch z) h
 | @frz a ob xs ea =>
  cases (show u=Value.ref a from rx);obtain⟨_,_,_,n,_,h1⟩:=(show CT X.prog X.w H s.heap a (.frz ob (.lst xs)) from I.hok a _ ea);exact PySem.W.kia_one PySem.W.kitx_list I.kIn ⟨_,h1,rfl⟩ e (fun z=>nomatch z) h
 | @tup a xs ea =>
  cases (show u=Value.ref a from rx);obtain⟨_,_,_,p⟩:=(show CT X.prog X.w H s.heap a (.tup xs) from I.hok a _ ea);obtain⟨o,h1,h2,_⟩:=p;exact PySem.W.kia_one PySem.W.kitx_tuple I.kIn ⟨o,h1,h2⟩ e (fun z=>nomatch z) h
 | @dK a kvs ea =>
  cases (show u=Value.ref a from rx);obtain⟨_,_,vs,_,p⟩:=(show CT X.prog X.w H s.heap a (.dK kvs) from I.hok a _ ea);obtain⟨o,es,ep,h1,h2,_⟩:=p;exact PySem.W.kia_one PySem.W.kitx_dict I.kIn ⟨o,h1,h2.1⟩ e (fun z=>nomatch z) h
 | @dT a kvs ea =>
  cases (show u=Value.ref a from rx);obtain⟨_,_,xs,_,o,es,ep,h1,h2,_⟩:=(show CT X.prog X.w H s.heap a (.dT kvs) from I.hok a _ ea);exact PySem.W.kia_one PySem.W.kitx_dict I.kIn ⟨o,h1,h2.1⟩ e (fun z=>nomatch z) h
 | @ins a C dx fs ea cl ha hn htk hm =>
  cases (show u=Value.ref a from rx);obtain⟨mA,O,_⟩:=TH I.hok ea;obtain⟨od,J,_⟩:=O.look;exact PySem.W.kia_one (PySem.W.kitx_own (cl.get _) cl.hd ha hn htk hm) I.kIn J e (fun z=>nomatch z) h
end
end L2
namespace L2
open PySem PySem.Spec PyProof.Rows
structure Room (k:Nat) (A:Around):Prop where
 hd:A.handled=none
 dp:A.depth+3*k+5<recursionLimit
 un:A.units+16*k+200<cLine
theorem Room.mono{j k:Nat}{A:Around}(r:Room k A)(h:j<=k):Room j A:=⟨r.hd,by have:=r.dp; lia,by have:=r.un; lia⟩
theorem Room.deeper{k:Nat}{A:Around}(r:Room (k+1) A)(env:Env):Room k (A.deeper env):=
 ⟨r.hd,by have:=r.dp; show A.depth+1+3*k+5<_; lia,by have:=r.un; show A.units+3+16*k+200<_; lia⟩
def Room.depth{k:Nat}{A:Around}(r:Room k A):A.depth<recursionLimit:=by have:=r.dp; lia
def Room.units{k:Nat}{A:Around}(r:Room k A):A.units+64<cLine:=by have:=r.un; lia
def Hw:TA:=fun _ H Q=>Q [] H
def C3(ta:TE)(tr:TA):TA:=fun σ H Q=>ta σ H fun x H1=>tr σ H1 fun xs H2=>Q (x::xs) H2
section
variable{X:Cx}{e:Expr}{es:List Expr}{te:TE}{t:TA}{pos:Pos}
theorem FO:PA X [] Hw:=fun _ _ _ _ H Q I h=>Calls.spliced_nil ⟨[],H,I,.nil,h⟩
def DP(ha:PE X e te)(hr:PA X es t)(hs:starEach (e::es) X.env=(false,eval e X.env)::starEach es X.env:=by rfl):PA X (e::es) (C3 te t):=by
 intro pos pins s σ H Q I h;rw[hs];show wpAny _ _ (spliced ((false,eval e X.env)::backTo pos (starEach es X.env))) _ _ s;refine Calls.spliced_cons (thn (ha pins s σ H _ I h) fun u s1 yy=>?_);obtain⟨x,H1,I1,r1,q1⟩:=yy;exact thn (hr pos pins s1 σ H1 _ I1 q1) fun us s2 ⟨xs,H2,I2,r2,q2⟩=>⟨x::xs,H2,I2,.cons r1 r2,q2⟩
def Xw(t:TA):TE:=fun σ H Q=>t σ H fun xs H1=>xs.length<=sizeLine/\∀p,H1 p=none->Q (.ref p) (upd H1 p (.tup xs))
def YC(t:TA):TE:=fun σ H Q=>t σ H fun xs H1=>xs.length<=sizeLine/\∀p,H1 p=none->Q (.ref p) (upd H1 p (.lst xs))
def Si{x1}(h:PA X es t):PE X (.Tuple es x1 pos) (Xw t):=by
 intro pins s σ H Q I hq;refine wpAny_Tuple_spliced (thn (h pos pins s σ H _ I hq) fun us s1 ⟨xs,H1,I1,r,z,q⟩=>⟨by rw[<- r.length]; exact z,?_⟩);have hf:H1 s1.heap.objs.size=none:=I1.hok.fresh (Nat.le_refl _);refine⟨.ref s1.heap.objs.size,upd H1 s1.heap.objs.size (.tup xs),I1.laid (t':=s1.toks) (fun b u e=>Heap.get?_push_of_some _ e) (Nat.le_refl _) ?_,rfl,q _ hf⟩;exact⟨z,us,r,⟨_,Heap.get?_push_size _ rfl,rfl,_,rfl⟩⟩
def WJ(h:PA X es t):PE X (.List es pos) (YC t):=by
 intro pins s σ H Q I hq;refine wpAny_List_spliced (thn (h pos pins s σ H _ I hq) fun us s1 ⟨xs,H1,I1,r,z,q⟩=>⟨by rw[<- r.length]; exact z,?_⟩);have hf:H1 s1.heap.objs.size=none:=I1.hok.fresh (Nat.le_refl _);refine⟨.ref s1.heap.objs.size,upd H1 s1.heap.objs.size (.lst xs),I1.laid (t':=s1.toks) (fun b u e=>Heap.get?_push_of_some _ e) (Nat.le_refl _) ?_,rfl,q _ hf⟩;exact⟨z,us,0,r,Heap.get?_push_size _ rfl⟩
end
abbrev Sp:=List V->Hp->VK->XK->Prop
abbrev CXT:=List Env->Hp->Shared->XK->Value->Shared->Prop
structure Env0 (P:Program) (w:World) (K:Frag) (mg:Str->Option Value) (base:Heap) (A:Around) (outer:List Env) (s:Shared) (H:Hp):Prop where
 frames:A.frames=some outer
 mod:Mod K mg base
 bs:∀b o,base.get? b=some o->s.heap.get? b=some o/\H b=none
 bsz:base.objs.size<=s.heap.objs.size
 funs:s.heap.FunFrames base outer
 frf:∀b∈frs outer,H b=none
 hok:HOk P w H s.heap
 bare:AllBare s.gens
 tb:P8 K H
def CE(outer:List Env)(P:Program)(w:World)(H:Hp)(s:Shared)(Q:VK)(u:Value)(s':Shared):Prop:=
 ∃v H',s'.os=s.os/\AllBare s'.gens/\Un (frs outer) [] H H' s.heap s'.heap/\HOk P w H' s'.heap/\RelV v u/\Q v H'
def CR(CX:CXT)(outer:List Env)(P:Program)(w:World)(H:Hp)(s:Shared)(Q:VK)(E:XK)(r:Result)(s':Shared):Prop:=
 match r with
 | .ok (.ret u)=>CE outer P w H s Q u s'
 | .ok _=>False
 | .error e=>CX outer H s E e s'
structure FnOk (P:Program) (w:World) (K:Frag) (mg:Str->Option Value) (base:Heap) (CX:CXT) (k:Nat) (f:Addr) (fd:FuncData) (ps:List Str) (sp:Sp):Prop where
 len:∀vs H Q E,sp vs H Q E->vs.length=ps.length
 run:∀(A:Around) (outer:List Env) (s:Shared) (H:Hp) (args:Args) (us:List Value) (vs:List V) (Q:VK) (E:XK),Room k A->Env0 P w K mg base A outer s H->BindsTo s fd args (ps.zip us)->Vals vs us->sp vs H Q E ->
  codeAny (model P w) A (.call (.ref f) args) (CR CX outer P w H s Q E) s
theorem FnOk.mono{P:Program}{w:World}{K:Frag}{mg:Str->Option Value}{base:Heap}{CX:CXT}{j k:Nat}{f:Addr}{fd:FuncData}{ps:List Str}{sp:Sp}(F:FnOk P w K mg base CX j f fd ps sp)(h:j<=k):
  FnOk P w K mg base CX k f fd ps sp:=⟨F.len,fun A outer s H args us vs Q E hr=>F.run A outer s H args us vs Q E (hr.mono h)⟩
section
variable{X:Cx}{pins:List (Addr×Obj)}{σ:St}{H:Hp}{s s':Shared}
theorem Inv.env0(I:Inv X pins σ H s):Env0 X.prog X.w X.K X.mg X.base X.A X.stack s H:=
 ⟨I.ok.frames,I.ok.mod,I.bs,Nat.le_trans I.ok.bsz I.sz,I.stack,I.stkFree,I.hok,I.bare,I.tabs⟩
def Inv.after{Q:VK}{u:Value}(I:Inv X pins σ H s)(h:CE X.stack X.prog X.w H s Q u s'):EP X pins σ Q u s':=by
 obtain⟨v,H',os,bare,un,hok,r,q⟩:=h;obtain⟨hh,g,d,t,os'⟩:=s';obtain rfl:os'=s.os:=os;exact⟨v,H',I.call (h':=hh) (g':=g) (d':=d) (t':=t) (ch:=[]) un hok bare (fun b z=>absurd z (by simp)),r,q⟩
end
def Lr(sp:Sp)(dvs:List V)(E:XK)(t:TA):TE:=fun σ H Q=>t σ H fun vs H1=>sp (vs++dvs) H1 Q E
def Binds(K:Frag)(fd:FuncData)(ps:List Str)(ds:List Value):Prop:=
 ∀(s:Shared) (us:List Value),K.In s.heap->(us++ds).length=ps.length->BindsTo s fd ⟨us,[]⟩ (ps.zip (us++ds))
theorem Binds.all{K:Frag}{fd:FuncData}{ps:List Str}(h:∀us:List Value,us.length=ps.length->bindArgs fd ⟨us,[]⟩=pure (ps.zip us)):Binds K fd ps []:=fun s us _ hl=>by
 rw[List.append_nil] at hl |-;exact .of_eq (h us hl)
def Passes(CX:CXT)(X:Cx)(E:XK):Prop:=∀(pins:List (Addr×Obj)) (σ:St) (H:Hp) (s:Shared) (e:Value) (s':Shared),Inv X pins σ H s->CX X.stack H s E e s'->X.xe e s'
section
variable{X:Cx}{CX:CXT}{k:Nat}{f C:Addr}{fd:FuncData}{ps:List Str}{sp:Sp}{dvs:List V}{ds:List Value}{E:XK}{x m:Str}{p pos apos:Pos}{e o:Expr}{es:List Expr}{ta:TE}{t:TA}
def W4{pins:List (Addr×Obj)}{σ:St}{H:Hp}{s:Shared}{Q:VK}{us:List Value}{vs:List V}(F:FnOk X.prog X.w X.K X.mg X.base CX k f fd ps sp)(hr:Room k X.A)(hb:Binds X.K fd ps ds)(hd:Vals dvs ds)(hx:Passes CX X E)(I:Inv X pins σ H s)(r:Vals vs us)(h:sp (vs++dvs) H Q E):wpAny (model X.prog X.w) X.A (call (.ref f) us) (EP X pins σ Q) X.xe s:=by
 have r2:Vals (vs++dvs) (us++ds):=r.append hd;have hl:(us++ds).length=ps.length:=by rw[<- r2.length]; exact F.len _ _ _ _ h
 refine wpAny_call (codeAny_mono (F.run X.A X.stack s H ⟨us,[]⟩ (us++ds) (vs++dvs) Q E hr I.env0 (hb s us I.kIn hl) r2 h) fun r s' hq=>?_);cases r with
 | error e=>exact hx pins σ H s e s' I hq
 | ok fl =>
  cases fl with
  | ret u=>exact I.after hq
  | next=>exact False.elim hq
  | brk=>exact False.elim hq
  | cont=>exact False.elim hq
def Uq(F:FnOk X.prog X.w X.K X.mg X.base CX k f fd ps sp)(hr:Room k X.A)(hg:Gl X x)(hm:X.mg x=some (.ref f))(hk:PySem.W.keepIn X.K (.ref f)=true)(hb:Binds X.K fd ps ds)(hd:Vals dvs ds)(hx:Passes CX X E)(ha:PA X (e::es) t)(hdb:(x==("__debug__" : Str))=false:=by decide)(he:starEach (e::es) X.env=(false,eval e X.env)::starEach es X.env:=by rfl)(hpl:(backTo pos (starEach es X.env)).any (·.1)=false:=by rfl):
  PE X (.Call (.Name x p) (e::es) [] pos) (Lr sp dvs E t):=by
 intro pins s σ H Q I h;refine wpAny_Call_Name_kw (GN I hg hm ?_ hdb);refine PySem.W.callWith_K (h₀:=X.base) I.ok.mod.kin hk (thn (ha pos pins s σ H _ I h) fun us s1 ⟨vs,H1,I1,r,q⟩=>⟨I1.kIn,?_⟩) he hpl;exact W4 F hr hb hd hx I1 r q
end
structure FnScope (N P:List Str) (sc:Scope):Prop where
 kind:sc.kind=.function
 co:sc.isCoroutine=false
 gen:sc.isGenerator=false
 nd:N.Nodup
 pre:N.take P.length=P
 par:∀x∈P,sc.names.lookup x=some .local\/sc.names.lookup x=some .cell
 nofree:∀y∈sc.names,y.2≠.free
theorem K8{kindOf:Str->Option NameKind}{x:Str}:∀{binds:List (Str×Value)} {m:Str->Option Value},(∀v,(x,v)∉binds)->bindL kindOf binds m x=m x
 | [],_,_=>rfl
 | (n,v)::r,m,h=>by
  unfold bindL;rw[K8 fun w hw=>h w (List.mem_cons_of_mem _ hw)];split
  .have:x≠n:=by rintro rfl; exact h v List.mem_cons_self
   simp[this]
  .rfl
theorem K6{kindOf:Str->Option NameKind}{x:Str}:∀{binds:List (Str×Value)} {m:Str->Option Value},(∀v,(x,v)∉binds)->bindC kindOf binds m x=m x
 | [],_,_=>rfl
 | (n,v)::r,m,h=>by
  unfold bindC;rw[K6 fun w hw=>h w (List.mem_cons_of_mem _ hw)];split
  .rfl
  .have:x≠n:=by rintro rfl; exact h v List.mem_cons_self
   simp[this]
theorem K7{kindOf:Str->Option NameKind}{x:Str}{v:Value}:∀{P:List Str} {vs:List Value} {i:Nat} {m:Str->Option Value},P.Nodup->P[i]? = some x->vs[i]? = some v->kindOf x=some .local ->
  bindL kindOf (P.zip vs) m x=some v
 | [],_,_,_,_,h,_,_=>by simp at h
 | _::_,[],_,_,_,_,h,_=>by simp at h
 | p::P,w::vs,0,m,nd,h1,h2,hk=>by
  simp at h1 h2; subst h1; subst h2;show bindL kindOf ((p,w)::P.zip vs) m p=_;unfold bindL;rw[K8 fun v hv=>(List.nodup_cons.mp nd).1 (List.of_mem_zip hv).1,if_pos hk];simp
 | p::P,w::vs,i+1,m,nd,h1,h2,hk=>by
  show bindL kindOf ((p,w)::P.zip vs) m x=_;unfold bindL;exact K7 (i:=i) (List.nodup_cons.mp nd).2 (by simpa using h1) (by simpa using h2) hk
theorem K5{kindOf:Str->Option NameKind}{x:Str}{v:Value}:∀{P:List Str} {vs:List Value} {i:Nat} {m:Str->Option Value},P.Nodup->P[i]? = some x->vs[i]? = some v->kindOf x≠some .local ->
  bindC kindOf (P.zip vs) m x=some v
 | [],_,_,_,_,h,_,_=>by simp at h
 | _::_,[],_,_,_,_,h,_=>by simp at h
 | p::P,w::vs,0,m,nd,h1,h2,hk=>by
  simp at h1 h2; subst h1; subst h2;show bindC kindOf ((p,w)::P.zip vs) m p=_;unfold bindC;rw[K6 fun v hv=>(List.nodup_cons.mp nd).1 (List.of_mem_zip hv).1,if_neg hk];simp
 | p::P,w::vs,i+1,m,nd,h1,h2,hk=>by
  show bindC kindOf ((p,w)::P.zip vs) m x=_;unfold bindC;exact K5 (i:=i) (List.nodup_cons.mp nd).2 (by simpa using h1) (by simpa using h2) hk
def start(N:List Str)(vs:List V):St:=vs.map some++List.replicate (N.length-vs.length) none
def Bd(CX:CXT)(P:Program)(w:World)(K:Frag)(mg:Str->Option Value)(base:Heap)(N:List Str)(qual:Str)(scope:Scope)(f:Addr)(cd:Value)(A:Around)(outer:List Env)(s:Shared)(H:Hp)(E:XK):Cx where
 prog:=P
 w:=w
 K:=K
 mg:=mg
 base:=base
 A:=A.deeper (envOfC qual scope s.heap.objs.size f cd)
 N:=N
 s₀:=s
 H₀:=H
 env:=envOfC qual scope s.heap.objs.size f cd
 outer:=outer
 stack:=envOfC qual scope s.heap.objs.size f cd::outer
 ex:=[]
 calm:=true
 fn:=fun _=>true
 pn:=[]
 xe:=fun e s'=>wpAny (model P w) (A.deeper (envOfC qual scope s.heap.objs.size f cd)) (leaving (envOfC qual scope s.heap.objs.size f cd) e) (fun _ s''=>CX outer H s E e s'') (fun e' s''=>CX outer H s E e' s'') s'
def M8{sc:Scope}{n:Nat}{x:Str}(h:sc.names.lookup x=some .cell):∃c,(cellsFrom n sc.names []).lookup x=some c:=by
 have q:=PySem.W.cellsFrom_some sc.names n [] (.inl h);exact Option.isSome_iff_exists.mp q
def Im{CX:CXT}{P:Program}{w:World}{K:Frag}{mg:Str->Option Value}{base:Heap}{N ps:List Str}{qual:Str}{scope:Scope}{f:Addr}{cd:Value}{A:Around}{outer:List Env}{s s1:Shared}{H:Hp}{E:XK}{us:List Value}{vs:List V}(S:FnScope N ps scope)(hd:A.handled=none)(e0:Env0 P w K mg base A outer s H)(hl:vs.length=ps.length)(r:Vals vs us)(x:InCallC s s.heap.objs.size (bindL (envOfC qual scope s.heap.objs.size f cd).kindOf (ps.zip us) fun _=>none) (cellsFrom (s.heap.objs.size+1) scope.names []) (bindC (envOfC qual scope s.heap.objs.size f cd).kindOf (ps.zip us) fun _=>none) s1):
  Inv (Bd CX P w K mg base N qual scope f cd A outer s H E) [] (start N vs) H s1:=by
 have hpl:ps.length<=N.length:=by have:=congrArg List.length S.pre; rw[List.length_take] at this; lia
 obtain⟨h1,tk,rfl,hk⟩:=x.done;have noA:∀b:Addr,b∉(Bd CX P w K mg base N qual scope f cd A outer s H E).ex:=fun b z=>absurd (show b∈([]:List Addr) from z) (by simp);refine⟨⟨e0.mod,S.kind,rfl,rfl,Nat.le_refl _,fun y z c h1 h2=>?_,fun y hy=>?_,fun y c _ h=>?_,fun _=>hd,Around.frames_deeper e0.frames,.inr ⟨rfl,rfl⟩,fun b z=>absurd z (noA b),e0.bs,e0.bsz,fun b _ _=>noA b,fun b z=>absurd z (noA b),e0.funs,e0.frf,e0.tb⟩,
  rfl,e0.bare,Un.kept hk,⟨_,x.toInCall.ns,fun i y v h1 h2 h3=>?_⟩,fun y c h=>⟨_,x.cell y c h⟩,e0.hok.fresh (Nat.le_refl _),fun y c h=>?_,fun p hp=>absurd (show p∈([]:List (Addr×Obj)) from hp) (by simp),e0.hok.kept hk,?_⟩
 .exact name_of_addr x.apart (PySem.mem_of_lookup h1) (PySem.mem_of_lookup h2)
 .have hy:scope.names.lookup y=some .cell\/scope.names.lookup y=some .free:=hy
  rcases hy with hy|hy
  .exact M8 hy
  .exact absurd rfl (S.nofree _ (PySem.mem_of_lookup hy))
 .exact Nat.le_of_lt (x.above y c (PySem.mem_of_lookup h))
 .have hi:i<vs.length:=by
   unfold start at h2;by_cases hi:i<vs.length
   .exact hi
   .rw[List.getElem?_append_right (by simpa using hi)] at h2
    rw[List.getElem?_replicate] at h2;split at h2<;>cases h2
  have ha:vs[i]? = some v:=by
   unfold start at h2;rw[List.getElem?_append_left (by simpa using hi),List.getElem?_map] at h2;cases e:vs[i]? with
   | none=>rw[e] at h2; cases h2
   | some a=>rw[e] at h2; cases h2; rfl
  obtain⟨u,hu,rv⟩:=r.get ha;have hp:ps[i]? = some y:=by
   rw[<- S.pre,List.getElem?_take_of_lt (by lia)]; exact h1
  have ndP:ps.Nodup:=by rw[<- S.pre]; exact S.nd.sublist (List.take_sublist _ _)
  refine⟨u,rv,?_⟩;rcases S.par y (List.mem_of_getElem? hp) with k|k
  .exact .inl ⟨k,K7 ndP hp hu k⟩
  .obtain⟨c,e⟩:=M8 (n:=s.heap.objs.size+1) k
   refine .inr ⟨.inl k,c,e,?_⟩;have q:=x.cell y c e;rw[K5 ndP hp hu (by show scope.names.lookup y≠_; rw[k]; decide)] at q;exact q
 .exact e0.hok.fresh (Nat.le_of_lt (x.above y c (PySem.mem_of_lookup h)))
 .unfold start
  show _=N.length;rw[List.length_append,List.length_map,List.length_replicate];lia
def Rf{CX:CXT}{P:Program}{w:World}{K:Frag}{mg:Str->Option Value}{base:Heap}{k:Nat}{f:Addr}{name qual:Str}{params:Arguments}{body:List Stmt}{scope:Scope}{dV kV doc pm cdv ct oc:Value}{an od:Option Addr}{osl:Array (Option Value)}{N ps:List Str}{sp:Sp}(lk:K.lookup f=some ⟨oc,od,.func (PySem.W.fnOf name qual params body scope dV kV doc pm an cdv ct),osl⟩)(hcd:PySem.W.codeIn K cdv qual=true)(S:FnScope N ps scope)(len:∀vs H Q E,sp vs H Q E->vs.length=ps.length)(hbody:∀(A:Around) (outer:List Env) (s:Shared) (H:Hp) (vs:List V) (Q:VK) (E:XK),Room k (A.deeper (envOfC qual scope s.heap.objs.size f cdv))->sp vs H Q E ->
   ∃t,PSs (Bd CX P w K mg base N qual scope f cdv A outer s H E) body t/\t { nx:=fun _ H'=>Q .non H',rt:=Q } (start N vs) H):
  FnOk P w K mg base CX (k+1) f (PySem.W.fnOf name qual params body scope dV kV doc pm an cdv ct) ps sp:=by
 refine⟨len,fun A outer s H args us vs Q E hr e0 hb r hsp=>?_⟩;have hl:=len _ _ _ _ hsp;have KX:K.In s.heap:=e0.mod.kin.keeps fun b o e=>(e0.bs b o e).1;have lim:s.heap.NoLimit:=e0.mod.nolimit.keeps fun b o e=>(e0.bs b o e).1;have hkind:∀y∈ps.zip us,scope.names.lookup y.1=some .local\/(scope.names.lookup y.1=some .cell/\((cellsFrom (s.heap.objs.size+1) scope.names []).lookup y.1).isSome=true):=fun⟨n,v⟩ hy=>by
  rcases S.par n (List.of_mem_zip hy).1 with q|q
  .exact .inl q
  .exact .inr ⟨q,PySem.W.cellsFrom_some _ _ _ (.inl q)⟩
 refine codeAny_call_function hr.depth (KX _ _ lk) rfl S.co S.gen rfl (PySem.W.codeRec_of KX hcd) (hb _ _ _ _ ?_);refine wpAny_newFunctionEnv_cells S.kind hkind fun env he s1 x=>?_;subst he;refine⟨lim.keeps x.toInCall.keep,codeAny_func ?_⟩;obtain⟨t,ht,hq⟩:=hbody A outer s H vs Q E (hr.deeper _) hsp;have I:Inv (Bd CX P w K mg base N qual scope f cdv A outer s H E) [] (start N vs) H s1:=Im S hr.hd e0 hl r x;refine wpAny_mono (ht [] s1 (start N vs) H _ I hq) (fun fl s' hs=>?_) fun e s' hs=>hs;have fin:∀{σ':St} {H':Hp} {v:V} {u:Value},Inv (Bd CX P w K mg base N qual scope f cdv A outer s H E) [] σ' H' s'->RelV v u->Q v H'->CE outer P w H s Q u s':=
  fun {σ' H' v u} J rv q=>⟨v,H',J.os,J.bare,J.base,J.hok,rv,q⟩
 cases fl with
 | ret u =>
  obtain⟨v,σ',H',J,rv,q⟩:=hs;exact fin J rv q
 | next =>
  obtain⟨σ',H',J,q⟩:=hs;exact fin (v:=V.non) (u:=Value.none) J rfl q
 | brk =>
  obtain⟨_,_,_,q⟩:=hs;exact False.elim q
 | cont =>
  obtain⟨_,_,_,q⟩:=hs;exact False.elim q
end L2
namespace L2
open PySem PySem.Spec PyProof.Rows
section
variable{X:Cx}{x:Str}{p pos:Pos}{e:Expr}{es:List Expr}{t:TA}{id T:String}{r:List V->Hp->VK->Prop}
def tCB(r:List V->Hp->VK->Prop)(t:TA):TE:=fun σ H Q=>t σ H fun vs H1=>r vs H1 Q
def Kc(hc:CF X (.builtin id) r)(hg:Gl X x)(hm:X.mg x=none)(hv:bootBuiltins x=some (.builtin id))(ha:PA X (e::es) t)(hn:x ≠ "__name__" := by decide)(hdb:(x==("__debug__" : Str))=false:=by decide)(he:starEach (e::es) X.env=(false,eval e X.env)::starEach es X.env:=by rfl)(hpl:(backTo pos (starEach es X.env)).any (·.1)=false:=by rfl):PE X (.Call (.Name x p) (e::es) [] pos) (tCB r t):=by
 intro pins s σ H Q I h;refine wpAny_Call_Name_kw (JZ I hg hm hv ?_ hn hdb);exact PyProof.Rows.callWith_builtin1 (thn (ha pos pins s σ H _ I h) fun us s1 ⟨vs,H1,I1,r1,q1⟩=>hc pins s1 σ H1 vs us Q I1 r1 q1) he hpl
def Qy(hc:CF X (.type T) r)(hg:Gl X x)(hm:X.mg x=none)(hv:bootBuiltins x=some (.type T))(ha:PA X (e::es) t)(hn:x ≠ "__name__" := by decide)(hdb:(x==("__debug__" : Str))=false:=by decide)(he:starEach (e::es) X.env=(false,eval e X.env)::starEach es X.env:=by rfl)(hpl:(backTo pos (starEach es X.env)).any (·.1)=false:=by rfl):PE X (.Call (.Name x p) (e::es) [] pos) (tCB r t):=by
 intro pins s σ H Q I h;refine wpAny_Call_Name_kw (JZ I hg hm hv ?_ hn hdb);exact PyProof.Rows.callWith_type1 (thn (ha pos pins s σ H _ I h) fun us s1 ⟨vs,H1,I1,r1,q1⟩=>hc pins s1 σ H1 vs us Q I1 r1 q1) he hpl
end
end L2
namespace HT
open PySem PyProof.Rows
section
variable{prog:Program}{w:World}{A:Around}{E:Value->Shared->Prop}{s:Shared}
def sIx(n d:Nat):Option Int->Nat
 | none=>d
 | some v=>if v<0 then (v+(n:Int)).toNat else min v.toNat n
theorem Kl(n d:Nat):sIx n d none=d:=rfl
def Pz(n d k:Nat):sIx n d (some (k:Int))=min k n:=by
 show(if (k:Int)<0 then ((k:Int)+(n:Int)).toNat else min (k:Int).toNat n)=min k n;rw[if_neg (by lia),Int.toNat_natCast]
end
end HT
namespace L2
open PySem PySem.Spec PyProof.Rows
abbrev TO:=St->Hp->(Option Int->Hp->Prop)->Prop
def PO(X:Cx)(e:Option Expr)(t:TO):Prop:=
 ∀(pins:List (Addr×Obj)) (s:Shared) (σ:St) (H:Hp) (Q:Option Int->Hp->Prop),Inv X pins σ H s->t σ H Q ->
  wpAny (model X.prog X.w) X.A (evalPart e X.env) (fun u s'=>∃o H',Inv X pins σ H' s'/\IsPart u o/\Q o H') X.xe s
def UX:TO:=fun _ H Q=>Q none H
def YE(t:TE):TO:=fun σ H Q=>t σ H fun x H1=>∃i,x=.int i/\Q (some i) H1
section
variable{X:Cx}{e:Expr}{te:TE}{lo hi:Option Expr}{tl th:TO}{pos p2:Pos}
def Pu:PO X none UX:=by
 intro pins s σ H Q I h;rw[evalPart_none];exact wpAny_pure ⟨none,H,I,.none,h⟩
def Pw(h:PE X e te):PO X (some e) (YE te):=by
 intro pins s σ H Q I hw;rw[evalPart_some];refine thn (h pins s σ H _ I hw) fun u s1 yy=>?_;obtain⟨x,H1,I1,r1,q1⟩:=yy;obtain⟨i,rfl,q⟩:=q1;obtain⟨t,rfl⟩:=r1;exact⟨some i,H1,I1,.int i t,q⟩
def SlR(X:Cx)(r:V->Option Int->Option Int->Hp->VK->Prop):Prop:=
 ∀(pins:List (Addr×Obj)) (s:Shared) (σ:St) (H:Hp) (x:V) (v vl vu:Value) (lo hi:Option Int) (sl:Addr) (Q:VK),Inv X pins σ H s->RelV x v->s.heap.IsSliceOf sl vl vu .none->IsPart vl lo->IsPart vu hi->r x lo hi H Q ->
  ∃T id,typeLookup (.type T) "__getitem__" = pure (some (.builtin id))/\s.TypeIs v T/\wpAny (model X.prog X.w) X.A (getItem v (.ref sl)) (EP X pins σ Q) X.xe s
def tSl(r:V->Option Int->Option Int->Hp->VK->Prop)(te:TE)(tl th:TO):TE:=fun σ H Q=>te σ H fun x H1=>tl σ H1 fun l H2=>th σ H2 fun u H3=>r x l u H3 Q
def NC{r:V->Option Int->Option Int->Hp->VK->Prop}(hr:SlR X r)(he:PE X e te)(hl:PO X lo tl)(hu:PO X hi th):PE X (.Subscript e (.Slice lo hi none p2) pos) (tSl r te tl th):=by
 intro pins s σ H Q I h;refine Subscript_ (thn (he pins s σ H _ I h) fun v s1 yy=>?_);obtain⟨x,H1,I1,r1,q1⟩:=yy;refine wpAny_Slice (thn (hl pins s1 σ H1 _ I1 q1) fun vl s2 ⟨l,H2,I2,pl,q2⟩=>thn (hu pins s2 σ H2 _ I2 q2) fun vu s3 yy=>?_);obtain⟨u,H3,I3,pu,q3⟩:=yy;rw[evalPart_none];refine wpAny_pure ?_;have I4:Inv X pins σ H3 { s3 with heap:=s3.heap.push { cls:=.type "slice",data:=.fields #[vl,vu,.none] } }:=I3.kept (t':=s3.toks) fun b ob q=>Heap.get?_push_of_some _ q;obtain⟨T,id,hT,ht,hg⟩:=hr pins { s3 with heap:=s3.heap.push { cls:=.type "slice",data:=.fields #[vl,vu,.none] } } σ H3 x v vl vu l u s3.heap.objs.size Q I4 r1 (Heap.IsSliceOf.new ..) pl pu q3;show wpAny (model X.prog X.w) X.A (subscriptTail e (.Slice lo hi none p2) v (.ref s3.heap.objs.size)) (EP X pins σ Q) X.xe { s3 with heap:=s3.heap.push { cls:=.type "slice",data:=.fields #[vl,vu,.none] } };exact tail_any (ops:=[.ref s3.heap.objs.size,v]) ht hT hg (by with_unfolding_all rfl)
def Qd(xs:List V)(lo hi:Option Int):List V:=(xs.drop (HT.sIx xs.length 0 lo)).take (HT.sIx xs.length xs.length hi-HT.sIx xs.length 0 lo)
def Gk(xs:List V)(lo hi:Option Int):(Qd xs lo hi).length<=xs.length:=by
 unfold Qd;rw[List.length_take,List.length_drop];lia
end
end L2
namespace L2
open PySem PySem.Spec PyProof.Rows
def ixN(n:Nat)(i:Int):Option Nat:=if 0<=i then (if i<n then some i.toNat else none) else if -(n:Int)<=i then some (i+n).toNat else none
def atI{α:Type}(xs:List α)(i:Int):Option α:=(ixN xs.length i).bind fun j=>xs[j]?
def Pc{n:Nat}{i:Int}{j:Nat}(h:ixN n i=some j):seqIndex? i n=some j/\j<n/\-(n:Int)<=i/\i<n:=by
 unfold ixN at h;by_cases h0:0<=i
 .rw[if_pos h0] at h
  by_cases h1:i<n
  .rw[if_pos h1] at h
   have e:i.toNat=j:=Option.some.inj h;exact⟨by rw[seqIndex_of h0 h1,e],by lia,by lia,h1⟩
  .rw[if_neg h1] at h; cases h
 .rw[if_neg h0] at h
  by_cases h1 : -(n:Int)<=i
  .rw[if_pos h1] at h
   have e:(i+n).toNat=j:=Option.some.inj h;exact⟨by rw[seqIndex_neg (by lia) h1,e],by lia,h1,by lia⟩
  .rw[if_neg h1] at h; cases h
def Cv{α:Type}{xs:List α}{i:Int}{v:α}(h:atI xs i=some v):∃j,seqIndex? i xs.length=some j/\xs[j]? = some v/\j<xs.length/\-(xs.length:Int)<=i/\i<xs.length:=by
 unfold atI at h;cases e:ixN xs.length i with
 | none=>rw[e] at h; cases h
 | some j =>
  rw[e] at h;obtain⟨h1,h2,h3,h4⟩:=Pc e;exact⟨j,h1,h,h2,h3,h4⟩
def LF{α:Type}{xs:List α}{j:Nat}{v:α}(h:xs[j]? = some v):atI xs (j:Int)=some v:=by
 have hj:j<xs.length:=(List.getElem?_eq_some_iff.mp h).1;have e:ixN xs.length (j:Int)=some j:=by
  unfold ixN;rw[if_pos (by lia),if_pos (by lia)]; simp
 unfold atI; rw[e]; exact h
def M0{α:Type}(xs:List α)(v:α):atI (xs++[v]) (-1)=some v:=by
 have hl:(xs++[v]).length=xs.length+1:=by simp
 have e:ixN (xs++[v]).length (-1)=some xs.length:=by
  unfold ixN;rw[hl,if_neg (by decide),if_pos (by lia)];congr 1;lia
 unfold atI;rw[e];show(xs++[v])[xs.length]? = some v;simp
def O0(b:Expr):Prop:=∀o i,subscripted b false o i=operate [o,i] (getItem o i)
def IxR(X:Cx)(r:R2):Prop:=
 ∀(value slice:Expr) (pins:List (Addr×Obj)) (s:Shared) (σ:St) (H:Hp) (x y:V) (v u:Value) (Q:VK),Inv X pins σ H s->RelV x v->RelV y u->r x y H Q ->
  subscripted slice false v u=operate [v,u] (getItem v u)->wpAny (model X.prog X.w) X.A (subscriptTail value slice v u) (EP X pins σ Q) X.xe s
def MtR(X:Cx)(id:String)(r:V->List V->Hp->VK->Prop):Prop:=
 ∀(pins:List (Addr×Obj)) (s:Shared) (σ:St) (H:Hp) (x:V) (xs:List V) (v:Value) (us:List Value) (Q:VK),Inv X pins σ H s->RelV x v->Vals xs us->r x xs H Q ->
  wpAny (model X.prog X.w) X.A (call (.builtin id) (v::us)) (EP X pins σ Q) X.xe s
section
variable{X:Cx}{a b:Expr}{ta tb:TE}{pos:Pos}
def IxR.or{r r':R2}(h:IxR X r)(h':IxR X r'):IxR X (fun x y H Q=>r x y H Q\/r' x y H Q):=by
 intro value slice pins s σ H x y v u Q I rx ry q hs;rcases q with q|q
 .exact h value slice pins s σ H x y v u Q I rx ry q hs
 .exact h' value slice pins s σ H x y v u Q I rx ry q hs
def Vi{r:R2}(hr:IxR X r)(ha:PE X a ta)(hb:PE X b tb)(hs:O0 b):PE X (.Subscript a b pos) (tOp r ta tb):=by
 intro pins s σ H Q I h;exact Subscript_ (VI ha hb I h fun v u s2 x y H2 I2 rx ry q=>hr a b pins s2 σ H2 x y v u Q I2 rx ry q (hs _ _))
def Ym(K:Frag):R2:=fun x y H Q=>∃p xs i v,x=.ref p/\y=.int i/\SqL K H p xs/\atI xs i=some v/\Q v H
def Yo(K:Frag):R2:=fun x y H Q=>∃p xs i v,x=.ref p/\y=.int i/\SqT K H p xs/\atI xs i=some v/\Q v H
def Yn:R2:=fun x y H Q=>∃z i c,x=.str z/\y=.int i/\z.length<=sizeLine/\atI z.cps.toList i=some c/\Q (.str ⟨#[c]⟩) H
def TR:IxR X (Ym X.K):=by
 intro value slice pins s σ H x y v u Q I rx ry h hs;obtain⟨p,xs,i,z,rfl,rfl,hq,he,q⟩:=h;cases rx;obtain⟨t,rfl⟩:=ry;obtain⟨its,r,pl,hz⟩:=I.list hq;obtain⟨j,h1,h2,h3,h4,h5⟩:=Cv he;obtain⟨w,ew,rw'⟩:=r.get h2;have hl:=r.length;have hn:=Iw;have fin:EP X pins σ Q w s:=⟨z,H,I,rw',q⟩;by_cases h0:0<=i
 .have hj:i.toNat=j:=by
   rw[seqIndex_of h0 h5] at h1;exact Option.some.inj h1
  exact item_listR pl.isList h0 (by lia) (by rw[hj]; simpa using ew) fin hs
 .have hj:(i+(its.toArray.size:Int)).toNat=j:=by
   rw[seqIndex_neg (by lia) h4] at h1;rw[List.size_toArray,<- hl];exact Option.some.inj h1
  exact subscriptTail_builtinR (x:=w) pl.isList.typeIs slot_list_getitem.lookup
   (wpAny_getItem_list_neg (Q:=fun r s'=>r=w/\EP X pins σ Q r s') pl.isList (by lia) (by rw[List.size_toArray]<;>lia) (by lia) (by rw[hj]; simpa using ew) ⟨rfl,fin⟩) hs
def V4:IxR X (Yo X.K):=by
 intro value slice pins s σ H x y v u Q I rx ry h hs;obtain⟨p,xs,i,z,rfl,rfl,hq,he,q⟩:=h;cases rx;obtain⟨t,rfl⟩:=ry;obtain⟨its,r,pl,hz⟩:=I.tuple hq;obtain⟨j,h1,h2,h3,h4,h5⟩:=Cv he;obtain⟨w,ew,rw'⟩:=r.get h2;have hl:=r.length;have hn:=Iw;have fin:EP X pins σ Q w s:=⟨z,H,I,rw',q⟩;exact subscriptTail_builtinR (x:=w) pl.typeIs slot_tuple_getitem.lookup
  (getItem_tuple (j:=j) (Q:=fun r s'=>r=w/\EP X pins σ Q r s') pl (by lia) (by lia) (by rw[List.size_toArray,<- hl]; exact h1) (by simpa using ew) ⟨rfl,fin⟩) hs
def V3:IxR X Yn:=by
 intro value slice pins s σ H x y v u Q I rx ry h hs;obtain⟨z,i,c,rfl,rfl,hz,he,q⟩:=h;obtain⟨t,rfl⟩:=rx;obtain⟨t',rfl⟩:=ry;obtain⟨j,h1,h2,h3,h4,h5⟩:=Cv he;have hl:z.cps.toList.length=z.length:=by simp[Str.length]
 rw[hl] at h1 h4 h5;have hn:=Iw;exact tail_any (typeIs_str s z t) slot_str_getitem.lookup (getItem_str (c:=c) (by
  have e1:decide (i < -(2 ^ 63:Int))=false:=decide_eq_false (by lia);have e2:decide (i ≥ 2 ^ 63)=false:=decide_eq_false (by lia);rw[e1,e2,Bool.or_false]) (by rw[h1]; simpa using h2) ⟨.str ⟨#[c]⟩,H,I.tok _,⟨_,rfl⟩,q⟩) hs
def rIx(K:Frag):R2:=fun x y H Q=>Ym K x y H Q\/Yo K x y H Q\/Yn x y H Q
theorem Az:IxR X (rIx X.K):=TR.or (V4.or V3)
def Ox(its:List Value)(n j:Nat)(u:Value):Obj.mapSeq (·.setIfInBounds j u) { cls:=.type "list",data:=.seq its.toArray n }={ cls:=.type "list",data:=.seq (its.set j u).toArray n }:=by
 simp[Obj.mapSeq]
def Inv.lst{pins:List (Addr×Obj)}{σ:St}{H:Hp}{s:Shared}{p:Addr}{xs:List V}(I:Inv X pins σ H s)(h:H p=some (.lst xs)):
  ∃(its:List Value) (n:Nat),Vals xs its/\s.heap.get? p=some { cls:=.type "list",data:=.seq its.toArray n }/\xs.length<=sizeLine:=by
 obtain⟨z,its,n,r,e⟩:=I.hok p _ h;exact⟨its,n,r,e,z⟩
def Inv.lstUpd{pins:List (Addr×Obj)}{σ:St}{H:Hp}{s:Shared}{p:Addr}{xs ys:List V}{its its':List Value}{n n':Nat}{f:Obj->Obj}(I:Inv X pins σ H s)(h:H p=some (.lst xs))(ho:s.heap.get? p=some { cls:=.type "list",data:=.seq its.toArray n })(hf:f { cls:=.type "list",data:=.seq its.toArray n }={ cls:=.type "list",data:=.seq its'.toArray n' })(r:Vals ys its')(hz:ys.length<=sizeLine)(t:Nat):
  Inv X pins σ (upd H p (.lst ys)) { s with heap:=s.heap.update p f,toks:=t }:=by
 have e:(s.heap.update p f).get? p=some { cls:=.type "list",data:=.seq its'.toArray n' }:=by
  rw[Heap.get?_update_self f ho (by rw[hf]<;>rfl),hf]
 refine I.write (x:=p) (e:=p) (by rw[h]; trivial) (.inl rfl) (fun b u hb q=>(Heap.get?_update_other _ _ (Ne.symm hb)).trans q) ⟨_,e⟩ ?_;exact⟨hz,its',n',r,e⟩
def Vo:V->V->V->Hp->(Hp->Prop)->Prop:=fun o i v H Q=>∃p xs k j,o=.ref p/\i=.int k/\H p=some (.lst xs)/\ixN xs.length k=some j/\Q (upd H p (.lst (xs.set j v)))
def set_list:XF X Vo:=by
 intro pins s σ H o i v ov iv u Q I ro ri rv h;obtain⟨p,xs,k,j,rfl,rfl,hp,hj,q⟩:=h;cases ro;obtain⟨t,rfl⟩:=ri;obtain⟨its,n,r,ho,hz⟩:=I.lst hp;obtain⟨h1,h2,h3,h4⟩:=Pc hj;have hl:=r.length;have hn:=Iw;have I':Inv X pins σ (upd H p (.lst (xs.set j v))) { s with heap:=s.heap.update p (Obj.mapSeq (·.setIfInBounds j u)) }:=
  I.lstUpd hp ho (Ox its n j u) (r.set rv j) (by rw[List.length_set]; exact hz) s.toks
 by_cases h0:0<=k
 .have hk:k.toNat=j:=by
   rw[seqIndex_of h0 h4] at h1;exact Option.some.inj h1
  exact PySem.W.ki_setAt ho h0 (by lia) (by rw[List.size_toArray,<- hl]; exact h4) (by rw[hk]; exact⟨_,I',q⟩)
 .have hk:(k+(its.toArray.size:Int)).toNat=j:=by
   rw[seqIndex_neg (by lia) h3] at h1;rw[List.size_toArray,<- hl];exact Option.some.inj h1
  exact PySem.W.ki_setBack ho (by lia) (by rw[List.size_toArray,<- hl]; exact h3) (by lia) (by rw[hk]; exact⟨_,I',q⟩)
def MH(lo hi:Option Int)(n:Nat):(sliceBounds lo hi none n).1=((HT.sIx n 0 lo:Nat):Int)/\(sliceBounds lo hi none n).2.1=((HT.sIx n n hi:Nat):Int)/\(sliceBounds lo hi none n).2.2=1:=by
 refine⟨?_,?_,rfl⟩
 .cases lo with
  | none=>simp[sliceBounds,HT.sIx]
  | some i =>
   simp only[sliceBounds,HT.sIx,Option.getD_none,show(1:Int) > 0 by decide,if_true];by_cases h:i<0
   .simp only[h,if_true]<;>lia
   .simp only[h,if_false]<;>lia
 .cases hi with
  | none=>simp[sliceBounds,HT.sIx]
  | some i =>
   simp only[sliceBounds,HT.sIx,Option.getD_none,show(1:Int) > 0 by decide,if_true];by_cases h:i<0
   .simp only[h,if_true]<;>lia
   .simp only[h,if_false]<;>lia
def KZ(its:List Value)(lo hi:Option Int):slicePick its.toArray lo hi none=((its.drop (HT.sIx its.length 0 lo)).take (HT.sIx its.length its.length hi-HT.sIx its.length 0 lo)).toArray:=by
 obtain⟨h1,h2,h3⟩:=MH lo hi its.toArray.size;unfold slicePick;rw[h1,h2,h3];simp only[sliceRange_one,pick_run,List.size_toArray]<;>rfl
def WZ(K:Frag):V->Option Int->Option Int->Hp->VK->Prop:=fun x lo hi H Q=>∃a xs,x=.ref a/\SqL K H a xs/\∀p,H p=none->Q (.ref p) (upd H p (.lst (Qd xs lo hi)))
def PL:SlR X (WZ X.K):=by
 intro pins s σ H x v vl vu lo hi sl Q I rx hs pl pu h;obtain⟨a,xs,rfl,hx,q⟩:=h;cases rx;obtain⟨its,r,ht,hz⟩:=I.list hx;have hlen:=r.length;refine⟨"list",_,slot_list_getitem.lookup,ht.isList.typeIs,?_⟩;refine wpAny_getItem_list_slice ht.isList hs pl pu .none (by simp) ?_ (by rw[List.size_toArray]<;>lia);rw[KZ,<- hlen];refine⟨.ref s.heap.objs.size,_,I.laid (t':=s.toks) (o:=.lst (Qd xs lo hi)) (fun b ob q=>Heap.get?_push_of_some _ q) (Nat.le_refl _) ?_,rfl,q _ (I.hok.fresh (Nat.le_refl _))⟩;exact⟨Nat.le_trans (Gk xs lo hi) hz,_,0,(r.drop (HT.sIx xs.length 0 lo)).take (HT.sIx xs.length xs.length hi-HT.sIx xs.length 0 lo),Heap.get?_push_size _ rfl⟩
def G0:V->Bool
 | .non=>true
 | .bl _=>true
 | .int _=>true
 | .str _=>true
 | _=>false
def eqV:V->V->Bool
 | .non,.non=>true
 | .bl a,.bl b=>a==b
 | .bl a,.int b=>(if a then 1 else 0)==b
 | .int a,.bl b=>a==(if b then 1 else 0)
 | .int a,.int b=>a==b
 | .str a,.str b=>a==b
 | _,_=>false
def VN{A:Around}{s:Shared}{y x:V}{u v:Value}(ry:RelV y u)(rx:RelV x v)(fy:G0 y=true)(fx:G0 x=true):SeqAt.EqAt A s u v (eqV y x):=by
 cases y with
 | non =>
  cases ry;cases x with
  | non=>cases rx; exact SeqAt.EqAt.same _
  | bl b=>cases rx; exact SeqAt.EqAt.none_bool b
  | int b=>obtain⟨t,rfl⟩:=rx; exact SeqAt.EqAt.none_int b t
  | str b=>obtain⟨t,rfl⟩:=rx; exact SeqAt.EqAt.none_str b t
  | _=>exact absurd (show false=true from fx) Bool.false_ne_true
 | bl a =>
  cases ry;cases x with
  | non=>cases rx; exact SeqAt.EqAt.bool_none a
  | bl b=>cases rx; exact SeqAt.EqAt.bool_bool a b
  | int b=>obtain⟨t,rfl⟩:=rx; exact SeqAt.EqAt.bool_int a b t
  | str b=>obtain⟨t,rfl⟩:=rx; exact SeqAt.EqAt.bool_str a b t
  | _=>exact absurd (show false=true from fx) Bool.false_ne_true
 | int a =>
  obtain⟨t',rfl⟩:=ry;cases x with
  | non=>cases rx; exact SeqAt.EqAt.int_none a t'
  | bl b=>cases rx; exact SeqAt.EqAt.int_bool a t' b
  | int b=>obtain⟨t,rfl⟩:=rx; exact SeqAt.EqAt.int_int a t' b t
  | str b=>obtain⟨t,rfl⟩:=rx; exact SeqAt.EqAt.int_str a t' b t
  | _=>exact absurd (show false=true from fx) Bool.false_ne_true
 | str a =>
  obtain⟨t',rfl⟩:=ry;cases x with
  | non=>cases rx; exact SeqAt.EqAt.str_none a t'
  | bl b=>cases rx; exact SeqAt.EqAt.str_bool a t' b
  | int b=>obtain⟨t,rfl⟩:=rx; exact SeqAt.EqAt.str_int a t' b t
  | str b=>obtain⟨t,rfl⟩:=rx; exact SeqAt.EqAt.str_str a t' b t
  | _=>exact absurd (show false=true from fx) Bool.false_ne_true
 | _=>exact absurd (show false=true from fy) Bool.false_ne_true
def eqU(x:V)(u:Value):Bool:=match u with
 | .none=>eqV .non x
 | .bool b=>eqV (.bl b) x
 | .int i _=>eqV (.int i) x
 | .str z _=>eqV (.str z) x
 | _=>false
def Q9{x y:V}{u:Value}(r:RelV y u)(f:G0 y=true):eqU x u=eqV y x:=by
 cases y with
 | non=>cases r; rfl
 | bl b=>cases r; rfl
 | int i=>obtain⟨t,rfl⟩:=r; rfl
 | str z=>obtain⟨t,rfl⟩:=r; rfl
 | _=>exact absurd (show false=true from f) Bool.false_ne_true
def O1{x:V}{xs:List V}{us:List Value}(h:Vals xs us):xs.all G0=true->us.any (eqU x)=xs.any fun y=>eqV y x:=by
 induction h with
 | nil=>exact fun _=>rfl
 | cons r t ih =>
  intro f;rw[List.all_cons,Bool.and_eq_true] at f;rw[List.any_cons,List.any_cons,Q9 r f.1,ih f.2]
theorem J0{A:Around}{s:Shared}{x:V}{v:Value}(rx:RelV x v)(fx:G0 x=true):∀{xs:List V} {us:List Value},Vals xs us->xs.all G0=true->∀u∈us,SeqAt.EqAt A s u v (eqU x u)
 | _,_,.nil,_=>fun u hu=>by cases hu
 | y::xs,u::us,.cons r t,f=>fun u' hu=>by
  rw[List.all_cons,Bool.and_eq_true] at f;rcases List.mem_cons.mp hu with rfl|hu
  .rw[Q9 r f.1]; exact VN r rx f.1 fx
  .exact J0 rx fx t f.2 u' hu
def inV(x:V)(xs:List V):Bool:=xs.any fun y=>eqV y x
def rIn(K:Frag)(neg:Bool):R2:=fun x y H Q=>∃p xs,y=.ref p/\(SqL K H p xs\/SqT K H p xs)/\G0 x=true/\xs.all G0=true/\Q (.bl (if neg then !inV x xs else inV x xs)) H
def Qs:OpR X (compareOp .In) (rIn X.K false):=by
 intro pins s σ H x y v u Q I rx ry h;obtain⟨p,xs,rfl,hq,fx,fs,q⟩:=h;cases ry;rcases hq with hq|hq
 .obtain⟨its,r,pl,hz⟩:=I.list hq
  refine SeqAt.in_listAt (eqU x) pl.isList (fun w hw=>J0 rx fx r fs w (by simpa using hw)) ⟨.bl _,H,I,rfl,?_⟩;rw[show its.toArray.any (eqU x)=its.any (eqU x) by simp,O1 r fs];exact q
 .obtain⟨its,r,pl,hz⟩:=I.tuple hq
  refine SeqAt.in_tupleAt (eqU x) pl (fun w hw=>J0 rx fx r fs w (by simpa using hw)) ⟨.bl _,H,I,rfl,?_⟩;rw[show its.toArray.any (eqU x)=its.any (eqU x) by simp,O1 r fs];exact q
def LI:CF X (.builtin "len") (fun xs H Q=>∃p ys,xs=[.ref p]/\(SqL X.K H p ys\/SqT X.K H p ys)/\Q (.int ys.length) H):=by
 intro pins s σ H xs us Q I r h;obtain⟨p,ys,rfl,hq,q⟩:=h;obtain⟨u,rfl,rx⟩:=vals1 r;cases rx;have hn:=Iw;rcases hq with hq|hq
 .obtain⟨its,r',pl,hz⟩:=I.list hq
  have hlen:=r'.length;exact Calls.call_len_list pl.isList (by simp only[List.size_toArray]<;>lia) ⟨.int ys.length,H,I.tok _,⟨s.toks+1,by rw[List.size_toArray,hlen]⟩,q⟩
 .obtain⟨its,r',pl,hz⟩:=I.tuple hq
  have hlen:=r'.length;exact len_tuple pl (by simp only[List.size_toArray]<;>lia) ⟨.int ys.length,H,I.tok _,⟨s.toks+1,by rw[List.size_toArray,hlen]⟩,q⟩
def LJ:CF X (.builtin "len") (fun xs H Q=>∃z,xs=[.str z]/\z.length<=sizeLine/\Q (.int z.length) H):=by
 intro pins s σ H xs us Q I r h;obtain⟨z,rfl,hz,q⟩:=h;obtain⟨u,rfl,t,rfl⟩:=vals1 r;have hn:=Iw;exact len_str (by lia) ⟨.int z.length,H,I.tok _,⟨_,rfl⟩,q⟩
def CF.or{f:Value}{r r':List V->Hp->VK->Prop}(h:CF X f r)(h':CF X f r'):CF X f (fun xs H Q=>r xs H Q\/r' xs H Q):=by
 intro pins s σ H xs us Q I rs q;rcases q with q|q
 .exact h pins s σ H xs us Q I rs q
 .exact h' pins s σ H xs us Q I rs q
def HA:CF X (.type "list") (fun xs H Q=>∃p ys,xs=[.ref p]/\(SqL X.K H p ys\/SqT X.K H p ys)/\∀l,H l=none->Q (.ref l) (upd H l (.lst ys))):=by
 intro pins s σ H xs us Q I r h;obtain⟨p,ys,rfl,hq,q⟩:=h;obtain⟨u,rfl,rx⟩:=vals1 r;cases rx;have fin:∀(its:List Value),Vals ys its->ys.length<=sizeLine->∀(h':Heap) (c':Nat),(∀b o',s.heap.get? b=some o'->h'.get? b=some o') ->
   h'.get? s.heap.objs.size=some { cls:=.type "list",dict:=none,data:=.seq its.toArray c',slots:=#[] }->EP X pins σ Q (.ref s.heap.objs.size) { s with heap:=h' }:=fun its r' hz h' c' kp e =>
  ⟨.ref s.heap.objs.size,_,I.laid (t':=s.toks) kp (Nat.le_refl _) (show CT X.prog X.w _ h' _ (.lst ys) from⟨hz,its,c',r',e⟩),rfl,q _ (I.hok.fresh (Nat.le_refl _))⟩
 rcases hq with hq|hq
 .obtain⟨its,r',pl,hz⟩:=I.list hq
  have hlen:=r'.length;obtain⟨o,ho,hc,n,hd⟩:=pl.isList;exact call_list_seq p (.inl rfl) ho hc hd (fun h' c' kp e=>fin its r' hz h' c' kp e) (by simp only[List.size_toArray]<;>lia)
 .obtain⟨its,r',pl,hz⟩:=I.tuple hq
  have hlen:=r'.length;obtain⟨o,ho,hc,n,hd⟩:=pl;exact call_list_seq p (.inr rfl) ho hc hd (fun h' c' kp e=>fin its r' hz h' c' kp e) (by simp only[List.size_toArray]<;>lia)
def tyV(K:Frag)(T:String)(x:V)(H:Hp):Prop:=match x with
 | .str _=>T = "str"
 | .int _=>T = "int"
 | .ref p=>(T = "list" /\ ∃xs,SqL K H p xs)\/(T = "tuple" /\ ∃o,K.lookup p=some o/\o.cls=.type "tuple" /\ o.dict=none) \/
   (T = "dict" /\ ((∃kvs,H p=some (.dK kvs))\/∃kvs,H p=some (.dT kvs)))\/(T = "set" /\ ∃S n,H p=some (.set S n))
 | _=>False
def Xx{pins:List (Addr×Obj)}{σ:St}{H:Hp}{s:Shared}{T:String}{x:V}{v:Value}(I:Inv X pins σ H s)(r:RelV x v)(ty:tyV X.K T x H):
  s.TypeIs v T/\∀a,v=.ref a->∃ob,s.heap.get? a=some ob/\ob.dict=none:=by
 cases x with
 | str z =>
  obtain⟨t,rfl⟩:=r;cases (show T = "str" from ty);exact⟨typeIs_str s z t,fun _ e=>nomatch e⟩
 | int i =>
  obtain⟨t,rfl⟩:=r;cases (show T = "int" from ty);exact⟨typeIs_int s i t,fun _ e=>nomatch e⟩
 | ref p =>
  cases r;rcases ty with ⟨rfl,xs,hq⟩|⟨rfl,o,hk,hc,hd⟩|⟨rfl,hk⟩|⟨rfl,S,n,hk⟩
  .obtain⟨its,_,pl,_⟩:=I.list hq
   refine⟨pl.isList.typeIs,fun a e=>?_⟩;cases e;obtain⟨o,n,e,c,hd,_⟩:=pl;exact⟨o,e,hd⟩
  .refine⟨⟨o,I.kIn p o hk,hc⟩,fun a e=>?_⟩
   cases e;exact⟨o,I.kIn _ o hk,hd⟩
  .have z:∃o,s.heap.get? p=some o/\o.ExactDict:=by
    rcases hk with ⟨kvs,hk⟩|⟨kvs,hk⟩
    .obtain⟨_,_,_,_,o,_,_,e,ex,_⟩:=I.hok p _ hk
     exact⟨o,e,ex⟩
    .obtain⟨_,_,_,_,o,_,_,e,ex,_⟩:=I.hok p _ hk
     exact⟨o,e,ex⟩
   obtain⟨o,e,ex⟩:=z;refine⟨⟨o,e,ex.1⟩,fun a e2=>?_⟩;cases e2;exact⟨o,e,ex.2.1⟩
  .obtain⟨o,_,_,_,e,ex,_⟩:=I.hok p _ hk
   refine⟨⟨o,e,ex.1⟩,fun a e2=>?_⟩;cases e2;exact⟨o,e,ex.2.1⟩
 | _=>exact False.elim ty
def tBM(K:Frag)(T:String)(r:V->List V->Hp->VK->Prop)(to:TE)(t:TA):TE:=fun σ H Q=>to σ H fun x H1=>tyV K T x H1/\t σ H1 fun xs H2=>r x xs H2 Q
variable{o e:Expr}{es:List Expr}{to:TE}{t:TA}{name:Str}{apos cpos:Pos}{T id:String}{r:V->List V->Hp->VK->Prop}
def Pr(pa:PlainAttrs T)(slot:Slot T name id)(hty:typeOf (.builtin id)=pure (.type "method_descriptor"))(hm:MtR X id r)(ho:PE X o to)(ha:PA X (e::es) t)(hbase:attributeBase o name X.env (eval o X.env)=eval o X.env:=by rfl)(hfew:((backTo cpos (starEach (e::es) X.env)).all (fun x=>!x.1)&&(backToKw cpos (keywordEach [] X.env)).all (fun x=>x.1.isSome)
   && decide ((e::es).length+([]:List Keyword).length+(if ([]:List Keyword).isEmpty then 0 else 1)<30))=true:=by rfl)(hline:(apos.endLine==cpos.line)=true:=by rfl)(hs:starEach (e::es) X.env=(false,eval e X.env)::starEach es X.env:=by rfl)(hplain:(backTo cpos (starEach es X.env)).any (·.1)=false:=by rfl):
  PE X (.Call (.Attribute o name apos) (e::es) [] cpos) (tBM X.K T r to t):=by
 intro pins s σ H Q I h;refine wpAny_Call_method_late hbase hfew hline rfl (thn (ho pins s σ H _ I h) fun v s1 yy=>?_);obtain⟨x,H1,I1,r1,ty,q1⟩:=yy;obtain⟨h1,h2⟩:=Xx I1 r1 ty;refine⟨T,id,pa,slot,hty,h1,h2,?_⟩;have hA:=ha cpos pins s1 σ H1 _ I1 q1;rw[hs] at hA |-;refine Calls.callWith_builtin (by show(false || (backTo cpos (starEach es X.env)).any (·.1))=false; rw[hplain]<;>rfl) (Calls.evalArgs_plain ?_);exact thn hA fun us s2 ⟨vs,H2,I2,r2,q2⟩=>hm pins s2 σ H2 x vs v us Q I2 r1 r2 q2
/- xs.append(e),list.index on a module's tuple .. are MtR facts of 06m -/
end
end L2
namespace L2
open PySem PySem.Spec PyProof.Rows
def MtM(X:Cx)(id:String)(r:V->List V->Hp->VK->Prop):Prop:=
 ∀(pins:List (Addr×Obj)) (s:Shared) (σ:St) (H:Hp) (x:V) (xs:List V) (v:Value) (us:List Value) (Q:VK),Inv X pins σ H s->RelV x v->Vals xs us->r x xs H Q ->
  wpAny (model X.prog X.w) X.A (call (.builtin id) (v::us)) (EP X pins σ Q) X.xe s
def Vals.one{x:V}{us:List Value}(h:Vals [x] us):∃u,us=[u]/\RelV x u:=by
 cases h with
 | cons r t=>cases t; exact⟨_,rfl,r⟩
def Vals.two{x y:V}{us:List Value}(h:Vals [x,y] us):∃u v,us=[u,v]/\RelV x u/\RelV y v:=by
 cases h with
 | cons r t =>
  obtain⟨v,rfl,q⟩:=Vals.one t;exact⟨_,_,rfl,r,q⟩
def Vals.reverse{xs:List V}{us:List Value}(h:Vals xs us):Vals xs.reverse us.reverse:=by
 induction h with
 | nil=>exact .nil
 | cons r t ih=>rw[List.reverse_cons,List.reverse_cons]; exact Vals.append ih (.cons r .nil)
theorem Vals.rep{xs:List V}{us:List Value}(h:Vals xs us):∀k:Nat,Vals (List.replicate k xs).flatten (List.replicate k us).flatten
 | 0=>.nil
 | k+1=>by
  rw[List.replicate_succ,List.replicate_succ,List.flatten_cons,List.flatten_cons];exact Vals.append h (Vals.rep h k)
theorem foldl_rep(its:List Value):∀(k:Nat) (acc:List Value),
  List.foldl (fun x1 x2=>x1++x2) acc.toArray (List.replicate k its.toArray)=(acc++(List.replicate k its).flatten).toArray
 | 0,acc=>by simp
 | k+1,acc=>by
  have e:acc.toArray++its.toArray=(acc++its).toArray:=by simp
  have e2:(acc++its)++(List.replicate k its).flatten=acc++(List.replicate (k+1) its).flatten:=by
   rw[List.replicate_succ,List.flatten_cons,List.append_assoc]
  rw[<- e2,<- foldl_rep its k (acc++its),<- e,List.replicate_succ,List.foldl_cons]
section
variable{X:Cx}{pins:List (Addr×Obj)}{σ:St}{H:Hp}{s:Shared}{l b:Addr}{xs ys zs:List V}
def Inv.lset{its its':List Value}{n:Nat}{f:Array Value->Array Value}{t':Nat}(I:Inv X pins σ H s)(hH:H l=some (.lst xs))(e:s.heap.get? l=some { cls:=.type "list",data:=.seq its.toArray n })(hf:f its.toArray=its'.toArray)(hv:Vals ys its')(hz:ys.length<=sizeLine):
  Inv X pins σ (upd H l (.lst ys)) { s with heap:=s.heap.update l (Obj.mapSeq f),toks:=t' }:=by
 have q:=PySem.IsL.update e f;rw[hf] at q;refine I.write (x:=l) (e:=l) (by rw[hH]; exact trivial) (.inl rfl) (fun b' u hb hu=>(Heap.get?_update_other s.heap (Obj.mapSeq f) (Ne.symm hb)).trans hu) ⟨_,q⟩ ?_;exact⟨hz,its',_,hv,q⟩
theorem Inv.lnew{its:List Value}{t':Nat}(I:Inv X pins σ H s)(hv:Vals ys its)(hz:ys.length<=sizeLine):
  Inv X pins σ (upd H s.heap.objs.size (.lst ys)) { s with heap:=s.heap.push { cls:=.type "list",data:=.seq its.toArray },toks:=t' }:=
 I.laid (fun _ _ q=>Heap.get?_push_of_some _ q) (Nat.le_refl _) ⟨hz,its,0,hv,Heap.get?_push_size _ rfl⟩
theorem Inv.fresh(I:Inv X pins σ H s):H s.heap.objs.size=none:=I.hok.fresh (Nat.le_refl _)
def Inv.lstM(I:Inv X pins σ H s)(hH:H l=some (.lst xs)):xs.length<=sizeLine/\∃(its:List Value) (n:Nat),Vals xs its/\xs.length=its.length/\s.heap.get? l=some { cls:=.type "list",data:=.seq its.toArray n }:=by
 obtain⟨z,its,n,r,e⟩:=I.hok l _ hH;exact⟨z,its,n,r,r.length,e⟩
def RW{n:Nat}(h:n<=sizeLine):Builtin.List.listTooLong n=false:=by
 unfold Builtin.List.listTooLong;exact decide_eq_false (by lia)
end
section
variable{X:Cx}
def Mw:V->List V->Hp->VK->Prop:=fun x vs H Q=>∃l xs y,x=.ref l/\vs=[y]/\H l=some (.lst xs)/\xs.length<sizeLine/\Q .non (upd H l (.lst (xs++[y])))
def GO:MtM X "list.append" Mw:=by
 intro pins s σ H x vs v us Q I rx rv h;obtain⟨l,xs,y,rfl,rfl,hH,hz,q⟩:=h;cases rx;obtain⟨u,rfl,ru⟩:=rv.one;obtain⟨z,its,n,r,hl,e⟩:=I.lstM hH;refine call_meets F.slot_list_append ⟨_,e,rfl⟩ F.entry_list_append (F.args_list_append_2 _ _) (PySem.list_append l its.toArray n u (by rw[List.size_toArray]; lia)) ⟨e,?_⟩;refine⟨.non,_,I.lset (its':=its++[u]) hH e (by simp) (r.append (.cons ru .nil)) ?_,rfl,q⟩;rw[List.length_append,List.length_singleton];lia
def WX:R2:=fun x y H Q=>∃l b xs zs,x=.ref l/\y=.ref b/\H l=some (.lst xs)/\H b=some (.lst zs)/\xs.length+zs.length<=sizeLine/\∀p,H p=none->Q (.ref p) (upd H p (.lst (xs++zs)))
def Wy:OpR X (binaryOp .Add) WX:=by
 intro pins s σ H x y v u Q I rx ry h;obtain⟨l,b,xs,zs,rfl,rfl,hH,hB,hz,q⟩:=h;cases rx;cases ry;obtain⟨z,its,n,r,hl,e⟩:=I.lstM hH;obtain⟨z2,its2,n2,r2,hl2,e2⟩:=I.lstM hB;refine PySem.P.add_list e e2 ?_ (by rw[List.size_toArray,List.size_toArray]; lia);have ea:its.toArray++its2.toArray=(its++its2).toArray:=by simp
 rw[ea];exact⟨.ref _,_,I.lnew (t':=s.toks) (r.append r2) (by rw[List.length_append]; lia),rfl,q _ I.fresh⟩
def Yq:R2:=fun x y H Q=>∃l k xs,x=.ref l/\y=.int k/\H l=some (.lst xs)/\-(2 ^ 63)<=k/\k<2 ^ 63/\xs.length*k.toNat<=sizeLine /\
 ∀p,H p=none->Q (.ref p) (upd H p (.lst (List.replicate k.toNat xs).flatten))
def len_rep{α:Type}(xs:List α)(k:Nat):(List.replicate k xs).flatten.length=k*xs.length:=by
 induction k with
 | zero=>simp
 | succ k ih=>rw[List.replicate_succ,List.flatten_cons,List.length_append,ih,Nat.succ_mul,Nat.add_comm]
def R9:OpR X (binaryOp .Mult) Yq:=by
 intro pins s σ H x y v u Q I rx ry h;obtain⟨l,k,xs,rfl,rfl,hH,h1,h2,hz,q⟩:=h;cases rx;obtain⟨t,rfl⟩:=ry;obtain⟨z,its,n,r,hl,e⟩:=I.lstM hH;have hlen:its.toArray.size*k.toNat<=sizeLine:=by rw[List.size_toArray,<- hl]; exact hz
 have hcap:¬its.toArray.size*k.toNat > (2 ^ 63-1) / 8:=by
  have:(sizeLine:Nat)<=(2 ^ 63-1) / 8:=by decide
  lia
 have hfit:¬(!Builtin.List.listFitsIndex k)=true:=by
  rw[fitsIndex_both h1 h2];exact Bool.false_ne_true
 have hlong:¬Builtin.List.listTooLong (its.toArray.size*k.toNat)=true:=by
  rw[RW hlen];exact Bool.false_ne_true
 have hnew:List.foldl (fun x1 x2=>x1++x2) #[] (List.replicate (if its.toArray.isEmpty=true then 0 else k.toNat) its.toArray)=(List.replicate k.toNat its).flatten.toArray:=by
  have f0:∀m:Nat,List.foldl (fun x1 x2=>x1++x2) #[] (List.replicate m its.toArray)=(List.replicate m its).flatten.toArray:=fun m=>by
   have:=foldl_rep its m [];rw[List.nil_append] at this;exact this
  rw[f0];cases its with
  | nil=>simp
  | cons a r'=>rw[if_neg (by simp)]
 refine wpAny_binaryOp_repeat_ref (T := "list") (U := "int") (by decide) ⟨_,e,rfl⟩ (fun s'=>typeIs_int s' k t) noFill_list_mul F.fills_int_mul F.slot_int_rmul repeat_list F.slot_int_index.lookup
  (call_meets F.slot_int_rmul (typeIs_int s k t) F.entry_int_rmul (F.args_int_rmul_2 _ _) (int___rmul___int_list k t l its.toArray n)
   ⟨e,rfl,⟨_,e,rfl⟩,call_meets F.slot_list_mul ⟨_,e,rfl⟩ F.entry_list_mul (F.args_list_mul_2 _ _) (AutoListH.list___mul___list_int_3 l its.toArray n k t hfit hcap hlong) ⟨e,?_⟩⟩)
 rw[hnew];exact⟨.ref _,_,I.lnew (t':=s.toks) (r.rep k.toNat) (by rw[len_rep,Nat.mul_comm]; exact hz),rfl,q _ I.fresh⟩
end
end L2
namespace Att
open PySem PySem.W PySem.Calls PyProof.Rows
def IZ{P:Params}{h:Heap}:∀(ns:List Int) (vs:List Value),WellAll P h vs (ns.map WData.int)->IntsAre vs ns:=by
 intro ns;induction ns with
 | nil =>
  intro vs w;rw[List.map_nil] at w;cases w;exact .nil
 | cons n ns ih =>
  intro vs w;rw[List.map_cons] at w;cases w with
  | cons a b =>
   cases a;exact .cons _ _ (ih _ b)
def QL{l:OpenLaw}{n:Nat}(hn:l.most=some n){P:Params}{h:Heap}{args:List WData}{vals:List Value}(hpre:l.row.toRowW.claim.pre args=true)(hwl:WellAll P h vals args):
  ∃a vs ns,vals=[Value.ref a]/\args=[WData.list (ns.map WData.int)]/\h.get? a=some { cls:=.type "list",data:=.seq vs.toArray }/\IntsAre vs ns/\ns.length<=n:=by
 have hsh:WShape.hasAll [] args [.list .int]=true:=(pre_splitW hpre).1;have hc:l.pre.holds [] { args:=args }=true:=(pre_splitW hpre).2;obtain⟨d,r,rfl,h1,h2⟩:=hasAllW_cons hsh;obtain rfl:=hasAllW_nil h2;obtain⟨xs,rfl,h3⟩:=hasW_list h1;obtain⟨ns,rfl⟩:=items_int h3;have hlen:ns.length<=n:=by
  unfold OpenLaw.pre at hc;have h4:(WTm.not (.lt (.lit (.int (n:Int))) (.len (.arg 0)))).holds [] { args:=[.list (ns.map .int)] }=true:=by
   have h4:=(holds_andW hc).1;rw[hn] at h4;exact h4
  have h5:=condW_of h4 (w_not (w_lt w_lit (w_len_list (w_arg rfl))));rw[List.length_map] at h5;refine Nat.le_of_not_lt fun q=>?_;have q':(n:Int)<((ns.length:Nat):Int):=by lia
  first
   | (rw[decide_eq_true q'] at h5; exact absurd h5 (by decide))
   | (simp at h5; lia)
 cases hwl with
 | cons w1 w2 =>
  cases w2;cases w1 with
  | list ho hall=>exact⟨_,_,ns,rfl,rfl,ho,IZ ns _ hall,hlen⟩
theorem QB(l:OpenLaw)(args:List WData):l.row.toRowW.claim.post args (.bool true) args=true:=
 postW_of (r:=l.row.toRowW) (X:=(true==true))
  (show WShape.has [] (.bool true) .bool=true by first|rfl|decide|simp[WShape.has,WShape.arms,WShape.armsAll])
  (show(WTm.eq .res (.lit (.bool true))).value [] { args:=args,res:=some (.bool true),after:=args }=some (.bool (true==true)) from w_eq_bool (w_res rfl) w_lit) rfl
def M3{l:OpenLaw}{n:Nat}{q:Program}{loose:List Str}{XP:(Str->Option Value)->Heap->Prop}{YP:World->Heap->Prop}{d:DefRec}(hn:l.most=some n)(hdf:d.params.defaults=[])(call:∀(w:World) (s₀ s₁:Shared) (mg mb:Str->Option Value) (fa:Addr) (o:Obj) (pm cd doc:Value) (a:Addr) (vs:List Value) (ns:List Int),
   Ground q loose [] XP w s₀ mg mb s₁.heap->YP w s₁.heap ->
   s₁.heap.get? fa=some o->o.data=.func (docDef d.name d.params d.body d.scope pm cd doc)->s₁.heap.CodeRec cd d.name->mg d.name=some (.ref fa) ->
   s₁.heap.get? a=some { cls:=.type "list",data:=.seq vs.toArray }->IntsAre vs ns->ns.length<=n->s₁.gens = #[] ->
   codeAny (model l.prog w) callerA (.call (.ref fa) ⟨[.ref a],[]⟩) (fun r s'=>r=.ok (.ret (.bool true))/\OldK s₁.heap s'.heap/\s'.os=s₁.os/\AllBare s'.gens) s₁):
  WalkO q loose XP YP l.row.toRowW d [] (fun f vs=>PySem.call f vs):=by
 intro w s₀ s₁ mg mb G Y fa o pm cd doc dV kV ho hd hcd hD hmg hg args vals as hpre hlay hrd hwl hlo;obtain rfl:dV=.none:=Dflts.none hD hdf;obtain rfl:kV=.none:=Dflts.noKw hD;obtain⟨a,vs,ns,rfl,rfl,hobj,hints,hlen⟩:=QL hn hpre hwl;refine enter_call (codeAny_mono (call w s₀ s₁ mg mb fa o pm cd doc a vs ns G Y ho (fd_plain hd) hcd hmg hobj hints hlen hg) fun r s' hq=>?_);obtain⟨rfl,h2,h3,h4⟩:=hq;exact⟨.inl ⟨.bool true,.bool true,[],rfl,fun _=>rfl,.bool true,QB l _,fun _=>⟨List.Pairwise.nil,fun _ hm=>(nomatch hm)⟩⟩,h2,h3,h4⟩
end Att
namespace L2
open PySem PySem.Spec PyProof.Rows
def QP{vs:List Value}{ns:List Int}(h:IntsAre vs ns):Vals (ns.map V.int) vs:=by
 induction h with
 | nil=>exact .nil
 | cons n t h ih=>exact .cons ⟨t,rfl⟩ ih
def Ti(H:Hp):Prop:=∀b,H b=none\/(∃o xs,H b=some (.frz o (.lst xs)))\/∃ps,H b=some (.tbl ps)
def H0(K:Frag)(b:Addr):Prop:=∃q:Str,∃n:Str,(n,q)∈JY/\∃c,PySem.W.tabIn K n=some (c,b)
noncomputable def Sw(K:Frag)(b:Addr):Str:=by classical exact if h:H0 K b then Classical.choose h else BW
def QR(K:Frag):Prop:=∀(n q n' q':Str) (c c' b:Addr),(n,q)∈JY->(n',q')∈JY->PySem.W.tabIn K n=some (c,b)->PySem.W.tabIn K n'=some (c',b)->q=q'
def Yk{K:Frag}(U:QR K){n q:Str}{c b:Addr}(hm:(n,q)∈JY)(e:PySem.W.tabIn K n=some (c,b)):Sw K b=q:=by
 have h:H0 K b:=⟨q,n,hm,c,e⟩;unfold Sw;rw[dif_pos h];obtain⟨n',hm',c',e'⟩:=Classical.choose_spec h;exact U _ _ _ _ _ _ _ hm' hm e' e
noncomputable def UZ(K:Frag)(H:Hp):Hp:=fun b=>by classical exact if H0 K b then some (.tbl #[.str (Sw K b) 0]) else H b
theorem U0{K:Frag}{H:Hp}{b:Addr}(h:H0 K b):UZ K H b=some (.tbl #[.str (Sw K b) 0]):=if_pos h
theorem NY{K:Frag}{H:Hp}{b:Addr}(h:¬H0 K b):UZ K H b=H b:=if_neg h
def RN{P:Program}{w:World}{K:Frag}{mg mb:Str->Option Value}{CX:CXT}{k:Nat}{fa a:Addr}{fd:FuncData}{x:Str}{sp:Sp}{s₁:Shared}{vs:List Value}{ns:List Int}(KX:K.In s₁.heap)(hns:s₁.heap.Ns mainGlobals mg)(hb:s₁.heap.Ns builtinsNs mb)(hbb:∀x:Str,x ≠ "__name__" -> mb x=bootBuiltins x)(hlim:s₁.heap.NoLimit)(hg:s₁.gens = #[])(ha:s₁.heap.get? a=some { cls:=.type "list",data:=.seq vs.toArray })(hi:IntsAre vs ns)(hl:ns.length<=sizeLine)(hr:Room k callerA)(F:∀base:Heap,K.In base->base.Ns mainGlobals mg->FnOk P w K mg base CX k fa fd [x] sp)(hbind:∀(s:Shared) (u:Value),BindsTo s fd ⟨[u],[]⟩ [(x,u)])(hsp:∀H:Hp,Ti H->SqL K H a (ns.map V.int)->sp [.ref a] H (fun v _=>v=.bl true) fun _ _ _=>False)(hCX:∀H e s',CX [] H s₁ (fun _ _ _=>False) e s'->False)(hT:∀(n q:Str),(n,q)∈JY->∀c b,PySem.W.tabIn K n=some (c,b)->PySem.W.CodeHd s₁.heap c b/\s₁.heap.get? b=some { cls:=.none,data:=.fields #[] }/\K.lookup b=none)(hU:QR K)(hbm:∃bm ob,mg "__builtins__" = some (.ref bm)/\bm≠builtinsNs/\s₁.heap.get? bm=some ob/\ob.cls=.type "module" /\ ob.dict=some builtinsNs/\ob.data=.plain):
  codeAny (model P w) callerA (.call (.ref fa) ⟨[.ref a],[]⟩) (fun r s'=>r=.ok (.ret (.bool true))/\OldK s₁.heap s'.heap/\s'.os=s₁.os/\AllBare s'.gens) s₁:=by
 have rv:=QP hi;have lenV:=hi.length;have naT:¬H0 K a:=fun⟨q,n,hm,c,e⟩=>by
  obtain⟨_,e2,_⟩:=hT n q hm c a e;rw[ha] at e2; cases e2
 have core:∀H₁:Hp,(∀b,H₁ b=none\/∃o xs,H₁ b=some (.frz o (.lst xs)))->SqL K (UZ K H₁) a (ns.map V.int)->HOk P w H₁ s₁.heap->(∀b,H₁ b≠none->b=a)->(H₁ a≠none->K.lookup a=none) ->
   codeAny (model P w) callerA (.call (.ref fa) ⟨[.ref a],[]⟩) (fun r s'=>r=.ok (.ret (.bool true))/\OldK s₁.heap s'.heap/\s'.os=s₁.os/\AllBare s'.gens) s₁:=by
  intro H₁ hO₁ hS hok₁ hA₁ hK₁;generalize hH:UZ K H₁=H at hS;have hin:∀{b},H0 K b->H b=some (.tbl #[.str (Sw K b) 0]):=fun h=>by rw[<- hH]; exact U0 h
  have hout:∀{b},¬H0 K b->H b=H₁ b:=fun h=>by rw[<- hH]; exact NY h
  have hO:Ti H:=fun b=>by
   by_cases q:H0 K b
   .exact .inr (.inr ⟨_,hin q⟩)
   .rw[hout q]
    exact(hO₁ b).imp id .inl
  have hok:HOk P w H s₁.heap:=fun b u e=>by
   by_cases q:H0 K b
   .rw[hin q] at e; cases e
    obtain⟨q1,n,hm,c,ec⟩:=q;exact⟨#[],(hT n q1 hm c b ec).2.1,trivial,fun pos c h=>by cases h⟩
   .rw[hout q] at e
    rcases hO₁ b with z|⟨o,xs,z⟩
    .rw[z] at e; cases e
    .rw[z] at e; cases e
     obtain⟨e1,e2⟩:=hok₁ b _ z;exact⟨e1,e2⟩
  have hA:∀b,H b≠none->b=a\/H0 K b:=fun b z=>by
   by_cases q:H0 K b
   .exact .inr q
   .rw[hout q] at z; exact .inl (hA₁ b z)
  have base_of:∀{b:Addr} {o:Obj},s₁.heap.get? b=some o->H b=none->(KI s₁.heap H).get? b=some o:=fun e n=>Rl e n;have noA:∀{b:Addr} {o:Obj} {es:Array DictEntry} {ep:Nat},s₁.heap.get? b=some o->o.data=.dict es ep->H b=none:=fun {b o es ep} e d=>by
   cases q:H b with
   | none=>rfl
   | some u =>
    rcases hA b (by rw[q]; simp) with e'|⟨q1,n,hm,c,ec⟩
    .subst e'
     rw[ha] at e; cases e;have d':Data.seq vs.toArray _=Data.dict es ep:=d;cases d'
    .rw[(hT n q1 hm c b ec).2.1] at e; cases e
     have d':Data.fields _=Data.dict es ep:=d;cases d'
  have nsK:∀{b:Addr} {m:Str->Option Value},s₁.heap.Ns b m->(KI s₁.heap H).Ns b m:=fun {b m} ⟨o,es,ep,e,d,r⟩=>⟨o,es,ep,base_of e (noA e d),d,r⟩;have hKb:K.In (KI s₁.heap H):=fun b o e=>base_of (KX b o e) (by
   cases q:H b with
   | none=>rfl
   | some u =>
    rcases hA b (by rw[q]; simp) with e'|⟨q1,n,hm,c,ec⟩
    .subst e'
     rw[hout naT] at q;rw[hK₁ (by rw[q]; simp)] at e; cases e
    .rw[(hT n q1 hm c b ec).2.2] at e; cases e)
  have bmK:∃bm ob,mg "__builtins__" = some (.ref bm)/\bm≠builtinsNs/\(KI s₁.heap H).get? bm=some ob/\ob.cls=.type "module" /\ ob.dict=some builtinsNs/\ob.data=.plain:=by
   obtain⟨bm,ob,m1,m2,m3,m4,m5,m6⟩:=hbm;refine⟨bm,ob,m1,m2,base_of m3 ?_,m4,m5,m6⟩;cases q:H bm with
   | none=>rfl
   | some u =>
    rcases hA bm (by rw[q]; simp) with e'|⟨q1,n,hm,c,ec⟩
    .subst e'
     rw[ha] at m3; cases m3;cases m6
    .rw[(hT n q1 hm c bm ec).2.1] at m3; cases m3
     cases m6
  have hM:Mod K mg (KI s₁.heap H):=⟨hKb,nsK hns,⟨mb,nsK hb,hbb⟩,let⟨mc,h1,h2⟩:=hlim; ⟨mc,nsK h1,h2⟩,bmK⟩;have e0:Env0 P w K mg (KI s₁.heap H) callerA [] s₁ H:=⟨rfl,hM,fun b o e=>Ue e,Nat.le_of_eq (Qf _ _),trivial,fun b hb=>absurd (show b∈([]:List Addr) from hb) (by simp),hok,.of_eq hg,fun n q hm c b e=>⟨_,hin ⟨q,n,hm,c,e⟩,by rw[Yk hU hm e]; rfl⟩⟩;refine codeAny_mono ((F _ hKb (nsK hns)).run callerA [] s₁ H ⟨[.ref a],[]⟩ [.ref a] [.ref a] _ _ hr e0 (hbind s₁ (.ref a)) (.cons rfl .nil) (hsp H hO hS)) fun r s' h=>?_;cases r with
  | error e=>exact(hCX H e s' h).elim
  | ok fl =>
   cases fl with
   | next=>exact False.elim h
   | brk=>exact False.elim h
   | cont=>exact False.elim h
   | ret u =>
    obtain⟨v,H',os,bare,un,hok',r',q⟩:=h;have q':v=.bl true:=q;subst q';obtain rfl:u=Value.bool true:=r';have fin:∀b o,s₁.heap.get? b=some o->s'.heap.get? b=some o\/∃qs,H0 K b/\s'.heap.get? b=some { cls:=.none,data:=.fields qs }:=fun b o e=>by
     cases q:H b with
     | none=>exact .inl (un.keep b o e q (by intro z; exact absurd (show b∈([]:List Addr) from z) (by simp)) (by simp))
     | some u =>
      by_cases tq:H0 K b
      .rw[hin tq] at q; cases q
       obtain⟨more,z2⟩:=un.tbls b _ (hin tq);obtain⟨qs,e2,_⟩:=hok' b _ z2;exact .inr ⟨qs,tq,e2⟩
      .rcases hO₁ b with z|⟨ob,xs,z⟩
       .rw[hout tq,z] at q; cases q
       .have z2:=un.frzs b ob _ (by rw[hout tq]; exact z)
        obtain⟨e1,_⟩:=hok₁ b _ z;obtain⟨e2,_⟩:=hok' b _ z2;rw[e] at e1; cases e1;exact .inl e2
    refine⟨rfl,⟨fun b o e=>?_,fun b o e=>?_⟩,os,bare⟩
    .rcases fin b o e with z|⟨qs,⟨q1,n,hm,c,ec⟩,z⟩
     .exact .inl z
     .obtain⟨h1,h2,_⟩:=hT n q1 hm c b ec
      rw[e] at h2; cases h2;refine .inr (.inl ⟨(h1.tab e).isCodeTable,rfl,#[],qs,rfl,?_⟩);rw[z]; simp
    .rcases fin b o e with z|⟨qs,_,z⟩
     .exact⟨_,z⟩
     .exact⟨_,z⟩
 cases hk:K.lookup a with
 | some o =>
  -- the script is one of the module's own objects
  have e:=KX a o hk;rw[ha] at e;cases e;refine core (fun _=>none) (fun _=>.inl rfl) (.inr ⟨_,vs.toArray,_,hk,rfl,rfl,rfl,by rw[List.size_toArray,lenV]; exact hl,by simpa using rv⟩) (fun b u z=>by have z':(none:Option HO)=some u:=z; cases z') (fun b z=>absurd rfl z) fun z=>absurd rfl z
 | none =>
  refine core (fun b=>if b=a then some (.frz { cls:=.type "list",data:=.seq vs.toArray } (.lst (ns.map V.int))) else none) (fun b=>?_) (.inl (.inr ⟨{ cls:=.type "list",data:=.seq vs.toArray },by rw[NY naT]; exact if_pos rfl⟩)) (fun b u z=>?_) (fun b z=>?_) fun _=>hk
  .by_cases hb:b=a
   .exact .inr ⟨_,_,if_pos hb⟩
   .exact .inl (if_neg hb)
  .by_cases hb:b=a
   .have z':=(if_pos hb).symm.trans z
    cases z';subst hb;exact⟨ha,by rw[List.length_map]; exact hl,vs,_,rv,ha⟩
   .have z':=(if_neg hb).symm.trans z
    cases z'
  .by_cases hb:b=a
   .exact hb
   .exact absurd (if_neg hb) z
end L2
namespace L2
open PySem PySem.Spec PyProof.Rows
def U4{l:PySem.W.OpenLaw}{n k:Nat}{q:Program}{loose:List Str}{XP:(Str->Option Value)->Heap->Prop}{YP:World->Heap->Prop}{d:DefRec}{K:Params->Frag}{CX:World->CXT}{sp:World->Sp}{x:Str}(hn:l.most=some n)(hn2:n<=sizeLine)(hdf:d.params.defaults=[])(hr:Room k callerA)(hY:∀(w:World) (h:Heap),YP w h->(K w.params).In h)(F:∀(w:World) (mg:Str->Option Value) (fa:Addr) (h:Heap),(K w.params).In h->h.Ns mainGlobals mg->mg d.name=some (.ref fa) ->
   ∃fd:FuncData,(∀(s:Shared) (u:Value),BindsTo s fd ⟨[u],[]⟩ [(x,u)]) /\
    ∀base:Heap,(K w.params).In base->base.Ns mainGlobals mg->FnOk l.prog w (K w.params) mg base (CX w) k fa fd [x] (sp w))(hsp:∀(w:World) (H:Hp) (a:Addr) (ns:List Int),ns.length<=n->Ti H->SqL (K w.params) H a (ns.map V.int)->sp w [.ref a] H (fun v _=>v=.bl true) fun _ _ _=>False)(hCX:∀(w:World) (H:Hp) (s:Shared) (e:Value) (s':Shared),CX w [] H s (fun _ _ _=>False) e s'->False)(hT:∀(w:World) (n qn:Str),(n,qn)∈JY->∀(c b:Addr),PySem.W.tabIn (K w.params) n=some (c,b)->(∃d',(recsOf q).find? (fun e=>e.name==n)=some d')/\(K w.params).lookup b=none)(hU:∀w:World,QR (K w.params)):
  PySem.W.WalkO q loose XP YP l.row.toRowW d [] (fun f vs=>PySem.call f vs):=by
 refine Att.M3 hn hdf fun w s₀ s₁ mg mb fa o pm cd doc a vs ns G Y ho hd hcd hmg hobj hints hlen hg=>?_;have KX:=hY w _ Y;obtain⟨fd,hb,hF⟩:=F w mg fa _ KX G.T.g hmg;exact RN KX G.T.g G.T.b G.T.builtins G.T.nolimit hg hobj hints (Nat.le_trans hlen hn2) hr hF hb (fun H hO hS=>hsp w H a ns hlen hO hS) (fun H e s'=>hCX w H s₁ e s') (fun n qn hm c b e=>by
  obtain⟨⟨d',hd'⟩,hk⟩:=hT w n qn hm c b e;obtain⟨z1,z2⟩:=PySem.W.tab_of G.T KX hd' e;exact⟨z1,z2,hk⟩) (hU w) G.T.bmain
end L2

namespace L2
open PySem PySem.Spec PyProof.Rows
def EW(s:Stmt):Arguments:=match s with
 | .FunctionDef _ a _ _ _ _ _ _ _ _=>a
 | _=>{ posonlyargs:=[],args:=[],vararg:=none,kwonlyargs:=[],kw_defaults:=[],kwarg:=none,defaults:=[] }
def Cn(s:Stmt):List Stmt:=match s with
 | .FunctionDef _ _ b _ _ _ _ _ _ _=>b
 | _=>[]
def As(s:Stmt):Scope:=match s with
 | .FunctionDef _ _ _ _ _ _ sc _ _ _=>sc
 | _=>{ kind:=.function,names:=[],isGenerator:=false,isCoroutine:=false }
abbrev CX0:CXT:=fun _ _ _ _ _ _=>False
abbrev E0:XK:=fun _ _ _=>False
theorem AG{X:Cx}:Passes CX0 X E0:=fun _ _ _ _ _ _ _ h=>h.elim
structure Fun (K:Frag) (x qual:Str) (st:Stmt) (f:Addr) (fd:FuncData):Prop where
 ex:∃(oc:Value) (od:Option Addr) (kV doc pm:Value) (an:Option Addr) (cdv ct:Value) (osl:Array (Option Value)),
  fd=PySem.W.fnOf x qual (EW st) (Cn st) (As st) .none kV doc pm an cdv ct/\K.lookup f=some ⟨oc,od,.func fd,osl⟩/\PySem.W.codeIn K cdv qual=true
 kp:PySem.W.keepIn K (.ref f)=true
section
variable{P:Program}{w:World}{K:Frag}{mg:Str->Option Value}{base:Heap}
def Fun.ok{x qual:Str}{st:Stmt}{f:Addr}{fd:FuncData}{N ps:List Str}{k:Nat}{sp:Sp}(F:Fun K x qual st f fd)(S:FnScope N ps (As st))(len:∀vs H Q E,sp vs H Q E->vs.length=ps.length)(hbody:∀(cdv:Value) (A:Around) (outer:List Env) (s:Shared) (H:Hp) (vs:List V) (Q:VK) (E:XK),Room k (A.deeper (envOfC qual (As st) s.heap.objs.size f cdv))->sp vs H Q E ->
   ∃t,PSs (Bd CX0 P w K mg base N qual (As st) f cdv A outer s H E).nox (Cn st) t/\t { nx:=fun _ H'=>Q .non H',rt:=Q } (start N vs) H):FnOk P w K mg base CX0 (k+1) f fd ps sp:=by
 obtain⟨oc,od,kV,doc,pm,an,cdv,ct,osl,rfl,lk,hcd⟩:=F.ex;refine Rf lk hcd S len fun A outer s H vs Q E hr hsp=>?_;obtain⟨t,h,q⟩:=hbody cdv A outer s H vs Q E hr hsp;exact⟨t,h.nox,q⟩
def Fun.binds{x qual:Str}{st:Stmt}{f:Addr}{fd:FuncData}{ps:List Str}(F:Fun K x qual st f fd)(h:∀(kV doc pm:Value) (an:Option Addr) (cdv ct:Value) (us:List Value),us.length=ps.length->bindArgs (PySem.W.fnOf x qual (EW st) (Cn st) (As st) .none kV doc pm an cdv ct) ⟨us,[]⟩=pure (ps.zip us)):Binds K fd ps []:=by
 obtain⟨oc,od,kV,doc,pm,an,cdv,ct,osl,rfl,lk,hcd⟩:=F.ex;exact .all (h kV doc pm an cdv ct)
theorem VT{x qual:Str}{st:Stmt}{f:Addr}{oc:Value}{od an:Option Addr}{osl:Array (Option Value)}{kV doc pm cdv ct:Value}(l:K.lookup f=some ⟨oc,od,.func (PySem.W.fnOf x qual (EW st) (Cn st) (As st) .none kV doc pm an cdv ct),osl⟩)(c:PySem.W.codeIn K cdv qual=true)(k:PySem.W.keepIn K (.ref f)=true):Fun K x qual st f (PySem.W.fnOf x qual (EW st) (Cn st) (As st) .none kV doc pm an cdv ct):=⟨⟨oc,od,kV,doc,pm,an,cdv,ct,osl,rfl,l,c⟩,k⟩
end
def Cu(H H':Hp):Prop:=∀b o,H b=some o->H' b=some o
theorem Cu.trans{H H1 H2:Hp}(a:Cu H H1)(b:Cu H1 H2):Cu H H2:=fun c o h=>b c o (a c o h)
end L2
end
section
namespace L2
open PySem PySem.Spec PyProof.Rows
section
variable{M:Model}{A:Around}{E:Value->Shared->Prop}{s:Shared}
def Bj(h:Heap)(a:Addr):Prop:=∃(o:Obj) (vs:Array Value),h.get? a=some o/\o.data=.fields vs/\vs[2]? = some .none
theorem Bj.keeps{h h':Heap}{a:Addr}(x:Bj h a)(k:∀b o,h.get? b=some o->h'.get? b=some o):Bj h' a:=let⟨o,vs,e,r⟩:=x; ⟨o,vs,k _ _ e,r⟩
theorem Bj.lt{h:Heap}{a:Addr}(x:Bj h a):a<h.objs.size:=let⟨_,_,e,_⟩:=x; Heap.lt_size e
theorem Lg{e:Addr}{h:Heap}{oe:Obj}{vs:Array Value}{x:Value}(he:h.get? e=some oe)(hd:oe.data=.fields vs)(h2:vs[2]? = some .none):Bj (h.update e (Obj.mapFields (·.setIfInBounds 1 x))) e:=
 ⟨_,_,Heap.get?_update_self _ he (Obj.isFreed_of_fields (Obj.data_mapFields hd _)),Obj.data_mapFields hd _,by rw[Array.getElem?_setIfInBounds_ne (by decide)]; exact h2⟩
def Bj.other{e T:Addr}{h:Heap}{f:Obj->Obj}(p:Bj h e)(ne:T≠e):Bj (h.update T f) e:=by
 obtain⟨o,vs,h1,r⟩:=p;exact⟨o,vs,(Heap.get?_update_other _ _ ne).trans h1,r⟩
def He{base:Heap}{l:List Env}{e:Addr}{cls a0 fl:Value}{Q:Unit->Shared->Prop}(f1:base.StaysIn s.heap)(f2:base.get? e=none)(f3:s.heap.FunFrames base l)(f4:s.heap.TracedAtW base e cls a0 fl)(hp:Bj s.heap e)(hQ:∀h',Heap.FlyingW base l e cls a0 h'->s.heap.UpToSlots h'->Bj h' e->Q () { s with heap:=h' }):wpAny M A (setFlight (.ref e) none) Q E s:=by
 obtain⟨oe,vs,T,oT,ts,he,hc,hd,h1,hnT,hTe,hT,hdT,h3⟩:=f4;have hs3:3<ts.size:=(Array.getElem?_eq_some_iff.mp h3).1;have nf:∀b o,s.heap.get? b=some o->(∀ws,o.data≠.fields ws)->b≠T:=fun b o q n z=>by
  subst z; rw[hT] at q; cases q; exact n _ hdT
 unfold setFlight;refine wpAny_bind (wpAny_field he hd h1 ?_);rw[if_pos (show(Value.ref T != Value.none)=true from by simp)];refine wpAny_setField hT hdT hs3 (hQ _ ⟨fun b o q=>?_,f2,f3.of_keeps fun b o q n=>⟨o,(Heap.get?_update_other _ _ (nf b o q n).symm).trans q,rfl⟩,oe,vs,T,_,_,(Heap.get?_update_other _ _ hTe).trans he,hc,hd,h1,hnT,hTe,
  Heap.get?_update_self _ hT (Obj.isFreed_of_fields (Obj.data_mapFields hdT _)),Obj.data_mapFields hdT _,by simp[hs3]⟩ (fun b o q n=>⟨o.slots,(Heap.get?_update_other _ _ (nf b o q n).symm).trans q⟩) (hp.other hTe))
 refine(Heap.get?_update_other _ _ fun z=>?_).trans (f1 b o q);subst z; rw[hnT] at q; cases q
theorem Nq{base:Heap}{l:List Env}{e:Addr}{cls a0:Value}{Q:Unit->Shared->Prop}(hh:Heap.FlyingW base l e cls a0 s.heap)(hp:Bj s.heap e)(hQ:∀h',Heap.FlyingW base l e cls a0 h'->s.heap.UpToSlots h'->Bj h' e->Q () { s with heap:=h' }):wpAny M A (setFlight (.ref e) none) Q E s:=
 He hh.1 hh.2.1 hh.2.2.1 hh.2.2.2.at hp hQ
def IP{base:Heap}{env:Env}{outer:List Env}{L e:Addr}{oe:Obj}{vs:Array Value}{head a0:Value}{hadNext:Bool}{Q:Unit->Shared->Prop}(hfr:A.frames=some (env::outer))(f3:s.heap.FunFrames base (env::outer))(hf:env.frame=some L)(he:s.heap.get? e=some oe)(f1:base.StaysIn s.heap)(f2:base.get? e=none)(hd:oe.data=.fields vs)(hsz:1<vs.size)(h0:vs[0]? = some a0)(h2:vs[2]? = some .none)(hQ:∀h',Heap.FlyingW base (env::outer) e oe.cls a0 h'->s.heap.UpToSlots h'->Bj h' e->Q () { s with heap:=h' }):
  wpAny M A (do let a <- frameOf env; let pl <- entryPlaceOf L hadNext; let b <- EntryCells.newEntry head a .none (rawInt L) .none pl; setField (.ref e) 1 b) (fun _ s'=>wpAny M A (setFlight (.ref e) none) Q E s') E s:=by
 have ne:e∉(env::outer).filterMap (·.frame):=fun z=>by
  obtain⟨_,o,q,n⟩:=f3.mem z;rw[he] at q; cases q; exact n _ hd
 refine wpAny_bind (wpAny_frameOf_fun hfr f3 hf fun h₁ so=>wpAny_bind (wpAny_entryPlaceOf fun pl hpl=>?_));unfold EntryCells.newEntry newFields;refine wpAny_bind (wpAny_newObj_type ?_ (hpl.sizeOk5 _ _ _ _ _));have e1:h₁.get? e=some oe:=(so.2.1 e ne).trans he;have b1:base.StaysIn h₁:=fun b o q=>(so.2.1 b fun z=>by rw[(f3.mem z).1] at q; cases q).trans (f1 b o q);have tn:h₁.objs.size≠e:=Nat.ne_of_gt (Heap.lt_size e1);generalize hob:({ cls:=.type "traceback",dict:=none,data:=.fields ([head,.ref L,.none,rawInt L,.none]++(if pl.isEmpty then List.replicate 6 Value.none else pl)).toArray }:Obj)=ob;have pT:(h₁.push ob).get? h₁.objs.size=some ob:=Heap.get?_push_size h₁ (by subst hob; rfl);have k1:∀b o,b≠e->h₁.get? b=some o->((h₁.push ob).update e (Obj.mapFields (·.setIfInBounds 1 (.ref h₁.objs.size)))).get? b=some o:=fun b o n q=>(Heap.get?_update_other _ _ (Ne.symm n)).trans (Heap.get?_push_of_some ob q);have e2:=Heap.get?_push_of_some ob e1;have nf:∀b o,s.heap.get? b=some o->(∀ws,o.data≠.fields ws)->b≠e:=fun b o q n z=>by
  subst z; rw[he] at q; cases q; exact n _ hd
 have up:s.heap.UpToSlots ((h₁.push ob).update e (Obj.mapFields (·.setIfInBounds 1 (.ref h₁.objs.size)))):=fun b o q n=>by
  obtain⟨sl,w⟩:=so.2.2 b o q;exact⟨sl,k1 b _ (nf b o q n) w⟩
 refine wpAny_setField e2 hd hsz (He (fl:=rawInt L) (base:=base) (l:=env::outer) (cls:=oe.cls) (a0:=a0) (fun b o q=>k1 b o (fun z=>by subst z; rw[f2] at q; cases q) (b1 b o q)) f2 (f3.of_keeps fun b o q n=>?_) ?_ (Lg e2 hd h2) fun h' F u p=>hQ h' F (up.trans u) p)
 .obtain⟨sl,w⟩:=so.2.2 b o q
  exact⟨_,k1 b _ (nf b o q n) w,rfl⟩
 .refine⟨_,_,h₁.objs.size,ob,_,Heap.get?_update_self _ e2 (Obj.isFreed_of_fields (Obj.data_mapFields hd _)),⟨Obj.cls_mapFields _ _,by rw[Array.getElem?_setIfInBounds_ne (by decide)]; exact h0⟩,Obj.data_mapFields hd _,by simp[hsz],b1.fresh,tn,(Heap.get?_update_other _ _ (Ne.symm tn)).trans pT,by subst hob; rfl,?_⟩
  simp
def Ob{base:Heap}{env:Env}{outer:List Env}{L e:Addr}{oe:Obj}{vs:Array Value}{head a0:Value}{hadNext:Bool}{Q:Unit->Shared->Prop}(hfr:A.frames=some (env::outer))(f3:s.heap.FunFrames base (env::outer))(hf:env.frame=some L)(he:s.heap.get? e=some oe)(f1:base.StaysIn s.heap)(f2:base.get? e=none)(hd:oe.data=.fields vs)(hsz:1<vs.size)(h0:vs[0]? = some a0)(h2:vs[2]? = some .none)(hQ:∀h',Heap.HeldW base (env::outer) e oe.cls a0 L h'->s.heap.UpToSlots h'->Bj h' e->Q () { s with heap:=h' }):
  wpAny M A (do let a <- frameOf env; let pl <- entryPlaceOf L hadNext; let b <- EntryCells.newEntry head a .none (rawInt L) .none pl; setField (.ref e) 1 b) Q E s:=by
 have ne:e∉(env::outer).filterMap (·.frame):=fun z=>by
  obtain⟨_,o,q,n⟩:=f3.mem z;rw[he] at q; cases q; exact n _ hd
 refine wpAny_bind (wpAny_frameOf_fun hfr f3 hf fun h₁ so=>wpAny_bind (wpAny_entryPlaceOf fun pl hpl=>?_));unfold EntryCells.newEntry newFields;refine wpAny_bind (wpAny_newObj_type ?_ (hpl.sizeOk5 _ _ _ _ _));have e1:h₁.get? e=some oe:=(so.2.1 e ne).trans he;have b1:base.StaysIn h₁:=fun b o q=>(so.2.1 b fun z=>by rw[(f3.mem z).1] at q; cases q).trans (f1 b o q);have tn:h₁.objs.size≠e:=Nat.ne_of_gt (Heap.lt_size e1);generalize hob:({ cls:=.type "traceback",dict:=none,data:=.fields ([head,.ref L,.none,rawInt L,.none]++(if pl.isEmpty then List.replicate 6 Value.none else pl)).toArray }:Obj)=ob;have pT:(h₁.push ob).get? h₁.objs.size=some ob:=Heap.get?_push_size h₁ (by subst hob; rfl);have k1:∀b o,b≠e->h₁.get? b=some o->((h₁.push ob).update e (Obj.mapFields (·.setIfInBounds 1 (.ref h₁.objs.size)))).get? b=some o:=fun b o n q=>(Heap.get?_update_other _ _ (Ne.symm n)).trans (Heap.get?_push_of_some ob q);have e2:=Heap.get?_push_of_some ob e1;have nf:∀b o,s.heap.get? b=some o->(∀ws,o.data≠.fields ws)->b≠e:=fun b o q n z=>by
  subst z; rw[he] at q; cases q; exact n _ hd
 have up:s.heap.UpToSlots ((h₁.push ob).update e (Obj.mapFields (·.setIfInBounds 1 (.ref h₁.objs.size)))):=fun b o q n=>by
  obtain⟨sl,w⟩:=so.2.2 b o q;exact⟨sl,k1 b _ (nf b o q n) w⟩
 refine wpAny_setField e2 hd hsz (hQ _ ⟨fun b o q=>k1 b o (fun z=>by subst z; rw[f2] at q; cases q) (b1 b o q),f2,f3.of_keeps fun b o q n=>?_,?_⟩ up (Lg e2 hd h2))
 .obtain⟨sl,w⟩:=so.2.2 b o q
  exact⟨_,k1 b _ (nf b o q n) w,rfl⟩
 .refine⟨_,_,h₁.objs.size,ob,_,Heap.get?_update_self _ e2 (Obj.isFreed_of_fields (Obj.data_mapFields hd _)),⟨Obj.cls_mapFields _ _,by rw[Array.getElem?_setIfInBounds_ne (by decide)]; exact h0⟩,Obj.data_mapFields hd _,by simp[hsz],b1.fresh,tn,(Heap.get?_update_other _ _ (Ne.symm tn)).trans pT,by subst hob; rfl,?_⟩
  simp
def Bj.two{e:Addr}{h:Heap}{oe:Obj}{vs:Array Value}(p:Bj h e)(he:h.get? e=some oe)(hd:oe.data=.fields vs):vs[2]? = some .none:=by
 obtain⟨o',vs',q1,q2,q3⟩:=p;rw[he] at q1; cases q1;rw[hd] at q2; cases q2;exact q3
def HM{base:Heap}{env:Env}{outer:List Env}{L e:Addr}{cls a0:Value}{Q:Unit->Shared->Prop}(hfr:A.frames=some (env::outer))(hf:env.frame=some L)(hfl:Heap.FlyingW base (env::outer) e cls a0 s.heap)(hp:Bj s.heap e)(hQ:∀h',Heap.FlyingW base outer e cls a0 h'->s.heap.UpToSlots h'->Bj h' e->Q () { s with heap:=h' }):wpAny M A (leaving env (.ref e)) Q E s:=by
 obtain⟨f1,f2,f3,oe,vs,T,oT,ts,he,⟨rfl,h0⟩,hd,h1,hnT,hTe,hT,hdT,h3⟩:=hfl;have nf:∀b o,s.heap.get? b=some o->(∀ws,o.data≠.fields ws)->b≠T:=fun b o q n z=>by
  subst z; rw[hT] at q; cases q; exact n _ hdT
 have k1:∀b,b≠T->(s.heap.update T (Obj.mapFields (·.setIfInBounds 3 Value.none))).get? b=s.heap.get? b:=fun b n=>Heap.get?_update_other _ _ (Ne.symm n);unfold leaving noteFrame;simp only[hf];refine wpAny_bind (wpAny_bind (wpAny_field he hd h1 ?_));rw[if_pos (show(Value.ref T != Value.none)=true from by simp)];refine wpAny_bind (wpAny_field hT hdT h3 ?_);rw[if_neg (show ¬((Value.none==rawInt L)=true) from by simp[rawInt])];refine wpAny_bind (wpAny_setField hT hdT (Array.getElem?_eq_some_iff.mp h3).1 ?_);refine IP hfr (f3.of_keeps fun b o q n=>⟨o,(k1 b (nf b o q n)).trans q,rfl⟩) hf ((k1 e (Ne.symm hTe)).trans he) (fun b o q=>(k1 b fun z=>by subst z; rw[hnT] at q; cases q).trans (f1 b o q)) f2 hd
  (Array.getElem?_eq_some_iff.mp h1).1 h0 (hp.two he hd) fun h' F u p=>?_
 obtain⟨g1,g2,⟨_,_,g3⟩,g4⟩:=F;exact hQ h' ⟨g1,g2,g3,g4⟩ (fun b o q n=>u b o ((k1 b (nf b o q n)).trans q) n) p
def Nt{base:Heap}{env:Env}{outer:List Env}{L e:Addr}{cls a0:Value}{Q:Unit->Shared->Prop}(hfr:A.frames=some (env::outer))(hf:env.frame=some L)(hfl:Heap.FlyingW base (env::outer) e cls a0 s.heap)(hp:Bj s.heap e)(hQ:∀h',Heap.HeldW base (env::outer) e cls a0 L h'->s.heap.UpToSlots h'->Bj h' e->Q () { s with heap:=h' }):wpAny M A (noteFrame (.ref e) env) Q E s:=by
 obtain⟨f1,f2,f3,oe,vs,T,oT,ts,he,⟨rfl,h0⟩,hd,h1,hnT,hTe,hT,hdT,h3⟩:=hfl;have nf:∀b o,s.heap.get? b=some o->(∀ws,o.data≠.fields ws)->b≠T:=fun b o q n z=>by
  subst z; rw[hT] at q; cases q; exact n _ hdT
 have k1:∀b,b≠T->(s.heap.update T (Obj.mapFields (·.setIfInBounds 3 Value.none))).get? b=s.heap.get? b:=fun b n=>Heap.get?_update_other _ _ (Ne.symm n);unfold noteFrame;simp only[hf];refine wpAny_bind (wpAny_field he hd h1 ?_);rw[if_pos (show(Value.ref T != Value.none)=true from by simp)];refine wpAny_bind (wpAny_field hT hdT h3 ?_);rw[if_neg (show ¬((Value.none==rawInt L)=true) from by simp[rawInt])];refine wpAny_bind (wpAny_setField hT hdT (Array.getElem?_eq_some_iff.mp h3).1 ?_);refine Ob hfr (f3.of_keeps fun b o q n=>⟨o,(k1 b (nf b o q n)).trans q,rfl⟩) hf ((k1 e (Ne.symm hTe)).trans he) (fun b o q=>(k1 b fun z=>by subst z; rw[hnT] at q; cases q).trans (f1 b o q)) f2 hd
  (Array.getElem?_eq_some_iff.mp h1).1 h0 (hp.two he hd) fun h' F u p=>?_
 exact hQ h' F (fun b o q n=>u b o ((k1 b (nf b o q n)).trans q) n) p
def Nr{base h:Heap}{env:Env}{outer:List Env}{L e:Addr}{cls:Value}{args:List Value}{Q:Unit->Shared->Prop}(hfr:A.frames=some (env::outer))(hf:env.frame=some L)(hkb:base.StaysIn h)(hl:h.FunFrames base (env::outer))(hx:Heap.MadeExcOf h s.heap e cls args)(hQ:∀h' t,Heap.FlyingW base outer e cls (.ref t) h'->s.heap.UpToSlots h'->Bj h' e->Q () { s with heap:=h' }):wpAny M A (leaving env (.ref e)) Q E s:=by
 obtain⟨t,he,htn,ht⟩:=hx.there;have fr:base.get? e=none:=by
  cases q:base.get? e with
  | none=>rfl
  | some o=>have:=hkb e o q; rw[hx.new] at this; cases this
 unfold leaving noteFrame;simp only[hf];refine wpAny_bind (wpAny_bind (wpAny_field he rfl (x:=.none) rfl ?_));rw[if_neg (by decide)];refine IP (a0:=.ref t) hfr (hl.of_keeps fun b o q _=>⟨o,hx.keeps b o q,rfl⟩) hf he (fun b o q=>hx.keeps b o (hkb b o q)) fr rfl (by simp) rfl rfl fun h' F u p=>?_;obtain⟨g1,g2,⟨_,_,g3⟩,g4⟩:=F;exact hQ h' t ⟨g1,g2,g3,g4⟩ u p
end
def clo(cells:List (Str×Addr)):List (Str×NameKind)->List (Str×Addr)->List (Str×Addr)
 | [],cs=>cs
 | (n,k)::r,cs=>clo cells r (if (k==.free)=true then (n,(cells.lookup n).getD 0)::cs else cs)
theorem Na{env:Env}:∀(names:List (Str×NameKind)) (cs:List (Str×Addr)),(∀x∈names,(x.2==.free)=true->(env.cells.lookup x.1).isSome=true) ->
  (forIn names cs fun(x:Str×NameKind) (r:List (Str×Addr))=>(if (x.2==NameKind.free)=true then do let c <- cellOf env x.1; pure (ForInStep.yield ((x.1,c)::r)) else pure (ForInStep.yield r):Sem (ForInStep (List (Str×Addr)))))=pure (clo env.cells names cs)
 | [],cs,_=>rfl
 | (n,k)::r,cs,h=>by
  rw[List.forIn_cons];have hr:=fun cs'=>Na (env:=env) r cs' fun x hx=>h x (List.mem_cons_of_mem _ hx);cases hk:(k==NameKind.free) with
  | true =>
   have hc:=h (n,k) List.mem_cons_self hk;obtain⟨c,hc⟩:=Option.isSome_iff_exists.mp hc;have e:cellOf env n=pure c:=by unfold cellOf; rw[hc]
   dsimp only at hc;simp only[hk,if_true,e,pure_bind];rw[hr];simp only[clo,hk,if_true,hc,Option.getD_some]
  | false =>
   simp only[hk,Bool.false_eq_true,if_false,pure_bind];rw[hr];simp only[clo,hk,Bool.false_eq_true,if_false]
def Jv{env:Env}{scope:Scope}(h:∀x∈scope.names,(x.2==.free)=true->(env.cells.lookup x.1).isSome=true):closureFor scope env=pure (clo env.cells scope.names []):=by
 rw[<- Na _ _ h];unfold closureFor;simp
theorem O5{cells:List (Str×Addr)}{x:Str}{c:Addr}:∀{names:List (Str×NameKind)} {cs:List (Str×Addr)},(∀y∈names,(y.2==.free)=true->(cells.lookup y.1).isSome=true) ->
  (clo cells names cs).lookup x=some c->cs.lookup x=some c\/cells.lookup x=some c
 | [],_,_,h=>.inl h
 | (n,k)::r,cs,hn,h=>by
  simp only[clo] at h;have hr:=O5 (names:=r) (fun y hy=>hn y (List.mem_cons_of_mem _ hy)) h;rcases hr with hr|hr
  .cases hk:(k==NameKind.free) with
   | true =>
    simp only[hk,if_true] at hr;rw[List.lookup_cons] at hr;cases hx:(x==n) with
    | true =>
     simp only[hx] at hr;obtain⟨c',hc'⟩:=Option.isSome_iff_exists.mp (hn (n,k) List.mem_cons_self hk);have hx':x=n:=by simpa using hx
     rw[hc'] at hr;refine .inr ?_;rw[hx'];exact hc'.trans hr
    | false =>
     simp only[hx] at hr;exact .inl hr
   | false =>
    simp only[hk,Bool.false_eq_true,if_false] at hr;exact .inl hr
  .exact .inr hr
theorem M9{cells:List (Str×Addr)}{x:Str}:∀{names:List (Str×NameKind)} {cs:List (Str×Addr)},(∃c,cs.lookup x=some c)->∃c,(clo cells names cs).lookup x=some c
 | [],_,h=>h
 | (n,k)::r,cs,h=>by
  simp only[clo];refine M9 (names:=r) ?_;cases hk:(k==NameKind.free) with
  | true =>
   simp only[if_true];rw[List.lookup_cons];cases hx:(x==n) with
   | true=>exact⟨_,rfl⟩
   | false=>exact h
  | false =>
   simp only[Bool.false_eq_true,if_false];exact h
theorem LL{cells:List (Str×Addr)}{x:Str}:∀{names:List (Str×NameKind)} {cs:List (Str×Addr)},names.lookup x=some .free->∃c,(clo cells names cs).lookup x=some c
 | [],_,h=>by simp at h
 | (n,k)::r,cs,h=>by
  rw[List.lookup_cons] at h;simp only[clo];cases hx:(x==n) with
  | true =>
   simp only[hx] at h;have hk:k=.free:=Option.some.inj h;subst hk;refine M9 (names:=r) ⟨(cells.lookup n).getD 0,?_⟩;rw[if_pos (by decide),List.lookup_cons];simp only[hx]
  | false =>
   simp only[hx] at h;exact LL (names:=r) h
abbrev cxD(X:Cx)(own:List Str)(scope:Scope)(C:Addr)(cl:List (Str×Addr))(fn:Str->Bool)(s:Shared)(H:Hp)(fp:List Addr)(pins:List (Addr×Obj)):Cx:=
 { X with N:=own++X.N,s₀:=s,H₀:=H,env:=compEnvC scope cl C X.env,outer:=X.stack,ex:=fp,fn:=fn,pn:=X.pn++pins,xe:=fun _ _=>False }
abbrev cxC(X:Cx)(own:List Str)(scope:Scope)(C:Addr)(s:Shared)(H:Hp)(fp:List Addr)(pins:List (Addr×Obj)):Cx:=
 cxD X own scope C (clo X.env.cells scope.names []) (fun _=>false) s H fp pins
def B7(own N:List Str)(sc sco:Scope):Bool:=
 N.all (fun x=>match sc.names.lookup x with
  | some .local=>false
  | some .cell=>false
  | some .free=>sco.names.lookup x==some .cell || sco.names.lookup x==some .free
  | _=>true) &&
 sc.names.all (fun y=>(y.2 != .cell)&&(y.2 != .free || sco.names.lookup y.1==some .cell || sco.names.lookup y.1==some .free)&&(y.2 != .local || sc.names.lookup y.1==some .local)) &&
 (sc.kind==.function)&&own.all fun x=>!N.contains x
theorem C0{env:Env}:∀{names:List (Str×NameKind)} {x:Str} {k:NameKind},
  (names.map fun(n,k)=>if (k==NameKind.free&&env.scope.kind==.function&&env.kindOf n==some .cell) then (n,NameKind.cell) else (n,k)).lookup x=some k ->
  names.lookup x=some k\/(k=.cell/\names.lookup x=some .free)
 | [],_,_,h=>by simp at h
 | (n,j)::r,x,k,h=>by
  have ih:=@C0 env r x k;have h':List.lookup x ((if (j==NameKind.free&&env.scope.kind==.function&&env.kindOf n==some .cell)=true then (n,NameKind.cell) else (n,j))::_)=some k:=h;rw[List.lookup_cons];cases hx:x==n with
  | true =>
   by_cases hc:(j==NameKind.free&&env.scope.kind==.function&&env.kindOf n==some .cell)=true
   .rw[if_pos hc,List.lookup_cons] at h'
    simp only[hx] at h';have hj:j=.free:=by
     simp only[Bool.and_eq_true] at hc;simpa using hc.1.1
    exact .inr ⟨(Option.some.inj h').symm,by simp only[hj]⟩
   .rw[if_neg hc,List.lookup_cons] at h'
    simp only[hx] at h';exact .inl h'
  | false =>
   refine ih ?_;by_cases hc:(j==NameKind.free&&env.scope.kind==.function&&env.kindOf n==some .cell)=true
   .rw[if_pos hc,List.lookup_cons] at h'
    simp only[hx] at h';exact h'
   .rw[if_neg hc,List.lookup_cons] at h'
    simp only[hx] at h';exact h'
def Jw{prog:Program}{w:World}{A:Around}{R:Result->Shared->Prop}{s:Shared}{elt target iter:Expr}{ifs:List Expr}{scope:Scope}{pos:Pos}{it acc:Value}{env:Env}(I:Nat->Shared->Prop)(turn:∀n s,I n s->wpAny (model prog w) A (pyNext it) (fun r s₁=>match r with
   | none=>R (.ok .next) s₁
   | some v=>wpAny (model prog w) A (letOwnedTupleGo target it v) (fun _ s₁'=>wpAny (model prog w) A (assign target env v) (fun _ s₂ =>
     wpAny (model prog w) A (forIn ifs true fun c r=>if r=true then do let ok <- isTrue c env (eval c env); pure (ForInStep.yield ok) else pure (ForInStep.yield r)) (fun ok s₃ =>
      if ok=true then wpAny (model prog w) A (eval elt env) (fun x s₄ =>
       wpAny (model prog w) A (call (.builtin "list.append") [acc,x]) (fun _ s₅=>∃m,m<n/\I m s₅) (fun _ _=>False) s₄) (fun _ _=>False) s₃
      else ∃m,m<n/\I m s₃) (fun _ _=>False) s₂) (fun _ _=>False) s₁') (fun _ _=>False) s₁) (fun _ _=>False) s)(n:Nat)(h:I n s):codeAny (model prog w) A (.compLoop (.ListComp elt [⟨target,iter,ifs,0⟩] scope pos) 0 it acc env) R s:=by
 refine codeAny_loop rfl I (fun n s hI=>?_) n h;show wpAny _ A ((compTurn (.ListComp elt [⟨target,iter,ifs,0⟩] scope pos) 0 it acc env).onRaise (fun x=>do noteFrame x env; theTreesLotGoes x)) _ _ s;refine wpAny_noted ?_;rw[compTurn_list];refine wpAny_bind (wpAny_standAt (wpAny_bind (wpAny_mono (turn n s hI) (fun r s₁ h₁=>?_) fun _ _ h'=>h'.elim)));cases r with
 | none=>exact wpAny_pure h₁
 | some v =>
  refine wpAny_bind (wpAny_mono h₁ (fun _ s₁' h₁'=>?_) fun _ _ h'=>h'.elim);refine wpAny_bind (wpAny_mono h₁' (fun _ s₂ h₂=>wpAny_bind (wpAny_mono h₂ (fun ok s₃ h₃=>?_) fun _ _ h'=>h'.elim)) fun _ _ h'=>h'.elim);cases ok with
  | false=>exact wpAny_pure ⟨rfl,h₃⟩
  | true =>
   exact wpAny_bind (wpAny_bind (wpAny_mono h₃ (fun x s₄ h₄=>wpAny_bind (wpAny_mono h₄ (fun _ s₅ h₅=>wpAny_pure (wpAny_pure ⟨rfl,h₅⟩)) fun _ _ h'=>h'.elim)) fun _ _ h'=>h'.elim))
def PTs(X:Cx)(ifs:List Expr)(t:TT):Prop:=
 ∀(pins:List (Addr×Obj)) (s:Shared) (σ:St) (H:Hp) (Q:Bool->Hp->Prop),Inv X pins σ H s->t σ H Q ->
  wpAny (model X.prog X.w) X.A (forIn ifs true fun c r=>if r=true then do let ok <- isTrue c X.env (eval c X.env); pure (ForInStep.yield ok) else pure (ForInStep.yield r)) (TP X pins σ Q) X.xe s
def Y7:TT:=fun _ H Q=>Q true H
theorem UB{X:Cx}:PTs X [] Y7:=fun _ _ _ H _ I h=>wpAny_tests_nil ⟨H,I,h⟩
theorem UC{X:Cx}{c:Expr}{t:TT}(h:PT X c t):PTs X [c] t:=fun pins s σ H Q I q=>wpAny_tests_one (h pins s σ H Q I q)
abbrev TU:=V->Hp->List V->Prop
def PGo(X:Cx)(target:Expr)(n:Nat)(un:TU):Prop:=
 ∀(pins:List (Addr×Obj)) (s:Shared) (σ0 σ:St) (H:Hp) (v:V) (u:Value) (vs:List V),σ0.length=n->Inv X pins (σ0++σ) H s->RelV v u->un v H vs ->
  wpAny (model X.prog X.w) X.A (assign target X.env u) (fun _ s'=>vs.length=n/\Inv X pins (vs.map some++σ) H s') X.xe s
def S9:TU:=fun v _ vs=>vs=[v]
def We{α:Type}{l:List α}(h:l.length=1):∃o,l=[o]:=by
 cases l with
 | nil=>cases h
 | cons a t=>cases t with
  | nil=>exact⟨a,rfl⟩
  | cons b t=>cases h
def YX{α:Type}{l:List α}(h:l.length=2):∃o p,l=[o,p]:=by
 cases l with
 | nil=>cases h
 | cons a t =>
  obtain⟨p,rfl⟩:=We (Nat.succ.inj h);exact⟨a,p,rfl⟩
def GG{X:Cx}{x:Str}{pos:Pos}(hi:X.N[0]? = some x)(hN:X.N.Nodup)(hx:X.env.scope.names.lookup x=some .local):PGo X (.Name x pos) 1 S9:=by
 intro pins s σ0 σ H v u vs hl I r h;obtain⟨o,rfl⟩:=We hl;cases h;exact wpAny_assign_Name (Fv I hN hi (.inl hx) r (fun s' I'=>⟨rfl,I'⟩) (.inr hx))
def LcR(J:It)(un:TU)(tc:TT)(te:TE)(σ:St)(H1:Hp)(Q:VK):Prop:=∀acc,H1 acc=none->∃W:Nat->Nat->List V->Hp->Prop,(∃m,W 0 m [] (upd H1 acc (.lst [])))/\∀i m ys H,W i m ys H->H acc=some (.lst ys) /\
 ((J.stop i H/\Q (.ref acc) H)\/(J.go i H/\∀x H',J.yld i H x H'->∃vs,un x H' vs/\tc (vs.map some++σ) H' fun b H3 =>
  if b=true then te (vs.map some++σ) H3 fun v H4=>H4 acc=some (.lst ys)/\ys.length<sizeLine/\∃m',m'<m/\W (i+1) m' (ys++[v]) (upd H4 acc (.lst (ys++[v])))
  else ∃m',m'<m/\W (i+1) m' ys H3))
def tLc(wi:TI)(un:TU)(tc:TT)(te:TE):TE:=fun σ H Q=>wi σ H fun J H1=>LcR J un tc te σ H1 Q
section
variable{X:Cx}{pins:List (Addr×Obj)}{σ:St}{H:Hp}{s:Shared}
theorem B7.free{own:List Str}{scope:Scope}(hok:B7 own X.N scope X.env.scope=true)(I:Inv X pins σ H s):∀x∈scope.names,(x.2==NameKind.free)=true->(X.env.cells.lookup x.1).isSome=true:=fun x hx hf=>by
 simp only[B7,Bool.and_eq_true,List.all_eq_true] at hok;have:=(hok.1.1.2 x hx).1.2;have hf':x.2=.free:=by simpa using hf
 rw[hf'] at this;simp only[bne_self_eq_false,Bool.false_or,Bool.or_eq_true] at this;obtain⟨c,hc⟩:=I.ok.has x.1 (this.elim (fun z=>.inl (by simpa[Env.kindOf] using z)) fun z=>.inr (by simpa[Env.kindOf] using z));rw[hc]; rfl
def Lk{own:List Str}{scope:Scope}{fp:List Addr}{h1:Heap}{t':Nat}(hok:B7 own X.N scope X.env.scope=true)(I:Inv X pins σ H s)(f2:∀b∈fp,E5 X pins H b)(fo:∀b∈fp,∃o,s.heap.get? b=some o)(hns:h1.Ns s.heap.objs.size fun _=>none)(hk:∀b o,s.heap.get? b=some o->h1.get? b=some o):
  Inv (cxC X own scope s.heap.objs.size s H fp pins) [] (List.replicate own.length none++σ) H { s with heap:=h1,toks:=t' }:=by
 have hfree:=B7.free hok I;simp only[B7,Bool.and_eq_true,List.all_eq_true] at hok;obtain⟨⟨⟨hN,hS⟩,hkd⟩,hown⟩:=hok;have hkind:scope.kind=.function:=by simpa using hkd
 have sub:∀x c,(clo X.env.cells scope.names []).lookup x=some c->X.env.cells.lookup x=some c:=fun x c e=>by
  rcases O5 hfree e with z|z
  .simp at z
  .exact z
 have ltS:∀{b:Addr} {o:Obj},s.heap.get? b=some o->b≠s.heap.objs.size:=fun e=>Nat.ne_of_lt (Heap.lt_size e);have isFree:∀x,((relabel scope X.env).names.lookup x=some .cell\/(relabel scope X.env).names.lookup x=some .free)->scope.names.lookup x=some .free:=fun x hx'=>by
  rcases hx' with z|z
  .rcases C0 z with z|z
   .have:=(hS _ (PySem.mem_of_lookup z)).1.1
    simp at this
   .exact z.2
  .rcases C0 z with z|z
   .exact z
   .cases z.1
 refine⟨⟨I.ok.mod,hkind,I.ok.glob,I.ok.blt,Nat.le_refl _,fun x y c e1 e2=>I.ok.inj x y c (sub x c e1) (sub y c e2),fun x hx=>LL (isFree x hx),fun x c z=>(by cases z),I.ok.hd,I.ok.frames,.inl rfl,fun b hb=>?_,I.bs,Nat.le_trans I.ok.bsz I.sz,fun b o e hb=>?_,fun b hb hz=>?_,I.stack,I.stkFree,I.tabs⟩,
  rfl,I.bare,Un.kept hk,⟨_,hns,fun i x v e1 e2 e3=>?_⟩,fun x c e=>?_,I.hok.fresh (Nat.le_refl _),fun x c e=>I.freeC x c (sub x c e),fun p hp=>?_,I.hok.kept hk,?_⟩
 .refine⟨fun z=>?_,fun x c e z=>?_⟩
  .obtain⟨o,e⟩:=fo b hb
   exact ltS e z
  .exact(f2 b hb).2.2.2.2.1 x c (sub x c e) z
 .obtain⟨_,_,_,f4,_⟩:=f2 b hb
  rcases f4 with f4|f4
  .exact I.ok.noex b o e f4
  .have:=Nat.lt_of_lt_of_le (Heap.lt_size e) (Nat.le_trans I.ok.bsz f4)
   exact absurd this (Nat.lt_irrefl _)
 .obtain⟨_,f1,f3,_⟩:=f2 b hb
  rcases List.mem_cons.mp (I.stkSub b hz) with z|z
  .exact f1 z
  .exact f3 z
 .by_cases hi:i<own.length
  .rw[List.getElem?_append_left (by simpa using hi),List.getElem?_replicate] at e2
   split at e2<;>cases e2
  .have e1':X.N[i-own.length]? = some x:=by
    have e1:(own++X.N)[i]? = some x:=e1;rw[List.getElem?_append_right (by omega)] at e1;exact e1
   have e2' : σ[i-own.length]? = some (some v):=by
    rw[List.getElem?_append_right (by simpa using hi)] at e2;simpa using e2
   have hx:=hN x (List.mem_of_getElem? e1');have q:scope.names.lookup x=some .free:=by
    rcases e3 with z|z
    .rcases C0 z with z|z
     .rw[z] at hx; cases hx
     .cases z.1
    .exact isFree x z
   rw[q] at hx;simp only[Bool.or_eq_true] at hx;have hx2:X.env.scope.names.lookup x=some .cell\/X.env.scope.names.lookup x=some .free:=hx.elim (fun z=>.inl (by simpa using z)) fun z=>.inr (by simpa using z);obtain⟨m,_,hl⟩:=I.loc;obtain⟨u,r,l⟩:=hl _ x v e1' e2' (.inr hx2);refine⟨u,r,?_⟩;obtain⟨c',hc'⟩:=LL (cells:=X.env.cells) (cs:=[]) q;rcases l with ⟨k,_⟩|⟨k,c,hc,o,ho,hd⟩
   .have k':X.env.scope.names.lookup x=some .local:=k
    rcases hx2 with z|z<;>(rw[k'] at z; cases z)
   .have ec:=sub x c' hc'
    have ec':c'=c:=Option.some.inj (ec.symm.trans hc);rw[ec'] at hc';refine .inr ⟨?_,c,hc',o,hk c o ho,hd⟩;rcases e3 with z|z
    .rcases C0 z with z|z
     .rw[q] at z; cases z
     .cases z.1
    .exact z
 .obtain⟨v,o,ho,hd⟩:=I.cell x c (sub x c e)
  exact⟨v,o,hk c o ho,hd⟩
 .have hp':p∈X.pn++pins:=by simpa using hp
  obtain⟨e,n,ne,nf,d⟩:=I.pin p hp';refine⟨hk _ _ e,n,ltS e,fun hz=>?_,d⟩;rcases List.mem_cons.mp (I.stkSub p.1 hz) with z|z
  .exact ne z
  .exact nf z
 .show(List.replicate own.length none++σ).length=(own++X.N).length
  rw[List.length_append,List.length_replicate,List.length_append,I.len]
def EZ{own:List Str}{scope:Scope}{fp:List Addr}{cl:List (Str×Addr)}{fn:Str->Bool}{σ':St}{H':Hp}{s':Shared}{h':Heap}(I:Inv X pins σ H s)(f2:∀b∈fp,E5 X pins H b)(J:Inv (cxD X own scope s.heap.objs.size cl fn s H fp pins) [] σ' H' s')(hs:Heap.SameBut s.heap.objs.size s'.heap h'):Inv X pins σ H' { s' with heap:=h' }:=by
 have lt:∀{b:Addr} {o:Obj},s.heap.get? b=some o->b≠s.heap.objs.size:=fun e=>Nat.ne_of_lt (Heap.lt_size e);have hC:H' s.heap.objs.size=none:=J.free;have u:=J.base;refine I.call' (s':={ s' with heap:=h' }) (ch:=fp) J.os ⟨fun b o e n hb hx=>(hs.2 b (lt e)).trans (u.keep b o e n hb hx),fun b o e n hb hx=>?_,u.free,fun b o e hx=>?_,u.tups,u.frzs,u.tbls⟩ (fun b o e=>?_) J.bare fun b hb=>?_
 .obtain⟨sl,q⟩:=u.slot b o e n hb hx
  exact⟨sl,(hs.2 b (lt e)).trans q⟩
 .obtain⟨o',q⟩:=u.there b o e hx
  exact⟨o',(hs.2 b (lt e)).trans q⟩
 .refine(J.hok b o e).stay (fun c w' hc q=>(hs.2 c ?_).trans q) (fun _ q=>q) fun _ _ q=>q
  rintro rfl;rcases hc with z|z
  .rw[<- z,hC] at e; cases e
  .rw[hC] at z; cases z
 .obtain⟨_,f1,_,f4,f5,f6⟩:=f2 b hb
  exact⟨f4,f1,f5,f6⟩
def SJ{own:List Str}{scope:Scope}{fp:List Addr}{it:Addr}{tn:Nat->Heap->Prop}{J:It}{target iter elt:Expr}{ifs:List Expr}{pos:Pos}{un:TU}{tc:TT}{te:TE}{acc:Addr}{Q:VK}{R:Result->Shared->Prop}{cl:List (Str×Addr)}{fn:Str->Bool}{h1:Heap}{t1:Nat}(hc:X.calm=true)(hg:PGo (cxD X own scope s.heap.objs.size cl fn s H fp pins) target own.length un)(ht:PTs (cxD X own scope s.heap.objs.size cl fn s H fp pins) ifs tc)(he:PE (cxD X own scope s.heap.objs.size cl fn s H fp pins) elt te)(I:Inv X pins σ H s)(T:Turn X.prog X.w X.K target J fp it tn)(st:tn 0 s.heap)(f2:∀b∈fp,E5 X pins H b)(W:Nat->Nat->List V->Hp->Prop)(w0:∃m,W 0 m [] H)(turn:∀i m ys H,W i m ys H->H acc=some (.lst ys) /\
   ((J.stop i H/\Q (.ref acc) H)\/(J.go i H/\∀x H',J.yld i H x H'->∃vs,un x H' vs/\tc (vs.map some++σ) H' fun b H3 =>
    if b=true then te (vs.map some++σ) H3 fun v H4=>H4 acc=some (.lst ys)/\ys.length<sizeLine/\∃m',m'<m/\W (i+1) m' (ys++[v]) (upd H4 acc (.lst (ys++[v])))
    else ∃m',m'<m/\W (i+1) m' ys H3)))(fin:∀s' σ' H',Inv (cxD X own scope s.heap.objs.size cl fn s H fp pins) [] σ' H' s'->Q (.ref acc) H'->R (.ok .next) s')(hk:∀b o,s.heap.get? b=some o->h1.get? b=some o)(I0:Inv (cxD X own scope s.heap.objs.size cl fn s H fp pins) [] (List.replicate own.length none++σ) H { s with heap:=h1,toks:=t1 }):
  codeAny (model X.prog X.w) X.A (.compStart (.ListComp elt [⟨target,iter,ifs,0⟩] scope pos) 0 (.ref it) (.ref acc) (compEnvC scope cl s.heap.objs.size X.env)) R { s with heap:=h1,toks:=t1 }:=by
 have st1:tn 0 h1:=T.keep _ _ _ st fun b _ o e=>hk b o e;have stat:∀{H':Hp},(∀b∈fp,H' b=none)->∀b∈fp,E5 (cxD X own scope s.heap.objs.size cl fn s H fp pins) [] H' b:=fun hn b hb=>by
  obtain⟨_,f1,f3,_,f5,f6⟩:=f2 b hb;obtain⟨o,e,_⟩:=T.obj _ _ st b hb;refine⟨hn b hb,Nat.ne_of_lt (Heap.lt_size e),fun hz=>?_,.inl hb,(I0.ok.exf b hb).2,fun p hp=>f6 p (by simpa using hp)⟩;rcases List.mem_cons.mp (I.stkSub b hz) with z|z
  .exact f1 z
  .exact f3 z
 have loop:∀s4,s4={ s with heap:=h1,toks:=t1 }->codeAny (model X.prog X.w) X.A (.compLoop (.ListComp elt [⟨target,iter,ifs,0⟩] scope pos) 0 (.ref it) (.ref acc) (compEnvC scope cl s.heap.objs.size X.env)) R s4:=by
  rintro s4 rfl;obtain⟨m0,w0⟩:=w0;refine Jw (fun n s'=>∃i ys σ0 H',σ0.length=own.length/\Inv (cxD X own scope s.heap.objs.size cl fn s H fp pins) [] (σ0++σ) H' s'/\tn i s'.heap/\(∀b∈fp,H' b=none)/\W i n ys H') ?_ m0 ⟨0,[],_,H,by rw[List.length_replicate],I0,st1,fun b hb=>(f2 b hb).1,w0⟩;rintro n s3 ⟨i,ys,σ0,H3,hl3,I3,st3,fr3,w3⟩;obtain⟨ha,turn3⟩:=turn i n ys H3 w3;rcases turn3 with ⟨stop,qn⟩|⟨go,step⟩
  .refine thn (T.done (cxD X own scope s.heap.objs.size cl fn s H fp pins) rfl rfl rfl hc i [] s3 _ H3 _ I3 (stat fr3) st3 stop) fun r s4 yy=>?_
   obtain⟨hr,I4⟩:=yy;subst hr;exact fin s4 _ H3 I4 qn
  .refine thn (T.item (cxD X own scope s.heap.objs.size cl fn s H fp pins) rfl rfl rfl hc i [] s3 _ H3 _ I3 (stat fr3) st3 go) fun r s4 yy=>?_
   obtain⟨u,hr,h4⟩:=yy;subst hr;refine thn h4 fun _ s5 yy=>?_;obtain⟨x,H5,I5,r5,y5,st5,fr5⟩:=yy;obtain⟨vs,hu,q5⟩:=step x H5 y5;have I5':=I5.pinned (stat fr5) (T.obj _ _ st5);have again:∀{H7:Hp} {s7:Shared},vs.length=own.length->Inv (cxD X own scope s.heap.objs.size cl fn s H fp pins) ([]++IG fp s5.heap) (vs.map some++σ) H7 s7->∀{ys'},(∃m',m'<n/\W (i+1) m' ys' H7) ->
     ∃m,m<n/\∃i ys σ0 H',σ0.length=own.length/\Inv (cxD X own scope s.heap.objs.size cl fn s H fp pins) [] (σ0++σ) H' s7/\tn i s7.heap/\(∀b∈fp,H' b=none)/\W i m ys H':=fun {H7 s7} hl I7 {ys'} ⟨m',hm,w7⟩=>by
    refine⟨m',hm,i+1,ys',vs.map some,H7,by rw[List.length_map,hl],I7.unpinned,T.keep _ _ _ st5 fun b hb o e=>(I7.pin (b,o) (List.mem_append_right _ (List.mem_append_right _ (D8 hb e)))).1,fun b hb=>?_,w7⟩;obtain⟨o,e,d⟩:=T.obj _ _ st5 b hb;exact(I7.pin (b,o) (List.mem_append_right _ (List.mem_append_right _ (D8 hb e)))).2.1
   refine thn (hg _ s5 σ0 σ H5 x u vs hl3 I5' r5 hu) fun _ s6 yy=>?_;obtain⟨hl,I6⟩:=yy;refine thn (ht _ s6 _ H5 _ I6 q5) fun ok s7 yy=>?_;obtain⟨H7,I7,q7⟩:=yy;cases ok with
   | false =>
    rw[if_neg Bool.false_ne_true] at q7;rw[if_neg Bool.false_ne_true];exact again hl I7 q7
   | true =>
    rw[if_pos rfl] at q7;rw[if_pos rfl];refine thn (he _ s7 _ H7 _ I7 q7) fun v s8 yy=>?_;obtain⟨y,H8,I8,r8,ha8,hz8,q8⟩:=yy;refine thn (GO _ s8 _ H8 (.ref acc) [y] (.ref acc) [v] (fun _ H9=>∃m',m'<n/\W (i+1) m' (ys++[y]) H9) I8 rfl (.cons r8 .nil) ⟨acc,ys,y,rfl,rfl,ha8,hz8,q8⟩) fun _ s9 yy=>?_;obtain⟨_,H9,I9,_,q9⟩:=yy;exact again hl I9 q9
 exact codeAny_compStart_list (loop _ rfl) (T.self X.A 0 _ _ _ st1 (loop _ rfl))
def II{own:List Str}{scope:Scope}{fp:List Addr}{it:Addr}{tn:Nat->Heap->Prop}{J:It}{target iter elt:Expr}{ifs:List Expr}{pos:Pos}{un:TU}{tc:TT}{te:TE}{acc:Addr}{Q:VK}{R:Result->Shared->Prop}{E:Value->Shared->Prop}(hc:X.calm=true)(hok:B7 own X.N scope X.env.scope=true)(hg:∀C s H fp pins,PGo (cxC X own scope C s H fp pins) target own.length un)(ht:∀C s H fp pins,PTs (cxC X own scope C s H fp pins) ifs tc)(he:∀C s H fp pins,PE (cxC X own scope C s H fp pins) elt te)(I:Inv X pins σ H s)(T:Turn X.prog X.w X.K target J fp it tn)(st:tn 0 s.heap)(f2:∀b∈fp,E5 X pins H b)(W:Nat->Nat->List V->Hp->Prop)(w0:∃m,W 0 m [] H)(turn:∀i m ys H,W i m ys H->H acc=some (.lst ys) /\
   ((J.stop i H/\Q (.ref acc) H)\/(J.go i H/\∀x H',J.yld i H x H'->∃vs,un x H' vs/\tc (vs.map some++σ) H' fun b H3 =>
    if b=true then te (vs.map some++σ) H3 fun v H4=>H4 acc=some (.lst ys)/\ys.length<sizeLine/\∃m',m'<m/\W (i+1) m' (ys++[v]) (upd H4 acc (.lst (ys++[v])))
    else ∃m',m'<m/\W (i+1) m' ys H3)))(fin:∀s' σ' H',Inv (cxC X own scope s.heap.objs.size s H fp pins) [] σ' H' s'->Q (.ref acc) H'->R (.ok .next) s'):
  wpAny (model X.prog X.w) X.A (newFunctionEnv scope X.env.globals (clo X.env.cells scope.names []) [] X.env.qual none .none (some X.env)) (fun cenv s₄ =>
   cenv.locals=s.heap.objs.size/\codeAny (model X.prog X.w) X.A (.compStart (.ListComp elt [⟨target,iter,ifs,0⟩] scope pos) 0 (.ref it) (.ref acc) { cenv with scope:=relabel scope X.env }) R s₄) E s:=by
 have hcell:∀x∈scope.names,x.2≠.cell:=fun x hx z=>by
  simp only[B7,Bool.and_eq_true,List.all_eq_true] at hok;have:=(hok.1.1.2 x hx).1.1;rw[z] at this;simp at this
 have hkind:scope.kind=.function:=by
  simp only[B7,Bool.and_eq_true] at hok;simpa using hok.1.2
 refine wpAny_newFunctionEnv hcell (fun x hx=>by simp at hx) (fun h1 hns hsb=>⟨rfl,?_⟩) hkind;have hk:∀b o,s.heap.get? b=some o->h1.get? b=some o:=fun b o e=>(hsb.2 b (Nat.ne_of_lt (Heap.lt_size e))).trans (Heap.get?_push_of_some _ e);have I0:Inv (cxC X own scope s.heap.objs.size s H fp pins) [] (List.replicate own.length none++σ) H { s with heap:=h1,toks:=s.toks+([]:List (Str×Value)).length }:=
  Lk hok I f2 (fun b hb=>let⟨o,e,_⟩:=T.obj _ _ st b hb; ⟨o,e⟩) (by simpa using hns) hk
 exact SJ (iter:=iter) (pos:=pos) hc (hg _ _ _ _ _) (ht _ _ _ _ _) (he _ _ _ _ _) I T st f2 W w0 turn fin hk I0
end
section
variable{X:Cx}
theorem B7.names{own N:List Str}{scope sco:Scope}(hok:B7 own N scope sco=true):∀x∈scope.names,x.2=.local->scope.names.lookup x.1=some .local:=fun x hx hl=>by
 simp only[B7,Bool.and_eq_true,List.all_eq_true] at hok;have:=(hok.1.1.2 x hx).2;rw[hl] at this;simpa using this
def B7.kind{own N:List Str}{scope sco:Scope}(hok:B7 own N scope sco=true):scope.kind=.function:=by
 simp only[B7,Bool.and_eq_true] at hok;simpa using hok.1.2
def Yf{own:List Str}{scope:Scope}{target iter elt:Expr}{ifs:List Expr}{pos:Pos}{wi:TI}{un:TU}{tc:TT}{te:TE}(hc:X.calm=true)(hok:B7 own X.N scope X.env.scope=true)(hi:PI X target iter wi)(hg:∀C s H fp pins,PGo (cxC X own scope C s H fp pins) target own.length un)(ht:∀C s H fp pins,PTs (cxC X own scope C s H fp pins) ifs tc)(he:∀C s H fp pins,PE (cxC X own scope C s H fp pins) elt te)(hs:∀x,foldedSetIterable iter X.env x=pure x:=by intro _; rfl):PE X (.ListComp elt [⟨target,iter,ifs,0⟩] scope pos) (tLc wi un tc te):=by
 intro pins s σ H Q I h;rw[eval_ListComp];refine wpAny_comprehension_free (use:=none) rfl hs (Jv (B7.free hok I)) (B7.kind hok) (B7.names hok) ?_;refine thn (hi pins s σ H _ I h) fun v s1 h1=>thn h1 fun itv s2 h2=>?_;obtain⟨it,fp,tn,J,H2,e,I2,T,st2,f2,q⟩:=h2;subst e;obtain⟨W,w0,turn⟩:=q s2.heap.objs.size I2.fresh;refine wpAny_newObj_type (hd:=by size_fits) ?_;have I3:Inv X pins σ (upd H2 s2.heap.objs.size (.lst [])) { s2 with heap:=s2.heap.push { cls:=.type "list",data:=.seq ([]:List Value).toArray } }:=I2.lnew (its:=[]) (t':=s2.toks) .nil (Nat.zero_le _);have st3:tn 0 (s2.heap.push { cls:=.type "list",data:=.seq ([]:List Value).toArray }):=T.keep _ _ _ st2 fun b _ o e=>Heap.get?_push_of_some _ e;have f3:∀b∈fp,E5 X pins (upd H2 s2.heap.objs.size (.lst [])) b:=fun b hb=>by
  obtain⟨o,e,_⟩:=T.obj _ _ st2 b hb;exact⟨by rw[AB (Nat.ne_of_lt (Heap.lt_size e))]; exact(f2 b hb).1,(f2 b hb).2⟩
 refine thn (II (iter:=iter) (pos:=pos) (R:=compPost (model X.prog X.w) X.A X.xe none (EP X pins σ Q) (.ref s2.heap.objs.size) (s2.heap.push { cls:=.type "list",data:=.seq ([]:List Value).toArray }).objs.size) hc hok hg ht he I3 T st3 f3 W w0 turn fun s' σ' H' J' q'=>?_) fun cenv s4 ⟨el,h4⟩=>?_
 .obtain⟨m,hn,_⟩:=J'.loc
  exact⟨m,hn,fun h' hs'=>⟨.ref s2.heap.objs.size,H',EZ I3 f3 J' hs',rfl,q'⟩⟩
 .have el':cenv.locals=(s2.heap.push { cls:=.type "list",data:=.seq ([]:List Value).toArray }).objs.size:=el
  rw[<- el'] at h4;exact h4
end
section
variable{X:Cx}
def Sr{i:Nat}{y:Str}{py spos:Pos}{own:List Str}{scope:Scope}{target iter elt:Expr}{ifs:List Expr}{pos:Pos}{wi:TI}{un:TU}{tc:TT}{te:TE}(nd:X.N.Nodup)(hiN:X.N[i]? = some y)(hy:X.env.scope.names.lookup y=some .local)(hc:X.calm=true)(hok:B7 own X.N scope X.env.scope=true)(hi:PI X target iter wi)(hg:∀C s H fp pins,PGo (cxC X own scope C s H fp pins) target own.length un)(ht:∀C s H fp pins,PTs (cxC X own scope C s H fp pins) ifs tc)(he:∀C s H fp pins,PE (cxC X own scope C s H fp pins) elt te)(hs:∀x,foldedSetIterable iter X.env x=pure x:=by intro _; rfl)(hsw:swapsWith (.ListComp elt [⟨target,iter,ifs,0⟩] scope pos) (some (.Name y py)) spos.line X.env=pure true:=by rfl):
  PS X (.Assign [.Name y py] (.ListComp elt [⟨target,iter,ifs,0⟩] scope pos) spos) (OP (tLc wi un tc te) (HF i)):=by
 intro pins s σ H D I h;rw[exec_Assign_Name_used _ _ _ _ hsw];refine wpAny_bind (wpAny_standAt (wpAny_bind ?_));show wpAny _ X.A (do let _ <- comprehension (.ListComp elt [⟨target,iter,ifs,0⟩] scope pos) scope X.env _ (newList []) false (eval iter X.env) (some (assign (.Name y py) X.env))) _ _ s;refine wpAny_bind (wpAny_mono (wpAny_comprehension_free (use:=some (assign (.Name y py) X.env)) (Q:=fun _ s'=>SP X pins D .next s') rfl hs (Jv (B7.free hok I)) (B7.kind hok) (B7.names hok) ?_) (fun _ s' hq=>wpAny_pure (wpAny_pure hq)) fun _ _ e=>e);refine thn (hi pins s σ H _ I h) fun v s1 h1=>thn h1 fun itv s2 h2=>?_;obtain⟨it,fp,tn,J,H2,e,I2,T,st2,f2,q⟩:=h2;subst e;obtain⟨W,w0,turn⟩:=q s2.heap.objs.size I2.fresh;refine wpAny_newObj_type (hd:=by size_fits) ?_;have I3:Inv X pins σ (upd H2 s2.heap.objs.size (.lst [])) { s2 with heap:=s2.heap.push { cls:=.type "list",data:=.seq ([]:List Value).toArray } }:=I2.lnew (its:=[]) (t':=s2.toks) .nil (Nat.zero_le _);have st3:tn 0 (s2.heap.push { cls:=.type "list",data:=.seq ([]:List Value).toArray }):=T.keep _ _ _ st2 fun b _ o e=>Heap.get?_push_of_some _ e;have f3:∀b∈fp,E5 X pins (upd H2 s2.heap.objs.size (.lst [])) b:=fun b hb=>by
  obtain⟨o,e,_⟩:=T.obj _ _ st2 b hb;exact⟨by rw[AB (Nat.ne_of_lt (Heap.lt_size e))]; exact(f2 b hb).1,(f2 b hb).2⟩
 generalize hS:({ s2 with heap:=s2.heap.push { cls:=.type "list",data:=.seq ([]:List Value).toArray } }:Shared)=s3 at I3 st3;have st3':tn 0 s3.heap:=by rw[<- hS]; exact st3
 refine thn (II (iter:=iter) (pos:=pos) (acc:=s2.heap.objs.size) (Q:=fun x H1=>HF i x σ H1 D.nx) (R:=compPost (model X.prog X.w) X.A X.xe (some (assign (.Name y py) X.env)) (fun _ s'=>SP X pins D .next s') (.ref s2.heap.objs.size) s3.heap.objs.size) hc hok hg ht he I3 T st3' f3 W w0 turn fun s' σ' H' J' q'=>?_) fun cenv s4 ⟨el,h4⟩=>?_
 .have I4:Inv X pins σ H' s':=EZ I3 f3 J' (h':=s'.heap) (.refl ..)
  obtain⟨m,⟨oC,es,ep,hoC,hdC,hrC⟩,_⟩:=J'.loc;have hCL:s3.heap.objs.size≠X.env.locals:=Nat.ne_of_gt I3.lt;have hfs:s3.heap.objs.size∉X.fs:=I3.nofs (Nat.le_refl _);have hCc:∀x c,X.env.cells.lookup x=some c->c≠s3.heap.objs.size:=fun x c e=>by
   obtain⟨v,z⟩:=I3.cell x c e;exact Nat.ne_of_lt z.lt
  have hCp:∀p∈X.pn++pins,p.1≠s3.heap.objs.size:=fun p hp=>Nat.ne_of_lt (Heap.lt_size (I3.pin p hp).1);have I5:Inv X (pins++[(s3.heap.objs.size,oC)]) σ H' s':=I4.pins_of fun p hp=>(List.mem_append.mp hp).elim (fun z=>I4.pin p (List.mem_append_right _ z)) fun z=>by
   have z':p=(s3.heap.objs.size,oC):=by simpa using z
   subst z';exact⟨hoC,J'.free,hCL,hfs,fun v=>by rw[hdC]; intro z; cases z⟩
  show wpAny _ X.A (assign (.Name y py) X.env (.ref s2.heap.objs.size)) _ _ s';refine wpAny_assign_Name (Fv I5 nd hiN (.inl hy) (v:=.ref s2.heap.objs.size) rfl (fun s6 I6=>?_) (.inr hy));have hp:=I6.pin (s3.heap.objs.size,oC) (List.mem_append_right _ (List.mem_append_right _ (by simp)));refine⟨m,⟨oC,es,ep,hp.1,hdC,hrC⟩,fun h' hs'=>?_⟩;exact⟨_,H',I6.unpinned.turned (h':=h') (t':=s6.toks) (it:=s3.heap.objs.size) (fun b o hb e=>(hs'.2 b hb).trans e) hp.2.1 hCL (.inr I3.sz) hCc hCp,q'⟩
 .rw[<- el] at h4
  exact h4
end
def Its(x:Str):It:=⟨fun i _=>i<x.cps.size,fun i H v H'=>H'=H/\∃c,x.cps[i]? = some c/\v=.str ⟨#[c]⟩,fun i _=>x.cps.size<=i⟩
theorem Heap.IsStrIter.at'{h h':Heap}{a ty x t i}(y:h.IsStrIter a ty x t i)(e:∀o,h.get? a=some o->h'.get? a=some o):h'.IsStrIter a ty x t i:=let⟨o,ho,r⟩:=y; ⟨o,e _ ho,r⟩
def S7{P:Program}{w:World}{K:Frag}{tg:Expr}(it:Addr)(x:Str)(t:Tok)(ty:String)(hty:ty = "str_ascii_iterator" \/ ty = "str_iterator"):Turn P w K tg (Its x) [it] it (fun i h=>h.IsStrIter it ty x t i) where
 mem:=by simp
 obj:=fun i h st b hb=>by
  have e:b=it:=by simpa using hb
  subst e;obtain⟨o,e,c,d⟩:=st;exact⟨o,e,fun v z=>by rw[d] at z; cases z⟩
 keep:=fun i h h' st k=>Heap.IsStrIter.at' st fun o e=>k it (by simp) o e
 item:=by
  intro X hP hw hK hc i pins s σ H E I hf st hg;subst hP hw hK;have hg':i<x.cps.size:=hg;have hx:x.cps[i]? = some x.cps[i]:=by simp[hg']
  obtain⟨f0,f1,f2,f3,f4,f5⟩:=hf it (by simp);have fin:∀h',h'.IsStrIter it ty x t (i+1)->Heap.SameBut it s.heap h'->∃u,some (Value.str ⟨#[x.cps[i]]⟩ s.toks)=some u /\
    wpAny (model X.prog X.w) X.A (letOwnedTupleGo tg (.ref it) u) (fun _ s2=>∃y H',Inv X pins σ H' s2/\RelV y u/\(Its x).yld i H y H'/\s2.heap.IsStrIter it ty x t (i+1)/\∀b∈[it],H' b=none) E { s with heap:=h',toks:=s.toks+1 }:=fun h' st' sb=>by
   have I1:Inv X pins σ H { s with heap:=h',toks:=s.toks+1 }:=I.turned (fun b o hb e=>(sb.2 b hb).trans e) f0 f1 f3 f4 f5;obtain⟨o,e,c,d⟩:=id st';exact⟨_,rfl,Ng (s:={ s with heap:=h',toks:=s.toks+1 }) e c d (by rcases hty with rfl|rfl<;>decide) ⟨.str ⟨#[x.cps[i]]⟩,H,I1,⟨_,rfl⟩,⟨rfl,_,hx,rfl⟩,st',fun b hb=>(hf b hb).1⟩⟩
  rcases hty with rfl|rfl
  .exact wpAny_pyNext_ascii_item st hx fin
  .exact wpAny_pyNext_wide_item st hx fin
 done:=by
  intro X hP hw hK hc i pins s σ H E I hf st hg;subst hP hw hK;have hg':x.cps.size<=i:=hg;have hx:x.cps[i]? = none:=by simp[hg']
  obtain⟨f0,f1,f2,f3,f4,f5⟩:=hf it (by simp);rcases hty with rfl|rfl
  .exact wpAny_pyNext_ascii_end (I.ok.hd hc) st hx fun h' eb=>⟨rfl,I.turned (t':=s.toks) (fun b o hb e=>eb b o hb e) f0 f1 f3 f4 f5⟩
  .exact wpAny_pyNext_wide_end (I.ok.hd hc) st hx fun h' eb=>⟨rfl,I.turned (t':=s.toks) (fun b o hb e=>eb b o hb e) f0 f1 f3 f4 f5⟩
 self:=fun _ _ _ _ _ st h=>by
  rcases hty with rfl|rfl
  .exact wpAny_pyIter_striter_ascii st h
  .exact wpAny_pyIter_striter_wide st h
section
variable{X:Cx}{tg:Expr}
def X1(tl:TE):TI:=fun σ H R=>tl σ H fun x H1=>∃z,x=.str z/\R (Its z) H1
def WS{l:Expr}{tl:TE}(hl:PE X l tl):PI X tg l (X1 tl):=by
 intro pins s σ H R I h;refine thn (hl pins s σ H _ I h) fun v s1 yy=>?_;obtain⟨x,H1,I1,r1,q1⟩:=yy;obtain⟨z,e,q⟩:=q1;subst e;obtain⟨t,rfl⟩:=r1;have fin:∀ty:String,(ty = "str_ascii_iterator" \/ ty = "str_iterator")->PIE X pins σ tg R (.ref s1.heap.objs.size) { s1 with heap:=s1.heap.push { cls:=.type ty,data:=.fields #[.str z t,.int 0 0] } }:=fun ty hty=>by
  have I2:Inv X pins σ H1 { s1 with heap:=s1.heap.push { cls:=.type ty,data:=.fields #[.str z t,.int 0 0] } }:=I1.kept (t':=s1.toks) fun b o e=>Heap.get?_push_of_some _ e;refine⟨_,[s1.heap.objs.size],_,Its z,H1,rfl,I2,S7 _ z t ty hty,⟨_,Heap.get?_push_size _ rfl,rfl,rfl⟩,fun b hb=>?_,q⟩;have e:b=s1.heap.objs.size:=by simpa using hb
  subst e;exact I1.fpOk (Nat.le_refl _) (I1.hok.fresh (Nat.le_refl _))
 by_cases ha:z.cps.all (· < 128)=true
 .exact wpAny_pyIter_ascii ha (fin _ (.inl rfl))
 .exact wpAny_pyIter_wide (by simpa using ha) (fin _ (.inr rfl))
end
section
variable{X:Cx}
def Ib(bs:List Bool):List V:=bs.map V.bl
def CU(hc:X.calm=true):CF X (.builtin "all") (fun xs H Q=>∃p bs,xs=[.ref p]/\SqL X.K H p (Ib bs)/\Q (.bl (bs.all id)) H):=by
 intro pins s σ H xs us Q I r h;obtain⟨p,bs,rfl,hq,q⟩:=h;obtain⟨u,rfl,ru⟩:=r.one;cases ru;obtain⟨its,rv,pl,hz⟩:=I.list hq;have hl:=rv.length;refine call_all_walk (wpAny_pyIter_list pl.isList ?_);have hne:p≠s.heap.objs.size:=fun z=>by
  obtain⟨o,e,_⟩:=pl.isList;exact absurd (Heap.lt_size e) (by rw[z]; exact Nat.lt_irrefl _)
 have hlen:its.toArray.size=bs.length:=by rw[List.size_toArray,<- hl]; simp[Ib]
 refine⟨_,_,_,_,_,_,fun i=>(bs[i]?).getD true,rfl,Walks.list (by show X.A.handled=none; exact I.ok.hd hc) s.heap.objs.size p hne its.toArray,⟨⟨_,Heap.get?_push_size _ rfl,rfl,rfl⟩,?_⟩,?_,?_⟩
 .obtain⟨o,e,r⟩:=pl.isList
  exact⟨o,Heap.get?_push_of_some _ e,r⟩
 .intro i v s' Q' E' hv hq'
  have hi:i<its.length:=by
   by_cases hi:i<its.length
   .exact hi
   .have:its.toArray[i]? = none:=by simp; lia
    rw[this] at hv; cases hv
  have hb:i<bs.length:=by simp[Ib] at hl; lia
  obtain⟨u,hu,ru⟩:=rv.get (i:=i) (x:=.bl bs[i]) (by simp[Ib,hb]);have e:v=.bool bs[i]:=by
   have:its.toArray[i]? = some u:=by simpa using hu
   rw[this] at hv;cases hv;exact ru
  subst e;dsimp only at hq';rw[show(bs[i]?).getD true=bs[i] by simp[hb]] at hq';exact wpAny_truthy_bool hq'
 .intro h' tk hk
  have I1:Inv X pins σ H { s with heap:=h',toks:=tk }:=I.kept fun b o e=>hk b o (fun z=>by
   have z':b=s.heap.objs.size:=by simpa using z
   exact absurd (Heap.lt_size e) (by rw[z']; exact Nat.lt_irrefl _)) (Heap.get?_push_of_some _ e)
  refine⟨.bl _,H,I1,rfl,?_⟩;have e:(List.range its.toArray.size).all (fun i=>(bs[i]?).getD true)=bs.all id:=by
   rw[hlen,Bool.eq_iff_iff];simp only[List.all_eq_true,List.mem_range,id_eq];constructor
   .intro h b hb
    obtain⟨i,hi,rfl⟩:=List.mem_iff_getElem.mp hb;have:=h i hi;simpa[hi] using this
   .intro h i hi
    simpa[hi] using h bs[i] (List.getElem_mem hi)
  rw[e];exact q
end
section
variable{X:Cx}{e:Expr}{te:TE}{p q pos:Pos}{x:Str}{T:String}
def N2(H:Hp):V->Option String
 | .non=>some "NoneType"
 | .bl _=>some "bool"
 | .int _=>some "int"
 | .str _=>some "str"
 | .ref a=>match H a with
  | some (.lst _)=>some "list"
  | some (.tup _)=>some "tuple"
  | _=>none
 | _=>none
def U2{K:Frag}{H:Hp}{v:V}{t:String}(h:N2 H v=some t):TyOf K H v (.type t):=by
 cases v with
 | non=>cases h; exact .non
 | bl b=>cases h; exact .bl b
 | int i=>cases h; exact .int i
 | str z=>cases h; exact .str z
 | ref a =>
  unfold N2 at h;dsimp only at h;split at h
  .rename_i e; cases h; exact .lst e
  .rename_i e; cases h; exact .tup e
  .cases h
 | _=>cases h
end
inductive RepA (N:Addr->Prop) (H:Hp):V->D->Prop where
 | non:RepA N H .non .non
 | bl (b:Bool):RepA N H (.bl b) (.bl b)
 | int (i:Int):RepA N H (.int i) (.int i)
 | str (x:Str) (hx:x.length<=sizeLine):RepA N H (.str x) (.str x)
 | lst {a:Addr} {vs:List V} {ds:List D} (h:H a=some (.lst vs)) (hz:vs.length<=sizeLine) (hn:¬N a) (hl:vs.length=ds.length) (hr:∀(i:Nat) v d,vs[i]? = some v->ds[i]? = some d->RepA N H v d):RepA N H (.ref a) (.lst ds)
 | tup {a:Addr} {vs:List V} {ds:List D} (h:H a=some (.tup vs)) (hz:vs.length<=sizeLine) (hl:vs.length=ds.length) (hr:∀(i:Nat) v d,vs[i]? = some v->ds[i]? = some d->RepA N H v d):RepA N H (.ref a) (.tup ds)
abbrev Rep:=RepA fun _=>False
def XH(N:Addr->Prop)(H H':Hp):Prop:=∀b o,¬N b->H b=some o->H' b=some o
def RepA.same{N:Addr->Prop}{H H':Hp}(k:XH N H H')(t:∀b xs,H b=some (.tup xs)->H' b=some (.tup xs)){v:V}{d:D}(r:RepA N H v d):RepA N H' v d:=by
 induction r with
 | non=>exact .non
 | bl b=>exact .bl b
 | int i=>exact .int i
 | str x hx=>exact .str x hx
 | lst h hz hn hl _ ih=>exact .lst (k _ _ hn h) hz hn hl fun i v d e1 e2=>ih i v d e1 e2
 | tup h hz hl _ ih=>exact .tup (t _ _ h) hz hl fun i v d e1 e2=>ih i v d e1 e2
def RepA.weak{N N':Addr->Prop}{H:Hp}(hn:∀a,N' a->N a){v:V}{d:D}(r:RepA N H v d):RepA N' H v d:=by
 induction r with
 | non=>exact .non
 | bl b=>exact .bl b
 | int i=>exact .int i
 | str x hx=>exact .str x hx
 | lst h hz n hl _ ih=>exact .lst h hz (fun z=>n (hn _ z)) hl ih
 | tup h hz hl _ ih=>exact .tup h hz hl ih
theorem RepA.rep{N:Addr->Prop}{H:Hp}{v:V}{d:D}(r:RepA N H v d):Rep H v d:=r.weak fun _ z=>z.elim
def RepA.inj{N N':Addr->Prop}{H:Hp}{v:V}{d e:D}(r:RepA N H v d)(q:RepA N' H v e):d=e:=by
 induction r generalizing e with
 | non=>cases q; rfl
 | bl b=>cases q; rfl
 | int i=>cases q; rfl
 | str x=>cases q; rfl
 | lst h hz hn hl hr ih =>
  cases q with
  | lst h' hz' hn' hl' hr' =>
   rw[h] at h'; cases h';congr 1;refine List.ext_getElem? fun i=>?_;rename_i vs ds es;by_cases hi:i<vs.length
   .have e1:ds[i]? = some ds[i]:=by simp[<- hl,hi]
    have e2:es[i]? = some es[i]:=by simp[<- hl',hi]
    rw[e1,e2,ih i vs[i] ds[i] (by simp[hi]) e1 (hr' i vs[i] es[i] (by simp[hi]) e2)]
   .rw[List.getElem?_eq_none (by omega),List.getElem?_eq_none (by omega)]
  | tup h'=>rw[h] at h'; cases h'
 | tup h hz hl hr ih =>
  cases q with
  | tup h' hz' hl' hr' =>
   rw[h] at h'; cases h';congr 1;refine List.ext_getElem? fun i=>?_;rename_i vs ds es;by_cases hi:i<vs.length
   .have e1:ds[i]? = some ds[i]:=by simp[<- hl,hi]
    have e2:es[i]? = some es[i]:=by simp[<- hl',hi]
    rw[e1,e2,ih i vs[i] ds[i] (by simp[hi]) e1 (hr' i vs[i] es[i] (by simp[hi]) e2)]
   .rw[List.getElem?_eq_none (by omega),List.getElem?_eq_none (by omega)]
  | lst h'=>rw[h] at h'; cases h'
structure Def (P:Program) (w:World) (K:Frag) (mg:Str->Option Value) (base:Heap) (CX:CXT) (k:Nat) (x:Str) (ps:List Str) (sp:Sp):Prop where
 ex:∃(f:Addr) (fd:FuncData),mg x=some (.ref f)/\PySem.W.keepIn K (.ref f)=true/\Binds K fd ps []/\FnOk P w K mg base CX k f fd ps sp
theorem Def.mono{P:Program}{w:World}{K:Frag}{mg:Str->Option Value}{base:Heap}{CX:CXT}{j k:Nat}{x:Str}{ps:List Str}{sp:Sp}(D:Def P w K mg base CX j x ps sp)(h:j<=k):Def P w K mg base CX k x ps sp:=
 let⟨f,fd,a,b,c,d⟩:=D.ex; ⟨f,fd,a,b,c,d.mono h⟩
section
variable{X:Cx}
def Mq{CX:CXT}{k j:Nat}{x:Str}{ps:List Str}{sp:Sp}{E:XK}{p pos:Pos}{e:Expr}{es:List Expr}{t:TA}(D:Def X.prog X.w X.K X.mg X.base CX k x ps sp)(hr:Room j X.A)(hkj:k<=j)(hx:Passes CX X E)(ha:PA X (e::es) t)(hg:Gl X x:=by rfl)(hdb:(x==("__debug__" : Str))=false:=by decide +kernel)(he:starEach (e::es) X.env=(false,eval e X.env)::starEach es X.env:=by rfl)(hpl:(backTo pos (starEach es X.env)).any (·.1)=false:=by rfl):PE X (.Call (.Name x p) (e::es) [] pos) (Lr sp [] E t):=by
 obtain⟨f,fd,a,b,c,d⟩:=D.ex;exact Uq d (hr.mono hkj) hg a b c .nil hx ha hdb he hpl
end
def isI(t T:String):Bool:=t==T || (t == "bool" && T == "int")
def Ql{K:Frag}{t T:String}(ht:t∈["NoneType","bool","int","str","list","tuple"])(hT:T∈["int","bool","tuple","list","str"]):PySem.W.kitOne K (.type t) (.type T)=some (isI t T):=by
 simp only[List.mem_cons,List.not_mem_nil,or_false] at ht hT;rcases ht with rfl|rfl|rfl|rfl|rfl|rfl<;>rcases hT with rfl|rfl|rfl|rfl|rfl <;>
  kernel_rfl
def S8{H:Hp}{v:V}{t:String}(h:N2 H v=some t):t∈["NoneType","bool","int","str","list","tuple"]:=by
 cases v with
 | non=>cases h; simp
 | bl b=>cases h; simp
 | int i=>cases h; simp
 | str z=>cases h; simp
 | ref a =>
  unfold N2 at h;dsimp only at h;split at h
  .cases h; simp
  .cases h; simp
  .cases h
 | _=>cases h
section
variable{X:Cx}
def QZ:CF X (.builtin "isinstance") (fun xs H Q=>∃x t T,xs=[x,.ty T]/\N2 H x=some t/\T∈["int","bool","tuple","list","str"]/\Q (.bl (isI t T)) H):=by
 intro pins s σ H xs us Q I r h;obtain⟨x,t,T,rfl,ht,hT,q⟩:=h;obtain⟨u,v,rfl,ru,rv⟩:=r.two;cases rv;exact Qh I ru (U2 ht) (Ql (S8 ht) hT) fun tk=>⟨.bl _,H,I.tok tk,rfl,q⟩
end
def GW:D->String
 | .non => "NoneType"
 | .bl _ => "bool"
 | .int _ => "int"
 | .str _ => "str"
 | .lst _ => "list"
 | .tup _ => "tuple"
def RepA.typ{N:Addr->Prop}{H:Hp}{v:V}{d:D}(r:RepA N H v d):N2 H v=some (GW d):=by
 cases r with
 | non=>rfl
 | bl b=>rfl
 | int i=>rfl
 | str x=>rfl
 | lst h=>simp only[N2,h,GW]
 | tup h=>simp only[N2,h,GW]
mutual
noncomputable def eqD:D->D->Bool
 | .non,.non=>true
 | .bl a,.bl b=>a==b
 | .bl a,.int b=>(if a then 1 else 0)==b
 | .int a,.bl b=>a==(if b then 1 else 0)
 | .int a,.int b=>a==b
 | .str a,.str b=>a==b
 | .lst xs,.lst ys=>ES xs ys
 | .tup xs,.tup ys=>ES xs ys
 | _,_=>false
noncomputable def ES:List D->List D->Bool
 | [],[]=>true
 | x::xs,y::ys=>eqD x y&&ES xs ys
 | _,_=>false
end
theorem Jz(x y:List D):eqD (.lst x) (.lst y)=ES x y:=rfl
theorem IQ(x y:List D):eqD (.tup x) (.tup y)=ES x y:=rfl
theorem GZ(x y:Int):eqD (.int x) (.int y)=(x==y):=rfl
theorem Lh(x y:Str):eqD (.str x) (.str y)=(x==y):=rfl
theorem Nb(x y:Bool):eqD (.bl x) (.bl y)=(x==y):=rfl
theorem Oc(x y:D)(xs ys:List D):ES (x::xs) (y::ys)=(eqD x y&&ES xs ys):=rfl
theorem Ed:∀{xs ys:List D},ES xs ys=true->xs.length=ys.length
 | [],[],_=>rfl
 | [],_::_,h=>nomatch h
 | _::_,[],h=>nomatch h
 | x::xs,y::ys,h=>by
  rw[Oc,Bool.and_eq_true] at h;simp[Ed h.2]
theorem Ec:∀{xs ys:List D},xs.length=ys.length->ES xs ys=(List.range xs.length).all fun i=>eqD (xs.getD i .non) (ys.getD i .non)
 | [],[],_=>rfl
 | x::xs,y::ys,h=>by
  have ih:=Ec (xs:=xs) (ys:=ys) (by simpa using h);rw[Oc,ih,List.length_cons,List.range_succ_eq_map,List.all_cons,List.all_map];rfl
mutual
theorem DJ:∀d,eqD d d=true
 | .non=>rfl
 | .bl a=>by rw[Nb]; exact beq_self_eq_true a
 | .int a=>by rw[GZ]; exact beq_self_eq_true a
 | .str a=>by rw[Lh]; exact beq_self_eq_true a
 | .lst xs=>Ie xs
 | .tup xs=>Ie xs
theorem Ie:∀ds,ES ds ds=true
 | []=>rfl
 | d::ds=>by rw[Oc,DJ d,Ie ds]; rfl
end
section
variable{P:Program}{w:World}{H:Hp}{s:Shared}{N N':Addr->Prop}
def Bo(hok:HOk P w H s.heap){a:Addr}{vs:List V}(h:H a=some (.lst vs)):∃its:List Value,Vals vs its/\s.heap.IsList a its.toArray:=by
 obtain⟨z,its,n,r,e⟩:=hok a _ h;exact⟨its,r,_,e,rfl,_,rfl⟩
def BJ(hok:HOk P w H s.heap){a:Addr}{vs:List V}(h:H a=some (.tup vs)):∃its:List Value,Vals vs its/\s.heap.IsTuple a its.toArray:=by
 obtain⟨z,its,r,p⟩:=hok a _ h;exact⟨its,r,p⟩
theorem Fi{A:Around}{vs vs':List V}{its its':List Value}{ds es:List D}(r:Vals vs its)(r':Vals vs' its')(hl:vs.length=ds.length)(hl':vs'.length=es.length)(f:∀(i:Nat) v d v' e u u',vs[i]? = some v->ds[i]? = some d->vs'[i]? = some v'->es[i]? = some e->RelV v u->RelV v' u'->SeqAt.EqAt A s u u' (eqD d e)):
  ∀j (h1:j<its.toArray.size) (h2:j<its'.toArray.size),SeqAt.EqAt A s its.toArray[j] its'.toArray[j] (eqD (ds.getD j .non) (es.getD j .non)):=fun j h1 h2=>by
 have e1:=r.length;have e2:=r'.length;have h1':j<its.length:=by simpa using h1
 have h2':j<its'.length:=by simpa using h2
 have b1:j<vs.length:=by lia
 have b2:j<vs'.length:=by lia
 have b3:j<ds.length:=by lia
 have b4:j<es.length:=by lia
 obtain⟨u,hu,ru⟩:=r.get (i:=j) (x:=vs[j]) (by simp);obtain⟨u',hu',ru'⟩:=r'.get (i:=j) (x:=vs'[j]) (by simp);have q:=f j _ (ds[j]) _ (es[j]) u u' (by simp) (by simp) (by simp) (by simp) ru ru';have g1:its.toArray[j]=u:=by
  have:its[j]? = some (its[j]):=by simp[h1']
  rw[this] at hu;simpa using hu
 have g2:its'.toArray[j]=u':=by
  have:its'[j]? = some (its'[j]):=by simp[h2']
  rw[this] at hu';simpa using hu'
 rw[g1,g2];have g3:ds.getD j .non=ds[j]:=by simp[List.getD,b3]
 have g4:es.getD j .non=es[j]:=by simp[List.getD,b4]
 rw[g3,g4];exact q
def lt0{a n c:Nat}(h:a+n<c):a<c:=by lia
def lt1{a n c:Nat}(h:a+(n+1)<c):a+1+n<c:=by lia
def Jy(hok:HOk P w H s.heap){x:V}{d:D}(r:RepA N H x d):∀{A:Around} {n:Nat} {y:V} {e:D} {v u:Value},RepA N' H y e->RelV x v->RelV y u->Sh n d->A.units+n<cLine->SeqAt.EqAt A s v u (eqD d e):=by
 induction r with
 | non =>
  intro A n y e v u q rx ry _ hu;cases rx;cases q with
  | non=>cases ry; exact SeqAt.EqAt.same _
  | bl b=>cases ry; exact SeqAt.EqAt.none_bool b
  | int b=>obtain⟨t,rfl⟩:=ry; exact SeqAt.EqAt.none_int b t
  | str b=>obtain⟨t,rfl⟩:=ry; exact SeqAt.EqAt.none_str b t
  | lst h=>cases ry; obtain⟨its,_,hl⟩:=Bo hok h; exact SeqAt.EqAt.none_list hl (lt0 hu)
  | tup h=>cases ry; obtain⟨its,_,hl⟩:=BJ hok h; exact SeqAt.EqAt.none_tuple hl (lt0 hu)
 | bl a =>
  intro A n y e v u q rx ry _ hu;cases rx;cases q with
  | non=>cases ry; exact SeqAt.EqAt.bool_none a
  | bl b=>cases ry; exact SeqAt.EqAt.bool_bool a b
  | int b=>obtain⟨t,rfl⟩:=ry; exact SeqAt.EqAt.bool_int a b t
  | str b=>obtain⟨t,rfl⟩:=ry; exact SeqAt.EqAt.bool_str a b t
  | lst h=>cases ry; obtain⟨its,_,hl⟩:=Bo hok h; exact SeqAt.EqAt.bool_list a hl (lt0 hu)
  | tup h=>cases ry; obtain⟨its,_,hl⟩:=BJ hok h; exact SeqAt.EqAt.bool_tuple a hl (lt0 hu)
 | int a =>
  intro A n y e v u q rx ry _ hu;obtain⟨t',rfl⟩:=rx;cases q with
  | non=>cases ry; exact SeqAt.EqAt.int_none a t'
  | bl b=>cases ry; exact SeqAt.EqAt.int_bool a t' b
  | int b=>obtain⟨t,rfl⟩:=ry; exact SeqAt.EqAt.int_int a t' b t
  | str b=>obtain⟨t,rfl⟩:=ry; exact SeqAt.EqAt.int_str a t' b t
  | lst h=>cases ry; obtain⟨its,_,hl⟩:=Bo hok h; exact SeqAt.EqAt.int_list a t' hl (lt0 hu)
  | tup h=>cases ry; obtain⟨its,_,hl⟩:=BJ hok h; exact SeqAt.EqAt.int_tuple a t' hl (lt0 hu)
 | str a =>
  intro A n y e v u q rx ry _ hu;obtain⟨t',rfl⟩:=rx;cases q with
  | non=>cases ry; exact SeqAt.EqAt.str_none a t'
  | bl b=>cases ry; exact SeqAt.EqAt.str_bool a t' b
  | int b=>obtain⟨t,rfl⟩:=ry; exact SeqAt.EqAt.str_int a t' b t
  | str b=>obtain⟨t,rfl⟩:=ry; exact SeqAt.EqAt.str_str a t' b t
  | lst h=>cases ry; obtain⟨its,_,hl⟩:=Bo hok h; exact SeqAt.EqAt.str_list a t' hl (lt0 hu)
  | tup h=>cases ry; obtain⟨its,_,hl⟩:=BJ hok h; exact SeqAt.EqAt.str_tuple a t' hl (lt0 hu)
 | @lst a vs ds h hz hn hl hr ih =>
  intro A n y e v u q rx ry hs hu;cases rx;obtain⟨its,rv,hil⟩:=Bo hok h;cases hs with
  | @lst n _ hs =>
   cases q with
   | non=>cases ry; exact SeqAt.EqAt.list_none hil (lt0 hu)
   | bl b=>cases ry; exact SeqAt.EqAt.list_bool b hil (lt0 hu)
   | int b=>obtain⟨t,rfl⟩:=ry; exact SeqAt.EqAt.list_int b t hil (lt0 hu)
   | str b=>obtain⟨t,rfl⟩:=ry; exact SeqAt.EqAt.list_str b t hil (lt0 hu)
   | @lst a' vs' es h' hz' hn' hl' hr' =>
    cases ry;by_cases hab:a=a'
    .subst hab
     have e:=(RepA.lst h hz hn hl hr).inj (RepA.lst h' hz' hn' hl' hr');cases e;rw[DJ];exact SeqAt.EqAt.same _
    .obtain⟨its',rv',hil'⟩:=Bo hok h'
     have l1:=rv.length;have l2:=rv'.length;refine SeqAt.EqAt.of_refs hab ?_;rw[Jz];by_cases hlen:ds.length=es.length
     .rw[Ec hlen,show ds.length=its.toArray.size by simp; lia]
      refine SeqAt.RcAt.lists hil hil' (by simp; lia) (lt0 hu) (Fi rv rv' hl hl' fun i v d v' e u u' e1 e2 e3 e4 ru ru'=>?_);exact ih i v d e1 e2 (hr' i v' e e3 e4) ru ru' (hs d (List.mem_of_getElem? e2)) (lt1 hu)
     .have:ES ds es=false:=by
       cases q:ES ds es with
       | false=>rfl
       | true=>exact absurd (Ed q) hlen
      rw[this];exact SeqAt.RcAt.lists_lengths hil hil' (by simp; lia) (lt0 hu)
   | tup h' =>
    cases ry;obtain⟨its',_,hl'⟩:=BJ hok h';exact SeqAt.EqAt.list_tuple hil hl' (lt0 hu)
 | @tup a vs ds h hz hl hr ih =>
  intro A n y e v u q rx ry hs hu;cases rx;obtain⟨its,rv,hil⟩:=BJ hok h;cases hs with
  | @tup n _ hs =>
   cases q with
   | non=>cases ry; exact SeqAt.EqAt.tuple_none hil (lt0 hu)
   | bl b=>cases ry; exact SeqAt.EqAt.tuple_bool b hil (lt0 hu)
   | int b=>obtain⟨t,rfl⟩:=ry; exact SeqAt.EqAt.tuple_int b t hil (lt0 hu)
   | str b=>obtain⟨t,rfl⟩:=ry; exact SeqAt.EqAt.tuple_str b t hil (lt0 hu)
   | @tup a' vs' es h' hz' hl' hr' =>
    cases ry;by_cases hab:a=a'
    .subst hab
     have e:=(RepA.tup (N:=N) h hz hl hr).inj (RepA.tup h' hz' hl' hr');cases e;rw[DJ];exact SeqAt.EqAt.same _
    .obtain⟨its',rv',hil'⟩:=BJ hok h'
     have l1:=rv.length;have l2:=rv'.length;refine SeqAt.EqAt.of_refs hab ?_;have q:=SeqAt.RcAt.tuples (A:=A) hil hil' (lt0 hu) (Fi rv rv' hl hl' fun i v d v' e u u' e1 e2 e3 e4 ru ru'=>ih i v d e1 e2 (hr' i v' e e3 e4) ru ru' (hs d (List.mem_of_getElem? e2)) (lt1 hu));rw[IQ];by_cases hlen:ds.length=es.length
     .have e1:(its.toArray.size==its'.toArray.size)=true:=by simp; lia
      have e2:min its.toArray.size its'.toArray.size=ds.length:=by simp; lia
      rw[e1,e2,Bool.and_true,<- Ec hlen] at q;exact q
     .have e1:(its.toArray.size==its'.toArray.size)=false:=by simp; lia
      have e3:ES ds es=false:=by
       cases q:ES ds es with
       | false=>rfl
       | true=>exact absurd (Ed q) hlen
      rw[e1,Bool.and_false] at q;rw[e3];exact q
   | lst h' =>
    cases ry;obtain⟨its',_,hl'⟩:=Bo hok h';exact SeqAt.EqAt.tuple_list hil hl' (lt0 hu)
def W2(hok:HOk P w H s.heap){A:Around}{n:Nat}{x y:V}{d e:D}{v u:Value}(r:RepA N H x d)(q:RepA N' H y e)(rx:RelV x v)(ry:RelV y u)(hs:Sh n d)(hu:A.units+n<cLine):SeqAt.RcAt A s v u (eqD d e):=by
 cases r with
 | non =>
  cases rx;cases q with
  | non=>cases ry; exact SeqAt.RcAt.none_none
  | bl b=>cases ry; exact SeqAt.RcAt.none_bool b
  | int b=>obtain⟨t,rfl⟩:=ry; exact SeqAt.RcAt.none_int b t
  | str b=>obtain⟨t,rfl⟩:=ry; exact SeqAt.RcAt.none_str b t
  | lst h=>cases ry; obtain⟨its,_,hl⟩:=Bo hok h; exact SeqAt.RcAt.none_list hl (lt0 hu)
  | tup h=>cases ry; obtain⟨its,_,hl⟩:=BJ hok h; exact SeqAt.RcAt.none_tuple hl (lt0 hu)
 | bl a =>
  cases rx;cases q with
  | non=>cases ry; exact SeqAt.RcAt.bool_none a
  | bl b=>cases ry; exact SeqAt.RcAt.bool_bool a b
  | int b=>obtain⟨t,rfl⟩:=ry; exact SeqAt.RcAt.bool_int a b t
  | str b=>obtain⟨t,rfl⟩:=ry; exact SeqAt.RcAt.bool_str a b t
  | lst h=>cases ry; obtain⟨its,_,hl⟩:=Bo hok h; exact SeqAt.RcAt.bool_list a hl (lt0 hu)
  | tup h=>cases ry; obtain⟨its,_,hl⟩:=BJ hok h; exact SeqAt.RcAt.bool_tuple a hl (lt0 hu)
 | int a =>
  obtain⟨t',rfl⟩:=rx;cases q with
  | non=>cases ry; exact SeqAt.RcAt.int_none a t'
  | bl b=>cases ry; exact SeqAt.RcAt.int_bool a t' b
  | int b=>obtain⟨t,rfl⟩:=ry; exact SeqAt.RcAt.int_int a t' b t
  | str b=>obtain⟨t,rfl⟩:=ry; exact SeqAt.RcAt.int_str a t' b t
  | lst h=>cases ry; obtain⟨its,_,hl⟩:=Bo hok h; exact SeqAt.RcAt.int_list a t' hl (lt0 hu)
  | tup h=>cases ry; obtain⟨its,_,hl⟩:=BJ hok h; exact SeqAt.RcAt.int_tuple a t' hl (lt0 hu)
 | str a =>
  obtain⟨t',rfl⟩:=rx;cases q with
  | non=>cases ry; exact SeqAt.RcAt.str_none a t'
  | bl b=>cases ry; exact SeqAt.RcAt.str_bool a t' b
  | int b=>obtain⟨t,rfl⟩:=ry; exact SeqAt.RcAt.str_int a t' b t
  | str b=>obtain⟨t,rfl⟩:=ry; exact SeqAt.RcAt.str_str a t' b t
  | lst h=>cases ry; obtain⟨its,_,hl⟩:=Bo hok h; exact SeqAt.RcAt.str_list a t' hl (lt0 hu)
  | tup h=>cases ry; obtain⟨its,_,hl⟩:=BJ hok h; exact SeqAt.RcAt.str_tuple a t' hl (lt0 hu)
 | @lst a vs ds h hz hn hl hr =>
  cases rx;obtain⟨its,rv,hil⟩:=Bo hok h;cases hs with
  | @lst n _ hs =>
   cases q with
   | non=>cases ry; exact SeqAt.RcAt.list_none hil (lt0 hu)
   | bl b=>cases ry; exact SeqAt.RcAt.list_bool b hil (lt0 hu)
   | int b=>obtain⟨t,rfl⟩:=ry; exact SeqAt.RcAt.list_int b t hil (lt0 hu)
   | str b=>obtain⟨t,rfl⟩:=ry; exact SeqAt.RcAt.list_str b t hil (lt0 hu)
   | @lst a' vs' es h' hz' hn' hl' hr' =>
    cases ry;obtain⟨its',rv',hil'⟩:=Bo hok h';have l1:=rv.length;have l2:=rv'.length;rw[Jz];by_cases hlen:ds.length=es.length
    .rw[Ec hlen,show ds.length=its.toArray.size by simp; lia]
     refine SeqAt.RcAt.lists hil hil' (by simp; lia) (lt0 hu) (Fi rv rv' hl hl' fun i v d v' e u u' e1 e2 e3 e4 ru ru'=>?_);exact Jy hok (hr i v d e1 e2) (hr' i v' e e3 e4) ru ru' (hs d (List.mem_of_getElem? e2)) (lt1 hu)
    .have:ES ds es=false:=by
      cases q:ES ds es with
      | false=>rfl
      | true=>exact absurd (Ed q) hlen
     rw[this];exact SeqAt.RcAt.lists_lengths hil hil' (by simp; lia) (lt0 hu)
   | tup h' =>
    cases ry;obtain⟨its',_,hl'⟩:=BJ hok h';exact SeqAt.RcAt.list_tuple hil hl' (lt0 hu)
 | @tup a vs ds h hz hl hr =>
  cases rx;obtain⟨its,rv,hil⟩:=BJ hok h;cases hs with
  | @tup n _ hs =>
   cases q with
   | non=>cases ry; exact SeqAt.RcAt.tuple_none hil (lt0 hu)
   | bl b=>cases ry; exact SeqAt.RcAt.tuple_bool b hil (lt0 hu)
   | int b=>obtain⟨t,rfl⟩:=ry; exact SeqAt.RcAt.tuple_int b t hil (lt0 hu)
   | str b=>obtain⟨t,rfl⟩:=ry; exact SeqAt.RcAt.tuple_str b t hil (lt0 hu)
   | @tup a' vs' es h' hz' hl' hr' =>
    cases ry;obtain⟨its',rv',hil'⟩:=BJ hok h';have l1:=rv.length;have l2:=rv'.length;have q:=SeqAt.RcAt.tuples (A:=A) hil hil' (lt0 hu) (Fi rv rv' hl hl' fun i v d v' e u u' e1 e2 e3 e4 ru ru'=>Jy hok (hr i v d e1 e2) (hr' i v' e e3 e4) ru ru' (hs d (List.mem_of_getElem? e2)) (lt1 hu))
    rw[IQ];by_cases hlen:ds.length=es.length
    .have e1:(its.toArray.size==its'.toArray.size)=true:=by simp; lia
     have e2:min its.toArray.size its'.toArray.size=ds.length:=by simp; lia
     rw[e1,e2,Bool.and_true,<- Ec hlen] at q;exact q
    .have e1:(its.toArray.size==its'.toArray.size)=false:=by simp; lia
     have e3:ES ds es=false:=by
      cases q:ES ds es with
      | false=>rfl
      | true=>exact absurd (Ed q) hlen
     rw[e1,Bool.and_false] at q;rw[e3];exact q
   | lst h' =>
    cases ry;obtain⟨its',_,hl'⟩:=Bo hok h';exact SeqAt.RcAt.tuple_list hil hl' (lt0 hu)
end
section
variable{X:Cx}{k:Nat}
def BY(hr:Room k X.A):OpR X (compareOp .Eq) (fun x y H Q=>∃d e,Rep H x d/\Rep H y e/\Sh 16 d/\Q (.bl (eqD d e)) H):=by
 intro pins s σ H x y v u Q I rx ry h;obtain⟨d,e,r1,r2,hs,q⟩:=h;exact EqBoolInt.of_rc (W2 I.hok r1 r2 rx ry hs (by have:=hr.units; lia)) ⟨.bl _,H,I,rfl,q⟩
end
structure FlyAt (P:Program) (w:World) (outer:List Env) (H:Hp) (s:Shared) (a C:Addr) (a0:Value) (B:Heap) (H':Hp) (s':Shared):Prop where
 os:s'.os=s.os
 bare:AllBare s'.gens
 fly:Heap.FlyingW B outer a (.ref C) a0 s'.heap
 keep:∀b o,s.heap.get? b=some o->H b=none->b∉frs outer->B.get? b=some o
 slot:∀b o,s.heap.get? b=some o->H b=none->b∈frs outer->∃sl,s'.heap.get? b=some { o with slots:=sl }
 free:∀b o,s.heap.get? b=some o->H b=none->H' b=none
 there:∀b o,s.heap.get? b=some o->b∉frs outer->∃o',B.get? b=some o'
 tups:∀b xs,H b=some (.tup xs)->H' b=some (.tup xs)
 frzs:∀b o u,H b=some (.frz o u)->H' b=some (.frz o u)
 tbls:∀b ps,H b=some (.tbl ps)->∃more,H' b=some (.tbl (ps++more))
 hok:HOk P w H' B
 pl:Bj s'.heap a
def Fly(P:Program)(w:World):CXT:=fun outer H s E e s'=>∃(a C:Addr) (a0:Value) (B:Heap) (H':Hp),e=.ref a/\FlyAt P w outer H s a C a0 B H' s'/\E (.ref C) none H'
def D7{h base:Heap}{l:List Env}(F:h.FunFrames base l){b:Addr}(hb:b∈frs l){o:Obj}(e:h.get? b=some o):∀vs,o.data≠.fields vs:=by
 obtain⟨_,o',e',d⟩:=F.mem hb;rw[e] at e'; cases e';exact d
def HD{env:Env}{l:List Env}{L:Addr}(h:env.frame=some L):frs (env::l)=L::frs l:=by
 unfold frs;rw[List.filterMap_cons,h]
section
variable{P:Program}{w:World}{K:Frag}{mg:Str->Option Value}{base:Heap}{N:List Str}{qual:Str}{scope:Scope}{f:Addr}{cd:Value}{A:Around}{outer:List Env}{s:Shared}{H:Hp}{E E':XK}
def NB(hE:∀c d H',E' c d H'->E c d H'):Passes (Fly P w) (Bd (Fly P w) P w K mg base N qual scope f cd A outer s H E) E':=by
 intro pins σ H1 s1 e s' I fl;obtain⟨a,C,a0,B,H',rfl,F,q⟩:=fl;have lt:∀{b:Addr} {o:Obj},s.heap.get? b=some o->b≠s.heap.objs.size:=fun e=>Nat.ne_of_lt (Heap.lt_size e);have hfs:frs (envOfC qual scope s.heap.objs.size f cd::outer)=s.heap.objs.size::frs outer:=HD rfl;have nex:∀b:Addr,b∉(Bd (Fly P w) P w K mg base N qual scope f cd A outer s H E).ex:=fun b z=>absurd (show b∈([]:List Addr) from z) (by simp);have u:=I.base;show wpAny (model P w) (A.deeper (envOfC qual scope s.heap.objs.size f cd)) (leaving (envOfC qual scope s.heap.objs.size f cd) (.ref a)) _ _ s';refine HM (L:=s.heap.objs.size) I.ok.frames rfl F.fly F.pl fun h' fl' sm pl=>?_;refine⟨a,C,a0,B,H',rfl,⟨F.os.trans I.os,F.bare,fl',fun b o e n hb=>?_,fun b o e n hb=>?_,fun b o e n=>?_,fun b o e hb=>?_,fun b xs e=>F.tups b xs (u.tups b xs e),fun b o v e=>F.frzs b o v (u.frzs b o v e),fun b ps e=>?_,F.hok,pl⟩,hE _ _ _ q⟩
 .refine F.keep b o (u.keep b o e n hb (nex b)) (u.free b o e n (nex b)) ?_
  show b∉frs (envOfC qual scope s.heap.objs.size f cd::outer);rw[hfs];exact fun z=>(List.mem_cons.mp z).elim (lt e) hb
 .obtain⟨sl,e1⟩:=u.slot b o e n hb (nex b)
  obtain⟨sl',e2⟩:=F.slot b _ e1 (u.free b o e n (nex b)) (by show b∈frs (envOfC qual scope s.heap.objs.size f cd::outer); rw[hfs]; exact List.mem_cons_of_mem _ hb);obtain⟨sl3,e3⟩:=sm b { o with slots:=sl' } e2 (show ∀vs,o.data≠.fields vs from D7 I.ok.funs hb e);exact⟨sl3,e3⟩
 .obtain⟨o',e1⟩:=u.there b o e (nex b)
  exact F.free b o' e1 (u.free b o e n (nex b))
 .obtain⟨o',e1⟩:=u.there b o e (nex b)
  refine F.there b o' e1 ?_;show b∉frs (envOfC qual scope s.heap.objs.size f cd::outer);rw[hfs];exact fun z=>(List.mem_cons.mp z).elim (lt e) hb
 .obtain⟨m1,e1⟩:=u.tbls b ps e
  obtain⟨m2,e2⟩:=F.tbls b _ e1;exact⟨m1++m2,by rw[e2,Array.append_assoc]⟩
def Ow{pins:List (Addr×Obj)}{σ:St}{H1:Hp}{s1:Shared}{h2:Heap}{e C:Addr}{args:List Value}(I:Inv (Bd (Fly P w) P w K mg base N qual scope f cd A outer s H E) pins σ H1 s1)(hm:Heap.MadeExcOf s1.heap h2 e (.ref C) args)(q:E (.ref C) none H1):(Bd (Fly P w) P w K mg base N qual scope f cd A outer s H E).xe (.ref e) { s1 with heap:=h2 }:=by
 have lt:∀{b:Addr} {o:Obj},s.heap.get? b=some o->b≠s.heap.objs.size:=fun e=>Nat.ne_of_lt (Heap.lt_size e);have hfs:frs (envOfC qual scope s.heap.objs.size f cd::outer)=s.heap.objs.size::frs outer:=HD rfl;have nex:∀b:Addr,b∉(Bd (Fly P w) P w K mg base N qual scope f cd A outer s H E).ex:=fun b z=>absurd (show b∈([]:List Addr) from z) (by simp);have u:=I.base;have hB:∀{b:Addr} {o:Obj},s1.heap.get? b=some o->b∉frs (envOfC qual scope s.heap.objs.size f cd::outer)->(PySem.W.hideAll s1.heap (frs (envOfC qual scope s.heap.objs.size f cd::outer))).get? b=some o:=fun e n=>PySem.W.hideAll_get _ e n;show wpAny (model P w) (A.deeper (envOfC qual scope s.heap.objs.size f cd)) (leaving (envOfC qual scope s.heap.objs.size f cd) (.ref e)) _ _ _;refine Nr (L:=s.heap.objs.size) (base:=PySem.W.hideAll s1.heap (frs (envOfC qual scope s.heap.objs.size f cd::outer))) (h:=s1.heap) (s:={ s1 with heap:=h2 }) I.ok.frames rfl (fun b o e=>PySem.W.of_hideAll _ e)
  (PySem.W.funFrames_hide I.stack fun env he b hb=>List.mem_filterMap.mpr ⟨env,he,hb⟩) hm fun h' t fl' sm pl=>?_
 refine⟨e,C,.ref t,_,H1,rfl,⟨I.os,I.bare,fl',fun b o e n hb=>?_,fun b o e n hb=>?_,fun b o e n=>u.free b o e n (nex b),fun b o e hb=>?_,u.tups,u.frzs,u.tbls,fun b o e=>?_,pl⟩,q⟩
 .refine hB (u.keep b o e n hb (nex b)) ?_
  rw[hfs];exact fun z=>(List.mem_cons.mp z).elim (lt e) hb
 .obtain⟨sl,e1⟩:=u.slot b o e n hb (nex b)
  obtain⟨sl3,e3⟩:=sm b { o with slots:=sl } (hm.keeps b { o with slots:=sl } e1) (show ∀vs,o.data≠.fields vs from D7 I.ok.funs hb e);exact⟨sl3,e3⟩
 .obtain⟨o',e1⟩:=u.there b o e (nex b)
  exact⟨o',hB e1 (by rw[hfs]; exact fun z=>(List.mem_cons.mp z).elim (lt e) hb)⟩
 .refine(I.hok b o e).stay (fun c w' hc q=>hB q fun z=>?_) (fun _ q=>q) fun _ _ q=>q
  have n:H1 c=none:=I.stkFree c z;rcases hc with rfl|hc
  .rw[n] at e; cases e
  .rw[n] at hc; cases hc
end
def Ta:List Value:=[.type "ValueError",.type "Exception",.type "BaseException",.type "object"]
def O8{K:Frag}{h:Heap}{C:Addr}{bmB:List Value}{newId:String}(X:K.In h)(q:PySem.W.excIn K C bmB newId=true):
  ∃bm N nm qn bs hdct sn sub ab col dd k0 k1 k2 k3 k5 mN,h.get? C=some (excClassObj nm qn C N bs bm hdct sn sub ab col dd k0 k1 k2 k3 k5 newId)/\h.Ns N mN/\mN "__init__" = none/\OwnTail h bmB bm:=by
 unfold PySem.W.excIn at q;split at q
 .rename_i dd cd sl ho
  split at q
  .rename_i C' bm k0 k1 k2 k3 n k5 hm hs
   simp only[Bool.and_eq_true,beq_iff_eq,Bool.not_eq_true'] at q;obtain⟨⟨⟨⟨⟨rfl,rfl⟩,hdel⟩,ht⟩,hok⟩,hni⟩:=q;obtain⟨nm,bs,mro,ns,qn,hd,sn,sub,ab,col,del⟩:=cd;dsimp only at hm hdel hok hni;subst hm hdel;have hsl:sl = #[k0,k1,k2,k3,some (.builtin n),k5]:=by
    obtain⟨l⟩:=sl;simp only at hs;rw[hs]
   subst hsl;exact⟨bm,ns,nm,qn,bs,hd,sn,sub,ab,col,dd,k0,k1,k2,k3,k5,_,X _ _ ho,.of_isNs (PySem.W.isNs_of_in X hok),PySem.W.nsMap_none_of_in X hok hni,PySem.W.tail_of_in X ht⟩
  .cases q
 .cases q
structure Exc (K:Frag) (mg:Str->Option Value) (x:Str) (C:Addr):Prop where
 at_:mg x=some (.ref C)
 own:PySem.W.excIn K C Ta "ValueError.__new__" = true
section
variable{P:Program}{w:World}{K:Frag}{mg:Str->Option Value}{base:Heap}{N:List Str}{qual:Str}{scope:Scope}{f:Addr}{cd:Value}{A:Around}{outer:List Env}{s:Shared}{H:Hp}{E:XK}
def OR(E:XK)(C:Addr)(ta:TA):TS:=fun _ σ H=>ta σ H fun vs H1=>vs.length<=sizeLine/\E (.ref C) none H1
def Sq{x:Str}{C:Addr}{np cpos pos:Pos}{e:Expr}{es:List Expr}{ta:TA}(X:Exc K mg x C)(hh:A.handled=none)(ha:PA (Bd (Fly P w) P w K mg base N qual scope f cd A outer s H E) (e::es) ta)(hg:Gl (Bd (Fly P w) P w K mg base N qual scope f cd A outer s H E) x:=by rfl)(hdb:(x==("__debug__" : Str))=false:=by decide +kernel)(he:starEach (e::es) (Bd (Fly P w) P w K mg base N qual scope f cd A outer s H E).env=(false,eval e (Bd (Fly P w) P w K mg base N qual scope f cd A outer s H E).env)::starEach es (Bd (Fly P w) P w K mg base N qual scope f cd A outer s H E).env:=by rfl)(hpl:(backTo cpos (starEach es (Bd (Fly P w) P w K mg base N qual scope f cd A outer s H E).env)).any (·.1)=false:=by rfl):
  PS (Bd (Fly P w) P w K mg base N qual scope f cd A outer s H E) (.Raise (some (.Call (.Name x np) (e::es) [] cpos)) none pos) (OR E C ta):=by
 intro pins s1 σ H1 D I h;obtain⟨bm,Nn,nm,qn,bs,hdct,sn,sub,ab,col,dd,k0,k1,k2,k3,k5,mN,hC,hN,hni,T⟩:=O8 I.mod.kin X.own;refine wpAny_Raise_call_subU (C:=C) (nm:=nm) (q:=qn) (N:=Nn) (bs:=bs) (bm:=bm) (hdct:=hdct) (sn:=sn) (sub:=sub) (ab:=ab) (col:=col) (dd:=dd) (k0:=k0) (k1:=k1) (k2:=k2) (k3:=k3) (k5:=k5)
  PySem.F.excBase_ValueError dK PySem.F.excBase_ValueError (mN:=mN) (T.hasType PySem.F.excBase_ValueError.hasBase) (show A.handled=none from hh)
  (by rw[he]; show(false || (backTo cpos (starEach es (Bd (Fly P w) P w K mg base N qual scope f cd A outer s H E).env)).any (·.1))=false; rw[hpl]; rfl) hni (GN I hg X.at_ ⟨rfl,?_⟩ hdb)
 have hA:=ha cpos pins s1 σ H1 _ I h;rw[he] at hA |-;refine Calls.evalArgs_plain (thn hA fun us s2 ⟨vs,H2,I2,r2,hz,q2⟩=>⟨rfl,by rw[<- r2.length]; exact hz,I2.bk _ _ hC,hN.keeps I2.bk,T.keeps I2.bk,fun h' e' hm=>?_⟩);exact Ow I2 hm q2
end
structure Blt (mg:Str->Option Value) (K:Frag):Prop where
 isinstance:mg "isinstance" = none
 len:mg "len" = none
 all:mg "all" = none
 any:mg "any" = none
 range:mg "range" = none
 list:mg "list" = none
 int:mg "int" = none
 bool:mg "bool" = none
 tuple:mg "tuple" = none
 str:mg "str" = none
 abs:mg "abs" = none
 max:mg "max" = none
 min:mg "min" = none
 dict:mg "dict" = none
section
variable{X:Cx}{x:Str}{p pos:Pos}{e:Expr}{es:List Expr}{t:TA}{id T:String}{r:List V->Hp->VK->Prop}
theorem Qw(hc:CF X (.builtin id) r)(hm:X.mg x=none)(hv:bootBuiltins x=some (.builtin id))(hn:x ≠ "__name__")(hdb:(x==("__debug__" : Str))=false)(hg:Gl X x)(he:starEach (e::es) X.env=(false,eval e X.env)::starEach es X.env)(hpl:(backTo pos (starEach es X.env)).any (·.1)=false)(ha:PA X (e::es) t):PE X (.Call (.Name x p) (e::es) [] pos) (tCB r t):=Kc hc hg hm hv ha hn hdb he hpl
theorem Qx(hc:CF X (.type T) r)(hm:X.mg x=none)(hv:bootBuiltins x=some (.type T))(hn:x ≠ "__name__")(hdb:(x==("__debug__" : Str))=false)(hg:Gl X x)(he:starEach (e::es) X.env=(false,eval e X.env)::starEach es X.env)(hpl:(backTo pos (starEach es X.env)).any (·.1)=false)(ha:PA X (e::es) t):PE X (.Call (.Name x p) (e::es) [] pos) (tCB r t):=Qy hc hg hm hv ha hn hdb he hpl
theorem Uz{t:TE}(he:∀whole,isTrue e X.env whole=(do let v <- whole; standAt e.pos; holding [v] (truthy v)))(h:PE X e t):PT X e (tB t):=Sv h he
end
section
variable{X:Cx}{p pos:Pos}{e:Expr}{es:List Expr}{t:TA}
def isInt:D->Bool
 | .int _=>true
 | .bl _=>true
 | .non | .str _ | .lst _ | .tup _=>false
def isBool:D->Bool
 | .bl _=>true
 | .non | .int _ | .str _ | .lst _ | .tup _=>false
def Dc:D->Bool
 | .lst _=>true
 | .non | .bl _ | .int _ | .str _ | .tup _=>false
def isTup:D->Bool
 | .tup _=>true
 | .non | .bl _ | .int _ | .str _ | .lst _=>false
def isStr:D->Bool
 | .str _=>true
 | .non | .bl _ | .int _ | .lst _ | .tup _=>false
def rIs(T:String)(f:D->Bool):List V->Hp->VK->Prop:=fun xs H Q=>∃x d,xs=[x,.ty T]/\Rep H x d/\Q (.bl (f d)) H
def Tt{T:String}{f:D->Bool}(hf:∀d,isI (GW d) T=f d)(hT:T∈["int","bool","tuple","list","str"]):CF X (.builtin "isinstance") (rIs T f):=by
 intro pins s σ H xs us Q I r h;obtain⟨x,d,rfl,rp,q⟩:=h;exact QZ pins s σ H _ us Q I r ⟨x,GW d,T,rfl,rp.typ,hT,by rw[hf]; exact q⟩
theorem TN:∀d,isI (GW d) "int" = isInt d:=fun d=>by cases d<;>(simp only[GW,isInt]; decide +kernel)
theorem Rt:∀d,isI (GW d) "bool" = isBool d:=fun d=>by cases d<;>(simp only[GW,isBool]; decide +kernel)
theorem Ru:∀d,isI (GW d) "list" = Dc d:=fun d=>by cases d<;>(simp only[GW,Dc]; decide +kernel)
theorem Qg:∀d,isI (GW d) "tuple" = isTup d:=fun d=>by cases d<;>(simp only[GW,isTup]; decide +kernel)
theorem TQ:∀d,isI (GW d) "str" = isStr d:=fun d=>by cases d<;>(simp only[GW,isStr]; decide +kernel)
theorem Kd{a:Expr}{ta:TE}{q:Pos}{x:Str}{T:String}{f:D->Bool}(hf:∀d,isI (GW d) T=f d)(hT:T∈["int","bool","tuple","list","str"])(hn:PE X (.Name x q) (tC (.ty T)))(hg:Gl X "isinstance"){K:Frag}(B:Blt X.mg K)(he:starEach [a,.Name x q] X.env=[(false,eval a X.env),(false,eval (.Name x q) X.env)])(he2:starEach [.Name x q] X.env=[(false,eval (.Name x q) X.env)])(ha:PE X a ta):
  PE X (.Call (.Name "isinstance" p) [a,.Name x q] [] pos) (tCB (rIs T f) (C3 ta (C3 (tC (.ty T)) Hw))):=
 Kc (Tt hf hT) hg B.isinstance PyProof.Rows.Boot.«isinstance» (DP ha (DP hn FO he2) (he.trans (by rw[he2]))) dK dK (he.trans (by rw[he2])) (by rw[he2]; rfl)
theorem WD{a:Expr}{ta:TE}{q:Pos}(hg:Gl X "isinstance")(hg2:Gl X "int"){K:Frag}(B:Blt X.mg K)(he:starEach [a,.Name "int" q] X.env=[(false,eval a X.env),(false,eval (.Name "int" q) X.env)])(he2:starEach [.Name "int" q] X.env=[(false,eval (.Name "int" q) X.env)])(ha:PE X a ta):
  PE X (.Call (.Name "isinstance" p) [a,.Name "int" q] [] pos) (tCB (rIs "int" isInt) (C3 ta (C3 (tC (.ty "int")) Hw))):=Kd TN (by decide) (GP hg2 B.int PyProof.Rows.Boot.«int» rfl dK dK) hg B he he2 ha
theorem WC{a:Expr}{ta:TE}{q:Pos}(hg:Gl X "isinstance")(hg2:Gl X "bool"){K:Frag}(B:Blt X.mg K)(he:starEach [a,.Name "bool" q] X.env=[(false,eval a X.env),(false,eval (.Name "bool" q) X.env)])(he2:starEach [.Name "bool" q] X.env=[(false,eval (.Name "bool" q) X.env)])(ha:PE X a ta):
  PE X (.Call (.Name "isinstance" p) [a,.Name "bool" q] [] pos) (tCB (rIs "bool" isBool) (C3 ta (C3 (tC (.ty "bool")) Hw))):=Kd Rt (by decide) (GP hg2 B.bool PyProof.Rows.Boot.«bool» rfl dK dK) hg B he he2 ha
theorem WE{a:Expr}{ta:TE}{q:Pos}(hg:Gl X "isinstance")(hg2:Gl X "list"){K:Frag}(B:Blt X.mg K)(he:starEach [a,.Name "list" q] X.env=[(false,eval a X.env),(false,eval (.Name "list" q) X.env)])(he2:starEach [.Name "list" q] X.env=[(false,eval (.Name "list" q) X.env)])(ha:PE X a ta):
  PE X (.Call (.Name "isinstance" p) [a,.Name "list" q] [] pos) (tCB (rIs "list" Dc) (C3 ta (C3 (tC (.ty "list")) Hw))):=Kd Ru (by decide) (GP hg2 B.list PyProof.Rows.Boot.«list» rfl dK dK) hg B he he2 ha
theorem WG{a:Expr}{ta:TE}{q:Pos}(hg:Gl X "isinstance")(hg2:Gl X "tuple"){K:Frag}(B:Blt X.mg K)(he:starEach [a,.Name "tuple" q] X.env=[(false,eval a X.env),(false,eval (.Name "tuple" q) X.env)])(he2:starEach [.Name "tuple" q] X.env=[(false,eval (.Name "tuple" q) X.env)])(ha:PE X a ta):
  PE X (.Call (.Name "isinstance" p) [a,.Name "tuple" q] [] pos) (tCB (rIs "tuple" isTup) (C3 ta (C3 (tC (.ty "tuple")) Hw))):=Kd Qg (by decide) (GP hg2 B.tuple PyProof.Rows.Boot.«tuple» rfl dK dK) hg B he he2 ha
theorem WH{a:Expr}{ta:TE}{q:Pos}(hg:Gl X "isinstance")(hg2:Gl X "str"){K:Frag}(B:Blt X.mg K)(he:starEach [a,.Name "str" q] X.env=[(false,eval a X.env),(false,eval (.Name "str" q) X.env)])(he2:starEach [.Name "str" q] X.env=[(false,eval (.Name "str" q) X.env)])(ha:PE X a ta):
  PE X (.Call (.Name "isinstance" p) [a,.Name "str" q] [] pos) (tCB (rIs "str" isStr) (C3 ta (C3 (tC (.ty "str")) Hw))):=Kd TQ (by decide) (GP hg2 B.str PyProof.Rows.Boot.«str» rfl dK dK) hg B he he2 ha
def Y0(K:Frag):List V->Hp->VK->Prop:=fun xs H Q=>∃p bs,xs=[.ref p]/\SqL K H p (Ib bs)/\Q (.bl (bs.all id)) H
def Yp(K:Frag):List V->Hp->VK->Prop:=fun xs H Q=>(∃p ys,xs=[.ref p]/\(SqL K H p ys\/SqT K H p ys)/\Q (.int ys.length) H)\/∃z,xs=[.str z]/\z.length<=sizeLine/\Q (.int z.length) H
end
def sp1(f:D->Option D):Sp:=fun vs H Q _=>∃v d e,vs=[v]/\Rep H v d/\f d=some e/\∀u H',Cu H H'->Rep H' u e->Q u H'
section
variable{X:Cx}{a b c e:Expr}{ta tb tc:TE}{p pos:Pos}{es:List Expr}{t:TA}{x:Str}
def Qu:OpR X (compareOp .LtE) (fun x y H Q=>∃i j,x=.str i/\y=.str j/\Q (.bl (!decide (j.cps.toList<i.cps.toList))) H):=by
 intro pins s σ H x y v u Q I rx ry h;obtain⟨i,j,rfl,rfl,q⟩:=h;obtain⟨t,rfl⟩:=rx;obtain⟨t',rfl⟩:=ry;exact PySem.P.le_str (LS I q rfl)
def Y1:R2:=fun x y H Q=>∃d e,Rep H x d/\Rep H y e/\Sh 16 d/\Q (.bl (eqD d e)) H
def Vn:R2:=fun x y H Q=>(∃i j,x=.int i/\y=.int j/\Q (.bl (decide (i<j))) H)\/∃i j,x=.str i/\y=.str j/\Q (.bl (decide (i.cps.toList<j.cps.toList))) H
def Vm:R2:=fun x y H Q=>(∃i j,x=.int i/\y=.int j/\Q (.bl (decide (i<=j))) H)\/∃i j,x=.str i/\y=.str j/\Q (.bl (!decide (j.cps.toList<i.cps.toList))) H
theorem E3:OpR X (compareOp .Lt) Vn:=Yc.or Qv
theorem Ew:OpR X (compareOp .LtE) Vm:=Yb.or Qu
def PEc(X:Cx)(own:List Str)(scope:Scope)(e:Expr)(t:TE):Prop:=∀C s H fp pins,PE (cxC X own scope C s H fp pins) e t
def PTc(X:Cx)(own:List Str)(scope:Scope)(ifs:List Expr)(t:TT):Prop:=∀C s H fp pins,PTs (cxC X own scope C s H fp pins) ifs t
structure Names (N:List Str):Prop where
 nd:N.Nodup
def WI{scope:Scope}{iter elt:Expr}{ifs:List Expr}{px:Pos}{wi:TI}{tt:TT}{te:TE}(hok:B7 [x] X.N scope X.env.scope=true)(hc:X.calm=true){NN:List Str}(hn:Names NN)(hX:X.N=NN)(hx:scope.names.lookup x=some .local)(hs:∀z,foldedSetIterable iter X.env z=pure z)(hi:PI X (.Name x px) iter wi)(ht:PTc X [x] scope ifs tt)(he:PEc X [x] scope elt te):
  PE X (.ListComp elt [⟨.Name x px,iter,ifs,0⟩] scope pos) (tLc wi S9 tt te):=by
 have hnx:∀y∈X.N,x≠y:=fun y hy z=>by
  simp only[B7,Bool.and_eq_true,List.all_eq_true] at hok;have:=hok.2 x (by simp);rw[z] at this;simp[hy] at this
 exact Yf hc hok hi (fun C s H fp pins=>GG rfl (List.nodup_cons.mpr ⟨fun z=>hnx x z rfl,by rw[hX]; exact hn.nd⟩) (lookup_relabel_local hx)) ht he hs
structure GInt (mg:Str->Option Value) (x:Str) (n:Int):Prop where
 at_:∃t,mg x=some (.int n t)
def Us{mg:Str->Option Value}{n:Int}(G:GInt mg x n)(hm:X.mg=mg)(hg:Gl X x)(hd:(x==("__debug__" : Str))=false):PE X (.Name x pos) (tC (.int n)):=by
 subst hm;obtain⟨t,e⟩:=G.at_;exact Mr hg e ⟨t,rfl⟩ hd
end
section
variable{P:Program}{w:World}{K:Frag}{mg:Str->Option Value}{base:Heap}
def Fun.okF{x qual:Str}{st:Stmt}{f:Addr}{fd:FuncData}{N ps:List Str}{k:Nat}{sp:Sp}(F:Fun K x qual st f fd)(S:FnScope N ps (As st))(len:∀vs H Q E,sp vs H Q E->vs.length=ps.length)(hbody:∀(cdv:Value) (A:Around) (outer:List Env) (s:Shared) (H:Hp) (vs:List V) (Q:VK) (E:XK),Room k (A.deeper (envOfC qual (As st) s.heap.objs.size f cdv))->sp vs H Q E ->
   ∃t,PSs (Bd (Fly P w) P w K mg base N qual (As st) f cdv A outer s H E) (Cn st) t/\t { nx:=fun _ H'=>Q .non H',rt:=Q } (start N vs) H):FnOk P w K mg base (Fly P w) (k+1) f fd ps sp:=by
 obtain⟨oc,od,kV,doc,pm,an,cdv,ct,osl,rfl,lk,hcd⟩:=F.ex;exact Rf lk hcd S len fun A outer s H vs Q E hr hsp=>hbody cdv A outer s H vs Q E hr hsp
theorem QC{N:List Str}{qual:Str}{scope:Scope}{f:Addr}{cd:Value}{A:Around}{outer:List Env}{s:Shared}{H:Hp}{E:XK}{x:Str}{C:Addr}{np cpos pos:Pos}{e:Expr}{es:List Expr}{ta:TA}{k:Nat}(X:Exc K mg x C)(hr:Room k (A.deeper (envOfC qual scope s.heap.objs.size f cd)))(hg:Gl (Bd (Fly P w) P w K mg base N qual scope f cd A outer s H E) x)(hdb:(x==("__debug__" : Str))=false)(he:starEach (e::es) (Bd (Fly P w) P w K mg base N qual scope f cd A outer s H E).env=(false,eval e (Bd (Fly P w) P w K mg base N qual scope f cd A outer s H E).env)::starEach es (Bd (Fly P w) P w K mg base N qual scope f cd A outer s H E).env)(hpl:(backTo cpos (starEach es (Bd (Fly P w) P w K mg base N qual scope f cd A outer s H E).env)).any (·.1)=false)(ha:PA (Bd (Fly P w) P w K mg base N qual scope f cd A outer s H E) (e::es) ta):
  PS (Bd (Fly P w) P w K mg base N qual scope f cd A outer s H E) (.Raise (some (.Call (.Name x np) (e::es) [] cpos)) none pos) (OR E C ta):=Sq X hr.hd ha hg hdb he hpl
end
def glue(ys:List Str):Str:=⟨(ys.map fun y=>y.cps.toList).flatten.toArray⟩
section
variable{X:Cx}{a e:Expr}{ta te:TE}{apos cpos:Pos}
theorem Kt:∀{ys:List Str} {us:List Value},Vals (ys.map V.str) us->StrsAre us ys
 | [],_,.nil=>.nil
 | _::_,_,.cons ⟨t,e⟩ r=>by subst e; exact .cons _ _ (Kt r)
def rJoin(K:Frag):V->List V->Hp->VK->Prop:=fun x xs H Q=>∃sep p ys,x=.str sep/\xs=[.ref p]/\SqL K H p (ys.map V.str)/\(ys.map (·.length)).sum+ys.length*sep.length<=16777216/\Q (.str (Txt.join sep ys)) H
def T8:MtR X "str.join" (rJoin X.K):=by
 intro pins s σ H x xs v us Q I rx rv h;obtain⟨sep,p,ys,rfl,rfl,hq,hz,q⟩:=h;obtain⟨t,rfl⟩:=rx;obtain⟨u,rfl,ru⟩:=rv.one;cases ru;obtain⟨its,r,pl,_⟩:=I.list hq;exact join_list pl.isList (by simpa using Kt r) hz fun t' k=>⟨.str _,H,I.tok k,⟨_,rfl⟩,q⟩
def Ut{K:Frag}(hK:X.K=K)(B:Blt X.mg K)(hbase:attributeBase a "join" X.env (eval a X.env)=eval a X.env)(hline:(apos.endLine==cpos.line)=true)(hs:starEach [e] X.env=[(false,eval e X.env)])(ha:PE X a ta)(he:PE X e te):
  PE X (.Call (.Attribute a "join" apos) [e] [] cpos) (tBM K "str" (rJoin K) ta (C3 te Hw)):=by
 subst hK;exact Pr F.plainAttrs_str F.slot_str_join F.type_str_join T8 ha (DP he FO hs) hbase (by rw[hs]; rfl) hline hs rfl
end
section
variable{X:Cx}{p pos:Pos}{e:Expr}{es:List Expr}{t:TA}
def UE(K:Frag):List V->Hp->VK->Prop:=fun xs H Q=>∃p ys,xs=[.ref p]/\(SqL K H p ys\/SqT K H p ys)/\∀l,H l=none->Q (.ref l) (upd H l (.lst ys))
end
end L2
end
section
namespace J
open PySem L2
inductive A where
 | fz (d:D)|lst (as:List A)|tup (as:List A)|scr (ns:List Int)|dic (kvs:List (Key×D))|dct (kvs:List (D×D))|opq (a:Addr) (o:Obj)
inductive Own where
 | own|lent|ro
 deriving DecidableEq
abbrev Slot:=Option (Own×A)
abbrev Ro:=List Slot
inductive R where
 | val (a:A)|ref (i:Nat)
mutual
noncomputable def er:A->Option D
 | .fz d=>some d
 | .lst as=>(ers as).map D.lst
 | .tup as=>(ers as).map D.tup
 | .scr _=>none
 | .dic _=>none
 | .dct _=>none
 | .opq _ _=>none
noncomputable def ers:List A->Option (List D)
 | []=>some []
 | a::as=>(er a).bind fun d=>(ers as).map (d :: ·)
end
def fzs:List A->Option (List D)
 | []=>some []
 | .fz d::as=>(fzs as).map (d :: ·)
 | _::_=>none
def peek(Z:Ro):R->Option A
 | .val a=>some a
 | .ref i=>match Z[i]? with
  | some (some (_,a))=>some a
  | _=>none
def peeks(Z:Ro):List R->Option (List A)
 | []=>some []
 | r::rs=>(peek Z r).bind fun a=>(peeks Z rs).map (a :: ·)
def share(Z:Ro):R->Option (D×Ro)
 | .val a=>(er a).map (·,Z)
 | .ref i=>match Z[i]? with
  | some (some (.own,a))=>(er a).map fun d=>(d,Z.set i (some (.own,.fz d)))
  | _=>none
def move(Z:Ro):R->Option (A×Ro)
 | .val a=>some (a,Z)
 | .ref i=>match Z[i]? with
  | some (some (.own,a))=>some (a,Z.set i none)
  | _=>none
abbrev ME:=Ro->Option (R×Ro)
abbrev MT:=Ro->Option (Bool×Ro)
abbrev MA:=Ro->Option (List R×Ro)
def Ad(i:Nat):ME:=fun Z=>match Z[i]? with
 | some (some (_,.fz d))=>some (.val (.fz d),Z)
 | some (some _)=>some (.ref i,Z)
 | _=>none
def Ag(d:D):ME:=fun Z=>some (.val (.fz d),Z)
def Ai:MA:=fun Z=>some ([],Z)
def Ab(m:ME)(ms:MA):MA:=fun Z=>(m Z).bind fun p=>(ms p.2).map fun q=>(p.1::q.1,q.2)
def opM(f:List A->Option A)(m:MA):ME:=fun Z=>(m Z).bind fun p=>(peeks p.2 p.1).bind fun as=>(f as).map fun a=>(.val a,p.2)
def EE:A->Option Bool
 | .fz (.bl b)=>some b
 | .fz .non | .fz (.int _) | .fz (.str _) | .fz (.lst _) | .fz (.tup _) | .lst _ | .tup _ | .scr _ | .dic _ | .dct _ | .opq _ _=>none
def AJ(m:ME):MT:=fun Z=>(m Z).bind fun p=>(peek p.2 p.1).bind fun a=>(EE a).map (·,p.2)
def andM(a b:ME):ME:=fun Z=>(AJ a Z).bind fun p=>if p.1 then b p.2 else some (.val (.fz (.bl false)),p.2)
def orM(a b:ME):ME:=fun Z=>(AJ a Z).bind fun p=>if p.1 then some (.val (.fz (.bl true)),p.2) else b p.2
def notM(a:ME):ME:=fun Z=>(AJ a Z).map fun p=>(.val (.fz (.bl (!p.1))),p.2)
def To(a b:MT):MT:=fun Z=>(a Z).bind fun p=>if p.1 then b p.2 else some (false,p.2)
def orT(a b:MT):MT:=fun Z=>(a Z).bind fun p=>if p.1 then some (true,p.2) else b p.2
def BR(a:MT):MT:=fun Z=>(a Z).map fun p=>(!p.1,p.2)
def VZ(c:MT)(a b:ME):ME:=fun Z=>(c Z).bind fun p=>if p.1 then a p.2 else b p.2
def Gh(f g:List A->Option A)(a b c:ME):ME:=fun Z=>(a Z).bind fun p=>(b p.2).bind fun q=>(peeks q.2 [p.1,q.1]).bind fun as=>(f as).bind fun z=>(EE z).bind fun k =>
 if k then (c q.2).bind fun r=>(peeks r.2 [q.1,r.1]).bind fun bs=>(g bs).map fun z=>(.val z,r.2) else some (.val (.fz (.bl false)),q.2)
def Ae(m:ME):ME:=fun Z=>(m Z).bind fun p=>(share p.2 p.1).map fun q=>(.val (.fz q.1),q.2)
def vals:List R->Option (List A)
 | []=>some []
 | .val a::rs=>(vals rs).map (a :: ·)
 | .ref _::_=>none
abbrev LIM:Nat:=sizeLine
def mkT(as:List A):A:=match fzs as with
 | some ds=>.fz (.tup ds)
 | none=>.tup as
def Jk(m:MA):ME:=fun Z=>(m Z).bind fun p=>(vals p.1).bind fun as=>if as.length<=LIM then some (.val (mkT as),p.2) else none
def lstM(m:MA):ME:=fun Z=>(m Z).bind fun p=>(vals p.1).bind fun as=>if as.length<=LIM then some (.val (.lst as),p.2) else none
abbrev Fn:=List (Own×A)->Option (A×List A)
def Gg(Z:Ro):R->Option (Own×A)
 | .val a=>some (.own,a)
 | .ref i=>match Z[i]? with
  | some (some (.ro,a))=>some (.ro,a)
  | some (some (_,a))=>some (.lent,a)
  | _=>none
def Dj(Z:Ro):List R->Option (List (Own×A))
 | []=>some []
 | r::rs=>(Gg Z r).bind fun a=>(Dj Z rs).map (a :: ·)
def ON(Z:Ro)(i:Nat)(a:A):Ro:=match Z[i]? with
 | some (some (st,_))=>Z.set i (some (st,a))
 | _=>Z
def back:List R->List A->Ro->Ro
 | .ref i::rs,a::as,Z=>back rs as (ON Z i a)
 | .val _::rs,_::as,Z=>back rs as Z
 | [],_,Z=>Z
 | .ref _::_,[],Z=>Z
 | .val _::_,[],Z=>Z
def refs:List R->List Nat
 | []=>[]
 | .ref i::rs=>i::refs rs
 | .val _::rs=>refs rs
def Ao(Φ:Fn)(m:MA):ME:=fun Z=>(m Z).bind fun p=>(Dj p.2 p.1).bind fun args=>if (refs p.1).Nodup then (Φ args).map fun q=>(.val q.1,back p.1 q.2 p.2) else none
def IL(z:Str):List D:=z.cps.toList.map fun c=>.str ⟨#[c]⟩
def A0:A->Option (List D)
 | .fz (.lst ds)=>some ds
 | .fz (.tup ds)=>some ds
 | .lst as=>fzs as
 | .scr ns=>some (ns.map D.int)
 | .fz .non | .fz (.bl _) | .fz (.int _) | .fz (.str _) | .tup _ | .dic _ | .dct _ | .opq _ _=>none
abbrev MI:=Ro->Option (List D×Option Nat×Ro)
def nameOf:R->Option Nat
 | .val _=>none
 | .ref i=>some i
def Cr(m:ME):MI:=fun Z=>(m Z).bind fun p=>(peek p.2 p.1).bind fun a=>(A0 a).map fun ds=>(ds,nameOf p.1,p.2)
def NU(m:ME):MI:=fun Z=>(m Z).bind fun p=>match p.1 with
 | .val (.fz (.str z))=>if z.length<=LIM then some (IL z,none,p.2) else none
 | _=>none
def ET(lo:Int)(n:Nat):List D:=(List.range n).map fun(k:Nat)=>D.int (lo+(k:Int))
def CP(m:ME):MI:=fun Z=>(m Z).bind fun p=>match p.1 with
 | .val (.fz (.int j))=>if -(2 ^ 62)<=j/\j<2 ^ 62 then some (ET 0 j.toNat,none,p.2) else none
 | _=>none
def lock(Z:Ro):Option Nat->Ro
 | none=>Z
 | some i=>match Z[i]? with
  | some (some (_,a))=>Z.set i (some (.ro,a))
  | _=>Z
def unlock(old Z:Ro):Option Nat->Ro
 | none=>Z
 | some i=>match old[i]? with
  | some s=>Z.set i s
  | none=>Z
def Mp(n:Nat)(d:D):Option (List D):=match n with
 | 0=>some [d]
 | n=>match d with
  | .tup ds=>if ds.length=n then some ds else none
  | _=>none
def own(d:D):Slot:=some (.own,.fz d)
def Gi(pat:Nat)(c:MT)(e:ME):List D->Ro->Option (List D×Ro)
 | [],Z=>some ([],Z)
 | d::ds,Z=>(Mp pat d).bind fun bs=>(c (bs.map own++Z)).bind fun p =>
  if p.1 then (e p.2).bind fun q=>(share q.2 q.1).bind fun s=>(Gi pat c e ds (s.2.drop bs.length)).map fun t=>(s.1::t.1,t.2)
  else Gi pat c e ds (p.2.drop bs.length)
def CO:MT:=fun Z=>some (true,Z)
def Bh(it:MI)(pat:Nat)(c:MT)(e:ME):ME:=fun Z=>(it Z).bind fun p=>if p.1.length<=LIM then (Gi pat c e p.1 (lock p.2.2 p.2.1)).map fun q=>(.val (.lst (q.1.map A.fz)),unlock p.2.2 q.2 p.2.1) else none
inductive Fl where
 | next (Z:Ro)|brk (Z:Ro)|cnt (Z:Ro)|ret (a:A) (Z:Ro)
abbrev MS:=Ro->Option Fl
def free(Z:Ro)(i:Nat):Bool:=match Z[i]? with
 | some none=>true
 | some (some (.own,_))=>true
 | _=>false
def keep(Z:Ro):R->Option (A×Ro)
 | .val a=>some (a,Z)
 | r=>(share Z r).map fun q=>(.fz q.1,q.2)
def Bc:MS:=fun Z=>some (.next Z)
def Fc:MS:=fun _=>none
def AA(a b:MS):MS:=fun Z=>(a Z).bind fun f=>match f with
 | .next Z1=>b Z1
 | f=>some f
def A5(i:Nat)(m:ME):MS:=fun Z=>(m Z).bind fun p=>(keep p.2 p.1).bind fun q=>if free q.2 i then some (.next (q.2.set i (some (.own,q.1)))) else none
def FP:A->Option (List A)
 | .tup as=>some as
 | .fz (.tup ds)=>some (ds.map A.fz)
 | .fz .non | .fz (.bl _) | .fz (.int _) | .fz (.str _) | .fz (.lst _) | .lst _ | .scr _ | .dic _ | .dct _ | .opq _ _=>none
def Dw:List Nat->List A->Ro->Option Ro
 | [],[],Z=>some Z
 | i::is,a::as,Z=>if free Z i then Dw is as (Z.set i (some (.own,a))) else none
 | [],_::_,_=>none
 | _::_,[],_=>none
def K0(is:List Nat)(m:ME):MS:=fun Z=>(m Z).bind fun p=>(keep p.2 p.1).bind fun q=>(FP q.1).bind fun as=>(Dw is as q.2).map .next
def F9(m:ME):MS:=fun Z=>(m Z).map fun p=>.next p.2
def retS(m:ME):MS:=fun Z=>(m Z).bind fun p=>(move p.2 p.1).map fun q=>.ret q.1 q.2
def ifS(c:MT)(a b:MS):MS:=fun Z=>(c Z).bind fun p=>if p.1 then a p.2 else b p.2
def K9(is:List Nat)(one:Bool)(d:D)(Z:Ro):Option Ro:=match one,is with
 | true,[i]=>if free Z i then some (Z.set i (own d)) else none
 | false,is=>(match d with
  | .tup ds=>Dw is (ds.map A.fz) Z
  | _=>none)
 | _,_=>none
def forL(is:List Nat)(one:Bool)(b:MS):List D->Ro->Option Fl
 | [],Z=>some (.next Z)
 | d::ds,Z=>(K9 is one d Z).bind fun Z1=>(b Z1).bind fun f=>match f with
  | .next Z2=>forL is one b ds Z2
  | .cnt Z2=>forL is one b ds Z2
  | .brk Z2=>some (.next Z2)
  | f=>some f
def MO(old:Ro)(n:Option Nat):Fl->Fl
 | .next Z=>.next (unlock old Z n)
 | .brk Z=>.brk (unlock old Z n)
 | .cnt Z=>.cnt (unlock old Z n)
 | .ret a Z=>.ret a (unlock old Z n)
def KH(is:List Nat)(one:Bool)(it:MI)(b:MS):MS:=fun Z=>(it Z).bind fun p=>(forL is one b p.1 (lock p.2.2 p.2.1)).map (MO p.2.2 p.2.1)
def XT(i:Nat):MS:=fun Z=>(share Z (.ref i)).map fun q=>.next q.2
def Hn:Slot->A
 | some (_,a)=>a
 | none=>.fz .non
def fnM(np nn:Nat)(b:MS):Fn:=fun args=>if args.length=np then (b (args.map some++List.replicate (nn-np) none)).bind fun f=>match f with
  | .next Z=>some (.fz .non,(Z.take np).map Hn)
  | .ret a Z=>some (a,(Z.take np).map Hn)
  | _=>none
 else none
def imm:HO->Bool
 | .tup _=>true
 | .frz _ _=>true
 | _=>false
def Kept(L:Addr->Prop)(H H':Hp):Prop:=∀b o,H b=some o->(¬L b\/imm o=true)->H' b=some o
theorem Kept.refl{L:Addr->Prop}{H:Hp}:Kept L H H:=fun _ _ h _=>h
theorem Kept.trans{L L':Addr->Prop}{H H1 H2:Hp}(x:Kept L H H1)(y:Kept L' H1 H2)(h:∀p,L' p->L p\/H p=none):Kept L H H2:=fun b o e c =>
 y b o (x b o e c) (c.imp (fun n z=>(h b z).elim n fun q=>by rw[e] at q; cases q) id)
theorem Kept.mono{L L':Addr->Prop}{H H':Hp}(x:Kept L H H')(h:∀p,L p->L' p):Kept L' H H':=fun b o e c=>x b o e (c.imp (fun n z=>n (h b z)) id)
theorem Cu.kept{L:Addr->Prop}{H H':Hp}(s:Cu H H'):Kept L H H':=fun b o e _=>s b o e
def XI(K:Frag)(H:Hp)(a:Addr)(xs:List V):Prop:=∀H',(∀o u,H a=some (.frz o u)->H' a=some (.frz o u))->SqL K H' a xs
mutual
noncomputable def Ar(K:Frag)(N:Addr->Prop)(H:Hp)(v:V):A->List Addr->Prop
 | .fz d,L=>L=[]/\RepA N H v d
 | .lst as,L=>∃a vs L',v=.ref a/\L=a::L'/\H a=some (.lst vs)/\vs.length<=sizeLine/\Ap K N H vs as L'
 | .tup as,L=>∃a vs,v=.ref a/\H a=some (.tup vs)/\vs.length<=sizeLine/\Ap K N H vs as L
 | .scr ns,L=>∃a,v=.ref a/\L=[]/\XI K H a (ns.map V.int)/\ns.length<=sizeLine
 | .dic kvs,L=>∃a us,v=.ref a/\L=[a]/\H a=some (.dK us)/\us.length<=sizeLine/\Paired (fun(u:Key×V) (k:Key×D)=>u.1=k.1/\RepA N H u.2 k.2) us kvs
 | .dct kvs,L=>∃a us,v=.ref a/\L=[a]/\H a=some (.dT us)/\us.length<=sizeLine/\Paired (fun(u:D×V) (k:D×D)=>u.1=k.1/\RepA N H u.2 k.2) us kvs
 | .opq a o,L=>v=.ref a/\L=[]/\∃u,H a=some (.frz o u)
noncomputable def Ap(K:Frag)(N:Addr->Prop)(H:Hp):List V->List A->List Addr->Prop
 | [],[],L=>L=[]
 | v::vs,a::as,L=>∃L1 L2,L=L1++L2/\Ar K N H v a L1/\Ap K N H vs as L2
 | [],_::_,_=>False
 | _::_,[],_=>False
end
def _root_.L2.RepA.tr{N N' M:Addr->Prop}{H H':Hp}(hM:∀p,M p->N p)(k:Kept M H H')(hN:∀p,N' p->N p\/H p=none){v:V}{d:D}(r:RepA N H v d):RepA N' H' v d:=by
 induction r with
 | non=>exact .non
 | bl b=>exact .bl b
 | int i=>exact .int i
 | str x hx=>exact .str x hx
 | lst h hz hn hl _ ih =>
  refine .lst (k _ _ h (.inl fun z=>hn (hM _ z))) hz (fun z=>?_) hl ih;rcases hN _ z with q|q
  .exact hn q
  .rw[h] at q; cases q
 | tup h hz hl _ ih=>exact .tup (k _ _ h (.inr rfl)) hz hl ih
theorem Paired.mapQ{α β:Type}{F G:α -> β -> Prop}:∀{l₁:List α} {l₂:List β},Paired F l₁ l₂ -> (∀a b,F a b->G a b)->Paired G l₁ l₂
 | _,_,.nil,_=>.nil
 | _,_,.cons r t,f=>.cons (f _ _ r) (Paired.mapQ t f)
section
variable{K:Frag}{N N' M:Addr->Prop}{H H':Hp}
mutual
theorem Ar.tr(hM:∀p,M p->N p)(k:Kept M H H')(hN:∀p,N' p->N p\/H p=none):∀{a:A} {v:V} {L:List Addr},(∀p∈L,¬M p)->Ar K N H v a L->Ar K N' H' v a L
 | .fz d,v,L,hL,r=>by
  simp only[Ar] at r |-;exact⟨r.1,r.2.tr hM k hN⟩
 | .lst as,v,L,hL,r=>by
  simp only[Ar] at r |-;obtain⟨a,vs,L',rfl,rfl,h,hz,hs⟩:=r;exact⟨a,vs,L',rfl,rfl,k _ _ h (.inl (hL a (by simp))),hz,Ap.tr hM k hN (fun p hp=>hL p (by simp[hp])) hs⟩
 | .tup as,v,L,hL,r=>by
  simp only[Ar] at r |-;obtain⟨a,vs,rfl,h,hz,hs⟩:=r;exact⟨a,vs,rfl,k _ _ h (.inr rfl),hz,Ap.tr hM k hN hL hs⟩
 | .scr ns,v,L,hL,r=>by
  simp only[Ar] at r |-;obtain⟨a,rfl,rfl,h,hz⟩:=r;exact⟨a,rfl,rfl,fun H2 q=>h H2 fun o u e=>q o u (k _ _ e (.inr rfl)),hz⟩
 | .dic kvs,v,L,hL,r=>by
  simp only[Ar] at r |-;obtain⟨a,us,rfl,rfl,h,hz,hs⟩:=r;exact⟨a,us,rfl,rfl,k _ _ h (.inl (hL a (by simp))),hz,Paired.mapQ hs fun _ _ q=>⟨q.1,q.2.tr hM k hN⟩⟩
 | .dct kvs,v,L,hL,r=>by
  simp only[Ar] at r |-;obtain⟨a,us,rfl,rfl,h,hz,hs⟩:=r;exact⟨a,us,rfl,rfl,k _ _ h (.inl (hL a (by simp))),hz,Paired.mapQ hs fun _ _ q=>⟨q.1,q.2.tr hM k hN⟩⟩
 | .opq a o,v,L,hL,r=>by
  simp only[Ar] at r |-;obtain⟨rfl,rfl,u,h⟩:=r;exact⟨rfl,rfl,u,k _ _ h (.inr rfl)⟩
theorem Ap.tr(hM:∀p,M p->N p)(k:Kept M H H')(hN:∀p,N' p->N p\/H p=none):∀{as:List A} {vs:List V} {L:List Addr},(∀p∈L,¬M p)->Ap K N H vs as L->Ap K N' H' vs as L
 | [],vs,L,hL,r=>by
  cases vs<;>simp only[Ap] at r |-;exact r
 | a::as,vs,L,hL,r=>by
  cases vs with
  | nil=>simp only[Ap] at r
  | cons v vs =>
   simp only[Ap] at r |-;obtain⟨L1,L2,rfl,h1,h2⟩:=r;exact⟨L1,L2,rfl,Ar.tr hM k hN (fun p hp=>hL p (by simp[hp])) h1,Ap.tr hM k hN (fun p hp=>hL p (by simp[hp])) h2⟩
end
end
def ad(O:Addr->Prop)(L:List Addr):Addr->Prop:=fun p=>O p\/p∈L
def NN(fp:Nat->List Addr)(O:Addr->Prop):Addr->Prop:=fun p=>(∃i,p∈fp i)\/O p
def Fp(fp:Nat->List Addr):Addr->Prop:=fun p=>∃i,p∈fp i
structure Rel (K:Frag) (Z:Ro) (σ:St) (H:Hp) (O:Addr->Prop) (fp:Nat->List Addr):Prop where
 len : Z.length=σ.length
 slot:∀i st a,Z[i]? = some (some (st,a))->∃v,σ[i]? = some (some v)/\Ar K (NN fp O) H v a (fp i)
 out:∀i,(∀st a,Z[i]? ≠ some (some (st,a)))->fp i=[]
 nd:∀i,(fp i).Nodup
 inj:∀i j p,p∈fp i->p∈fp j->i=j
 off:∀i p,p∈fp i->¬O p
 al:∀p,NN fp O p->H p≠none
def N4(Z Z':Ro)(σ σ':St):Prop:=∀(j:Nat) st a,Z[j]? = some (some (st,a))->st≠.own->∃a',Z'[j]? = some (some (st,a'))/\σ'[j]? = σ[j]?/\(st=.ro->a'=a)
theorem N4.refl{Z:Ro}{σ:St}:N4 Z Z σ σ:=fun _ _ a h _=>⟨a,h,rfl,fun _=>rfl⟩
theorem N4.trans{Z Z1 Z2:Ro}{σ σ1 σ2:St}(x:N4 Z Z1 σ σ1)(y:N4 Z1 Z2 σ1 σ2):N4 Z Z2 σ σ2:=fun j st a h n=>by
 obtain⟨a1,h1,e1,f1⟩:=x j st a h n;obtain⟨a2,h2,e2,f2⟩:=y j st a1 h1 n;exact⟨a2,h2,e2.trans e1,fun z=>(f2 z).trans (f1 z)⟩
def RR(K:Frag)(N:Addr->Prop)(H:Hp)(σ:St)(v:V):R->List Addr->Prop
 | .val a,L=>Ar K N H v a L
 | .ref i,L=>L=[]/\σ[i]? = some (some v)
def RRs(K:Frag)(N:Addr->Prop)(H:Hp)(σ:St):List V->List R->List Addr->Prop
 | [],[],L=>L=[]
 | v::vs,r::rs,L=>∃L1 L2,L=L1++L2/\RR K N H σ v r L1/\RRs K N H σ vs rs L2
 | [],_::_,_=>False
 | _::_,[],_=>False
structure Post (K:Frag) (O:Addr->Prop) (fp:Nat->List Addr) (H:Hp) (Z Z':Ro) (σ σ':St) (L:List Addr) (fp':Nat->List Addr) (H':Hp):Prop where
 rel:Rel K Z' σ' H' (ad O L) fp'
 nd:L.Nodup
 lo:∀p∈L,¬O p
 new:∀p,(p∈L\/Fp fp' p)->Fp fp p\/H p=none
 kept:Kept (Fp fp) H H'
 ln : σ'.length=σ.length
 stab:N4 Z Z' σ σ'
def K1(K:Frag)(O:Addr->Prop)(fp:Nat->List Addr)(H:Hp)(Z Z':Ro)(σ:St)(r:R)(v:V)(H':Hp):Prop:=
 ∃L fp',Post K O fp H Z Z' σ σ L fp' H'/\RR K (NN fp' (ad O L)) H' σ v r L
def XG(K:Frag)(O:Addr->Prop)(fp:Nat->List Addr)(H:Hp)(Z Z':Ro)(σ:St)(rs:List R)(vs:List V)(H':Hp):Prop:=
 ∃L fp',Post K O fp H Z Z' σ σ L fp' H'/\RRs K (NN fp' (ad O L)) H' σ vs rs L
def tE(K:Frag)(m:ME):TE:=fun σ H Q=>∃Z O fp,Rel K Z σ H O fp/\∃r Z',m Z=some (r,Z')/\∀v H',K1 K O fp H Z Z' σ r v H'->Q v H'
def tT(K:Frag)(m:MT):TT:=fun σ H Q=>∃Z O fp,Rel K Z σ H O fp/\∃b Z',m Z=some (b,Z')/\∀fp' H',Post K O fp H Z Z' σ σ [] fp' H'->Q b H'
def tA(K:Frag)(m:MA):TA:=fun σ H Q=>∃Z O fp,Rel K Z σ H O fp/\∃rs Z',m Z=some (rs,Z')/\∀vs H',XG K O fp H Z Z' σ rs vs H'->Q vs H'
section
variable{K:Frag}{Z Z' Z1 Z2:Ro}{σ σ' σ1 σ2:St}{H H' H1 H2:Hp}{O O':Addr->Prop}{fp fp' fp1 fp2:Nat->List Addr}{L L1 L2:List Addr}
def Lw{p:Addr}:ad O [] p↔O p:=by simp[ad]
def Lv{p:Addr}:ad (ad O L1) L2 p↔ad O (L1++L2) p:=by simp[ad,or_assoc]
def Rel.congr(r:Rel K Z σ H O fp)(h:∀p,O p↔O' p):Rel K Z σ H O' fp:=by
 have e:O=O':=funext fun p=>propext (h p);exact e ▸ r
theorem Rel.weak(r:Rel K Z σ H O fp)(h:∀p,O' p->O p):Rel K Z σ H O' fp where
 len:=r.len
 slot:=fun i st a e=>by
  obtain⟨v,e1,q⟩:=r.slot i st a e;exact⟨v,e1,q.tr (M:=fun _=>False) (fun _ z=>z.elim) .refl (fun p z=>.inl (z.imp id (h p))) fun _ _ z=>z⟩
 out:=r.out
 nd:=r.nd
 inj:=r.inj
 off:=fun i p hp z=>r.off i p hp (h p z)
 al:=fun p z=>r.al p (z.imp id (h p))
theorem Rel.grow(r:Rel K Z σ H O fp)(s:Cu H H')(hO:∀p,O' p->O p\/H p=none)(al:∀p,O' p->H' p≠none):Rel K Z σ H' O' fp where
 len:=r.len
 slot:=fun i st a e=>by
  obtain⟨v,e1,q⟩:=r.slot i st a e;refine⟨v,e1,q.tr (M:=fun _=>False) (fun _ z=>z.elim) (fun b o e _=>s b o e) (fun p z=>?_) fun _ _ z=>z⟩;rcases z with z|z
  .exact .inl (.inl z)
  .exact(hO p z).imp .inr id
 out:=r.out
 nd:=r.nd
 inj:=r.inj
 off:=fun i p hp z=>by
  rcases hO p z with q|q
  .exact r.off i p hp q
  .exact r.al p (.inl ⟨i,hp⟩) q
 al:=fun p z=>by
  rcases z with z|z
  .cases q:H p with
   | none=>exact absurd q (r.al p (.inl z))
   | some o=>rw[s p o q]; simp
  .exact al p z
theorem Rel.post(r:Rel K Z σ H O fp):Post K O fp H Z Z σ σ [] fp H:=
 ⟨r.congr fun p=>Lw.symm,List.nodup_nil,fun _ h=>by simp at h,fun p h=>by rcases h with h|h; simp at h; exact .inl h,.refl,rfl,.refl⟩
theorem Post.then(x:Post K O fp H Z Z1 σ σ1 L1 fp1 H1)(y:Post K (ad O L1) fp1 H1 Z1 Z2 σ1 σ2 L2 fp2 H2):Post K O fp H Z Z2 σ σ2 (L1++L2) fp2 H2 where
 rel:=y.rel.congr fun p=>Lv
 nd:=List.nodup_append.mpr ⟨x.nd,y.nd,fun a ha b hb e=>by subst e; exact y.lo a hb (.inr ha)⟩
 lo:=fun p hp z=>by
  rcases List.mem_append.mp hp with q|q
  .exact x.lo p q z
  .exact y.lo p q (.inl z)
 new:=fun p hp=>by
  have key:Fp fp1 p\/H1 p=none->Fp fp p\/H p=none:=fun q=>by
   rcases q with q|q
   .exact x.new p (.inr q)
   .cases e:H p with
    | none=>exact .inr rfl
    | some o =>
     by_cases hf:Fp fp p
     .exact .inl hf
     .rw[x.kept p o e (.inl hf)] at q; cases q
  rcases hp with q|q
  .rcases List.mem_append.mp q with q|q
   .exact x.new p (.inl q)
   .exact key (y.new p (.inl q))
  .exact key (y.new p (.inr q))
 kept:=x.kept.trans y.kept fun p z=>x.new p (.inr z)
 ln:=y.ln.trans x.ln
 stab:=x.stab.trans y.stab
theorem Post.drop(x:Post K O fp H Z Z1 σ σ1 (L1++L2) fp1 H1):Post K O fp H Z Z1 σ σ1 L2 fp1 H1 where
 rel:=x.rel.weak fun p z=>z.imp id fun q=>List.mem_append_right _ q
 nd:=(List.nodup_append.mp x.nd).2.1
 lo:=fun p hp=>x.lo p (List.mem_append_right _ hp)
 new:=fun p hp=>x.new p (hp.imp (List.mem_append_right _) id)
 kept:=x.kept
 ln:=x.ln
 stab:=x.stab
theorem Post.drop0(x:Post K O fp H Z Z1 σ σ1 L1 fp1 H1):Post K O fp H Z Z1 σ σ1 [] fp1 H1:=Post.drop (L1:=L1) (L2:=[]) (by rw[List.append_nil]; exact x)
def Post.rr{v:V}{r:R}(y:Post K (ad O L1) fp1 H1 Z1 Z2 σ σ L2 fp2 H2)(hr:Rel K Z1 σ H1 (ad O L1) fp1)(h:RR K (NN fp1 (ad O L1)) H1 σ v r L)(hL:∀p∈L,p∈L1):RR K (NN fp2 (ad O (L1++L2))) H2 σ v r L:=by
 cases r with
 | ref i=>exact h
 | val a =>
  refine Ar.tr (M:=Fp fp1) (fun p z=>.inl z) y.kept (fun p z=>?_) (fun p hp z=>?_) h
  .rcases z with z|z
   .exact(y.new p (.inr z)).imp (fun q=>.inl q) id
   .rcases z with z|z
    .exact .inl (.inr (.inl z))
    .rcases List.mem_append.mp z with z|z
     .exact .inl (.inr (.inr z))
     .exact(y.new p (.inl z)).imp (fun q=>.inl q) id
  .obtain⟨i,hi⟩:=z
   exact hr.off i p hi (.inr (hL p hp))
def tE.mono{m:ME}{Q Q':VK}(h:tE K m σ H Q)(q:∀v H',Q v H'->Q' v H'):tE K m σ H Q':=by
 obtain⟨Z,O,fp,r,x,Z',e,k⟩:=h;exact⟨Z,O,fp,r,x,Z',e,fun v H' z=>q v H' (k v H' z)⟩
def Kw{Q:List V->Hp->Prop}(h:tA K Ai σ H Q):Hw σ H Q:=by
 obtain⟨Z,O,fp,r,x,Z',e,k⟩:=h;cases e;exact k [] H ⟨[],fp,r.post,rfl⟩
def GU{m:ME}{ms:MA}{Q:List V->Hp->Prop}(h:tA K (Ab m ms) σ H Q):C3 (tE K m) (tA K ms) σ H Q:=by
 obtain⟨Z,O,fp,r,x,Z',e,k⟩:=h;simp only[Ab,bind_eq_some_iff,map_eq_some_iff] at e;obtain⟨⟨r1,Z1⟩,e1,⟨rs,Z2⟩,e2,e3⟩:=e;cases e3;refine⟨Z,O,fp,r,r1,Z1,e1,fun v H1 yy=>?_⟩;obtain⟨L1,fp1,p1,q1⟩:=yy;refine⟨Z1,ad O L1,fp1,p1.rel,rs,_,e2,fun vs H2 yy=>?_⟩;obtain⟨L2,fp2,p2,q2⟩:=yy;refine k (v::vs) H2 ⟨L1++L2,fp2,p1.then p2,L1,L2,rfl,p2.rr p1.rel q1 fun _ z=>z,?_⟩;have e:ad (ad O L1) L2=ad O (L1++L2):=funext fun p=>propext Lv;rw[<- e];exact q2
end
section
variable{K:Frag}{N N' M:Addr->Prop}{H H':Hp}
mutual
theorem Ar.al:∀{a:A} {v:V} {L:List Addr},Ar K N H v a L->∀p∈L,H p≠none
 | .fz d,v,L,r,p,hp=>by
  simp only[Ar] at r;rw[r.1] at hp; simp at hp
 | .lst as,v,L,r,p,hp=>by
  simp only[Ar] at r;obtain⟨a,vs,L',rfl,rfl,h,hz,hs⟩:=r;rcases List.mem_cons.mp hp with rfl|hp
  .rw[h]; simp
  .exact Ap.al hs p hp
 | .tup as,v,L,r,p,hp=>by
  simp only[Ar] at r;obtain⟨a,vs,rfl,h,hz,hs⟩:=r;exact Ap.al hs p hp
 | .scr ns,v,L,r,p,hp=>by
  simp only[Ar] at r;obtain⟨a,rfl,rfl,h,hz⟩:=r;simp at hp
 | .dic kvs,v,L,r,p,hp=>by
  simp only[Ar] at r;obtain⟨a,us,rfl,rfl,h,hz,hs⟩:=r;have:p=a:=by simpa using hp
  subst this; rw[h]; simp
 | .dct kvs,v,L,r,p,hp=>by
  simp only[Ar] at r;obtain⟨a,us,rfl,rfl,h,hz,hs⟩:=r;have:p=a:=by simpa using hp
  subst this; rw[h]; simp
 | .opq a o,v,L,r,p,hp=>by
  simp only[Ar] at r;obtain⟨rfl,rfl,_⟩:=r;simp at hp
theorem Ap.al:∀{as:List A} {vs:List V} {L:List Addr},Ap K N H vs as L->∀p∈L,H p≠none
 | [],vs,L,r,p,hp=>by
  cases vs<;>simp only[Ap] at r;rw[r] at hp; simp at hp
 | a::as,vs,L,r,p,hp=>by
  cases vs with
  | nil=>simp only[Ap] at r
  | cons v vs =>
   simp only[Ap] at r;obtain⟨L1,L2,rfl,h1,h2⟩:=r;rcases List.mem_append.mp hp with hp|hp
   .exact Ar.al h1 p hp
   .exact Ap.al h2 p hp
end
def Ap.len:∀{as:List A} {vs:List V} {L:List Addr},Ap K N H vs as L->vs.length=as.length:=by
 intro _l;induction _l with
 | nil =>
  intro _m;cases _m with
  | nil =>
   intro _ _;exact rfl
  | cons _ _ =>
   intro _ r;simp only[Ap] at r
 | cons a as ih =>
  intro _m;cases _m with
  | nil =>
   intro _ r;simp only[Ap] at r
  | cons v vs =>
   intro L r;simp only[Ap] at r;obtain⟨L1,L2,rfl,h1,h2⟩:=r;simp[ih h2]
def Ay(N:Addr->Prop)(H:Hp):List V->List D->Prop
 | [],[]=>True
 | v::vs,d::ds=>RepA N H v d/\Ay N H vs ds
 | _,_=>False
def Ay.len:∀{vs:List V} {ds:List D},Ay N H vs ds->vs.length=ds.length:=by
 intro _l;induction _l with
 | nil =>
  intro _m;cases _m with
  | nil =>
   intro _;exact rfl
  | cons _ _ =>
   intro r;simp only[Ay] at r
 | cons v vs ih =>
  intro _m;cases _m with
  | nil =>
   intro r;simp only[Ay] at r
  | cons d ds =>
   intro r;simp[ih r.2]
theorem Ay.get:∀{vs:List V} {ds:List D},Ay N H vs ds->∀(i:Nat) v d,vs[i]? = some v->ds[i]? = some d->RepA N H v d
 | [],[],_,i,v,d,h,_=>by simp at h
 | [],_::_,r,_,_,_,_,_=>by simp only[Ay] at r
 | _::_,[],r,_,_,_,_,_=>by simp only[Ay] at r
 | x::vs,y::ds,r,0,v,d,h1,h2=>by simp at h1 h2; subst h1; subst h2; exact r.1
 | x::vs,y::ds,r,i+1,v,d,h1,h2=>Ay.get r.2 i v d (by simpa using h1) (by simpa using h2)
def Ay.mk:∀{vs:List V} {ds:List D},vs.length=ds.length->(∀(i:Nat) v d,vs[i]? = some v->ds[i]? = some d->RepA N H v d)->Ay N H vs ds:=by
 intro _l;induction _l with
 | nil =>
  intro _m;cases _m with
  | nil =>
   intro _ _;exact trivial
  | cons _ _ =>
   intro hl _;simp at hl
 | cons v vs ih =>
  intro _m;cases _m with
  | nil =>
   intro hl _;simp at hl
  | cons d ds =>
   intro hl h;exact⟨h 0 v d rfl rfl,ih (by simpa using hl) fun i v d e1 e2=>h (i+1) v d (by simpa using e1) (by simpa using e2)⟩
theorem UL{a:Addr}{vs:List V}{ds:List D}(h:H a=some (.lst vs))(hz:vs.length<=sizeLine)(hn:¬N a)(r:Ay N H vs ds):RepA N H (.ref a) (.lst ds):=.lst h hz hn r.len r.get
theorem Mz{a:Addr}{vs:List V}{ds:List D}(h:H a=some (.tup vs))(hz:vs.length<=sizeLine)(r:Ay N H vs ds):RepA N H (.ref a) (.tup ds):=.tup h hz r.len r.get
theorem Ay.tr(hM:∀p,M p->N p)(k:Kept M H H')(hN:∀p,N' p->N p\/H p=none):∀{vs:List V} {ds:List D},Ay N H vs ds->Ay N' H' vs ds
 | [],[],_=>trivial
 | [],_::_,r=>by simp only[Ay] at r
 | _::_,[],r=>by simp only[Ay] at r
 | v::vs,d::ds,r=>⟨r.1.tr hM k hN,Ay.tr hM k hN r.2⟩
theorem DT(h:∀p,N' p->N p){v:V}{d:D}(r:RepA N H v d):RepA N' H v d:=r.tr (M:=fun _=>False) (fun _ z=>z.elim) .refl fun p z=>.inl (h p z)
theorem MU(h:∀p,N' p->N p){vs:List V}{ds:List D}(r:Ay N H vs ds):Ay N' H vs ds:=r.tr (M:=fun _=>False) (fun _ z=>z.elim) .refl fun p z=>.inl (h p z)
theorem Ei(h:∀p,N' p->N p){v:V}{a:A}{L:List Addr}(r:Ar K N H v a L):Ar K N' H v a L:=r.tr (M:=fun _=>False) (fun _ z=>z.elim) .refl (fun p z=>.inl (h p z)) fun _ _ z=>z
theorem OX(h:∀p,N' p->N p){vs:List V}{as:List A}{L:List Addr}(r:Ap K N H vs as L):Ap K N' H vs as L:=r.tr (M:=fun _=>False) (fun _ z=>z.elim) .refl (fun p z=>.inl (h p z)) fun _ _ z=>z
mutual
theorem Ar.er:∀{a:A} {v:V} {L:List Addr} {d:D},Ar K N H v a L->J.er a=some d->RepA (fun p=>N p/\p∉L) H v d
 | .fz d,v,L,d',r,e=>by
  simp only[Ar] at r;simp only[J.er,Option.some.injEq] at e;subst e;exact DT (fun p z=>z.1) r.2
 | .lst as,v,L,d',r,e=>by
  simp only[Ar] at r;simp only[J.er,map_eq_some_iff] at e;obtain⟨a,vs,L',rfl,rfl,h,hz,hs⟩:=r;obtain⟨ds,e,rfl⟩:=e;exact UL h hz (fun z=>z.2 (by simp)) (MU (fun p z=>⟨z.1,fun q=>z.2 (by simp[q])⟩) (Ap.er hs e))
 | .tup as,v,L,d',r,e=>by
  simp only[Ar] at r;simp only[J.er,map_eq_some_iff] at e;obtain⟨a,vs,rfl,h,hz,hs⟩:=r;obtain⟨ds,e,rfl⟩:=e;exact Mz h hz (Ap.er hs e)
 | .scr ns,v,L,d',r,e=>by simp[J.er] at e
 | .dic kvs,v,L,d',r,e=>by simp[J.er] at e
 | .dct kvs,v,L,d',r,e=>by simp[J.er] at e
 | .opq _ _,v,L,d',r,e=>by simp[J.er] at e
theorem Ap.er:∀{as:List A} {vs:List V} {L:List Addr} {ds:List D},Ap K N H vs as L->J.ers as=some ds->Ay (fun p=>N p/\p∉L) H vs ds
 | [],vs,L,ds,r,e=>by
  cases vs<;>simp only[Ap] at r;simp only[J.ers,Option.some.injEq] at e;subst e
  trivial
 | a::as,vs,L,ds,r,e=>by
  cases vs with
  | nil=>simp only[Ap] at r
  | cons v vs =>
   simp only[Ap] at r;simp only[J.ers,bind_eq_some_iff,map_eq_some_iff] at e;obtain⟨L1,L2,rfl,h1,h2⟩:=r;obtain⟨d,e1,ds',e2,rfl⟩:=e;exact⟨DT (fun p z=>⟨z.1,fun q=>z.2 (by simp[q])⟩) (Ar.er h1 e1),MU (fun p z=>⟨z.1,fun q=>z.2 (by simp[q])⟩) (Ap.er h2 e2)⟩
end
theorem Ap.fzs:∀{as:List A} {vs:List V} {L:List Addr} {ds:List D},Ap K N H vs as L->J.fzs as=some ds->L=[]/\Ay N H vs ds
 | [],vs,L,ds,r,e=>by
  cases vs<;>simp only[Ap] at r;simp only[J.fzs,Option.some.injEq] at e;subst e;exact⟨r,trivial⟩
 | a::as,vs,L,ds,r,e=>by
  cases vs with
  | nil=>simp only[Ap] at r
  | cons v vs =>
   simp only[Ap] at r;obtain⟨L1,L2,rfl,h1,h2⟩:=r;cases a with
   | fz d =>
    simp only[J.fzs,map_eq_some_iff] at e;obtain⟨ds',e,rfl⟩:=e;simp only[Ar] at h1;obtain⟨e1,q⟩:=Ap.fzs h2 e;exact⟨by rw[h1.1,e1]; rfl,h1.2,q⟩
   | _=>simp[J.fzs] at e
def F8{v:V}{d:D}(r:RepA N H v d):Ar K N H v (.fz d) []:=by rw[Ar]; exact⟨rfl,r⟩
def Ap.of:∀{vs:List V} {ds:List D},Ay N H vs ds->Ap K N H vs (ds.map A.fz) []:=by
 intro _l;induction _l with
 | nil =>
  intro _m;cases _m with
  | nil =>
   intro _;simp[Ap]
  | cons _ _ =>
   intro r;simp only[Ay] at r
 | cons v vs ih =>
  intro _m;cases _m with
  | nil =>
   intro r;simp only[Ay] at r
  | cons d ds =>
   intro r;simp only[List.map_cons,Ap];exact⟨[],[],rfl,F8 r.1,ih r.2⟩
end
section
variable{K:Frag}{Z Z' Z1 Z2:Ro}{σ σ' σ1 σ2:St}{H H' H1 H2:Hp}{O O':Addr->Prop}{fp fp' fp1 fp2:Nat->List Addr}{L L1 L2:List Addr}
def pt(fp:Nat->List Addr)(i:Nat)(L:List Addr):Nat->List Addr:=fun j=>if j=i then L else fp j
def GQ{i:Nat}:pt fp i L i=L:=by simp[pt]
def IU{i j:Nat}(h:j≠i):pt fp i L j=fp j:=by simp[pt,h]
def Ck{i j:Nat}{p:Addr}(h:p∈pt fp i L j):(j=i/\p∈L)\/(j≠i/\p∈fp j):=by
 by_cases e:j=i
 .subst e; rw[GQ] at h; exact .inl ⟨rfl,h⟩
 .rw[IU e] at h; exact .inr ⟨e,h⟩
def Rel.set(r:Rel K Z σ H O fp){i:Nat}{s:Slot}{o:Option V}(hi:i<Z.length)(hO:∀p,O' p->NN fp O p)(hL:∀p∈L,NN fp O p)(nd:L.Nodup)(hd:∀p∈L,∀j,j≠i->p∉fp j)(ho:∀p∈L,¬O' p)(hoo:∀j p,j≠i->p∈fp j->¬O' p)(hs:∀st a,s=some (st,a)->∃v,o=some v/\Ar K (NN (pt fp i L) O') H v a L)(hn:s=none->L=[]):Rel K (Z.set i s) (σ.set i o) H O' (pt fp i L) where
 len:=by simp[r.len]
 slot:=fun j st a e=>by
  by_cases hj:j=i
  .subst hj
   rw[List.getElem?_set_self hi] at e;obtain⟨v,e1,q⟩:=hs st a (Option.some.inj e);refine⟨v,?_,by rw[GQ]; exact q⟩;rw[List.getElem?_set_self (by rw[<- r.len]; exact hi),e1]
  .rw[List.getElem?_set_ne (Ne.symm hj)] at e
   obtain⟨v,e1,q⟩:=r.slot j st a e;refine⟨v,by rw[List.getElem?_set_ne (Ne.symm hj)]; exact e1,?_⟩;rw[IU hj];refine Ei (fun p z=>?_) q;rcases z with ⟨k,z⟩|z
   .rcases Ck z with ⟨_,z⟩|⟨_,z⟩
    .exact hL p z
    .exact .inl ⟨k,z⟩
   .exact hO p z
 out:=fun j h=>by
  by_cases hj:j=i
  .subst hj
   rw[GQ];cases s with
   | none=>exact hn rfl
   | some x=>exact absurd (List.getElem?_set_self hi) (h x.1 x.2)
  .rw[IU hj]
   exact r.out j fun st a e=>h st a (by rw[List.getElem?_set_ne (Ne.symm hj)]; exact e)
 nd:=fun j=>by
  by_cases hj:j=i
  .subst hj; rw[GQ]; exact nd
  .rw[IU hj]; exact r.nd j
 inj:=fun j k p h1 h2=>by
  rcases Ck h1 with ⟨e1,z1⟩|⟨e1,z1⟩
  .rcases Ck h2 with ⟨e2,z2⟩|⟨e2,z2⟩
   .rw[e1,e2]
   .exact absurd z2 (hd p z1 k e2)
  .rcases Ck h2 with ⟨e2,z2⟩|⟨e2,z2⟩
   .exact absurd z1 (hd p z2 j e1)
   .exact r.inj j k p z1 z2
 off:=fun j p h z=>by
  rcases Ck h with ⟨e1,z1⟩|⟨e1,z1⟩
  .exact ho p z1 z
  .exact hoo j p e1 z1 z
 al:=fun p z=>by
  rcases z with ⟨j,z⟩|z
  .rcases Ck z with ⟨_,z⟩|⟨_,z⟩
   .exact r.al p (hL p z)
   .exact r.al p (.inl ⟨j,z⟩)
  .exact r.al p (hO p z)
def Kr{i:Nat}{v:V}(h : σ[i]? = some (some v)): σ.set i (some v)=σ:=by
 apply List.ext_getElem?;intro j;by_cases e:j=i
 .subst e
  have:=(List.getElem?_eq_some_iff.mp h).1;rw[List.getElem?_set_self this,h]
 .rw[List.getElem?_set_ne (Ne.symm e)]
theorem AK{α:Type}{l:List α}{i:Nat}{x:α}(h:l[i]? = some x):i<l.length:=(List.getElem?_eq_some_iff.mp h).1
def Gy{p:Addr}:NN fp (ad O []) p↔NN fp O p:=by simp[NN,ad]
def FW{v:V}{r:R}{d:D}(x:Post K O fp H Z Z1 σ σ L fp1 H1)(q:RR K (NN fp1 (ad O L)) H1 σ v r L)(e:share Z1 r=some (d,Z2)):
  ∃fp2,Post K O fp H Z Z2 σ σ [] fp2 H1/\RepA (NN fp2 (ad O [])) H1 v d:=by
 cases r with
 | val a =>
  simp only[share,map_eq_some_iff] at e;obtain⟨d',e,e'⟩:=e;cases e';refine⟨fp1,x.drop0,DT (fun p z=>?_) (Ar.er q e)⟩;have z':=Gy.mp z;refine⟨z'.imp id .inl,fun hp=>?_⟩;rcases z' with ⟨i,z⟩|z
  .exact x.rel.off i p z (.inr hp)
  .exact x.lo p hp z
 | ref i =>
  obtain⟨rfl,hv⟩:=q;simp only[share] at e;split at e
  .rename_i a ha
   simp only[map_eq_some_iff] at e;obtain⟨d',e,e'⟩:=e;cases e';obtain⟨v',hv',q⟩:=x.rel.slot i _ _ ha;rw[hv] at hv'; cases hv';have q2:RepA (NN (pt fp1 i []) (ad O [])) H1 v d:=DT (fun p z=>by
    rcases z with ⟨j,z⟩|z
    .rcases Ck z with ⟨_,z⟩|⟨hj,z⟩
     .simp at z
     .exact⟨.inl ⟨j,z⟩,fun hp=>hj (x.rel.inj j i p z hp)⟩
    .exact⟨.inr z,fun hp=>x.rel.off i p hp z⟩) (Ar.er q e)
   have R:=x.rel.set (i:=i) (s:=some (.own,.fz d)) (o:=some v) (L:=[]) (O':=ad O []) (AK ha) (fun p z=>.inr z) (fun p hp=>by simp at hp) List.nodup_nil (fun p hp=>by simp at hp) (fun p hp=>by simp at hp)
    (fun j p _ h=>x.rel.off j p h) (fun st a e=>by cases e; exact⟨v,rfl,F8 q2⟩) (fun e=>by cases e)
   rw[Kr hv] at R;refine⟨pt fp1 i [],⟨R,List.nodup_nil,fun p hp=>by simp at hp,fun p hp=>?_,x.kept,rfl,fun j st a' h n=>?_⟩,q2⟩
   .rcases hp with hp|⟨j,hp⟩
    .simp at hp
    .rcases Ck hp with ⟨_,z⟩|⟨_,z⟩
     .simp at z
     .exact x.new p (.inr ⟨j,z⟩)
   .obtain⟨a2,h2,_,f2⟩:=x.stab j st a' h n
    refine⟨a2,?_,rfl,f2⟩;rw[List.getElem?_set_ne]
    .exact h2
    .rintro rfl
     rw[ha] at h2; cases h2; exact n rfl
  .cases e
def Qq{v:V}{r:R}{a:A}(x:Post K O fp H Z Z1 σ σ L fp1 H1)(q:RR K (NN fp1 (ad O L)) H1 σ v r L)(e:move Z1 r=some (a,Z2)):
  ∃L2 fp2,Post K O fp H Z Z2 σ σ L2 fp2 H1/\Ar K (NN fp2 (ad O L2)) H1 v a L2:=by
 cases r with
 | val a =>
  simp only[move,Option.some.injEq] at e;cases e;exact⟨L,fp1,x,q⟩
 | ref i =>
  obtain⟨rfl,hv⟩:=q;simp only[move] at e;split at e
  .rename_i a' ha
   cases e;obtain⟨v',hv',q⟩:=x.rel.slot i _ _ ha;rw[hv] at hv'; cases hv';have nn:∀p,NN (pt fp1 i []) (ad O (fp1 i)) p->NN fp1 (ad O []) p:=fun p z=>by
    rcases z with ⟨j,z⟩|z|z
    .rcases Ck z with ⟨_,z⟩|⟨_,z⟩
     .simp at z
     .exact .inl ⟨j,z⟩
    .exact .inr (.inl z)
    .exact .inl ⟨i,z⟩
   have R:=x.rel.set (i:=i) (s:=none) (o:=some v) (L:=[]) (O':=ad O (fp1 i)) (AK ha) (fun p z=>nn p (.inr z)) (fun p hp=>by simp at hp) List.nodup_nil (fun p hp=>by simp at hp) (fun p hp=>by simp at hp)
    (fun j p hj h z=>by
     rcases z with z|z
     .exact x.rel.off j p h (.inl z)
     .exact hj (x.rel.inj j i p h z)) (fun st a e=>by cases e) (fun _=>rfl)
   rw[Kr hv] at R;refine⟨fp1 i,pt fp1 i [],⟨R,x.rel.nd i,fun p hp z=>x.rel.off i p hp (.inl z),fun p hp=>?_,x.kept,rfl,fun j st a' h n=>?_⟩,Ei nn q⟩
   .rcases hp with hp|⟨j,hp⟩
    .exact x.new p (.inr ⟨i,hp⟩)
    .rcases Ck hp with ⟨_,z⟩|⟨_,z⟩
     .simp at z
     .exact x.new p (.inr ⟨j,z⟩)
   .obtain⟨a2,h2,_,f2⟩:=x.stab j st a' h n
    refine⟨a2,?_,rfl,f2⟩;rw[List.getElem?_set_ne]
    .exact h2
    .rintro rfl
     rw[ha] at h2; cases h2; exact n rfl
  .cases e
end
section
variable{K:Frag}{Z Z' Z1 Z2:Ro}{σ σ' σ1 σ2:St}{H H' H1 H2:Hp}{O O' N:Addr->Prop}{fp fp' fp1 fp2:Nat->List Addr}{L L1 L2:List Addr}
theorem MB{v:V}{d:D}(r:RepA N H v d):RR K N H σ v (.val (.fz d)) []:=F8 (K:=K) r
def MX(K:Frag)(N:Addr->Prop)(H:Hp)(a:A)(v:V)(H':Hp):Prop:=Cu H H'/\∃L,Ar K (fun p=>N p\/p∈L) H' v a L/\L.Nodup/\∀p∈L,H p=none
abbrev Lu(K:Frag)(N:Addr->Prop)(H:Hp):List V->List A->Prop
 | [],[]=>True
 | v::vs,a::as=>(∃L,Ar K N H v a L)/\Lu K N H vs as
 | _,_=>False
def OpN(K:Frag)(f:List A->Option A)(r:List V->Hp->VK->Prop):Prop:=
 ∀N H xs as b Q,Lu K N H xs as->f as=some b->(∀v H',MX K N H b v H'->Q v H')->r xs H Q
def Rel.peek{r:R}{v:V}{a:A}(x:Rel K Z σ H O fp)(q:RR K (NN fp O) H σ v r L)(e:peek Z r=some a):∃L,Ar K (NN fp O) H v a L:=by
 cases r with
 | val b =>
  simp only[J.peek,Option.some.injEq] at e;subst e;exact⟨L,q⟩
 | ref i =>
  simp only[J.peek] at e;split at e
  .rename_i st b hb
   cases e;obtain⟨v',h1,h2⟩:=x.slot i _ _ hb;rw[q.2] at h1; cases h1;exact⟨_,h2⟩
  .cases e
theorem Rel.peeks(x:Rel K Z σ H O fp):∀{rs:List R} {vs:List V} {as:List A} {L:List Addr},RRs K (NN fp O) H σ vs rs L->J.peeks Z rs=some as->Lu K (NN fp O) H vs as
 | [],[],as,L,_,e=>by
  simp only[J.peeks,Option.some.injEq] at e;subst e
  trivial
 | [],_::_,_,_,q,_=>by simp only[RRs] at q
 | _::_,[],_,_,q,_=>by simp only[RRs] at q
 | r::rs,v::vs,as,L,q,e=>by
  simp only[J.peeks,bind_eq_some_iff,map_eq_some_iff] at e;obtain⟨a,e1,as',e2,rfl⟩:=e;simp only[RRs] at q;obtain⟨L1,L2,rfl,q1,q2⟩:=q;exact⟨x.peek q1 e1,x.peeks q2 e2⟩
def Post.out{a:A}{v:V}(x:Post K O fp H Z Z1 σ σ L fp1 H1)(o:MX K (NN fp1 (ad O L)) H1 a v H2):K1 K O fp H Z Z1 σ (.val a) v H2:=by
 obtain⟨s,L',r,nd,nw⟩:=o;have al:=r.al;have alO:∀p,NN fp1 (ad O L) p->H1 p≠none:=x.rel.al;refine⟨L',fp1,⟨x.rel.grow s (fun p z=>z.imp .inl (nw p)) fun p z=>?_,nd,fun p hp z=>alO p (.inr (.inl z)) (nw p hp),fun p hp=>?_,x.kept.trans (Cu.kept (L:=fun _=>False) s) fun _ z=>z.elim,x.ln,x.stab⟩,?_⟩
 .rcases z with z|z
  .intro q
   have:=alO p (.inr (.inl z));cases e:H1 p with
   | none=>exact this e
   | some o=>rw[s p o e] at q; cases q
  .exact al p z
 .rcases hp with hp|hp
  .have e1:=nw p hp
   cases e:H p with
   | none=>exact .inr rfl
   | some o =>
    by_cases hf:Fp fp p
    .exact .inl hf
    .rw[x.kept p o e (.inl hf)] at e1; cases e1
  .exact x.new p (.inr hp)
 .refine Ei (fun p z=>?_) r
  rcases z with z|z|z
  .exact .inl (.inl z)
  .exact .inl (.inr (.inl z))
  .exact .inr z
def PV{f:List A->Option A}{r:List V->Hp->VK->Prop}{m:MA}{Q:VK}(ok:OpN K f r)(h:tE K (opM f m) σ H Q):tA K m σ H fun vs H1=>r vs H1 Q:=by
 obtain⟨Z,O,fp,rl,x,Z',e,k⟩:=h;simp only[opM,bind_eq_some_iff,map_eq_some_iff] at e;obtain⟨⟨rs,Z1⟩,e1,as,e2,b,e3,e4⟩:=e;cases e4;refine⟨Z,O,fp,rl,rs,_,e1,fun vs H1 yy=>?_⟩;obtain⟨L,fp1,p,q⟩:=yy;exact ok _ H1 vs as b Q (p.rel.peeks q e2) e3 fun v H' o=>k v H' (p.out o)
def Xj{i:Nat}{Q:VK}(h:tE K (Ad i) σ H Q):OT i σ H Q:=by
 obtain⟨Z,O,fp,rl,x,Z',e,k⟩:=h;simp only[Ad] at e;split at e
 .rename_i st d hd
  cases e;obtain⟨v,h1,h2⟩:=rl.slot i _ _ hd;refine⟨v,h1,k v H ⟨[],fp,rl.post,?_⟩⟩;rw[Ar] at h2;exact MB (DT (fun p z=>Gy.mp z) h2.2)
 .rename_i y hn hy
  cases e;obtain⟨st,a⟩:=y;obtain⟨v,h1,h2⟩:=rl.slot i _ _ hy;exact⟨v,h1,k v H ⟨[],fp,rl.post,rfl,h1⟩⟩
 .cases e
def IM{d:D}{v:V}{Q:VK}(hv:∀N H,RepA N H v d)(h:tE K (Ag d) σ H Q):tC v σ H Q:=by
 obtain⟨Z,O,fp,rl,x,Z',e,k⟩:=h;cases e;exact k v H ⟨[],fp,rl.post,MB (hv _ _)⟩
def S3{m:ME}{Q:VK}(h:tE K (Ae m) σ H Q):tE K m σ H Q:=by
 obtain⟨Z,O,fp,rl,x,Z',e,k⟩:=h;simp only[Ae,bind_eq_some_iff,map_eq_some_iff] at e;obtain⟨⟨r,Z1⟩,e1,⟨d,Z2⟩,e2,e3⟩:=e;cases e3;refine⟨Z,O,fp,rl,r,Z1,e1,fun v H1 yy=>?_⟩;obtain⟨L,fp1,p,q⟩:=yy;obtain⟨fp2,p2,q2⟩:=FW p q e2;exact k v H1 ⟨[],fp2,p2,MB q2⟩
def Px{v:V}{a:A}{b:Bool}(h:Ar K N H v a L)(e:EE a=some b):v=.bl b:=by
 cases a with
 | fz d =>
  cases d with
  | bl c =>
   simp only[EE,Option.some.injEq] at e;subst e;rw[Ar] at h;obtain⟨_,h⟩:=h;cases h;rfl
  | _=>simp[EE] at e
 | _=>simp[EE] at e
def MK{m:ME}{Q:Bool->Hp->Prop}(h:tT K (AJ m) σ H Q):tE K m σ H fun x H1=>∃c,x=.bl c/\Q c H1:=by
 obtain⟨Z,O,fp,rl,x,Z',e,k⟩:=h;simp only[AJ,bind_eq_some_iff,map_eq_some_iff] at e;obtain⟨⟨r,Z1⟩,e1,a,e2,b,e3,e4⟩:=e;cases e4;refine⟨Z,O,fp,rl,r,_,e1,fun v H1 yy=>?_⟩;obtain⟨L,fp1,p,q⟩:=yy;obtain⟨L',q'⟩:=p.rel.peek q e2;exact⟨_,Px q' e3,k fp1 H1 p.drop0⟩
def Post.next{σ2:St}(x:Post K O fp H Z Z1 σ σ1 [] fp1 H1)(y:Post K O fp1 H1 Z1 Z2 σ1 σ2 L2 fp2 H2):Post K O fp H Z Z2 σ σ2 L2 fp2 H2:=by
 have e:ad O []=O:=funext fun p=>propext Lw;exact Post.then (L1:=[]) x (by rw[e]; exact y)
theorem Post.rel0(x:Post K O fp H Z Z1 σ σ1 [] fp1 H1):Rel K Z1 σ1 H1 O fp1:=x.rel.congr fun p=>Lw
def K1.pre{r:R}{v:V}(x:Post K O fp H Z Z1 σ σ [] fp1 H1)(y:K1 K O fp1 H1 Z1 Z2 σ r v H2):K1 K O fp H Z Z2 σ r v H2:=by
 obtain⟨L,fp2,p,q⟩:=y;exact⟨L,fp2,x.next p,q⟩
def YJ{a b:MT}{Q:Bool->Hp->Prop}(h:tT K (orT a b) σ H Q):tT K a σ H fun c H1=>if c=true then Q true H1 else tT K b σ H1 Q:=by
 obtain⟨Z,O,fp,rl,x,Z',e,k⟩:=h;simp only[orT,bind_eq_some_iff] at e;obtain⟨⟨c,Z1⟩,e1,e2⟩:=e;refine⟨Z,O,fp,rl,c,Z1,e1,fun fp1 H1 p=>?_⟩;cases c with
 | false =>
  simp at e2;rw[if_neg Bool.false_ne_true];exact⟨Z1,O,fp1,p.rel0,x,Z',e2,fun fp2 H2 p2=>k fp2 H2 (p.next p2)⟩
 | true =>
  simp at e2;obtain⟨rfl,rfl⟩:=e2;rw[if_pos rfl];exact k fp1 H1 p
def Xv{a:MT}{Q:Bool->Hp->Prop}(h:tT K (BR a) σ H Q):tT K a σ H fun c H1=>Q (!c) H1:=by
 obtain⟨Z,O,fp,rl,x,Z',e,k⟩:=h;simp only[BR,map_eq_some_iff] at e;obtain⟨⟨c,Z1⟩,e1,e2⟩:=e;cases e2;exact⟨Z,O,fp,rl,c,_,e1,k⟩
theorem ML{m:ME}{Q:Bool->Hp->Prop}{Z Z':Ro}{b:Bool}{O:Addr->Prop}{fp:Nat->List Addr}(rl:Rel K Z σ H O fp)(e:AJ m Z=some (b,Z'))(k:∀fp' H',Post K O fp H Z Z' σ σ [] fp' H'->Q b H'):tE K m σ H fun x H1=>∃c,x=.bl c/\Q c H1:=
 MK ⟨Z,O,fp,rl,b,Z',e,k⟩
def Xe{a b:ME}{Q:VK}(h:tE K (andM a b) σ H Q):tE K a σ H fun x H1=>∃c,x=.bl c/\if c=true then tE K b σ H1 Q else Q (.bl false) H1:=by
 obtain⟨Z,O,fp,rl,x,Z',e,k⟩:=h;simp only[andM,bind_eq_some_iff] at e;obtain⟨⟨c,Z1⟩,e1,e2⟩:=e;refine ML (Q:=fun c H1=>if c=true then tE K b σ H1 Q else Q (.bl false) H1) rl e1 fun fp1 H1 p=>?_;cases c with
 | true =>
  rw[if_pos rfl] at e2 |-;exact⟨Z1,O,fp1,p.rel0,x,Z',e2,fun v H2 p2=>k v H2 (p2.pre p)⟩
 | false =>
  simp at e2;obtain⟨rfl,rfl⟩:=e2;rw[if_neg Bool.false_ne_true];exact k _ H1 ⟨[],fp1,p,MB (.bl _)⟩
def YA{a b:ME}{Q:VK}(h:tE K (orM a b) σ H Q):tE K a σ H fun x H1=>∃c,x=.bl c/\if c=true then Q (.bl true) H1 else tE K b σ H1 Q:=by
 obtain⟨Z,O,fp,rl,x,Z',e,k⟩:=h;simp only[orM,bind_eq_some_iff] at e;obtain⟨⟨c,Z1⟩,e1,e2⟩:=e;refine ML (Q:=fun c H1=>if c=true then Q (.bl true) H1 else tE K b σ H1 Q) rl e1 fun fp1 H1 p=>?_;cases c with
 | false =>
  simp at e2;rw[if_neg Bool.false_ne_true];exact⟨Z1,O,fp1,p.rel0,x,Z',e2,fun v H2 p2=>k v H2 (p2.pre p)⟩
 | true =>
  simp at e2;obtain⟨rfl,rfl⟩:=e2;rw[if_pos rfl];exact k _ H1 ⟨[],fp1,p,MB (.bl _)⟩
def Xh{a:ME}{Q:VK}(h:tE K (notM a) σ H Q):tE K a σ H fun x H1=>∃c,x=.bl c/\Q (.bl (!c)) H1:=by
 obtain⟨Z,O,fp,rl,x,Z',e,k⟩:=h;simp only[notM,map_eq_some_iff] at e;obtain⟨⟨c,Z1⟩,e1,e2⟩:=e;cases e2;exact ML (Q:=fun c H1=>Q (.bl (!c)) H1) rl e1 fun fp1 H1 p=>k _ H1 ⟨[],fp1,p,MB (.bl _)⟩
def RRs.vals:∀{rs:List R} {vs:List V} {as:List A} {L:List Addr},RRs K N H σ vs rs L->J.vals rs=some as->Ap K N H vs as L:=by
 intro _l;induction _l with
 | nil =>
  intro _m;cases _m with
  | nil =>
   intro as L q e;simp only[J.vals,Option.some.injEq] at e;subst e;simp only[RRs] at q;simp only[Ap];exact q
  | cons _ _ =>
   intro _ _ q _;simp only[RRs] at q
 | cons r rs ih =>
  intro _m;cases _m with
  | nil =>
   intro _ _ q _;simp only[RRs] at q
  | cons v vs =>
   intro as L q e;cases r with
   | ref i=>simp[J.vals] at e
   | val a =>
    simp only[J.vals,map_eq_some_iff] at e;obtain⟨as',e2,rfl⟩:=e;simp only[RRs] at q;obtain⟨L1,L2,rfl,q1,q2⟩:=q;simp only[Ap];exact⟨L1,L2,rfl,q1,ih q2 e2⟩
theorem Dx{p:Addr}{o:HO}(h:H p=none):Cu H (upd H p o):=fun b o' e=>by
 rw[AB (Ea e h)]; exact e
theorem Post.more{L':List Addr}(x:Post K O fp H Z Z1 σ σ1 L fp1 H1)(s:Cu H1 H2)(nd:L'.Nodup)(h:∀p∈L',p∈L\/(H1 p=none/\H2 p≠none)):Post K O fp H Z Z1 σ σ1 L' fp1 H2 where
 rel:=x.rel.grow s (fun p z=>by
   rcases z with z|z
   .exact .inl (.inl z)
   .rcases h p z with q|q
    .exact .inl (.inr q)
    .exact .inr q.1) fun p z=>by
   have key:H1 p≠none->H2 p≠none:=fun n q=>by
    cases e:H1 p with
    | none=>exact n e
    | some o=>rw[s p o e] at q; cases q
   rcases z with z|z
   .exact key (x.rel.al p (.inr (.inl z)))
   .rcases h p z with q|q
    .exact key (x.rel.al p (.inr (.inr q)))
    .exact q.2
 nd:=nd
 lo:=fun p hp z=>by
  rcases h p hp with q|q
  .exact x.lo p q z
  .exact x.rel.al p (.inr (.inl z)) q.1
 new:=fun p hp=>by
  rcases hp with hp|hp
  .rcases h p hp with q|q
   .exact x.new p (.inl q)
   .cases e:H p with
    | none=>exact .inr rfl
    | some o =>
     by_cases hf:Fp fp p
     .exact .inl hf
     .have:=x.kept p o e (.inl hf)
      rw[q.1] at this; cases this
  .exact x.new p (.inr hp)
 kept:=x.kept.trans (Cu.kept (L:=fun _=>False) s) fun _ z=>z.elim
 ln:=x.ln
 stab:=x.stab
def Xi{m:MA}{Q:VK}(h:tE K (Jk m) σ H Q):Xw (tA K m) σ H Q:=by
 obtain⟨Z,O,fp,rl,x,Z',e,k⟩:=h;simp only[Jk,bind_eq_some_iff] at e;obtain⟨⟨rs,Z1⟩,e1,as,e2,e3⟩:=e;split at e3
 .rename_i hz
  cases e3;refine⟨Z,O,fp,rl,rs,_,e1,fun vs H1 yy=>?_⟩
  obtain⟨L,fp1,p,q⟩:=yy;have q':=q.vals e2;have hl:=q'.len;refine⟨by rw[hl]; exact hz,fun a ha=>k _ _ ?_⟩;have s:=Dx (o:=.tup vs) ha;have q2:Ap K (NN fp1 (ad O L)) (upd H1 a (.tup vs)) vs as L:=q'.tr (M:=fun _=>False) (fun _ z=>z.elim) (Cu.kept s) (fun p z=>.inl z) fun _ _ z=>z;unfold mkT;split
  .rename_i ds hd
   obtain⟨rfl,qd⟩:=q2.fzs hd;exact⟨[],fp1,p.more s List.nodup_nil (fun p hp=>by simp at hp),MB (Mz AU (by rw[hl]; exact hz) qd)⟩
  .refine⟨L,fp1,p.more s p.nd (fun p hp=>.inl hp),?_⟩
   show Ar _ _ _ _ _ _;rw[Ar];exact⟨a,vs,rfl,AU,by rw[hl]; exact hz,q2⟩
 .cases e3
def Xg{m:MA}{Q:VK}(h:tE K (lstM m) σ H Q):YC (tA K m) σ H Q:=by
 obtain⟨Z,O,fp,rl,x,Z',e,k⟩:=h;simp only[lstM,bind_eq_some_iff] at e;obtain⟨⟨rs,Z1⟩,e1,as,e2,e3⟩:=e;split at e3
 .rename_i hz
  cases e3;refine⟨Z,O,fp,rl,rs,_,e1,fun vs H1 yy=>?_⟩
  obtain⟨L,fp1,p,q⟩:=yy;have q':=q.vals e2;have hl:=q'.len;refine⟨by rw[hl]; exact hz,fun a ha=>k _ _ ?_⟩;have s:=Dx (o:=.lst vs) ha;have nL:a∉L:=fun z=>p.rel.al a (.inr (.inr z)) ha;refine⟨a::L,fp1,p.more s (List.nodup_cons.mpr ⟨nL,p.nd⟩) (fun b hb=>?_),?_⟩
  .rcases List.mem_cons.mp hb with rfl|hb
   .exact .inr ⟨ha,by rw[AU]; simp⟩
   .exact .inl hb
  .show Ar _ _ _ _ _ _
   rw[Ar];refine⟨a,vs,L,rfl,rfl,AU,by rw[hl]; exact hz,q'.tr (M:=fun _=>False) (fun _ z=>z.elim) (Cu.kept s) (fun b z=>?_) fun _ _ z=>z⟩;rcases z with z|z|z
   .exact .inl (.inl z)
   .exact .inl (.inr (.inl z))
   .rcases List.mem_cons.mp z with rfl|z
    .exact .inr ha
    .exact .inl (.inr (.inr z))
 .cases e3
end
def QU(K:Frag)(O:Addr->Prop)(fp:Nat->List Addr)(H:Hp)(Z:Ro)(σ:St)(D:Ends):Fl->Prop
 | .next Z'=>∀σ' fp' H',Post K O fp H Z Z' σ σ' [] fp' H'->D.nx σ' H'
 | .brk Z'=>∀σ' fp' H',Post K O fp H Z Z' σ σ' [] fp' H'->D.bk σ' H'
 | .cnt Z'=>∀σ' fp' H',Post K O fp H Z Z' σ σ' [] fp' H'->D.ct σ' H'
 | .ret a Z'=>∀σ' v L fp' H',Post K O fp H Z Z' σ σ' L fp' H'->Ar K (NN fp' (ad O L)) H' v a L->D.rt v H'
def tS(K:Frag)(m:MS):TS:=fun D σ H=>∃Z O fp,Rel K Z σ H O fp/\∃fl,m Z=some fl/\QU K O fp H Z σ D fl
section
variable{K:Frag}{Z Z' Z1 Z2:Ro}{σ σ' σ1 σ2:St}{H H' H1 H2:Hp}{O O' N:Addr->Prop}{fp fp' fp1 fp2:Nat->List Addr}{L L1 L2:List Addr}{D:Ends}
def QU.pre{fl:Fl}(x:Post K O fp H Z Z1 σ σ1 [] fp1 H1)(w:QU K O fp H Z σ D fl):QU K O fp1 H1 Z1 σ1 D fl:=by
 cases fl with
 | next Z'=>exact fun σ' fp' H' p=>w σ' fp' H' (x.next p)
 | brk Z'=>exact fun σ' fp' H' p=>w σ' fp' H' (x.next p)
 | cnt Z'=>exact fun σ' fp' H' p=>w σ' fp' H' (x.next p)
 | ret a Z'=>exact fun σ' v L fp' H' p q=>w σ' v L fp' H' (x.next p) q
def UY(h:tS K Bc D σ H):Vq D σ H:=by
 obtain⟨Z,O,fp,rl,fl,e,w⟩:=h;cases e;exact w σ fp H rl.post
def Xt{a b:MS}(h:tS K (AA a b) D σ H):YI (tS K a) (tS K b) D σ H:=by
 obtain⟨Z,O,fp,rl,fl,e,w⟩:=h;simp only[AA,bind_eq_some_iff] at e;obtain⟨f1,e1,e2⟩:=e;refine⟨Z,O,fp,rl,f1,e1,?_⟩;cases f1 with
 | next Z1=>exact fun σ1 fp1 H1 p=>⟨Z1,O,fp1,p.rel0,fl,e2,w.pre p⟩
 | brk Z1=>cases e2; exact w
 | cnt Z1=>cases e2; exact w
 | ret a Z1=>cases e2; exact w
def YH{c:MT}{a b:MS}(h:tS K (ifS c a b) D σ H):Xm (tT K c) (tS K a) (tS K b) D σ H:=by
 obtain⟨Z,O,fp,rl,fl,e,w⟩:=h;simp only[ifS,bind_eq_some_iff] at e;obtain⟨⟨c,Z1⟩,e1,e2⟩:=e;refine⟨Z,O,fp,rl,c,Z1,e1,fun fp1 H1 p=>?_⟩;cases c with
 | true =>
  simp at e2;rw[if_pos rfl];exact⟨Z1,O,fp1,p.rel0,fl,e2,w.pre p⟩
 | false =>
  simp at e2;rw[if_neg Bool.false_ne_true];exact⟨Z1,O,fp1,p.rel0,fl,e2,w.pre p⟩
def Xo{m:ME}(h:tS K (F9 m) D σ H):NX (tE K m) D σ H:=by
 obtain⟨Z,O,fp,rl,fl,e,w⟩:=h;simp only[F9,map_eq_some_iff] at e;obtain⟨⟨r,Z1⟩,e1,e2⟩:=e;cases e2;exact⟨Z,O,fp,rl,r,Z1,e1,fun v H1 ⟨L,fp1,p,q⟩=>w σ fp1 H1 p.drop0⟩
def Xs{m:ME}(h:tS K (retS m) D σ H):YG (tE K m) D σ H:=by
 obtain⟨Z,O,fp,rl,fl,e,w⟩:=h;simp only[retS,bind_eq_some_iff,map_eq_some_iff] at e;obtain⟨⟨r,Z1⟩,e1,⟨a,Z2⟩,e2,e3⟩:=e;cases e3;refine⟨Z,O,fp,rl,r,Z1,e1,fun v H1 yy=>?_⟩;obtain⟨L,fp1,p,q⟩:=yy;obtain⟨L2,fp2,p2,q2⟩:=Qq p q e2;exact w σ v L2 fp2 H1 p2 q2
def Ri{i:Nat}(h:free Z i=true):i<Z.length/\∀st a,Z[i]? = some (some (st,a))->st=.own:=by
 unfold free at h;split at h
 .rename_i e
  exact⟨AK e,fun st a e'=>by rw[e] at e'; cases e'⟩
 .rename_i a e
  exact⟨AK e,fun st a e'=>by rw[e] at e'; cases e'; rfl⟩
 .cases h
def Post.store{i:Nat}{v:V}{a:A}{σ1:St}(x:Post K O fp H Z Z1 σ σ1 (L1++L2) fp1 H1)(hf:free Z1 i=true)(q:Ar K (NN fp1 (ad O (L1++L2))) H1 v a L1):
  Post K O fp H Z (Z1.set i (some (.own,a))) σ (σ1.set i (some v)) L2 (pt fp1 i L1) H1:=by
 obtain⟨hi,ho⟩:=Ri hf;have nd:=List.nodup_append.mp x.nd;have nn:∀p,NN (pt fp1 i L1) (ad O L2) p->NN fp1 (ad O (L1++L2)) p:=fun p z=>by
  rcases z with ⟨j,z⟩|z|z
  .rcases Ck z with ⟨_,z⟩|⟨_,z⟩
   .exact .inr (.inr (List.mem_append_left _ z))
   .exact .inl ⟨j,z⟩
  .exact .inr (.inl z)
  .exact .inr (.inr (List.mem_append_right _ z))
 refine⟨x.rel.set (O':=ad O L2) hi (fun p z=>nn p (.inr z)) (fun p hp=>.inr (.inr (List.mem_append_left _ hp))) nd.1 (fun p hp j _ z=>x.rel.off j p z (.inr (List.mem_append_left _ hp))) (fun p hp z=>?_)
  (fun j p _ h z=>x.rel.off j p h (z.imp id (List.mem_append_right _))) (fun st a' e=>by cases e; exact⟨v,rfl,Ei nn q⟩) (fun e=>by cases e),nd.2.1,fun p hp=>x.lo p (List.mem_append_right _ hp),fun p hp=>?_,x.kept,by rw[List.length_set]; exact x.ln,fun j st a' h n=>?_⟩
 .rcases z with z|z
  .exact x.lo p (List.mem_append_left _ hp) z
  .exact nd.2.2 p hp p z rfl
 .rcases hp with hp|⟨j,hp⟩
  .exact x.new p (.inl (List.mem_append_right _ hp))
  .rcases Ck hp with ⟨_,z⟩|⟨_,z⟩
   .exact x.new p (.inl (List.mem_append_left _ z))
   .exact x.new p (.inr ⟨j,z⟩)
 .obtain⟨a2,h2,e2,f2⟩:=x.stab j st a' h n
  have hj:j≠i:=by
   rintro rfl;exact n (ho st a2 h2)
  exact⟨a2,by rw[List.getElem?_set_ne (Ne.symm hj)]; exact h2,by rw[List.getElem?_set_ne (Ne.symm hj)]; exact e2,f2⟩
def Iu{v:V}{r:R}{a:A}(x:Post K O fp H Z Z1 σ σ L fp1 H1)(q:RR K (NN fp1 (ad O L)) H1 σ v r L)(e:keep Z1 r=some (a,Z2)):
  ∃L2 fp2,Post K O fp H Z Z2 σ σ L2 fp2 H1/\Ar K (NN fp2 (ad O L2)) H1 v a L2:=by
 cases r with
 | val b =>
  simp only[keep,Option.some.injEq] at e;cases e;exact⟨L,fp1,x,q⟩
 | ref i =>
  simp only[keep,map_eq_some_iff] at e;obtain⟨⟨d,Z3⟩,e,e'⟩:=e;cases e';obtain⟨fp2,p,q2⟩:=FW x q e;exact⟨[],fp2,p,F8 q2⟩
def OS{i:Nat}{m:ME}(h:tS K (A5 i m) D σ H):OP (tE K m) (HF i) D σ H:=by
 obtain⟨Z,O,fp,rl,fl,e,w⟩:=h;simp only[A5,bind_eq_some_iff] at e;obtain⟨⟨r,Z1⟩,e1,⟨a,Z2⟩,e2,e3⟩:=e;split at e3
 .rename_i hf
  cases e3;refine⟨Z,O,fp,rl,r,Z1,e1,fun v H1 yy=>?_⟩
  obtain⟨L,fp1,p,q⟩:=yy;obtain⟨L2,fp2,p2,q2⟩:=Iu p q e2;exact w _ _ H1 (Post.store (L1:=L2) (L2:=[]) (by rw[List.append_nil]; exact p2) hf (by rw[List.append_nil]; exact q2))
 .cases e3
def Gp:List Nat->TGs
 | []=>XU
 | i::is=>U8 (HF i) (Gp is)
def Lq{Q:St->Hp->Prop}:∀{is:List Nat} {as:List A} {vs:List V} {Z1 Z2:Ro} {σ1:St} {fp1:Nat->List Addr} {L:List Addr},Post K O fp H Z Z1 σ σ1 L fp1 H1->Ap K (NN fp1 (ad O L)) H1 vs as L->Dw is as Z1=some Z2 ->
  (∀σ' fp',Post K O fp H Z Z2 σ σ' [] fp' H1->Q σ' H1)->Gp is vs σ1 H1 Q:=by
 intro _l;induction _l with
 | nil =>
  intro _m;cases _m with
  | nil =>
   intro vs Z1 Z2 σ1 fp1 L x q e k;cases vs with
   | cons v vs=>simp only[Ap] at q
   | nil =>
    simp only[Dw,Option.some.injEq] at e;subst e;exact⟨rfl,k σ1 fp1 x.drop0⟩
  | cons _ _ =>
   intro _ _ _ _ _ _ _ _ e _;simp[Dw] at e
 | cons i is ih =>
  intro _m;cases _m with
  | nil =>
   intro _ _ _ _ _ _ _ _ e _;simp[Dw] at e
  | cons a as =>
   intro vs Z1 Z2 σ1 fp1 L x q e k;cases vs with
   | nil=>simp only[Ap] at q
   | cons v vs =>
    simp only[Ap] at q;obtain⟨L1,L2,rfl,q1,q2⟩:=q;simp only[Dw] at e;split at e
    .rename_i hf
     refine⟨v,vs,rfl,?_⟩;have p:=x.store hf q1;refine ih p (OX (fun p z=>?_) q2) e k;rcases z with ⟨j,z⟩|z|z
     .rcases Ck z with ⟨_,z⟩|⟨_,z⟩
      .exact .inr (.inr (List.mem_append_left _ z))
      .exact .inl ⟨j,z⟩
     .exact .inr (.inl z)
     .exact .inr (.inr (List.mem_append_right _ z))
    .cases e
def Ar.parts{v:V}{a:A}{as:List A}(q:Ar K N H v a L)(e:FP a=some as):∃p vs,v=.ref p/\SqT K H p vs/\Ap K N H vs as L:=by
 cases a with
 | tup bs =>
  simp only[FP,Option.some.injEq] at e;subst e;rw[Ar] at q;obtain⟨p,vs,rfl,h,hz,hs⟩:=q;exact⟨p,vs,rfl,.inl (.inl h),hs⟩
 | fz d =>
  cases d with
  | tup ds =>
   simp only[FP,Option.some.injEq] at e;subst e;rw[Ar] at q;obtain⟨rfl,q⟩:=q;cases q with
   | tup h hz hl hr=>exact⟨_,_,rfl,.inl (.inl h),Ap.of (Ay.mk hl hr)⟩
  | _=>simp[FP] at e
 | _=>simp[FP] at e
def Kq:∀{is:List Nat} {as:List A} {Z1 Z2:Ro},Dw is as Z1=some Z2->is.length=as.length:=by
 intro _l;induction _l with
 | nil =>
  intro _m;cases _m with
  | nil =>
   intro _ _ _;exact rfl
  | cons _ _ =>
   intro _ _ e;simp[Dw] at e
 | cons i is ih =>
  intro _m;cases _m with
  | nil =>
   intro _ _ e;simp[Dw] at e
  | cons a as =>
   intro _ _ e;simp only[Dw] at e;split at e
   .simp[ih e]
   .cases e
def Xu{is:List Nat}{m:ME}(h:tS K (K0 is m) D σ H):OP (tE K m) (VU K is.length (Gp is)) D σ H:=by
 obtain⟨Z,O,fp,rl,fl,e,w⟩:=h;simp only[K0,bind_eq_some_iff,map_eq_some_iff] at e;obtain⟨⟨r,Z1⟩,e1,⟨a,Z2⟩,e2,as,e3,Z3,e4,e5⟩:=e;cases e5;refine⟨Z,O,fp,rl,r,Z1,e1,fun v H1 yy=>?_⟩;obtain⟨L,fp1,p,q⟩:=yy;obtain⟨L2,fp2,p2,q2⟩:=Iu p q e2;obtain⟨pa,vs,rfl,hS,hs⟩:=q2.parts e3;exact⟨pa,vs,rfl,hS,by rw[hs.len,Kq e4],Lq p2 hs e4 fun σ' fp' p'=>w σ' fp' H1 p'⟩
end
def ItR(J:It)(C:(Addr->Prop)->Hp->Prop)(ds:List D):Prop:=∀N H,C N H->(∀i,i<ds.length->J.go i H)/\(∀i,ds.length<=i->J.stop i H)/\∀i x H' d,J.yld i H x H'->ds[i]? = some d->Cu H H'/\RepA N H' x d
def YL(H H':Hp):Prop:=∀p xs,H p=some (.tup xs)->H' p=some (.tup xs)
def ItP(K:Frag)(O:Addr->Prop)(fp:Nat->List Addr)(H:Hp)(Z Z':Ro)(σ:St)(ds:List D)(n:Option Nat)(J:It)(H':Hp):Prop:=
 ∃r v a L fp',Post K O fp H Z Z' σ σ L fp' H'/\RR K (NN fp' (ad O L)) H' σ v r L/\n=nameOf r/\peek Z' r=some a/\ItR J (fun N H=>(∃L,Ar K N H v a L)/\YL H' H/\∀z dz,RepA (NN fp' (ad O L)) H' z dz->RepA N H z dz) ds
def tI(K:Frag)(m:MI):TI:=fun σ H R=>∃Z O fp,Rel K Z σ H O fp/\∃ds n Z',m Z=some (ds,n,Z')/\∀J H',ItP K O fp H Z Z' σ ds n J H'->R J H'
section
variable{K:Frag}{Z Z' Z1 Z2:Ro}{σ σ' σ1 σ2:St}{H H' H1 H2:Hp}{O O' N:Addr->Prop}{fp fp' fp1 fp2:Nat->List Addr}{L L1 L2:List Addr}
theorem Fm{n:Option Nat}{j:Nat}:(lock Z n)[j]? = match Z[j]? with
  | some (some (st,a))=>some (some (if n=some j then .ro else st,a))
  | x=>x:=by
 cases n with
 | none =>
  simp only[lock];split<;>simp_all
 | some i =>
  simp only[lock];split
  .rename_i st a e
   by_cases h:j=i
   .subst h
    rw[List.getElem?_set_self (AK e),e];simp
   .rw[List.getElem?_set_ne (Ne.symm h)]
    split
    .have:¬(some i=some j):=fun z=>h (Option.some.inj z).symm
     simp[this, *]
    .rfl
  .rename_i hn
   by_cases h:j=i
   .subst h
    split
    .rename_i st a e
     exact absurd e (hn st a)
    .rfl
   .split
    .have:¬(some i=some j):=fun z=>h (Option.some.inj z).symm
     simp[this, *]
    .rfl
def Rel.lock{n:Option Nat}(r:Rel K Z σ H O fp):Rel K (J.lock Z n) σ H O fp where
 len:=by
  rw[<- r.len];cases n with
  | none=>rfl
  | some i=>simp only[J.lock]; split<;>simp
 slot:=fun i st a e=>by
  rw[Fm] at e;split at e
  .rename_i st' a' e'
   simp only[Option.some.injEq,Prod.mk.injEq] at e;obtain⟨_,rfl⟩:=e;exact r.slot i _ _ e'
  .exact r.slot i _ _ e
 out:=fun i h=>r.out i fun st a e=>h (if n=some i then .ro else st) a (by rw[Fm,e])
 nd:=r.nd
 inj:=r.inj
 off:=r.off
 al:=r.al
def Post.unlock{n:Option Nat}{a:A}(hn:∀i,n=some i->∃st,Z1[i]? = some (some (st,a)))(x:Post K O fp1 H1 (J.lock Z1 n) Z2 σ1 σ2 L fp2 H2):Post K O fp1 H1 Z1 (J.unlock Z1 Z2 n) σ1 σ2 L fp2 H2:=by
 cases n with
 | none=>exact x
 | some i =>
  obtain⟨st,e⟩:=hn i rfl;obtain⟨a',e2,es,ea⟩:=x.stab i .ro a (by rw[Fm,e]; simp) (by decide);cases ea rfl;have eu:J.unlock Z1 Z2 (some i)=Z2.set i (some (st,a)):=by simp only[J.unlock,e]
  rw[eu];have get:∀j st' b,(Z2.set i (some (st,a)))[j]? = some (some (st',b))->∃st'',Z2[j]? = some (some (st'',b)):=fun j st' b q=>by
   by_cases h:j=i
   .subst h
    rw[List.getElem?_set_self (AK e2)] at q;cases q;exact⟨_,e2⟩
   .rw[List.getElem?_set_ne (Ne.symm h)] at q
    exact⟨_,q⟩
  refine⟨⟨by rw[List.length_set]; exact x.rel.len,fun j st' b q=>?_,fun j h=>?_,x.rel.nd,x.rel.inj,x.rel.off,x.rel.al⟩,x.nd,x.lo,x.new,x.kept,x.ln,fun j st' b q hs=>?_⟩
  .obtain⟨st'',q⟩:=get j st' b q
   exact x.rel.slot j _ _ q
  .refine x.rel.out j fun st' b q=>?_
   by_cases hj:j=i
   .subst hj
    exact h st a (List.getElem?_set_self (AK e2))
   .exact h st' b (by rw[List.getElem?_set_ne (Ne.symm hj)]; exact q)
  .by_cases hj:j=i
   .subst hj
    rw[e] at q;cases q;exact⟨a,List.getElem?_set_self (AK e2),es,fun _=>rfl⟩
   .have q':(J.lock Z1 (some i))[j]? = some (some (st',b)):=by
     rw[Fm,q];have:¬(some i=some j):=fun z=>hj (Option.some.inj z).symm;simp[this]
    obtain⟨b',q2,s2,f2⟩:=x.stab j st' b q' hs;exact⟨b',by rw[List.getElem?_set_ne (Ne.symm hj)]; exact q2,s2,f2⟩
def Qe(K:Frag)(is:List Nat):Bool->TG
 | true=>HF (is.headD 0)
 | false=>VU K is.length (Gp is)
def Tp{is:List Nat}{one:Bool}{d:D}{x:V}{Q:St->Hp->Prop}(p:Post K O fp H Z Z1 σ σ1 [] fp1 H1)(q:RepA (NN fp1 O) H1 x d)(e:K9 is one d Z1=some Z2)(k:∀σ' fp',Post K O fp H Z Z2 σ σ' [] fp' H1->Q σ' H1):
  Qe K is one x σ1 H1 Q:=by
 have q0:RepA (NN fp1 (ad O [])) H1 x d:=DT (fun p z=>Gy.mp z) q;cases one with
 | true =>
  unfold K9 at e
  match is,e with
  | [i],e =>
   dsimp only at e;split at e
   .rename_i hf
    cases e;exact k _ _ (Post.store (L1:=[]) (L2:=[]) p hf (F8 (K:=K) q0))
   .cases e
  | [],e=>simp at e
  | _::_::_,e=>simp at e
 | false =>
  unfold K9 at e;dsimp only at e;cases d with
  | tup ds =>
   dsimp only at e;cases q0 with
   | tup h hz hl hr =>
    refine⟨_,_,rfl,.inl (.inl h),?_,Lq p (Ap.of (Ay.mk hl hr)) e k⟩;have:=Kq e;rw[List.length_map] at this;rw[hl,this]
  | _=>simp at e
def Xd{r:R}{v:V}{a:A}{n:Option Nat}(hn:n=nameOf r)(hr:Rel K Z1 σ H1 (ad O L) fp1)(q:RR K (NN fp1 (ad O L)) H1 σ v r L)(e:peek Z1 r=some a)(p:Post K (ad O L) fp1 H1 (J.lock Z1 n) Z2 σ σ2 [] fp2 H2):
  ∃L',Ar K (NN fp2 (ad O L)) H2 v a L':=by
 cases r with
 | val b =>
  simp only[peek,Option.some.injEq] at e;subst e;refine⟨L,Ar.tr (M:=Fp fp1) (fun p z=>.inl z) p.kept (fun x z=>?_) (fun x hx z=>?_) q⟩
  .rcases z with z|z
   .exact(p.new x (.inr z)).imp (fun y=>.inl y) id
   .exact .inl (.inr z)
  .obtain⟨i,hi⟩:=z
   exact hr.off i x hi (.inr hx)
 | ref i =>
  subst hn;simp only[peek] at e;split at e
  .rename_i st b hb
   cases e;obtain⟨a',e2,es,ea⟩:=p.stab i .ro a (by rw[Fm,hb]; simp[nameOf]) (by decide);cases ea rfl;obtain⟨v',h1,h2⟩:=p.rel0.slot i _ _ e2;rw[es,q.2] at h1;cases h1;exact⟨_,h2⟩
  .cases e
theorem Post.stay{dz:D}{z:V}(p:Post K O fp1 H1 Z1 Z2 σ σ2 [] fp2 H2)(q:RepA (NN fp1 O) H1 z dz):RepA (NN fp2 O) H2 z dz:=
 q.tr (M:=Fp fp1) (fun p z=>.inl z) p.kept fun x z=>by
  rcases z with z|z
  .exact(p.new x (.inr z)).imp (fun y=>.inl y) id
  .exact .inl (.inr z)
theorem Post.stayT{dz:D}{z:V}(p:Post K O fp1 H1 Z1 Z2 σ σ2 L fp2 H2)(q:RepA (NN fp1 O) H1 z dz):RepA (NN fp2 (ad O L)) H2 z dz:=
 q.tr (M:=Fp fp1) (fun p z=>.inl z) p.kept fun x z=>by
  rcases z with z|z|z
  .exact(p.new x (.inr z)).imp (fun y=>.inl y) id
  .exact .inl (.inr z)
  .exact(p.new x (.inl z)).imp (fun y=>.inl y) id
def Xp{is:List Nat}{one:Bool}{it:MI}{b:MS}{D:Ends}(h:tS K (KH is one it b) D σ H):YB (tI K it) (Qe K is one) (tS K b) D σ H:=by
 obtain⟨Z,O,fp,rl,fl,e,w⟩:=h;simp only[KH,bind_eq_some_iff,map_eq_some_iff] at e;obtain⟨⟨ds,n,Z1⟩,e1,f,e2,e3⟩:=e;subst e3;refine⟨Z,O,fp,rl,ds,n,Z1,e1,fun J H1 yy=>?_⟩;obtain⟨r,v,a,L,fp1,p1,q1,hn,ha,hJ⟩:=yy;have hlk:∀i,n=some i->∃st,Z1[i]? = some (some (st,a)):=fun i hi=>by
  rw[hn] at hi;cases r with
  | val b=>simp[nameOf] at hi
  | ref j =>
   simp only[nameOf,Option.some.injEq] at hi;subst hi;simp only[peek] at ha;split at ha
   .rename_i st b hb
    cases ha;exact⟨st,hb⟩
   .cases ha
 have rl1:Rel K (lock Z1 n) σ H1 (ad O L) fp1:=p1.rel.lock
 -- what is wanted of the loop's end
 have w1:QU K (ad O L) fp1 H1 (lock Z1 n) σ D f:=by
  have un:∀{Z2:Ro} {σ2:St} {L2:List Addr} {fp2:Nat->List Addr} {H2:Hp},Post K (ad O L) fp1 H1 (lock Z1 n) Z2 σ σ2 L2 fp2 H2->Post K O fp H Z (unlock Z1 Z2 n) σ σ2 L2 fp2 H2:=fun y=>(p1.then (y.unlock hlk)).drop;cases f with
  | next Z2=>exact fun σ' fp' H' p=>w σ' fp' H' (un p)
  | brk Z2=>exact fun σ' fp' H' p=>w σ' fp' H' (un p)
  | cnt Z2=>exact fun σ' fp' H' p=>w σ' fp' H' (un p)
  | ret b Z2=>exact fun σ' v L2 fp' H' p q=>w σ' v L2 fp' H' (un p) (Ei (fun x z=>by
    rcases z with z|z|z
    .exact .inl z
    .exact .inr (.inl (.inl z))
    .exact .inr (.inr z)) q)
 refine⟨fun i m σ' H'=>m=ds.length-i/\i<=ds.length/\∃Z' fp',Post K (ad O L) fp1 H1 (lock Z1 n) Z' σ σ' [] fp' H'/\forL is one b (ds.drop i) Z'=some f,⟨ds.length,by simp,Nat.zero_le _,lock Z1 n,fp1,rl1.post,by simpa using e2⟩,?_⟩;rintro i m σ2 H2 ⟨rfl,hi,Z2,fp2,p2,e2⟩;obtain⟨L',src⟩:=Xd hn p1.rel q1 ha p2;obtain⟨go,stop,yld⟩:=hJ _ _ ⟨⟨L',src⟩,fun _ _ h=>p2.kept _ _ h (.inr rfl),fun _ _ q=>p2.stay q⟩;by_cases hlt:i<ds.length
 .refine .inr ⟨go i hlt,_,fun σ' H' z=>⟨ds.length-(i+1),by omega,rfl,hlt,z⟩,fun x H3 y=>?_⟩
  have hd:ds[i]? = some ds[i]:=by simp[hlt]
  obtain⟨sm,qx⟩:=yld i x H3 _ y hd;rw[List.drop_eq_getElem_cons hlt] at e2;simp only[forL,bind_eq_some_iff] at e2;obtain⟨Z3,e3,g,e4,e5⟩:=e2;have p3:Post K (ad O L) fp1 H1 (lock Z1 n) Z2 σ σ2 [] fp2 H3:=p2.more sm List.nodup_nil (fun p hp=>by simp at hp);refine Tp p3 qx e3 fun σ4 fp4 p4=>?_;refine⟨Z3,ad O L,fp4,p4.rel0,g,e4,?_⟩;cases g with
  | next Z5=>exact fun σ' fp' H' p=>⟨Z5,fp',p4.next p,e5⟩
  | cnt Z5=>exact fun σ' fp' H' p=>⟨Z5,fp',p4.next p,e5⟩
  | brk Z5 =>
   cases e5;exact fun σ' fp' H' p=>w1 σ' fp' H' (p4.next p)
  | ret c Z5 =>
   cases e5;exact fun σ' v L fp' H' p q=>w1 σ' v L fp' H' (p4.next p) q
 .have:i=ds.length:=by omega
  subst this;simp only[List.drop_length,forL,Option.some.injEq] at e2;subst e2;exact .inl ⟨stop _ (Nat.le_refl _),w1 _ _ _ p2⟩
def Gq{v:V}{a:A}{ds:List D}(q:Ar K N H v a L)(e:A0 a=some ds):∃p vs,v=.ref p/\(SqL K H p vs\/SqT K H p vs)/\Ay N H vs ds:=by
 cases a with
 | fz d =>
  rw[Ar] at q;obtain⟨rfl,q⟩:=q;cases d with
  | lst es =>
   simp only[A0,Option.some.injEq] at e;subst e;cases q with
   | lst h hz hn hl hr=>exact⟨_,_,rfl,.inl (.inl (.inl h)),Ay.mk hl hr⟩
  | tup es =>
   simp only[A0,Option.some.injEq] at e;subst e;cases q with
   | tup h hz hl hr=>exact⟨_,_,rfl,.inr (.inl (.inl h)),Ay.mk hl hr⟩
  | _=>simp[A0] at e
 | lst as =>
  simp only[A0] at e;rw[Ar] at q;obtain⟨p,vs,L',rfl,rfl,h,hz,hs⟩:=q;exact⟨p,vs,rfl,.inl (.inl (.inl h)),(hs.fzs e).2⟩
 | scr ns =>
  simp only[A0,Option.some.injEq] at e;subst e;rw[Ar] at q;obtain⟨p,rfl,rfl,h,hz⟩:=q;refine⟨p,_,rfl,.inl (h H fun _ _ z=>z),Ay.mk (by simp) fun i v d e1 e2=>?_⟩;rw[List.getElem?_map] at e1 e2;cases q:ns[i]? with
  | none=>rw[q] at e1; cases e1
  | some k =>
   rw[q] at e1 e2;cases e1; cases e2;exact .int k
 | _=>simp[A0] at e
def Rr:A->Bool
 | .fz (.tup _)=>true
 | _=>false
def Hc{v:V}{a:A}{ds:List D}(q:Ar K N H v a L)(e:A0 a=some ds):∃p vs,v=.ref p/\(if Rr a then SqT K H p vs else SqL K H p vs)/\Ay N H vs ds:=by
 cases a with
 | fz d =>
  rw[Ar] at q;obtain⟨rfl,q⟩:=q;cases d with
  | lst es =>
   simp only[A0,Option.some.injEq] at e;subst e;cases q with
   | lst h hz hn hl hr=>exact⟨_,_,rfl,.inl (.inl h),Ay.mk hl hr⟩
  | tup es =>
   simp only[A0,Option.some.injEq] at e;subst e;cases q with
   | tup h hz hl hr=>exact⟨_,_,rfl,.inl (.inl h),Ay.mk hl hr⟩
  | _=>simp[A0] at e
 | lst as =>
  simp only[A0] at e;rw[Ar] at q;obtain⟨p,vs,L',rfl,rfl,h,hz,hs⟩:=q;exact⟨p,vs,rfl,.inl (.inl h),(hs.fzs e).2⟩
 | scr ns =>
  obtain⟨p,vs,e1,e2,e3⟩:=Gq q e;rw[Ar] at q;obtain⟨p',rfl,rfl,h,hz⟩:=q;cases e1;refine⟨p,_,rfl,h H fun _ _ z=>z,?_⟩;simp only[A0,Option.some.injEq] at e;subst e;refine Ay.mk (by simp) fun i v d e1 e2=>?_;rw[List.getElem?_map] at e1 e2;cases q:ns[i]? with
  | none=>rw[q] at e1; cases e1
  | some k =>
   rw[q] at e1 e2;cases e1; cases e2;exact .int k
 | _=>simp[A0] at e
def X0(K:Frag)(tl:TE):TI:=fun σ H R=>tl σ H fun x H1=>∃a,x=.ref a/\(((∃xs,SqL K H1 a xs)/\R (Itl K a) H1)\/((∃xs,SqT K H1 a xs)/\R (Itt K a) H1))
theorem VL{vs:List V}{ds:List D}(q:Ay N H vs ds){i:Nat}(h:i<ds.length):∃x,vs[i]? = some x:=⟨vs[i]'(by rw[q.len]; exact h),by simp⟩
def Xk{m:ME}{R:It->Hp->Prop}(h:tI K (Cr m) σ H R):X0 K (tE K m) σ H R:=by
 obtain⟨Z,O,fp,rl,ds,n,Z',e,k⟩:=h;simp only[Cr,bind_eq_some_iff,map_eq_some_iff] at e;obtain⟨⟨r,Z1⟩,e1,a,e2,ds',e3,e4⟩:=e;cases e4;refine⟨Z,O,fp,rl,r,Z1,e1,fun v H1 yy=>?_⟩;obtain⟨L,fp1,p,q⟩:=yy;obtain⟨L',q'⟩:=p.rel.peek q e2;obtain⟨pa,vs,rfl,hk,_⟩:=Hc q' e3;refine⟨pa,rfl,?_⟩;cases hT:Rr a with
 | false =>
  rw[hT] at hk;refine .inl ⟨⟨vs,hk⟩,k _ _ ⟨r,.ref pa,a,L,fp1,p,q,rfl,e2,fun N H2 yy=>?_⟩⟩;obtain⟨⟨L2,q2⟩,_⟩:=yy;obtain⟨pb,ws,e5,hk2,hd⟩:=Hc q2 e3;cases e5;rw[hT] at hk2;have hk2:SqL K H2 pa ws:=hk2;refine⟨fun i hi=>?_,fun i hi=>⟨ws,hk2,by rw[hd.len]; exact hi⟩,fun i x H' d y e=>?_⟩
  .obtain⟨x,hx⟩:=VL hd hi
   exact⟨ws,x,hk2,hx⟩
  .obtain⟨rfl,y⟩:=y
   exact⟨fun _ _ z=>z,hd.get i x d (y ws hk2) e⟩
 | true =>
  rw[hT] at hk;refine .inr ⟨⟨vs,hk⟩,k _ _ ⟨r,.ref pa,a,L,fp1,p,q,rfl,e2,fun N H2 yy=>?_⟩⟩;obtain⟨⟨L2,q2⟩,_⟩:=yy;obtain⟨pb,ws,e5,hk2,hd⟩:=Hc q2 e3;cases e5;rw[hT] at hk2;have hk2:SqT K H2 pa ws:=hk2;refine⟨fun i hi=>?_,fun i hi=>⟨ws,hk2,by rw[hd.len]; exact hi⟩,fun i x H' d y e=>?_⟩
  .obtain⟨x,hx⟩:=VL hd hi
   exact⟨ws,x,hk2,hx⟩
  .obtain⟨rfl,y⟩:=y
   exact⟨fun _ _ z=>z,hd.get i x d (y ws hk2) e⟩
end
def Xy(K:Frag):Nat->TU
 | 0=>S9
 | n+1=>fun v H vs=>∃a,v=.ref a/\SqT K H a vs/\vs.length=n+1
def sh(n:Nat)(fp:Nat->List Addr):Nat->List Addr:=fun j=>if j<n then [] else fp (j-n)
section
variable{K:Frag}{Z Z' Z1 Z2:Ro}{σ σ' σ1 σ2:St}{H H' H1 H2:Hp}{O O' N:Addr->Prop}{fp fp' fp1 fp2:Nat->List Addr}{L L1:List Addr}
def Nf{n:Nat}{p:Addr}:Fp (sh n fp) p↔Fp fp p:=by
 constructor
 .rintro ⟨j,h⟩
  unfold sh at h;split at h
  .simp at h
  .exact⟨_,h⟩
 .rintro ⟨j,h⟩
  refine⟨j+n,?_⟩;unfold sh;rw[if_neg (by lia),Nat.add_sub_cancel];exact h
theorem RV{n:Nat}{p:Addr}:NN (sh n fp) O p↔NN fp O p:=or_congr Nf Iff.rfl
def Rel.block{vs:List V}{bs:List D}(r:Rel K Z σ H O fp)(q:Ay (NN fp O) H vs bs):Rel K (bs.map own++Z) (vs.map some++σ) H O (sh bs.length fp) where
 len:=by simp[r.len,q.len]
 slot:=fun i st a e=>by
  by_cases hi:i<bs.length
  .rw[List.getElem?_append_left (by simpa using hi),List.getElem?_map] at e
   have hb:bs[i]? = some bs[i]:=by simp[hi]
   rw[hb] at e;simp only[Option.map_some,own,Option.some.injEq,Prod.mk.injEq] at e;obtain⟨rfl,rfl⟩:=e;have hv:vs[i]? = some (vs[i]'(by rw[q.len]; exact hi)):=by simp
   refine⟨_,by rw[List.getElem?_append_left (by simpa[q.len] using hi),List.getElem?_map,hv]; rfl,?_⟩;simp only[sh,hi,if_true];exact F8 (DT (fun p z=>RV.mp z) (q.get i _ _ hv hb))
  .rw[List.getElem?_append_right (by simpa using hi),List.length_map] at e
   obtain⟨v,e1,q1⟩:=r.slot _ _ _ e;refine⟨v,by rw[List.getElem?_append_right (by simpa[q.len] using hi),List.length_map,q.len]; exact e1,?_⟩;simp only[sh,hi,if_false];exact Ei (fun p z=>RV.mp z) q1
 out:=fun i h=>by
  unfold sh;split
  .rfl
  .rename_i hi
   exact r.out _ fun st a e=>h st a (by rw[List.getElem?_append_right (by simpa using hi),List.length_map]; exact e)
 nd:=fun i=>by
  unfold sh;split
  .exact List.nodup_nil
  .exact r.nd _
 inj:=fun i j p h1 h2=>by
  unfold sh at h1 h2;split at h1
  .simp at h1
  .split at h2
   .simp at h2
   .have:=r.inj _ _ p h1 h2
    lia
 off:=fun i p h=>by
  unfold sh at h;split at h
  .simp at h
  .exact r.off _ p h
 al:=fun p z=>r.al p (RV.mp z)
def Post.unblock{vs:List V}{bs:List D}(hl:vs.length=bs.length)(x:Post K O (sh bs.length fp) H (bs.map own++Z) Z2 (vs.map some++σ) (vs.map some++σ) L fp2 H2):Post K O fp H Z (Z2.drop bs.length) σ σ L (fun j=>fp2 (j+bs.length)) H2 where
 rel:=by
  have nn:∀p,NN (fun j=>fp2 (j+bs.length)) (ad O L) p->NN fp2 (ad O L) p:=fun p z=>z.imp (fun⟨j,h⟩=>⟨_,h⟩) id;have hlen:=x.rel.len;rw[List.length_append,List.length_map,hl] at hlen;refine⟨by rw[List.length_drop,hlen]; lia,fun i st a e=>?_,fun i h=>?_,fun i=>x.rel.nd _,fun i j p h1 h2=>?_,fun i p h=>x.rel.off _ p h,fun p z=>x.rel.al p (nn p z)⟩
  .rw[List.getElem?_drop] at e
   obtain⟨v,e1,q⟩:=x.rel.slot _ _ _ e;refine⟨v,?_,Ei nn (by rw[Nat.add_comm]; exact q)⟩;rw[List.getElem?_append_right (by rw[List.length_map]; lia),List.length_map] at e1;rw[<- e1];congr 1;lia
  .exact x.rel.out _ fun st a e=>h st a (by rw[List.getElem?_drop,Nat.add_comm]; exact e)
  .have:=x.rel.inj _ _ p h1 h2
   lia
 nd:=x.nd
 lo:=x.lo
 new:=fun p hp=>(x.new p (hp.imp id fun⟨j,h⟩=>⟨_,h⟩)).imp Nf.mp id
 kept:=x.kept.mono fun p z=>Nf.mp z
 ln:=rfl
 stab:=fun j st a h n=>by
  have e:(bs.map own++Z)[j+bs.length]? = some (some (st,a)):=by rw[List.getElem?_append_right (by simp),List.length_map,Nat.add_sub_cancel]; exact h
  obtain⟨a',e1,_,f⟩:=x.stab _ _ _ e n;exact⟨a',by rw[List.getElem?_drop,Nat.add_comm]; exact e1,rfl,f⟩
def Post.updT{p:Addr}{o:HO}{ys:List V}(x:Post K O fp H Z Z1 σ σ1 L fp1 H1)(hp:p∈L)(hn:H p=none)(hy:H1 p=some (.lst ys)):Post K O fp H Z Z1 σ σ1 L fp1 (upd H1 p o):=by
 have off:∀i,p∉fp1 i:=fun i z=>x.rel.off i p z (.inr hp);have alp:∀q,H1 q≠none->upd H1 p o q≠none:=fun q z=>by
  by_cases e:q=p
  .subst e; rw[AU]; simp
  .rw[AB e]; exact z
 have k:Kept (fun q=>q=p) H1 (upd H1 p o):=fun b u e c=>by
  by_cases hb:b=p
  .subst hb
   rcases c with c|c
   .exact absurd rfl c
   .rw[hy] at e; cases e; cases c
  .rw[AB hb]; exact e
 refine⟨⟨x.rel.len,fun i st a e=>?_,x.rel.out,x.rel.nd,x.rel.inj,x.rel.off,fun q z=>alp q (x.rel.al q z)⟩,x.nd,x.lo,x.new,fun b u e c=>?_,x.ln,x.stab⟩
 .obtain⟨v,e1,q⟩:=x.rel.slot i st a e
  exact⟨v,e1,q.tr (M:=fun q=>q=p) (fun b z=>by rw[z]; exact .inr (.inr hp)) k (fun b z=>.inl z) fun b hb z=>off i (z ▸ hb)⟩
 .have hb:b≠p:=fun z=>by rw[z,hn] at e; cases e
  rw[AB hb];exact x.kept b u e c
theorem Dy{p:Addr}{o:HO}{ys:List V}(hy:H p=some (.lst ys)):Kept (fun q=>q=p) H (upd H p o):=fun b u e c=>by
 by_cases hb:b=p
 .subst hb
  rcases c with c|c
  .exact absurd rfl c
  .rw[hy] at e; cases e; cases c
 .rw[AB hb]; exact e
theorem Post.ds{vs:List V}{ds:List D}(x:Post K O fp H Z Z1 σ σ1 L fp1 H1)(q:Ay (NN fp O) H vs ds):Ay (NN fp1 (ad O L)) H1 vs ds:=
 q.tr (M:=Fp fp) (fun p z=>.inl z) x.kept fun p z=>by
  rcases z with z|z|z
  .exact(x.new p (.inr z)).imp (fun y=>.inl y) id
  .exact .inl (.inr z)
  .exact(x.new p (.inl z)).imp (fun y=>.inl y) id
theorem Ft:∀{vs ws:List V} {ds es:List D},Ay N H vs ds->Ay N H ws es->Ay N H (vs++ws) (ds++es)
 | [],_,[],_,_,q=>q
 | [],_,_::_,_,r,_=>by simp only[Ay] at r
 | _::_,_,[],_,r,_=>by simp only[Ay] at r
 | v::vs,ws,d::ds,es,r,q=>⟨r.1,Ft r.2 q⟩
def Pq{n:Nat}{d:D}{bs:List D}{x:V}(q:RepA N H x d)(e:Mp n d=some bs):∃vs,Xy K n x H vs/\Ay N H vs bs:=by
 cases n with
 | zero =>
  simp only[Mp,Option.some.injEq] at e;subst e;exact⟨[x],rfl,q,trivial⟩
 | succ n =>
  simp only[Mp] at e;cases d with
  | tup ds =>
   dsimp only at e;split at e
   .rename_i hl
    cases e;cases q with
    | tup h hz hl' hr=>exact⟨_,⟨_,rfl,.inl (.inl h),by rw[hl']; exact hl⟩,Ay.mk hl' hr⟩
   .cases e
  | _=>simp at e
def PN{r:R}{v:V}{a:A}{n:Option Nat}{Lt:List Addr}(hn:n=nameOf r)(hr:Rel K Z1 σ H1 (ad O L) fp1)(q:RR K (NN fp1 (ad O L)) H1 σ v r L)(e:peek Z1 r=some a)(p:Post K (ad O L) fp1 H1 (J.lock Z1 n) Z2 σ σ2 Lt fp2 H2):
  ∃L',Ar K (NN fp2 (ad (ad O L) Lt)) H2 v a L':=by
 cases r with
 | val b =>
  simp only[peek,Option.some.injEq] at e;subst e;refine⟨L,Ar.tr (M:=Fp fp1) (fun p z=>.inl z) p.kept (fun x z=>?_) (fun x hx z=>?_) q⟩
  .rcases z with z|z|z
   .exact(p.new x (.inr z)).imp (fun y=>.inl y) id
   .exact .inl (.inr z)
   .exact(p.new x (.inl z)).imp (fun y=>.inl y) id
  .obtain⟨i,hi⟩:=z
   exact hr.off i x hi (.inr hx)
 | ref i =>
  subst hn;simp only[peek] at e;split at e
  .rename_i st b hb
   cases e;obtain⟨a',e2,es,ea⟩:=p.stab i .ro a (by rw[Fm,hb]; simp[nameOf]) (by decide);cases ea rfl;obtain⟨v',h1,h2⟩:=p.rel.slot i _ _ e2;rw[es,q.2] at h1;cases h1;exact⟨_,h2⟩
  .cases e
def Jr{it:MI}{pat:Nat}{c:MT}{e:ME}{Q:VK}(h:tE K (Bh it pat c e) σ H Q):tLc (tI K it) (Xy K pat) (tT K c) (tE K e) σ H Q:=by
 obtain⟨Z,O,fp,rl,x,Z',h0,k⟩:=h;simp only[Bh,bind_eq_some_iff] at h0;obtain⟨⟨ds,n,Z1⟩,e1,h0⟩:=h0;split at h0
 case isFalse=>cases h0
 rename_i hz;simp only[map_eq_some_iff] at h0;obtain⟨⟨es,Z8⟩,e2,e3⟩:=h0;cases e3;refine⟨Z,O,fp,rl,ds,n,Z1,e1,fun J H1 yy acc hacc=>?_⟩;obtain⟨r,v,a,L,fp1,p1,q1,hn,ha,hJ⟩:=yy;have hlk:∀i,n=some i->∃st,Z1[i]? = some (some (st,a)):=fun i hi=>by
  rw[hn] at hi;cases r with
  | val b=>simp[nameOf] at hi
  | ref j =>
   simp only[nameOf,Option.some.injEq] at hi;subst hi;simp only[peek] at ha;split at ha
   .rename_i st b hb
    cases ha;exact⟨st,hb⟩
   .cases ha
 have rl1:Rel K (lock Z1 n) σ H1 (ad O L) fp1:=p1.rel.lock;have st0:Post K (ad O L) fp1 H1 (lock Z1 n) (lock Z1 n) σ σ [acc] fp1 (upd H1 acc (.lst [])):=rl1.post.more (Dx hacc) (by simp) fun p hp=>by
  have:p=acc:=by simpa using hp
  subst this;exact .inr ⟨hacc,by rw[AU]; simp⟩
 refine⟨fun i m ys H'=>m=ds.length-i/\i<=ds.length/\H' acc=some (.lst ys)/\ys.length<=i/\∃Z' fp' done rest,Post K (ad O L) fp1 H1 (lock Z1 n) Z' σ σ [acc] fp' H'/\Ay (NN fp' (ad (ad O L) [acc])) H' ys done/\Gi pat c e (ds.drop i) Z'=some (rest,Z8)/\es=done++rest,
  ⟨ds.length,by simp,Nat.zero_le _,AU,by simp,lock Z1 n,fp1,[],es,st0,trivial,by simpa using e2,rfl⟩,?_⟩
 rintro i m ys H2 ⟨rfl,hi,hy,hyl,Z2,fp2,done,rest,p2,qd,e2,ees⟩;refine⟨hy,?_⟩;obtain⟨L',src⟩:=PN hn p1.rel q1 ha p2;have offacc:∀j,acc∉fp2 j:=fun j z=>p2.rel.off j acc z (.inr (by simp));by_cases hlt:i<ds.length
 .obtain⟨go,stop,yld⟩:=hJ _ _ ⟨⟨L',src⟩,fun _ _ h=>p2.kept _ _ h (.inr rfl),fun _ _ q=>p2.stayT q⟩
  refine .inr ⟨go i hlt,fun x H3 y=>?_⟩;have hd:ds[i]? = some ds[i]:=by simp[hlt]
  obtain⟨sm,qx0⟩:=yld i x H3 _ y hd;have qx:RepA (NN fp2 (ad (ad O L) [acc])) H3 x ds[i]:=qx0;have p3:Post K (ad O L) fp1 H1 (lock Z1 n) Z2 σ σ [acc] fp2 H3:=p2.more sm p2.nd fun p hp=>.inl hp;have hy3:H3 acc=some (.lst ys):=sm _ _ hy;have qd3:Ay (NN fp2 (ad (ad O L) [acc])) H3 ys done:=qd.tr (M:=fun _=>False) (fun _ z=>z.elim) (Cu.kept sm) fun p z=>.inl z;rw[List.drop_eq_getElem_cons hlt] at e2;simp only[Gi,bind_eq_some_iff] at e2;obtain⟨bs,eb,⟨b,Z3⟩,ec,e4⟩:=e2;obtain⟨vs,hu,hvs⟩:=Pq (K:=K) qx eb;have rb:=p3.rel.block hvs;refine⟨vs,hu,_,_,_,rb,b,Z3,ec,fun fp4 H4 p4=>?_⟩;have keep:∀{Z5:Ro} {fp5:Nat->List Addr} {H5:Hp},Post K (ad (ad O L) [acc]) (sh bs.length fp2) H3 (bs.map own++Z2) Z5 (vs.map some++σ) (vs.map some++σ) [] fp5 H5 ->
    H5 acc=some (.lst ys)/\Post K (ad O L) fp1 H1 (lock Z1 n) (Z5.drop bs.length) σ σ [acc] (fun j=>fp5 (j+bs.length)) H5/\Ay (NN (fun j=>fp5 (j+bs.length)) (ad (ad O L) [acc])) H5 ys done:=fun {Z5 fp5 H5} p5=>by
   have u:=p5.unblock hvs.len;refine⟨p5.kept _ _ hy3 (.inl fun z=>?_),p3.then u,MU (fun p z=>Gy.mpr z) (u.ds qd3)⟩;obtain⟨j,z⟩:=Nf.mp z;exact offacc j z
  cases b with
  | false =>
   simp only[Bool.false_eq_true,if_false] at e4;dsimp only;rw[if_neg Bool.false_ne_true];obtain⟨h1,h2,h3⟩:=keep p4;exact⟨ds.length-(i+1),by lia,rfl,hlt,h1,by lia,_,_,done,rest,h2,h3,e4,ees⟩
  | true =>
   simp only[if_true,bind_eq_some_iff,map_eq_some_iff] at e4;obtain⟨⟨r5,Z5⟩,e5,⟨d6,Z6⟩,e6,⟨rest',Z7⟩,e7,e8⟩:=e4;cases e8;dsimp only;rw[if_pos rfl];refine⟨Z3,_,fp4,p4.rel0,r5,Z5,e5,fun y H5 yy=>?_⟩;obtain⟨L5,fp5,p5,q5⟩:=yy;obtain⟨fp6,p6,q6⟩:=FW p5 q5 e6;obtain⟨h1,h2,h3⟩:=keep (p4.next p6);have hacc1:H1 acc=none:=hacc;refine⟨h1,Nat.lt_of_lt_of_le (Nat.lt_of_le_of_lt hyl hlt) hz,ds.length-(i+1),by lia,rfl,hlt,AU,by simp; lia,_,_,done++[d6],rest',h2.updT (by simp) hacc1 h1,?_,e7,by rw[ees]; simp⟩;have tr:∀{ws:List V} {fs:List D},Ay (NN (fun j=>fp6 (j+bs.length)) (ad (ad O L) [acc])) H5 ws fs->Ay (NN (fun j=>fp6 (j+bs.length)) (ad (ad O L) [acc])) (upd H5 acc (.lst (ys++[y]))) ws fs:=fun q =>
    q.tr (M:=fun q=>q=acc) (fun b z=>by rw[z]; exact .inr (.inr (by simp))) (Dy h1) fun p z=>.inl z
   refine tr (Ft h3 ⟨DT (fun p z=>?_) q6,trivial⟩);exact Gy.mpr (z.imp (fun⟨j,q⟩=>⟨_,q⟩) id)
 .have:i=ds.length:=by lia
  subst this;obtain⟨go,stop,yld⟩:=hJ _ _ ⟨⟨L',src⟩,fun _ _ h=>p2.kept _ _ h (.inr rfl),fun _ _ q=>p2.stayT q⟩;simp only[List.drop_length,Gi,Option.some.injEq,Prod.mk.injEq] at e2;obtain⟨rfl,rfl⟩:=e2;refine .inl ⟨stop _ (Nat.le_refl _),k _ _ ?_⟩;have p3:=(p1.then (p2.unlock hlk)).drop;refine⟨[acc],fp2,p3,?_⟩;show Ar _ _ _ _ _ _;rw[Ar];rw[List.append_nil] at ees;subst ees;refine⟨acc,ys,[],rfl,rfl,hy,Nat.le_trans hyl hz,Ap.of (MU (fun p z=>?_) qd)⟩;rcases z with z|z|z
  .exact .inl z
  .exact .inr (.inl (.inl z))
  .exact .inr (.inr z)
end
def GF:List (Own×A)->List A->Ro
 | (st,_)::args,a::as=>(if st=.own then none else some (st,a))::GF args as
 | [],_=>[]
 | _::_,[]=>[]
def XD(K:Frag)(O:Addr->Prop)(fp:Nat->List Addr)(H:Hp)(args:List (Own×A))(as':List A)(vs:List V)(a:A)(v:V)(H':Hp):Prop:=
 ∃L fp',Post K O fp H (args.map some) (GF args as') (vs.map some) (vs.map some) L fp' H'/\Ar K (NN fp' (ad O L)) H' v a L
def spJ(K:Frag)(Φ:Fn)(np:Nat):Sp:=fun vs H Q _=>∃args O fp,vs.length=np/\Rel K (args.map some) (vs.map some) H O fp/\∃a as',Φ args=some (a,as')/\∀v H',XD K O fp H args as' vs a v H'->Q v H'
theorem Ka:∀{args:List (Own×A)} {as:List A} {j:Nat} {st:Own} {a:A},(GF args as)[j]? = some (some (st,a))->∃a0,args[j]? = some (st,a0)/\st≠.own/\as[j]? = some a
 | [],_,j,st,a,h=>by simp[GF] at h
 | _::_,[],j,st,a,h=>by simp[GF] at h
 | (st0,a0)::args,b::as,0,st,a,h=>by
  simp only[GF,List.getElem?_cons_zero,Option.some.injEq] at h;split at h
  .cases h
  .rename_i hs
   cases h;exact⟨a0,rfl,hs,rfl⟩
 | (st0,a0)::args,b::as,j+1,st,a,h=>by
  simp only[GF,List.getElem?_cons_succ] at h;obtain⟨a1,h1,h2,h3⟩:=Ka h;exact⟨a1,by simpa using h1,h2,by simpa using h3⟩
theorem JL:∀{args:List (Own×A)} {as:List A} {j:Nat} {st:Own} {a0 a:A},args[j]? = some (st,a0)->st≠.own->as[j]? = some a->(GF args as)[j]? = some (some (st,a))
 | [],_,j,st,a0,a,h,_,_=>by simp at h
 | _::_,[],j,st,a0,a,_,_,h=>by simp at h
 | (st0,b0)::args,b::as,0,st,a0,a,h,hs,h2=>by
  simp at h h2;obtain⟨rfl,rfl⟩:=h;subst h2;simp[GF,hs]
 | (st0,b0)::args,b::as,j+1,st,a0,a,h,hs,h2=>by
  simp only[GF,List.getElem?_cons_succ];exact JL (by simpa using h) hs (by simpa using h2)
theorem Kb:∀{args:List (Own×A)} {as:List A},(GF args as).length=min args.length as.length
 | [],_=>by simp[GF]
 | _::_,[]=>by simp[GF]
 | (st,_)::args,a::as=>by simp[GF,Kb]
section
variable{K:Frag}{Z Z' Z1 Z2:Ro}{σ σ' σ1 σ2:St}{H H' H1 H2:Hp}{O O' N:Addr->Prop}{fp fp' fp1 fp2:Nat->List Addr}{L L1:List Addr}
def NJ{args:List (Own×A)}{vs:List V}{n:Nat}(hl:vs.length=args.length)(x:Post K O fp H (args.map some++List.replicate n none) Z' (vs.map some++List.replicate n none) σ' L fp' H'):
  ∃fp2,Post K O fp H (args.map some) (GF args ((Z'.take args.length).map Hn)) (vs.map some) (vs.map some) L fp2 H'/\∀p,NN fp2 (ad O L) p->NN fp' (ad O L) p:=by
 have hlen:args.length <= Z'.length:=by
  have:=x.rel.len;have:=x.ln;simp at this;lia
 have a0:∀{j:Nat} {st:Own} {a:A},args[j]? = some (st,a)->(args.map some++List.replicate n (none:Slot))[j]? = some (some (st,a)):=fun {j st a} e=>by
  rw[List.getElem?_append_left (by simpa using AK e),List.getElem?_map,e]; rfl
 have v0:∀{j:Nat},j<args.length->(vs.map some++List.replicate n (none:Option V))[j]? = (vs.map some)[j]?:=fun {j} h=>by
  rw[List.getElem?_append_left (by rw[List.length_map,hl]; exact h)]
 -- where a lent name stands
 have key:∀{j:Nat} {st:Own} {a:A},args[j]? = some (st,a)->st≠.own->∃a',Z'[j]? = some (some (st,a'))/\σ'[j]? = (vs.map some)[j]?/\(st=.ro->a'=a)/\((Z'.take args.length).map Hn)[j]? = some a':=fun {j st a} e h=>by
  obtain⟨a',e1,e2,e3⟩:=x.stab j st a (a0 e) h;refine⟨a',e1,by rw[e2,v0 (AK e)],e3,?_⟩;rw[List.getElem?_map,List.getElem?_take_of_lt (AK e),e1];rfl
 let fp2:Nat->List Addr:=fun j=>match (GF args ((Z'.take args.length).map Hn))[j]? with
  | some (some _)=>fp' j
  | _=>[]
 have sub:∀j p,p∈fp2 j->p∈fp' j/\∃st a,(GF args ((Z'.take args.length).map Hn))[j]? = some (some (st,a)):=fun j p h=>by
  simp only[fp2] at h;split at h
  .rename_i y e
   exact⟨h,y.1,y.2,e⟩
  .simp at h
 have nn:∀p,NN fp2 (ad O L) p->NN fp' (ad O L) p:=fun p z=>z.imp (fun⟨j,q⟩=>⟨j,(sub j p q).1⟩) id;refine⟨fp2,⟨⟨?_,fun j st a e=>?_,fun j h=>?_,fun j=>?_,fun i j p h1 h2=>x.rel.inj i j p (sub i p h1).1 (sub j p h2).1,fun j p h=>x.rel.off j p (sub j p h).1,fun p z=>x.rel.al p (nn p z)⟩,x.nd,x.lo,fun p hp=>x.new p (hp.imp id fun⟨j,q⟩=>⟨j,(sub j p q).1⟩),x.kept,rfl,fun j st a e h=>?_⟩,nn⟩
 .rw[Kb]; simp[hl]; lia
 .obtain⟨a0,e1,e2,e3⟩:=Ka e
  obtain⟨a',e4,e5,_,e6⟩:=key e1 e2;rw[e3] at e6; cases e6;obtain⟨v,e7,q⟩:=x.rel.slot j st a e4;refine⟨v,by rw[<- e5]; exact e7,?_⟩;have:fp2 j=fp' j:=by simp only[fp2,e]
  rw[this];exact Ei nn q
 .simp only[fp2]
  split
  .rename_i y e
   exact absurd e (h y.1 y.2)
  .rfl
 .simp only[fp2]
  split
  .exact x.rel.nd j
  .exact List.nodup_nil
 .rw[List.getElem?_map] at e
  cases q:args[j]? with
  | none=>rw[q] at e; cases e
  | some y =>
   rw[q] at e;cases e;obtain⟨a',e4,e5,e6,e7⟩:=key q h;exact⟨a',JL q h e7,rfl,e6⟩
def Rel.start{args:List (Own×A)}{vs:List V}(r:Rel K (args.map some) (vs.map some) H O fp)(n:Nat):Rel K (args.map some++List.replicate n none) (vs.map some++List.replicate n none) H O fp where
 len:=by have:=r.len; simp at this |-; exact this
 slot:=fun i st a e=>by
  by_cases hi:i<args.length
  .rw[List.getElem?_append_left (by simpa using hi)] at e
   obtain⟨v,e1,q⟩:=r.slot i st a e;exact⟨v,by rw[List.getElem?_append_left (by simpa using AK e1)]; exact e1,q⟩
  .rw[List.getElem?_append_right (by simpa using hi),List.getElem?_replicate] at e
   split at e<;>cases e
 out:=fun i h=>r.out i fun st a e=>h st a (by rw[List.getElem?_append_left (by simpa using AK e)]; exact e)
 nd:=r.nd
 inj:=r.inj
 off:=r.off
 al:=r.al
def LH{np nn:Nat}{b:MS}{vs:List V}{Q:VK}{E:XK}(h:spJ K (fnM np nn b) np vs H Q E):tS K b { nx:=fun _ H'=>Q .non H',rt:=Q } (vs.map some++List.replicate (nn-np) none) H:=by
 obtain⟨args,O,fp,hl,rl,a,as',e,k⟩:=h;have hl2:vs.length=args.length:=by have:=rl.len; simp at this; exact this.symm
 simp only[fnM] at e;split at e
 .rename_i ha
  simp only[bind_eq_some_iff] at e;obtain⟨f,e1,e2⟩:=e;refine⟨_,O,fp,rl.start (nn-np),f,e1,?_⟩;cases f with
  | next Z' =>
   cases e2;intro σ' fp' H' p;obtain⟨fp2,p2,_⟩:=NJ hl2 p;rw[ha] at p2;exact k _ _ ⟨[],fp2,p2,F8 .non⟩
  | ret b Z' =>
   cases e2;intro σ' v L fp' H' p q;obtain⟨fp2,p2,n2⟩:=NJ hl2 p;rw[ha] at p2;exact k _ _ ⟨L,fp2,p2,Ei n2 q⟩
  | brk Z'=>cases e2
  | cnt Z'=>cases e2
 .cases e
def RRs.split:∀{rs:List R} {vs:List V} {L:List Addr},RRs K N H σ vs rs L->L.Nodup->∃Ls:Nat->List Addr,(∀j v r,vs[j]? = some v->rs[j]? = some r->RR K N H σ v r (Ls j))/\(∀j p,p∈Ls j->p∈L)/\(∀j,(Ls j).Nodup) /\
  (∀i j p,p∈Ls i->p∈Ls j->i=j)/\vs.length=rs.length/\∀j,rs.length<=j->Ls j=[]:=by
 intro _l;induction _l with
 | nil =>
  intro _m;cases _m with
  | nil =>
   intro L q nd;exact⟨fun _=>[],fun j v r h=>by simp at h,fun j p h=>by simp at h,fun _=>List.nodup_nil,fun i j p h=>by simp at h,rfl,fun _ _=>rfl⟩
  | cons _ _ =>
   intro _ q _;simp only[RRs] at q
 | cons r rs ih =>
  intro _m;cases _m with
  | nil =>
   intro _ q _;simp only[RRs] at q
  | cons v vs =>
   intro L q nd;simp only[RRs] at q;obtain⟨L1,L2,rfl,q1,q2⟩:=q;obtain⟨n1,n2,n3⟩:=List.nodup_append.mp nd;obtain⟨Ls,h1,h2,h3,h4,h5,h6⟩:=ih q2 n2;refine⟨fun j=>match j with|0=>L1|j+1=>Ls j,fun j w s e1 e2=>?_,fun j p h=>?_,fun j=>?_,fun i j p e1 e2=>?_,by simp[h5],fun j hj=>?_⟩
   .cases j with
    | zero=>simp at e1 e2; subst e1; subst e2; exact q1
    | succ j=>exact h1 j w s (by simpa using e1) (by simpa using e2)
   .cases j with
    | zero=>exact List.mem_append_left _ h
    | succ j=>exact List.mem_append_right _ (h2 j p h)
   .cases j with
    | zero=>exact n1
    | succ j=>exact h3 j
   .cases i with
    | zero =>
     cases j with
     | zero=>rfl
     | succ j=>exact absurd rfl (n3 p e1 p (h2 j p e2))
    | succ i =>
     cases j with
     | zero=>exact absurd rfl (n3 p e2 p (h2 i p e1))
     | succ j=>rw[h4 i j p e1 e2]
   .cases j with
    | zero=>simp at hj
    | succ j=>exact h6 j (by simpa using hj)
theorem Fo:∀{rs:List R} {j i:Nat},rs[j]? = some (.ref i)->i∈refs rs
 | [],j,i,h=>by simp at h
 | .ref k::rs,0,i,h=>by simp at h; subst h; simp[refs]
 | .val a::rs,0,i,h=>by simp at h
 | .ref k::rs,j+1,i,h=>by simp only[refs]; exact List.mem_cons_of_mem _ (Fo (by simpa using h))
 | .val a::rs,j+1,i,h=>by simp only[refs]; exact Fo (by simpa using h)
theorem Kh:∀{rs:List R},(refs rs).Nodup->∀{i j k:Nat},rs[i]? = some (.ref k)->rs[j]? = some (.ref k)->i=j
 | [],_,i,j,k,h,_=>by simp at h
 | .val a::rs,nd,0,_,_,h,_=>by simp at h
 | .val a::rs,nd,_+1,0,_,_,h=>by simp at h
 | .val a::rs,nd,i+1,j+1,k,h1,h2=>by
  have e:=Kh (rs:=rs) nd (i:=i) (j:=j) (k:=k) (by simpa using h1) (by simpa using h2);rw[e]
 | .ref a::rs,nd,0,0,_,_,_=>rfl
 | .ref a::rs,nd,0,j+1,k,h1,h2=>by
  simp at h1; subst h1;simp only[refs,List.nodup_cons] at nd;exact absurd (Fo (by simpa using h2)) nd.1
 | .ref a::rs,nd,i+1,0,k,h1,h2=>by
  simp at h2; subst h2;simp only[refs,List.nodup_cons] at nd;exact absurd (Fo (by simpa using h1)) nd.1
 | .ref a::rs,nd,i+1,j+1,k,h1,h2=>by
  simp only[refs,List.nodup_cons] at nd;have e:=Kh (rs:=rs) nd.2 (i:=i) (j:=j) (k:=k) (by simpa using h1) (by simpa using h2);rw[e]
def Ko{i k:Nat}{a:A}:(ON Z k a)[i]? = if i=k then (match Z[i]? with|some (some (st,_))=>some (some (st,a))|x=>x) else Z[i]?:=by
 unfold ON;split
 .rename_i st b e
  by_cases h:i=k
  .subst h
   rw[List.getElem?_set_self (AK e),if_pos rfl,e]
  .rw[List.getElem?_set_ne (Ne.symm h),if_neg h]
 .rename_i hn
  by_cases h:i=k
  .subst h
   rw[if_pos rfl];split
   .rename_i st b e
    exact absurd e (hn st b)
   .rfl
  .rw[if_neg h]
theorem Fh:∀{rs:List R} {as:List A} {Z:Ro} {i:Nat},i∉refs rs->(back rs as Z)[i]? = Z[i]?
 | [],as,Z,i,_=>by cases as<;>rfl
 | .ref k::rs,[],Z,i,_=>rfl
 | .val k::rs,[],Z,i,_=>rfl
 | .ref k::rs,a::as,Z,i,h=>by
  simp only[refs,List.mem_cons,not_or] at h;simp only[back];rw[Fh h.2,Ko,if_neg h.1]
 | .val k::rs,a::as,Z,i,h=>by
  simp only[refs] at h;simp only[back];exact Fh h
theorem Hz:∀{rs:List R} {as:List A} {Z:Ro} {i j:Nat} {st:Own} {b a:A},(refs rs).Nodup->rs[j]? = some (.ref i)->as[j]? = some a -> Z[i]? = some (some (st,b))->(back rs as Z)[i]? = some (some (st,a))
 | [],as,Z,i,j,st,b,a,_,h,_,_=>by simp at h
 | _::_,[],Z,i,j,st,b,a,_,_,h,_=>by simp at h
 | .ref k::rs,c::as,Z,i,0,st,b,a,nd,h1,h2,h3=>by
  simp at h1 h2;subst h1; subst h2;simp only[refs,List.nodup_cons] at nd;simp only[back];rw[Fh nd.1,Ko,if_pos rfl,h3]
 | .val k::rs,c::as,Z,i,0,st,b,a,nd,h1,h2,h3=>by simp at h1
 | .ref k::rs,c::as,Z,i,j+1,st,b,a,nd,h1,h2,h3=>by
  simp only[refs,List.nodup_cons] at nd;simp only[back];have hk:i≠k:=by
   rintro rfl;exact nd.1 (Fo (by simpa using h1))
  exact Hz nd.2 (by simpa using h1) (by simpa using h2) (by rw[Ko,if_neg hk]; exact h3)
 | .val k::rs,c::as,Z,i,j+1,st,b,a,nd,h1,h2,h3=>by
  simp only[refs] at nd;simp only[back];exact Hz nd (by simpa using h1) (by simpa using h2) h3
theorem Jt:∀{rs:List R} {as:List A} {Z:Ro},(back rs as Z).length=Z.length
 | [],as,Z=>by cases as<;>rfl
 | .ref k::rs,[],Z=>rfl
 | .val k::rs,[],Z=>rfl
 | .ref k::rs,a::as,Z=>by
  simp only[back];rw[Jt];unfold ON;split<;>simp
 | .val k::rs,a::as,Z=>by simp only[back]; exact Jt
def args_get:∀{rs:List R} {args:List (Own×A)},Dj Z rs=some args->args.length=rs.length/\∀(j:Nat) (r:R),rs[j]? = some r->∃y,args[j]? = some y/\Gg Z r=some y:=by
 intro _l;induction _l with
 | nil =>
  intro args h;simp only[Dj,Option.some.injEq] at h;subst h;exact⟨rfl,fun j r h=>by simp at h⟩
 | cons r rs ih =>
  intro args h;simp only[Dj,bind_eq_some_iff,map_eq_some_iff] at h;obtain⟨y,h1,ys,h2,rfl⟩:=h;obtain⟨e1,e2⟩:=ih h2;refine⟨by simp[e1],fun j s hj=>?_⟩;cases j with
  | zero=>simp at hj; subst hj; exact⟨y,rfl,h1⟩
  | succ j=>exact e2 j s (by simpa using hj)
def Fg{i:Nat}{y:Own×A}(h:Gg Z (.ref i)=some y):∃st,Z[i]? = some (some (st,y.2))/\y.1≠.own/\(st=.ro->y.1=.ro):=by
 simp only[Gg] at h;split at h
 .rename_i a e
  cases h;exact⟨_,e,fun z=>(by cases z),fun _=>rfl⟩
 .rename_i st a hn e
  cases h;refine⟨_,e,fun z=>(by cases z),fun z=>?_⟩
  exact(hn z).elim
 .cases h
end
section
variable{K:Frag}{Z Z' Z1 Z2:Ro}{σ σ' σ1 σ2:St}{H H' H1 H2:Hp}{O O' N:Addr->Prop}{fp fp' fp1 fp2:Nat->List Addr}{L L1:List Addr}
def fpC(rs:List R)(Ls fp1:Nat->List Addr):Nat->List Addr:=fun j=>match rs[j]? with
 | some (.val _)=>Ls j
 | some (.ref i)=>fp1 i
 | none=>[]
def ixR(rs:List R)(i:Nat):Option Nat:=rs.findIdx? fun r=>match r with
 | .ref k=>k==i
 | .val _=>false
def HK{rs:List R}{i j:Nat}(h:ixR rs i=some j):rs[j]? = some (.ref i):=by
 unfold ixR at h;obtain⟨hj,h1,_⟩:=List.findIdx?_eq_some_iff_getElem.mp h;cases e:rs[j] with
 | val a=>rw[e] at h1; simp at h1
 | ref k =>
  rw[e] at h1;have:k=i:=by simpa using h1
  subst this;rw[List.getElem?_eq_getElem hj,e]
def HJ{rs:List R}{i:Nat}(h:ixR rs i=none):i∉refs rs:=by
 unfold ixR at h;rw[List.findIdx?_eq_none_iff] at h;intro hm;have:∀{rs:List R},i∈refs rs->R.ref i∈rs:=by
  intro rs;induction rs with
  | nil=>intro h; simp[refs] at h
  | cons r rs ih =>
   intro h;cases r with
   | val a=>simp only[refs] at h; exact List.mem_cons_of_mem _ (ih h)
   | ref k =>
    simp only[refs,List.mem_cons] at h;rcases h with rfl|h
    .exact List.mem_cons_self
    .exact List.mem_cons_of_mem _ (ih h)
 have:=h _ (this hm);simp at this
def PU{Φ:Fn}{np:Nat}{m:MA}{Q:VK}{E:XK}(hnp:∀args y,Φ args=some y->args.length=np)(h:tE K (Ao Φ m) σ H Q):Lr (spJ K Φ np) [] E (tA K m) σ H Q:=by
 obtain⟨Z,O,fp,rl,x,Z',e,k⟩:=h;simp only[Ao,bind_eq_some_iff] at e;obtain⟨⟨rs,Z1⟩,e1,args,e2,e3⟩:=e;split at e3
 case isFalse=>cases e3
 rename_i hnd;simp only[map_eq_some_iff] at e3;obtain⟨⟨a,as'⟩,e3,e4⟩:=e3;cases e4;refine⟨Z,O,fp,rl,rs,Z1,e1,fun vs H1 yy=>?_⟩;obtain⟨L,fp1,p,q⟩:=yy;obtain⟨Ls,s1,s2,s3,s4,s5,s6⟩:=q.split p.nd;obtain⟨g1,g2⟩:=args_get e2;rw[List.append_nil];have rs_of:∀{j:Nat} {y:Own×A},args[j]? = some y->∃r v,rs[j]? = some r/\vs[j]? = some v/\Gg Z1 r=some y:=fun {j y} hy=>by
  have hj:j<rs.length:=by rw[<- g1]; exact AK hy
  obtain⟨y',h1,h2⟩:=g2 j rs[j] (by simp[hj]);rw[hy] at h1; cases h1;exact⟨rs[j],vs[j]'(by rw[s5]; exact hj),by simp[hj],by simp,h2⟩
 -- what goes with the call
 have fpc:∀j pp,pp∈fpC rs Ls fp1 j->(∃a,rs[j]? = some (.val a)/\pp∈Ls j)\/(∃i,rs[j]? = some (.ref i)/\pp∈fp1 i):=fun j pp hp=>by
  unfold fpC at hp;split at hp
  .rename_i a e; exact .inl ⟨a,e,hp⟩
  .rename_i i e; exact .inr ⟨i,e,hp⟩
  .simp at hp
 have cN:∀pp,Fp (fpC rs Ls fp1) pp->NN fp1 (ad O L) pp:=fun pp ⟨j,hp⟩=>by
  rcases fpc j pp hp with ⟨_,_,hp⟩|⟨i,_,hp⟩
  .exact .inr (.inr (s2 j pp hp))
  .exact .inl ⟨i,hp⟩
 have oN:∀pp,O pp->¬Fp (fpC rs Ls fp1) pp:=fun pp ho ⟨j,hp⟩=>by
  rcases fpc j pp hp with ⟨_,_,hp⟩|⟨i,_,hp⟩
  .exact p.lo pp (s2 j pp hp) ho
  .exact p.rel.off i pp hp (.inl ho)
 have kN:∀i pp,pp∈fp1 i->i∉refs rs->¬Fp (fpC rs Ls fp1) pp:=fun i pp hp hi ⟨j,hq⟩=>by
  rcases fpc j pp hq with ⟨_,_,hq⟩|⟨i',hr,hq⟩
  .exact p.rel.off i pp hp (.inr (s2 j pp hq))
  .have:=p.rel.inj i i' pp hp hq
   subst this;exact hi (Fo hr)
 let OC:Addr->Prop:=fun pp=>NN fp1 (ad O L) pp/\¬Fp (fpC rs Ls fp1) pp
 have cNN:∀pp,NN (fpC rs Ls fp1) OC pp->NN fp1 (ad O L) pp:=fun pp z=>z.elim (cN pp) fun z=>z.1;have relC:Rel K (args.map some) (vs.map some) H1 OC (fpC rs Ls fp1):=by
  refine⟨by simp[g1,s5],fun j st b hb=>?_,fun j h=>?_,fun j=>?_,fun i j pp h1 h2=>?_,fun j pp hp z=>z.2 ⟨j,hp⟩,fun pp z=>p.rel.al pp (cNN pp z)⟩
  .rw[List.getElem?_map] at hb
   cases hy:args[j]? with
   | none=>rw[hy] at hb; cases hb
   | some y =>
    rw[hy] at hb;cases hb;obtain⟨r,v,hr,hv,ha⟩:=rs_of hy;refine⟨v,by rw[List.getElem?_map,hv]; rfl,Ei cNN ?_⟩;have q1:=s1 j v r hv hr;cases r with
    | val c =>
     simp only[Gg,Option.some.injEq] at ha;cases ha;have:fpC rs Ls fp1 j=Ls j:=by simp[fpC,hr]
     rw[this];exact q1
    | ref i =>
     obtain⟨st',h1,h2,_⟩:=Fg ha;obtain⟨v',h3,h4⟩:=p.rel.slot i _ _ h1;rw[q1.2] at h3; cases h3;have:fpC rs Ls fp1 j=fp1 i:=by simp[fpC,hr]
     rw[this];exact h4
  .unfold fpC
   split
   .rename_i c e
    obtain⟨y,hy,_⟩:=g2 j _ e;exact absurd (by rw[List.getElem?_map,hy]; rfl) (h y.1 y.2)
   .rename_i c e
    obtain⟨y,hy,_⟩:=g2 j _ e;exact absurd (by rw[List.getElem?_map,hy]; rfl) (h y.1 y.2)
   .rfl
  .unfold fpC
   split
   .exact s3 j
   .exact p.rel.nd _
   .exact List.nodup_nil
  .rcases fpc i pp h1 with ⟨c1,r1,z1⟩|⟨i1,r1,z1⟩
   .rcases fpc j pp h2 with ⟨c2,r2,z2⟩|⟨i2,r2,z2⟩
    .exact s4 i j pp z1 z2
    .exact absurd (.inr (s2 i pp z1)) (p.rel.off i2 pp z2)
   .rcases fpc j pp h2 with ⟨c2,r2,z2⟩|⟨i2,r2,z2⟩
    .exact absurd (.inr (s2 j pp z2)) (p.rel.off i1 pp z1)
    .have:=p.rel.inj i1 i2 pp z1 z2
     subst this;exact Kh hnd r1 r2
 refine⟨args,OC,fpC rs Ls fp1,by rw[s5,<- g1]; exact hnp _ _ e3,relC,a,as',e3,fun v H2 ⟨L',fpD,pc,qc⟩=>k v H2 ?_⟩
 -- behind the call
 have hlen:rs.length<=as'.length:=by
  have:=pc.rel.len;rw[Kb] at this;simp at this;lia
 let fp2:Nat->List Addr:=fun i=>match ixR rs i with
  | some j=>fpD j
  | none=>fp1 i
 have fp2c:∀i pp,pp∈fp2 i->(∃j,rs[j]? = some (.ref i)/\pp∈fpD j)\/(i∉refs rs/\pp∈fp1 i):=fun i pp hp=>by
  simp only[fp2] at hp;split at hp
  .rename_i j e; exact .inl ⟨j,HK e,hp⟩
  .rename_i e; exact .inr ⟨HJ e,hp⟩
 have oOC:∀pp,O pp->OC pp:=fun pp z=>⟨.inr (.inl z),oN pp z⟩;have fOC:∀i pp,pp∈fp1 i->i∉refs rs->OC pp:=fun i pp hp hi=>⟨.inl ⟨i,hp⟩,kN i pp hp hi⟩;have nD:∀pp,NN fp2 (ad O L') pp->NN fpD (ad OC L') pp:=fun pp z=>by
  rcases z with ⟨i,z⟩|z|z
  .rcases fp2c i pp z with ⟨j,_,z⟩|⟨hi,z⟩
   .exact .inl ⟨j,z⟩
   .exact .inr (.inl (fOC i pp z hi))
  .exact .inr (.inl (oOC pp z))
  .exact .inr (.inr z)
 have hnew:∀pp,(pp∈L'\/Fp fpD pp)->NN fp1 (ad O L) pp\/H1 pp=none:=fun pp z=>(pc.new pp z).imp (cN pp) id;have back1:∀pp,(Fp (fpC rs Ls fp1) pp\/H1 pp=none)->Fp fp pp\/H pp=none:=fun pp z=>by
  rcases z with ⟨j,z⟩|z
  .rcases fpc j pp z with ⟨_,_,z⟩|⟨i,_,z⟩
   .exact p.new pp (.inl (s2 j pp z))
   .exact p.new pp (.inr ⟨i,z⟩)
  .cases e:H pp with
   | none=>exact .inr rfl
   | some o =>
    by_cases hf:Fp fp pp
    .exact .inl hf
    .rw[p.kept pp o e (.inl hf)] at z; cases z
 have slot2:∀i st b,(back rs as' Z1)[i]? = some (some (st,b))->(∃j,ixR rs i=some j/\rs[j]? = some (.ref i)/\as'[j]? = some b/\∃c,Z1[i]? = some (some (st,c)))\/(ixR rs i=none/\i∉refs rs/\Z1[i]? = some (some (st,b))):=fun i st b hb=>by
  cases e:ixR rs i with
  | some j =>
   have hr:=HK e;have hj:j<rs.length:=AK hr;obtain⟨y,hy,ha⟩:=g2 j _ hr;obtain⟨st',h1,_,_⟩:=Fg ha;have hb':=Hz (as:=as') (a:=as'[j]'(by lia)) hnd hr (by simp) h1;rw[hb] at hb';cases hb';exact .inl ⟨j,rfl,hr,by simp,_,h1⟩
  | none =>
   have hi:=HJ e;rw[Fh hi] at hb;exact .inr ⟨rfl,hi,hb⟩
 have rel2:Rel K (back rs as' Z1) σ H2 (ad O L') fp2:=by
  refine⟨by rw[Jt]; exact p.rel.len,fun i st b hb=>?_,fun i h=>?_,fun i=>?_,fun i1 i2 pp h1 h2=>?_,fun i pp h z=>?_,fun pp z=>pc.rel.al pp (nD pp z)⟩
  .rcases slot2 i st b hb with ⟨j,ej,hr,hb2,c,hc⟩|⟨ej,hi,hb2⟩
   .obtain⟨y,hy,ha⟩:=g2 j _ hr
    obtain⟨st',h1,h2,_⟩:=Fg ha;obtain⟨v',h3,h4⟩:=pc.rel.slot j _ _ (JL (st:=y.1) (a0:=y.2) hy h2 hb2);have hv:vs[j]? = some v':=by
     rw[List.getElem?_map] at h3;cases e:vs[j]? with
     | none=>rw[e] at h3; cases h3
     | some w=>rw[e] at h3; cases h3; rfl
    have q1:=s1 j v' _ hv hr;have:fp2 i=fpD j:=by simp only[fp2,ej]
    exact⟨v',q1.2,by rw[this]; exact Ei nD h4⟩
   .obtain⟨v',h3,h4⟩:=p.rel.slot i _ _ hb2
    have:fp2 i=fp1 i:=by simp only[fp2,ej]
    refine⟨v',h3,?_⟩;rw[this];refine h4.tr (M:=Fp (fpC rs Ls fp1)) cN pc.kept (fun pp z=>?_) fun pp hp=>kN i pp hp hi;rcases z with ⟨i',z⟩|z|z
    .rcases fp2c i' pp z with ⟨j,_,z⟩|⟨_,z⟩
     .exact hnew pp (.inr ⟨j,z⟩)
     .exact .inl (.inl ⟨i',z⟩)
    .exact .inl (.inr (.inl z))
    .exact hnew pp (.inl z)
  .simp only[fp2]
   split
   .rename_i j ej
    have hr:=HK ej;have hj:j<rs.length:=AK hr;obtain⟨y,hy,ha⟩:=g2 j _ hr;obtain⟨st',h1,_,_⟩:=Fg ha;exact absurd (Hz (as:=as') (a:=as'[j]'(by lia)) hnd hr (by simp) h1) (h _ _)
   .rename_i ej
    exact p.rel.out i fun st b hb=>h st b (by rw[Fh (HJ ej)]; exact hb)
  .simp only[fp2]
   split
   .exact pc.rel.nd _
   .exact p.rel.nd _
  .rcases fp2c i1 pp h1 with ⟨j1,r1,z1⟩|⟨r1,z1⟩
   .rcases fp2c i2 pp h2 with ⟨j2,r2,z2⟩|⟨r2,z2⟩
    .have:=pc.rel.inj j1 j2 pp z1 z2
     subst this;rw[r1] at r2; cases r2; rfl
    .exact absurd (.inl (fOC i2 pp z2 r2)) (pc.rel.off j1 pp z1)
   .rcases fp2c i2 pp h2 with ⟨j2,r2,z2⟩|⟨r2,z2⟩
    .exact absurd (.inl (fOC i1 pp z1 r1)) (pc.rel.off j2 pp z2)
    .exact p.rel.inj i1 i2 pp z1 z2
  .rcases fp2c i pp h with ⟨j,r1,z1⟩|⟨r1,z1⟩
   .exact pc.rel.off j pp z1 (z.imp (oOC pp) id)
   .rcases z with z|z
    .exact p.rel.off i pp z1 (.inl z)
    .exact pc.lo pp z (fOC i pp z1 r1)
 refine⟨L',fp2,⟨rel2,pc.nd,fun pp hp z=>pc.lo pp hp (oOC pp z),fun pp hp=>?_,p.kept.trans pc.kept fun pp z=>back1 pp (.inl z),rfl,p.stab.trans fun i st b hb hs=>?_⟩,Ei nD qc⟩
 .rcases hp with hp|⟨i,hp⟩
  .exact back1 pp (pc.new pp (.inl hp))
  .rcases fp2c i pp hp with ⟨j,_,z⟩|⟨_,z⟩
   .exact back1 pp (pc.new pp (.inr ⟨j,z⟩))
   .exact p.new pp (.inr ⟨i,z⟩)
 .cases e:ixR rs i with
  | none=>exact⟨b,by rw[Fh (HJ e)]; exact hb,rfl,fun _=>rfl⟩
  | some j =>
   have hr:=HK e;have hj:j<rs.length:=AK hr;obtain⟨y,hy,ha⟩:=g2 j _ hr;obtain⟨st',h1,h2,h3⟩:=Fg ha;rw[hb] at h1; cases h1;refine⟨_,Hz (as:=as') (a:=as'[j]'(by lia)) hnd hr (by simp) hb,rfl,fun z=>?_⟩;obtain⟨a',h4,_,h5⟩:=pc.stab j y.1 y.2 (by rw[List.getElem?_map,hy]; rfl) h2;obtain⟨_,_,_,h6⟩:=Ka h4;have:as'[j]? = some (as'[j]'(by lia)):=by simp
   rw[this] at h6;have e5:=h5 (h3 z);have e6:as'[j]'(by lia)=a':=Option.some.inj h6;rw[e6,e5]
end
end J
end
section
namespace J
open PySem PySem.Spec PyProof.Rows L2
def JE(X:Cx)(e:Expr)(m:ME):Prop:=PE X e (tE X.K m)
def JT(X:Cx)(e:Expr)(m:MT):Prop:=PT X e (tT X.K m)
def JW(X:Cx)(e:Expr)(m:MT):Prop:=PW X e (tT X.K m)
def JA(X:Cx)(es:List Expr)(m:MA):Prop:=PA X es (tA X.K m)
def JI(X:Cx)(tg e:Expr)(m:MI):Prop:=PI X tg e (tI X.K m)
def JS(X:Cx)(s:Stmt)(m:MS):Prop:=PS X s (tS X.K m)
def JSs(X:Cx)(s:List Stmt)(m:MS):Prop:=PSs X s (tS X.K m)
section
variable{X:Cx}{a b c e:Expr}{es:List Expr}{m m1 m2 m3:ME}{ms:MA}{mt mt2:MT}{mi:MI}{p pos pos':Pos}{x:Str}{s:Stmt}{ss:List Stmt}{w1 w2:MS}
theorem AM{t t':TE}(h:PE X e t)(w:∀σ H Q,t' σ H Q->t σ H Q):PE X e t':=fun pins s σ H Q I q=>h pins s σ H Q I (w σ H Q q)
theorem Jq{t t':TT}(h:PT X e t)(w:∀σ H Q,t' σ H Q->t σ H Q):PT X e t':=fun pins s σ H Q I q=>h pins s σ H Q I (w σ H Q q)
theorem UD{t t':TT}(h:PW X e t)(w:∀σ H Q,t' σ H Q->t σ H Q):PW X e t':=fun wh pins s σ H Q I q=>h wh pins s σ H Q I (w σ H Q q)
theorem Pp{t t':TA}(h:PA X es t)(w:∀σ H Q,t' σ H Q->t σ H Q):PA X es t':=fun pp pins s σ H Q I q=>h pp pins s σ H Q I (w σ H Q q)
theorem CA{t t':TS}(h:PS X s t)(w:∀D σ H,t' D σ H->t D σ H):PS X s t':=fun pins s σ H D I q=>h pins s σ H D I (w D σ H q)
theorem Kg{t t':TS}(h:PSs X ss t)(w:∀D σ H,t' D σ H->t D σ H):PSs X ss t':=fun pins s σ H D I q=>h pins s σ H D I (w D σ H q)
theorem Mv{tg:Expr}{t t':TI}(h:PI X tg e t)(w:∀σ H R,t' σ H R->t σ H R):PI X tg e t':=fun pins s σ H R I q=>h pins s σ H R I (w σ H R q)
theorem Ot(i:Nat)(hN:X.N[i]? = some x)(hv:Vis X.env.scope x)(hd:(x==("__debug__" : Str))=false)(hcd:(x==("__classdict__" : Str))=false):JE X (.Name x pos) (Ad i):=AM (Ms hN hv hd hcd) fun _ _ _ h=>Xj h
theorem Ah{i:Int}{j:Nat}:JE X (.Constant (.int i) j pos) (Ag (.int i)):=AM OF fun _ _ _ h=>IM (fun _ _=>.int i) h
theorem CZ{b:Bool}{j:Nat}:JE X (.Constant (.bool b) j pos) (Ag (.bl b)):=AM Ye fun _ _ _ h=>IM (fun _ _=>.bl b) h
theorem Fb{j:Nat}:JE X (.Constant .none j pos) (Ag .non):=AM WK fun _ _ _ h=>IM (fun _ _=>.non) h
theorem AI{z:Str}{j:Nat}(hz:z.length<=sizeLine):JE X (.Constant (.str z) j pos) (Ag (.str z)):=AM WN fun _ _ _ h=>IM (fun _ _=>.str z hz) h
theorem Jm{n:Int}(G:GInt X.mg x n)(hg:Gl X x)(hd:(x==("__debug__" : Str))=false):JE X (.Name x pos) (Ag (.int n)):=AM (Us G rfl hg hd) fun _ _ _ h=>IM (fun _ _=>.int n) h
theorem Ac(h:JE X e m):JE X e (Ae m):=AM h fun _ _ _ h=>S3 h
theorem Af:JA X [] Ai:=Pp FO fun _ _ _ h=>Kw h
theorem Aa(hs:starEach (e::es) X.env=(false,eval e X.env)::starEach es X.env)(h:JE X e m)(t:JA X es ms):JA X (e::es) (Ab m ms):=Pp (DP h t hs) fun _ _ _ h=>GU h
def r1L(r:V->Hp->VK->Prop):List V->Hp->VK->Prop:=fun xs H Q=>∃x,xs=[x]/\r x H Q
def r2L(r:R2):List V->Hp->VK->Prop:=fun xs H Q=>∃x y,xs=[x,y]/\r x y H Q
def m1L(m:ME):MA:=Ab m Ai
def m2L(m m':ME):MA:=Ab m (Ab m' Ai)
def two{K:Frag}{f:List A->Option A}{r:R2}(ok:OpN K f (r2L r)){σ:L2.St}{H:Hp}{Q:VK}(h:tE K (opM f (m2L m1 m2)) σ H Q):tOp r (tE K m1) (tE K m2) σ H Q:=by
 have h1:=GU (PV ok h);refine tE.mono h1 fun v H1 h2=>tE.mono (GU h2) fun u H2 h3=>?_;obtain⟨x,y,e,q⟩:=Kw h3;cases e;exact q
def one{K:Frag}{f:List A->Option A}{r:V->Hp->VK->Prop}(ok:OpN K f (r1L r)){σ:L2.St}{H:Hp}{Q:VK}(h:tE K (opM f (m1L m)) σ H Q):tUn r (tE K m) σ H Q:=by
 refine tE.mono (GU (PV ok h)) fun v H1 h2=>?_;obtain⟨x,e,q⟩:=Kw h2;cases e;exact q
theorem Au{op:Operator}{f:List A->Option A}{r:R2}(ok:OpN X.K f (r2L r))(ho:OpR X (binaryOp op) r)(ha:JE X a m1)(hb:JE X b m2):JE X (.BinOp a op b pos) (opM f (m2L m1 m2)):=AM (Yg ho ha hb) fun _ _ _ h=>two ok h
theorem F7{op:UnaryOp}{f:List A->Option A}{r:V->Hp->VK->Prop}(ok:OpN X.K f (r1L r))(ho:UnR X (unaryOp op) r)(ha:JE X a m):JE X (.UnaryOp op a pos) (opM f (m1L m)):=AM (Yi ho ha) fun _ _ _ h=>one ok h
theorem Dl{op:CmpOp}{f:List A->Option A}{r:R2}(ok:OpN X.K f (r2L r))(ho:OpR X (compareOp op) r)(hm:behindInMarks op b=false)(ha:JE X a m1)(hb:JE X b m2):JE X (.Compare a [op] [b] pos) (opM f (m2L m1 m2)):=AM (Ur ho ha hb hm) fun _ _ _ h=>two ok h
theorem BV{op:CmpOp}{f:List A->Option A}{r:R2}(ok:OpN X.K f (r2L r))(ho:OpR X (compareOp op) r)(hm:behindInMarks op b=false)(ha:JE X a m1)(hb:JE X b m2):JT X (.Compare a [op] [b] pos) (AJ (opM f (m2L m1 m2))):=
 Jq (Uy ho ha hb hm) fun _ _ _ h=>two ok (MK h)
theorem AN{f:List A->Option A}{r:R2}(ok:OpN X.K f (r2L r))(ho:IxR X r)(hs:O0 b)(ha:JE X a m1)(hb:JE X b m2):JE X (.Subscript a b pos) (opM f (m2L m1 m2)):=AM (Vi ho ha hb hs) fun _ _ _ h=>two ok h
theorem AF{id:String}{f:List A->Option A}{r:List V->Hp->VK->Prop}(ok:OpN X.K f r)(hc:CF X (.builtin id) r)(hm:X.mg x=none)(hv:bootBuiltins x=some (.builtin id))(hn:x ≠ "__name__")(hdb:(x==("__debug__" : Str))=false)(hg:Gl X x)(he:starEach (e::es) X.env=(false,eval e X.env)::starEach es X.env)(hpl:(backTo pos (starEach es X.env)).any (·.1)=false)(ha:JA X (e::es) ms):JE X (.Call (.Name x p) (e::es) [] pos) (opM f ms):=
 AM (Qw hc hm hv hn hdb hg he hpl ha) fun _ _ _ h=>PV ok h
theorem CI{T:String}{f:List A->Option A}{r:List V->Hp->VK->Prop}(ok:OpN X.K f r)(hc:CF X (.type T) r)(hm:X.mg x=none)(hv:bootBuiltins x=some (.type T))(hn:x ≠ "__name__")(hdb:(x==("__debug__" : Str))=false)(hg:Gl X x)(he:starEach (e::es) X.env=(false,eval e X.env)::starEach es X.env)(hpl:(backTo pos (starEach es X.env)).any (·.1)=false)(ha:JA X (e::es) ms):JE X (.Call (.Name x p) (e::es) [] pos) (opM f ms):=
 AM (Qx hc hm hv hn hdb hg he hpl ha) fun _ _ _ h=>PV ok h
theorem Dm{op:BoolOp}(h:JE X a m):JE X (.BoolOp op [a] pos) m:=WM h
theorem CY(ha:JE X a m1)(hb:JE X (.BoolOp .And (b::es) pos) m2):JE X (.BoolOp .And (a::b::es) pos) (andM m1 m2):=AM (WB ha hb) fun _ _ _ h=>Xe h
theorem X2(ha:JE X a m1)(hb:JE X (.BoolOp .Or (b::es) pos) m2):JE X (.BoolOp .Or (a::b::es) pos) (orM m1 m2):=AM (Yh ha hb) fun _ _ _ h=>YA h
theorem RB(ha:JE X a m1):JE X (.UnaryOp .Not a pos) (notM m1):=AM (WL ha) fun _ _ _ h=>Xh h
theorem Bw(he:∀whole,isTrue e X.env whole=(do let v <- whole; standAt e.pos; holding [v] (truthy v)))(h:JE X e m):JT X e (AJ m):=Jq (Uz he h) fun _ _ _ h=>MK h
theorem FI(ha:JT X a mt):JW X (.BoolOp .Or [a] pos) mt:=WW ha
theorem G2(ha:JT X a mt)(hb:JW X (.BoolOp .Or (b::es) pos) mt2):JW X (.BoolOp .Or (a::b::es) pos) (orT mt mt2):=UD (Yj ha hb) fun _ _ _ h=>YJ h
theorem Et(h:JW X e mt):JT X e mt:=h.pt
theorem By(ha:JT X a mt):JT X (.UnaryOp .Not a pos) (BR mt):=Jq (Su ha) fun _ _ _ h=>Xv h
def S1{K:Frag}{f g:List A->Option A}{r r':R2}(ok:OpN K f (r2L r))(ok':OpN K g (r2L r')){σ:L2.St}{H:Hp}{Q:VK}(h:tE K (Gh f g m1 m2 m3) σ H Q):OQ r r' (tE K m1) (tE K m2) (tE K m3) σ H Q:=by
 obtain⟨Z,O,fp,rl,y,Z',h0,k⟩:=h;simp only[Gh,bind_eq_some_iff] at h0;obtain⟨⟨r1,Z1⟩,e1,⟨r2,Z2⟩,e2,as,e3,z,e4,kb,e5,e6⟩:=h0;refine⟨Z,O,fp,rl,r1,Z1,e1,fun v1 H1 yy=>?_⟩;obtain⟨L1,fp1,p1,q1⟩:=yy;refine⟨Z1,ad O L1,fp1,p1.rel,r2,Z2,e2,fun v2 H2 yy=>?_⟩;obtain⟨L2,fp2,p2,q2⟩:=yy;have p12:=p1.then p2;have q1':=p2.rr p1.rel q1 fun _ z=>z;have q2':RR K (NN fp2 (ad O (L1++L2))) H2 σ v2 r2 L2:=by
  have e:ad (ad O L1) L2=ad O (L1++L2):=funext fun p=>propext Lv;rw[<- e];exact q2
 have hs:Lu K (NN fp2 (ad O (L1++L2))) H2 [v1,v2] as:=p12.rel.peeks (rs:=[r1,r2]) (L:=L1++L2) ⟨L1,L2,rfl,q1',L2,[],by simp,q2',rfl⟩ e3;have key:=ok _ H2 [v1,v2] as z (fun u H3=>∃kk,u=.bl kk/\if kk=true then tE K m3 σ H3 fun w H4=>r' v2 w H4 Q else Q (.bl false) H3) hs e4 ?_
 .obtain⟨x',y',e,q⟩:=key
  cases e;exact q
 intro u H3 o;obtain⟨sm,L3,q3,nd3,nw3⟩:=o;have hb:=Px q3 e5;refine⟨kb,hb,?_⟩;have p3:Post K O fp H Z Z2 σ σ (L1++L2) fp2 H3:=p12.more sm p12.nd fun p hp=>.inl hp;cases kb with
 | false =>
  rw[if_neg Bool.false_ne_true];simp at e6;obtain⟨rfl,rfl⟩:=e6;exact k _ H3 ⟨[],fp2,p3.drop0,MB (.bl _)⟩
 | true =>
  rw[if_pos rfl];simp only[if_true,bind_eq_some_iff,map_eq_some_iff] at e6;obtain⟨⟨r3,Z3⟩,e7,bs,e8,z2,e9,e10⟩:=e6;cases e10;refine⟨Z2,ad O (L1++L2),fp2,p3.rel,r3,Z3,e7,fun v3 H4 yy=>?_⟩;obtain⟨L4,fp4,p4,q4⟩:=yy;have p34:=p3.then p4;have q2'':RR K (NN fp2 (ad O (L1++L2))) H3 σ v2 r2 L2:=by
   cases r2 with
   | ref i=>exact q2'
   | val a=>exact Ar.tr (M:=fun _=>False) (fun _ z=>z.elim) (Cu.kept sm) (fun p z=>.inl z) (fun _ _ z=>z) q2'
  have q2f:=p4.rr p3.rel q2'' fun p z=>List.mem_append_right _ z;have q4':RR K (NN fp4 (ad O ((L1++L2)++L4))) H4 σ v3 r3 L4:=by
   have e:ad (ad O (L1++L2)) L4=ad O ((L1++L2)++L4):=funext fun p=>propext Lv;rw[<- e];exact q4
  have hs2:Lu K (NN fp4 (ad O ((L1++L2)++L4))) H4 [v2,v3] bs:=p34.rel.peeks (rs:=[r2,r3]) (L:=L2++L4) ⟨L2,L4,rfl,q2f,L4,[],by simp,q4',rfl⟩ e8;obtain⟨x',y',e,q⟩:=ok' _ H4 [v2,v3] bs z2 Q hs2 e9 fun u H5 o=>k u H5 (p34.out o);cases e;exact q
theorem Om{op op':CmpOp}{f g:List A->Option A}{r r':R2}(ok:OpN X.K f (r2L r))(ok':OpN X.K g (r2L r'))(ho:OpR X (compareOp op) r)(ho':OpR X (compareOp op') r')(hm:lastMarks [op,op'] [b,c]=false)(ha:JE X a m1)(hb:JE X b m2)(hc:JE X c m3):
  JE X (.Compare a [op,op'] [b,c] pos) (Gh f g m1 m2 m3):=AM (Sd ho ho' ha hb hc hm) fun _ _ _ h=>S1 ok ok' h
theorem RH{op op':CmpOp}{f g:List A->Option A}{r r':R2}(ok:OpN X.K f (r2L r))(ok':OpN X.K g (r2L r'))(ho:OpR X (compareOp op) r)(ho':OpR X (compareOp op') r')(hm:lastMarks [op,op'] [b,c]=false)(ha:JE X a m1)(hb:JE X b m2)(hc:JE X c m3):
  JT X (.Compare a [op,op'] [b,c] pos) (AJ (Gh f g m1 m2 m3)):=Jq (Ss ho ho' ha hb hc hm) fun _ _ _ h=>S1 ok ok' (MK h)
theorem Oq{k:Nat}(h:JA X es ms):JE X (.Tuple es k pos) (Jk ms):=AM (Si h) fun _ _ _ h=>Xi h
theorem AH(h:JA X es ms):JE X (.List es pos) (lstM ms):=AM (WJ h) fun _ _ _ h=>Xg h
def Am{P:Program}{w:World}{K:Frag}{mg:Str->Option Value}{base:Heap}{CX:CXT}{k j:Nat}{ps:List Str}{Φ:Fn}{np:Nat}{E:XK}(D:Def P w K mg base CX k x ps (spJ K Φ np))(hnp:∀args y,Φ args=some y->args.length=np)(hP:X.prog=P)(hw:X.w=w)(hK:X.K=K)(hm:X.mg=mg)(hb:X.base=base)(hr:Room j X.A)(hkj:k<=j)(hx:Passes CX X E)(hdb:(x==("__debug__" : Str))=false)(hg:Gl X x)(he:starEach (e::es) X.env=(false,eval e X.env)::starEach es X.env)(hpl:(backTo pos (starEach es X.env)).any (·.1)=false)(ha:JA X (e::es) ms):JE X (.Call (.Name x p) (e::es) [] pos) (Ao Φ ms):=by
 subst hP hw hK hm hb;exact AM (Mq D hr hkj hx ha hg hdb he hpl) fun _ _ _ h=>PU hnp h
def JEc(X:Cx)(own:List Str)(scope:Scope)(e:Expr)(m:ME):Prop:=∀C s H fp pins,JE (cxC X own scope C s H fp pins) e m
def JTc(X:Cx)(own:List Str)(scope:Scope)(ifs:List Expr)(m:MT):Prop:=∀C s H fp pins,PTs (cxC X own scope C s H fp pins) ifs (tT X.K m)
theorem Bx{own:List Str}{scope:Scope}:JTc X own scope [] CO:=fun C s H fp pins=>fun _ _ _ H _ I h=>by
 obtain⟨Z,O,fp,r,x,Z',e,k⟩:=h;cases e;exact UB _ _ _ H _ I (k fp H r.post)
theorem LY{own:List Str}{scope:Scope}(h:∀C s H fp pins,JT (cxC X own scope C s H fp pins) c mt):JTc X own scope [c] mt:=fun C s H fp pins=>UC (h C s H fp pins)
theorem Cj{scope:Scope}{iter elt:Expr}{ifs:List Expr}{px:Pos}(hok:B7 [x] X.N scope X.env.scope=true)(hc:X.calm=true)(hn:X.N.Nodup)(hx:scope.names.lookup x=some .local)(hs:∀z,foldedSetIterable iter X.env z=pure z)(hi:JI X (.Name x px) iter mi)(ht:JTc X [x] scope ifs mt)(he:JEc X [x] scope elt m):
  JE X (.ListComp elt [⟨.Name x px,iter,ifs,0⟩] scope pos) (Bh mi 0 mt m):=
 AM (WI (te:=tE X.K m) hok hc ⟨hn⟩ rfl hx hs hi ht (fun C s H fp pins=>he C s H fp pins)) fun _ _ _ h=>Jr h
def WR{tg l:Expr}{tl:TE}(hl:PE X l tl):PI X tg l (X0 X.K tl):=by
 intro pins s σ H R I h;refine thn (hl pins s σ H _ I h) fun v s1 yy=>?_;obtain⟨y,H1,I1,r1,q1⟩:=yy;obtain⟨a,e,q1⟩:=q1;subst e;cases r1;rcases q1 with ⟨⟨xs,hq⟩,q⟩|⟨⟨xs,hq⟩,q⟩
 .obtain⟨its,rv,p,hz⟩:=I1.list hq
  refine wpAny_pyIter_list p.isList ?_;refine⟨s1.heap.objs.size,[s1.heap.objs.size],_,_,H1,rfl,I1.kept (t':=s1.toks) fun b o e=>Heap.get?_push_of_some _ e,QO a _,⟨_,Heap.get?_push_size _ rfl,rfl,rfl⟩,fun b hb=>?_,q⟩;have e:b=s1.heap.objs.size:=by simpa using hb
  subst e;exact I1.fpOk (Nat.le_refl _) (I1.hok.fresh (Nat.le_refl _))
 .obtain⟨its,rv,p,hz⟩:=I1.tuple hq
  refine wpAny_pyIter_tuple (show s1.heap.IsTuple a its.toArray from p) ?_;refine⟨s1.heap.objs.size,[s1.heap.objs.size],_,_,H1,rfl,I1.kept (t':=s1.toks) fun b o e=>Heap.get?_push_of_some _ e,OV a _,⟨_,Heap.get?_push_size _ rfl,rfl,rfl⟩,fun b hb=>?_,q⟩;have e:b=s1.heap.objs.size:=by simpa using hb
  subst e;exact I1.fpOk (Nat.le_refl _) (I1.hok.fresh (Nat.le_refl _))
theorem Cp{tg:Expr}(h:JE X e m):JI X tg e (Cr m):=Mv (WR h) fun _ _ _ h=>Xk h
def Xl{K:Frag}{σ:L2.St}{H:Hp}{R:It->Hp->Prop}(h:tI K (NU m) σ H R):X1 (tE K m) σ H R:=by
 obtain⟨Z,O,fp,rl,ds,n,Z',e,k⟩:=h;simp only[NU,bind_eq_some_iff] at e;obtain⟨⟨r,Z1⟩,e1,e2⟩:=e;dsimp only at e2;split at e2
 .rename_i z
  split at e2
  .rename_i hz
   cases e2;refine⟨Z,O,fp,rl,_,_,e1,fun v H1 yy=>?_⟩
   obtain⟨L,fp1,p,q⟩:=yy;have q':Ar K (NN fp1 (ad O L)) H1 v (.fz (.str z)) L:=q;rw[Ar] at q';obtain⟨rfl,q'⟩:=q';cases q';refine⟨z,rfl,k _ _ ⟨.val (.fz .non),.non,.fz .non,[],fp1,p,F8 (K:=K) .non,rfl,rfl,fun N H2 _=>?_⟩⟩;have hl:(IL z).length=z.cps.size:=by simp[IL]
   refine⟨fun i hi=>by show i<z.cps.size; lia,fun i hi=>by show z.cps.size<=i; lia,fun i v H' d y e=>?_⟩;obtain⟨rfl,c,hc,rfl⟩:=y;refine⟨fun _ _ z=>z,?_⟩;have:d=.str ⟨#[c]⟩:=by
    simp only[IL,List.getElem?_map] at e;have hc':z.cps.toList[i]? = some c:=by simpa using hc
    rw[hc'] at e;cases e;rfl
   subst this;exact .str _ (by show 1<=sizeLine; decide)
  .cases e2
 .cases e2
theorem RC{tg:Expr}(h:JE X e m):JI X tg e (NU m):=Mv (WS h) fun _ _ _ h=>Xl h
def PX{K:Frag}{σ:L2.St}{H:Hp}{R:It->Hp->Prop}(h:tI K (CP m) σ H R):Rm (C3 (tE K m) Hw) σ H R:=by
 obtain⟨Z,O,fp,rl,ds,n,Z',e,k⟩:=h;simp only[CP,bind_eq_some_iff] at e;obtain⟨⟨r,Z1⟩,e1,e2⟩:=e;dsimp only at e2;split at e2
 .rename_i j
  split at e2
  .rename_i hz
   cases e2;refine⟨Z,O,fp,rl,_,_,e1,fun v H1 yy=>?_⟩
   obtain⟨L,fp1,p,q⟩:=yy;have q':Ar K (NN fp1 (ad O L)) H1 v (.fz (.int j)) L:=q;rw[Ar] at q';obtain⟨rfl,q'⟩:=q';cases q';refine⟨j,rfl,hz.1,hz.2,k _ _ ⟨.val (.fz .non),.non,.fz .non,[],fp1,p,F8 (K:=K) .non,rfl,rfl,fun N H2 _=>?_⟩⟩;have hl:(ET 0 j.toNat).length=j.toNat:=by simp[ET]
   refine⟨fun i hi=>by show i<j.toNat; lia,fun i hi=>by show j.toNat<=i; lia,fun i v H' d y e=>?_⟩;obtain⟨rfl,rfl⟩:=y;refine⟨fun _ _ z=>z,?_⟩;have hi:i<j.toNat:=by have:=AK e; lia
   simp only[ET,List.getElem?_map,List.getElem?_range hi,Option.map_some,Option.some.injEq] at e;subst e;exact .int _
  .cases e2
 .cases e2
theorem E1{tg:Expr}(hg:Gl X "range")(hm:X.mg "range" = none)(hs:starEach [a] X.env=[(false,eval a X.env)])(h:JE X a m):JI X tg (.Call (.Name "range" p) [a] [] pos) (CP m):=Mv (Qz hg hm (DP h FO hs) hs) fun _ _ _ h=>PX h
theorem AW:JSs X [] Bc:=Kg Uw fun _ _ _ h=>UY h
theorem Ak(h:JS X s w1):JSs X [s] w1:=Ux h
theorem Aj(h:JS X s w1)(t:JSs X ss w2):JSs X (s::ss) (AA w1 w2):=Kg (NF h t) fun _ _ _ h=>Xt h
theorem Qk:JSs X ss Fc:=fun _ _ _ _ _ _ y=>by
 obtain⟨_,_,_,_,_,h,_⟩:=y;cases h
theorem JX:JS X s Fc:=fun _ _ _ _ _ _ y=>by
 obtain⟨_,_,_,_,_,h,_⟩:=y;cases h
theorem Hd(hs:swapsWith e none pos.line X.env=pure false)(h:JE X e m):JS X (.Expr e pos) (F9 m):=CA (Jp h hs) fun _ _ _ h=>Xo h
theorem Aw(h:JE X e m):JS X (.Return (some e) pos) (retS m):=CA (WU h) fun _ _ _ h=>Xs h
theorem Bt{st st':List Stmt}(hc:JT X c mt)(ha:JSs X st w1)(hb:JSs X st' w2):JS X (.If c st st' pos) (ifS mt w1 w2):=CA (So hc ha hb) fun _ _ _ h=>YH h
theorem AS(i:Nat)(hN:X.N.Nodup)(hi:X.N[i]? = some x)(hx:Loc X.env.scope x)(hf:X.fn x=true)(hs:swapsWith e (some (.Name x pos')) pos.line X.env=pure false)(h:JE X e m):JS X (.Assign [.Name x pos'] e pos) (A5 i m):=
 CA (WV hN hi hx h hs (.inl hf)) fun _ _ _ h=>OS h
theorem JV{tg iter:Expr}{st:List Stmt}{is:List Nat}{one:Bool}(hp:PassesOwn (model X.prog X.w) X.A X.env X.xe)(hc:X.calm=true)(hi:JI X tg iter mi)(hg:PG X tg (Qe X.K is one))(hb:JSs X st w1)(hs:∀y,foldedSetIterable iter X.env y=pure y):JS X (.For tg iter st [] pos) (KH is one mi w1):=CA (WT hp hc hi hg hb hs) fun _ _ _ h=>Xp h
theorem Ke(i:Nat)(hN:X.N.Nodup)(hi:X.N[i]? = some x)(hx:Loc X.env.scope x)(hf:X.fn x=true):PG X (.Name x pos) (Qe X.K [i] true):=Pt hN hi hx (.inl hf)
theorem Mu:PGs X [] (Gp []):=Uv
theorem Fs(i:Nat){is:List Nat}(hN:X.N.Nodup)(hi:X.N[i]? = some x)(hx:Loc X.env.scope x)(hf:X.fn x=true)(t:PGs X es (Gp is))(hs:(assignEach (.Name x pos::es) X.env).map (·.2)=assign (.Name x pos) X.env::(assignEach es X.env).map (·.2)):PGs X (.Name x pos::es) (Gp (i::is)):=Sj (Pt hN hi hx (.inl hf)) t hs
theorem Mt{is:List Nat}{k:Nat}(hc:X.calm=true)(h:PGs X es (Gp is))(hn:(assignEach es X.env).length=is.length)(hst:(assignEach es X.env).findIdx? (·.1)=none):PG X (.Tuple es k pos) (Qe X.K is false):=WQ hc h hn hst
theorem Ov{tg:Expr}{is:List Nat}(hg:PG X tg (Qe X.K is false))(hs:swapsWithSole [tg] e pos.line X.env=pure false)(hw:swappedStores [tg] e X.env=pure none)(h1:(assignEach [tg] X.env).map (·.2)=[assign tg X.env])(h:JE X e m):
  JS X (.Assign [tg] e pos) (K0 is m):=CA (Sn h hg hs hw h1) fun _ _ _ h=>Xu h
end
end J
end
section
namespace L2
open PySem PySem.Spec PyProof.Rows
section
variable{P:Program}{w:World}{H:Hp}{s:Shared}{N N':Addr->Prop}
def NI(hok:HOk P w H s.heap){A:Around}{n:Nat}{x y:V}{d e:D}{v u:Value}(r:RepA N H x d)(q:RepA N' H y e)(rx:RelV x v)(ry:RelV y u)(hs:Sh n d)(hu:A.units+n<cLine):SeqAt.RcNeAt A s v u (!eqD d e):=by
 cases r with
 | non =>
  cases rx;cases q with
  | non=>cases ry; exact SeqAt.RcNeAt.none_none
  | bl b=>cases ry; exact SeqAt.RcNeAt.none_bool b
  | int b=>obtain⟨t,rfl⟩:=ry; exact SeqAt.RcNeAt.none_int b t
  | str b=>obtain⟨t,rfl⟩:=ry; exact SeqAt.RcNeAt.none_str b t
  | lst h=>cases ry; obtain⟨its,_,hl⟩:=Bo hok h; exact SeqAt.RcNeAt.none_list hl (lt0 hu)
  | tup h=>cases ry; obtain⟨its,_,hl⟩:=BJ hok h; exact SeqAt.RcNeAt.none_tuple hl (lt0 hu)
 | bl a =>
  cases rx;cases q with
  | non=>cases ry; exact SeqAt.RcNeAt.bool_none a
  | bl b=>cases ry; exact SeqAt.RcNeAt.bool_bool a b
  | int b=>obtain⟨t,rfl⟩:=ry; exact SeqAt.RcNeAt.bool_int a b t
  | str b=>obtain⟨t,rfl⟩:=ry; exact SeqAt.RcNeAt.bool_str a b t
  | lst h=>cases ry; obtain⟨its,_,hl⟩:=Bo hok h; exact SeqAt.RcNeAt.bool_list a hl (lt0 hu)
  | tup h=>cases ry; obtain⟨its,_,hl⟩:=BJ hok h; exact SeqAt.RcNeAt.bool_tuple a hl (lt0 hu)
 | int a =>
  obtain⟨t',rfl⟩:=rx;cases q with
  | non=>cases ry; exact SeqAt.RcNeAt.int_none a t'
  | bl b=>cases ry; exact SeqAt.RcNeAt.int_bool a t' b
  | int b=>obtain⟨t,rfl⟩:=ry; exact SeqAt.RcNeAt.int_int a t' b t
  | str b=>obtain⟨t,rfl⟩:=ry; exact SeqAt.RcNeAt.int_str a t' b t
  | lst h=>cases ry; obtain⟨its,_,hl⟩:=Bo hok h; exact SeqAt.RcNeAt.int_list a t' hl (lt0 hu)
  | tup h=>cases ry; obtain⟨its,_,hl⟩:=BJ hok h; exact SeqAt.RcNeAt.int_tuple a t' hl (lt0 hu)
 | str a =>
  obtain⟨t',rfl⟩:=rx;cases q with
  | non=>cases ry; exact SeqAt.RcNeAt.str_none a t'
  | bl b=>cases ry; exact SeqAt.RcNeAt.str_bool a t' b
  | int b=>obtain⟨t,rfl⟩:=ry; exact SeqAt.RcNeAt.str_int a t' b t
  | str b=>obtain⟨t,rfl⟩:=ry; exact SeqAt.RcNeAt.str_str a t' b t
  | lst h=>cases ry; obtain⟨its,_,hl⟩:=Bo hok h; exact SeqAt.RcNeAt.str_list a t' hl (lt0 hu)
  | tup h=>cases ry; obtain⟨its,_,hl⟩:=BJ hok h; exact SeqAt.RcNeAt.str_tuple a t' hl (lt0 hu)
 | @lst a vs ds h hz hn hl hr =>
  cases rx;obtain⟨its,rv,hil⟩:=Bo hok h;cases hs with
  | @lst n _ hs =>
   cases q with
   | non=>cases ry; exact SeqAt.RcNeAt.list_none hil (lt0 hu)
   | bl b=>cases ry; exact SeqAt.RcNeAt.list_bool b hil (lt0 hu)
   | int b=>obtain⟨t,rfl⟩:=ry; exact SeqAt.RcNeAt.list_int b t hil (lt0 hu)
   | str b=>obtain⟨t,rfl⟩:=ry; exact SeqAt.RcNeAt.list_str b t hil (lt0 hu)
   | @lst a' vs' es h' hz' hn' hl' hr' =>
    cases ry;obtain⟨its',rv',hil'⟩:=Bo hok h';have l1:=rv.length;have l2:=rv'.length;rw[Jz];by_cases hlen:ds.length=es.length
    .rw[Ec hlen,show ds.length=its.toArray.size by simp; lia]
     refine SeqAt.RcNeAt.lists hil hil' (by simp; lia) (lt0 hu) (Fi rv rv' hl hl' fun i v d v' e u u' e1 e2 e3 e4 ru ru'=>?_);exact Jy hok (hr i v d e1 e2) (hr' i v' e e3 e4) ru ru' (hs d (List.mem_of_getElem? e2)) (lt1 hu)
    .have:ES ds es=false:=by
      cases q:ES ds es with
      | false=>rfl
      | true=>exact absurd (Ed q) hlen
     rw[this];exact SeqAt.RcNeAt.lists_lengths hil hil' (by simp; lia) (lt0 hu)
   | tup h' =>
    cases ry;obtain⟨its',_,hl'⟩:=BJ hok h';exact SeqAt.RcNeAt.list_tuple hil hl' (lt0 hu)
 | @tup a vs ds h hz hl hr =>
  cases rx;obtain⟨its,rv,hil⟩:=BJ hok h;cases hs with
  | @tup n _ hs =>
   cases q with
   | non=>cases ry; exact SeqAt.RcNeAt.tuple_none hil (lt0 hu)
   | bl b=>cases ry; exact SeqAt.RcNeAt.tuple_bool b hil (lt0 hu)
   | int b=>obtain⟨t,rfl⟩:=ry; exact SeqAt.RcNeAt.tuple_int b t hil (lt0 hu)
   | str b=>obtain⟨t,rfl⟩:=ry; exact SeqAt.RcNeAt.tuple_str b t hil (lt0 hu)
   | @tup a' vs' es h' hz' hl' hr' =>
    cases ry;obtain⟨its',rv',hil'⟩:=BJ hok h';have l1:=rv.length;have l2:=rv'.length;have q:=SeqAt.RcNeAt.tuples (A:=A) hil hil' (lt0 hu) (Fi rv rv' hl hl' fun i v d v' e u u' e1 e2 e3 e4 ru ru'=>Jy hok (hr i v d e1 e2) (hr' i v' e e3 e4) ru ru' (hs d (List.mem_of_getElem? e2)) (lt1 hu))
    rw[IQ];by_cases hlen:ds.length=es.length
    .have e1:(its.toArray.size==its'.toArray.size)=true:=by simp; lia
     have e2:min its.toArray.size its'.toArray.size=ds.length:=by simp; lia
     rw[e1,e2,Bool.and_true,<- Ec hlen] at q;exact q
    .have e1:(its.toArray.size==its'.toArray.size)=false:=by simp; lia
     have e3:ES ds es=false:=by
      cases q:ES ds es with
      | false=>rfl
      | true=>exact absurd (Ed q) hlen
     rw[e1,Bool.and_false] at q;rw[e3];exact q
   | lst h' =>
    cases ry;obtain⟨its',_,hl'⟩:=Bo hok h';exact SeqAt.RcNeAt.tuple_list hil hl' (lt0 hu)
end
section
variable{X:Cx}{k:Nat}
def WY:R2:=fun x y H Q=>∃d e,Rep H x d/\Rep H y e/\Sh 16 d/\Q (.bl (!eqD d e)) H
def OE(hr:Room k X.A):OpR X (compareOp .NotEq) WY:=by
 intro pins s σ H x y v u Q I rx ry h;obtain⟨d,e,r1,r2,hs,q⟩:=h;exact EqBoolInt.of_rcne (NI I.hok r1 r2 rx ry hs (by have:=hr.units; lia)) ⟨.bl _,H,I,rfl,q⟩
end
end L2
namespace J
open PySem PySem.Spec PyProof.Rows L2
section
variable{K:Frag}{N:Addr->Prop}{H H':Hp}{L:List Addr}{v:V}{a:A}
def FQ{d:D}:Ar K N H v (.fz d) L↔L=[]/\RepA N H v d:=by rw[Ar]
def Bz{i:Int}(h:Ar K N H v (.fz (.int i)) L):v=.int i:=by
 obtain⟨_,h⟩:=FQ.mp h;cases h; rfl
def Eb{z:Str}(h:Ar K N H v (.fz (.str z)) L):v=.str z/\z.length<=sizeLine:=by
 obtain⟨_,h⟩:=FQ.mp h;cases h with
 | str z hz=>exact⟨rfl,hz⟩
theorem Ho{d:D}(h:RepA N H v d):MX K N H (.fz d) v H:=⟨fun _ _ z=>z,[],F8 (K:=K) (DT (fun p z=>z.elim id fun q=>by simp at q) h),List.nodup_nil,fun _ h=>by simp at h⟩
theorem DO{i:Int}:MX K N H (.fz (.int i)) (.int i) H:=Ho (.int i)
theorem Eo{b:Bool}:MX K N H (.fz (.bl b)) (.bl b) H:=Ho (.bl b)
theorem Jo{z:Str}(h:z.length<=sizeLine):MX K N H (.fz (.str z)) (.str z) H:=Ho (.str z h)
def FN{p:Addr}{vs:List V}{ds:List D}(hp:H p=none)(hz:vs.length<=sizeLine)(q:Ay N H vs ds):MX K N H (.lst (ds.map A.fz)) (.ref p) (upd H p (.lst vs)):=by
 have sm:=Dx (o:=.lst vs) hp;refine⟨sm,[p],?_,by simp,fun b hb=>by simp at hb; rw[hb]; exact hp⟩;rw[Ar];refine⟨p,vs,[],rfl,rfl,AU,hz,Ap.of (q.tr (M:=fun _=>False) (fun _ z=>z.elim) (Cu.kept sm) fun b z=>?_)⟩;rcases z with z|z
 .exact .inl z
 .simp at z; subst z; exact .inr hp
def Up{p:Addr}{vs:List V}{ds:List D}(hp:H p=none)(hz:vs.length<=sizeLine)(q:Ay N H vs ds):MX K N H (.fz (.tup ds)) (.ref p) (upd H p (.tup vs)):=by
 have sm:=Dx (o:=.tup vs) hp;refine⟨sm,[],F8 (K:=K) (Mz AU hz (q.tr (M:=fun _=>False) (fun _ z=>z.elim) (Cu.kept sm) fun b z=>?_)),List.nodup_nil,fun _ h=>by simp at h⟩;rcases z with z|z
 .exact .inl z
 .simp at z
def fzU:A->Option D
 | .fz d=>some d
 | .lst _ | .tup _ | .scr _ | .dic _ | .dct _ | .opq _ _=>none
def Dz:D->Option Int
 | .int i=>some i
 | .non | .bl _ | .str _ | .lst _ | .tup _=>none
def FX:D->Option Str
 | .str z=>some z
 | .non | .bl _ | .int _ | .lst _ | .tup _=>none
def Bv(a:A):Option Int:=(fzU a).bind Dz
def C2(a:A):Option Str:=(fzU a).bind FX
def Og{a:A}{d:D}(h:fzU a=some d):a=.fz d:=by
 cases a with
 | fz d'=>cases h; rfl
 | _=>cases h
def Bn{a:A}{i:Int}(h:Bv a=some i):a=.fz (.int i):=by
 obtain⟨d,h1,h2⟩:=bind_eq_some_iff.mp h;cases Og h1;cases d with
 | int j=>cases h2; rfl
 | _=>cases h2
def Ds{a:A}{z:Str}(h:C2 a=some z):a=.fz (.str z):=by
 obtain⟨d,h1,h2⟩:=bind_eq_some_iff.mp h;cases Og h1;cases d with
 | str j=>cases h2; rfl
 | _=>cases h2
def on1(f:A->Option A):List A->Option A
 | []=>none
 | [a]=>f a
 | _::_::_=>none
def on2(f:A->A->Option A):List A->Option A
 | []=>none
 | [_]=>none
 | [a,b]=>f a b
 | _::_::_::_=>none
def on3(f:A->A->A->Option A):List A->Option A
 | []=>none
 | [_]=>none
 | [_,_]=>none
 | [a,b,c]=>f a b c
 | _::_::_::_::_=>none
def En{f:A->Option A}{as:List A}{c:A}(h:on1 f as=some c):∃a,as=[a]/\f a=some c:=by
 cases as with
 | nil=>cases h
 | cons a as=>cases as with
  | nil=>exact⟨a,rfl,h⟩
  | cons b as=>cases h
def CN{f:A->A->Option A}{as:List A}{c:A}(h:on2 f as=some c):∃a b,as=[a,b]/\f a b=some c:=by
 cases as with
 | nil=>cases h
 | cons a as=>cases as with
  | nil=>cases h
  | cons b as=>cases as with
   | nil=>exact⟨a,b,rfl,h⟩
   | cons b as=>cases h
def KC:A->Option (List (Key×D))
 | .dic kvs=>some kvs
 | .fz _ | .lst _ | .tup _ | .scr _ | .dct _ | .opq _ _=>none
def Ja:A->Option Unit
 | .fz .non=>some ()
 | .fz (.bl _) | .fz (.int _) | .fz (.str _) | .fz (.lst _) | .fz (.tup _) | .lst _ | .tup _ | .scr _ | .dic _ | .dct _ | .opq _ _=>none
def Ub{a:A}{u:Unit}(h:Ja a=some u):a=.fz .non:=by
 cases a with
 | fz d=>cases d with
  | non=>rfl
  | _=>cases h
 | _=>cases h
def Hb(C:Int->Int->Bool)(g:Int->Int->Int):List A->Option A:=on2 fun a b=>(Bv a).bind fun i=>(Bv b).bind fun j=>if C i j then some (.fz (.int (g i j))) else none
def Ni(g:Int->Int->Bool):List A->Option A:=on2 fun q1 q2=>(Bv q1).bind fun i=>(Bv q2).bind fun j=>some (.fz (.bl (g i j)))
def cons_of{xs:List V}{a:A}{as:List A}(h:Lu K N H xs (a::as)):∃x t L1,xs=x::t/\Ar K N H x a L1/\Lu K N H t as:=by
 cases xs with
 | nil=>cases h
 | cons x t =>
  obtain⟨⟨L,h⟩,q⟩:=h;exact⟨x,t,L,rfl,h,q⟩
def Dv{xs:List V}{a:A}(h:Lu K N H xs [a]):∃x L1,xs=[x]/\Ar K N H x a L1:=by
 obtain⟨x,t,L1,rfl,h1,q⟩:=cons_of h;cases t with
 | nil=>exact⟨x,L1,rfl,h1⟩
 | cons y t=>cases q
def BZ{xs:List V}{a b:A}(h:Lu K N H xs [a,b]):∃x y L1 L2,xs=[x,y]/\Ar K N H x a L1/\Ar K N H y b L2:=by
 obtain⟨x,t,L1,rfl,h1,q⟩:=cons_of h;obtain⟨y,L2,rfl,h2⟩:=Dv q;exact⟨x,y,L1,L2,rfl,h1,h2⟩
def HP{C:Int->Int->Bool}{C':Int->Int->Prop}{g:Int->Int->Int}(hC:∀i j,C i j=true->C' i j):OpN K (Hb C g) (r2L (rI C' fun i j=>.int (g i j))):=by
 intro N H xs as b Q hs e k
 replace e:=CN e
 obtain⟨a1,b1,rfl,e⟩:=e;simp only[bind_eq_some_iff] at e;obtain⟨i,ei,j,ej,e⟩:=e;cases Bn ei;cases Bn ej;split at e
 .rename_i hc
  cases e;obtain⟨x,y,L1,L2,rfl,h1,h2⟩:=BZ hs;cases Bz h1;cases Bz h2;exact⟨_,_,rfl,i,j,rfl,rfl,hC i j hc,k _ _ DO⟩
 .cases e
def J6{g:Int->Int->Int}:OpN K (Hb (fun _ _=>true) g) (r2L (rI0 fun i j=>.int (g i j))):=by
 intro N H xs as b Q hs e k
 replace e:=CN e
 obtain⟨a1,b1,rfl,e⟩:=e;simp only[bind_eq_some_iff] at e;obtain⟨i,ei,j,ej,e⟩:=e;cases Bn ei;cases Bn ej;rw[if_pos trivial] at e;cases e;obtain⟨x,y,L1,L2,rfl,h1,h2⟩:=BZ hs;cases Bz h1;cases Bz h2;exact⟨_,_,rfl,i,j,rfl,rfl,k _ _ DO⟩
def Nx{g:Int->Int->Bool}:OpN K (Ni g) (r2L (rI0 fun i j=>.bl (g i j))):=by
 intro N H xs as b Q hs e k
 replace e:=CN e
 obtain⟨q1,q2,rfl,e⟩:=e
 replace e:=bind_eq_some_iff.mp e
 obtain⟨i,eq1,e⟩:=e;cases Bn eq1;clear eq1
 replace e:=bind_eq_some_iff.mp e
 obtain⟨j,eq2,e⟩:=e;cases Bn eq2;clear eq2;cases e;obtain⟨x,y,L1,L2,rfl,h1,h2⟩:=BZ hs;cases Bz h1;cases Bz h2;exact⟨_,_,rfl,i,j,rfl,rfl,k _ _ Eo⟩
def HZ:=Hb (fun _ _=>true) fun i j=>i-j
def Nd:=Hb (fun _ j=>decide (0<j/\j<1099511627776)) fun i j=>i / j
def L8:=Hb (fun _ j=>decide (0<j)) fun i j=>i % j
def ND:=Hb (fun i j=>decide (0<=j/\j<=1000000/\i.natAbs<2 ^ 64)) fun i j=>i ^ j.toNat
def Ks:=Hb (fun i j=>decide (0<=j/\j<=1000000/\i.natAbs<2 ^ 64)) fun i j=>i*2 ^ j.toNat
def MG:=Hb (fun _ j=>decide (0<=j)) fun i j=>i / 2 ^ j.toNat
def K4:=Hb (fun _ _=>true) fun i j=>Builtin.bitAnd i j
def Tr:=Hb (fun _ _=>true) fun i j=>Builtin.bitOr i j
def gtA:=Ni fun i j=>decide (j<i)
def geA:=Ni fun i j=>decide (j<=i)
theorem Pk:OpN K Nd (r2L (rI Vz fun i j=>.int (i / j))):=HP fun i j h=>by simpa[Vz] using h
theorem ID:OpN K L8 (r2L (rI (fun _ j=>0<j) fun i j=>.int (i % j))):=HP fun i j h=>by simpa using h
theorem J7:OpN K ND (r2L (rI P7 fun i j=>.int (i ^ j.toNat))):=HP fun i j h=>by simpa[P7] using h
theorem Mj:OpN K Ks (r2L (rI P7 fun i j=>.int (i*2 ^ j.toNat))):=HP fun i j h=>by simpa[P7] using h
theorem R6:OpN K MG (r2L (rI (fun _ j=>0<=j) fun i j=>.int (i / 2 ^ j.toNat))):=HP fun i j h=>by simpa using h
def CS:A->Option (List D)
 | .fz (.lst ds)=>some ds
 | .lst as=>fzs as
 | .fz .non | .fz (.bl _) | .fz (.int _) | .fz (.str _) | .fz (.tup _) | .tup _ | .scr _ | .dic _ | .dct _ | .opq _ _=>none
def DN{ds:List D}(q:Ar K N H v a L)(e:CS a=some ds):∃p vs,v=.ref p/\H p=some (.lst vs)/\vs.length<=sizeLine/\Ay N H vs ds:=by
 cases a with
 | fz d =>
  obtain⟨_,q⟩:=FQ.mp q;cases d with
  | lst es =>
   simp only[CS,Option.some.injEq] at e;subst e;cases q with
   | lst h hz hn hl hr=>exact⟨_,_,rfl,h,hz,Ay.mk hl hr⟩
  | _=>simp[CS] at e
 | lst as =>
  simp only[CS] at e;rw[Ar] at q;obtain⟨p,vs,L',rfl,rfl,h,hz,hs⟩:=q;exact⟨p,vs,rfl,h,hz,(hs.fzs e).2⟩
 | _=>simp[CS] at e
def Bk:List A->Option A:=on2 fun a b=>((Bv a).bind fun i=>(Bv b).map fun j=>A.fz (.int (i+j))).or (((C2 a).bind fun x=>(C2 b).bind fun y=>if x.length+y.length<=LIM then some (.fz (.str (x++y))) else none).or ((CS a).bind fun xs=>(CS b).bind fun ys=>if xs.length+ys.length<=LIM then some (.lst ((xs++ys).map A.fz)) else none))
theorem NW(x y:Str):(x++y).length=x.length+y.length:=strLen_append x y
def Bb:OpN K Bk (r2L fun x y H Q=>(rI0 (fun i j=>.int (i+j))) x y H Q\/(∃i j,x=.str i/\y=.str j/\i.length+j.length<=sizeLine/\Q (.str (i++j)) H)\/WX x y H Q):=by
 intro N H xs as b Q hs e k
 replace e:=CN e
 obtain⟨a,b,rfl,e⟩:=e;rcases Option.or_eq_some_iff.mp e with e|⟨_,e⟩
 .simp only[bind_eq_some_iff,map_eq_some_iff] at e
  obtain⟨i,ei,j,ej,rfl⟩:=e;cases Bn ei;cases Bn ej;obtain⟨x,y,L1,L2,rfl,h1,h2⟩:=BZ hs;cases Bz h1;cases Bz h2;exact⟨_,_,rfl,.inl ⟨i,j,rfl,rfl,k _ _ DO⟩⟩
 .rcases Option.or_eq_some_iff.mp e with e|⟨_,e⟩
  .simp only[bind_eq_some_iff] at e
   obtain⟨i,ei,j,ej,e9⟩:=e;cases Ds ei;cases Ds ej;split at e9
   .rename_i hz
    cases e9;obtain⟨x,y,L1,L2,rfl,h1,h2⟩:=BZ hs;obtain⟨rfl,_⟩:=Eb h1;obtain⟨rfl,_⟩:=Eb h2;exact⟨_,_,rfl,.inr (.inl ⟨i,j,rfl,rfl,hz,k _ _ (Jo (by rw[NW]; exact hz))⟩)⟩
   .cases e9
  .simp only[bind_eq_some_iff] at e
   obtain⟨ds,e1,es,e2,e3⟩:=e;split at e3
   .rename_i hz
    cases e3;obtain⟨x,y,L1,L2,rfl,h1,h2⟩:=BZ hs;obtain⟨p,vs,rfl,hp,z1,q1⟩:=DN h1 e1;obtain⟨p',vs',rfl,hp',z2,q2⟩:=DN h2 e2;have hl:(vs++vs').length<=sizeLine:=by rw[List.length_append,q1.len,q2.len]; exact hz
    exact⟨_,_,rfl,.inr (.inr ⟨p,p',vs,vs',rfl,rfl,hp,hp',by rw[List.length_append] at hl; exact hl,fun q hq=>k _ _ (FN hq hl (Ft q1 q2))⟩)⟩
   .cases e3
theorem AQ{X:Cx}:OpR X (binaryOp .Add) (fun x y H Q=>(rI0 (fun i j=>.int (i+j))) x y H Q\/(∃i j,x=.str i/\y=.str j/\i.length+j.length<=sizeLine/\Q (.str (i++j)) H)\/WX x y H Q):=Wx.or (OD.or Wy)
def L9:List A->Option A:=on2 fun q1 q2=>(Bv q1).bind fun i=>(Bv q2).bind fun j=>if (-(2 ^ 64)<i/\i<2 ^ 64)\/(-(2 ^ 64)<j/\j<2 ^ 64) then some (.fz (.int (i*j))) else none
def Mi:OpN K L9 (r2L (rI Th fun i j=>.int (i*j))):=by
 intro N H xs as b Q hs e k
 replace e:=CN e
 obtain⟨q1,q2,rfl,e⟩:=e
 replace e:=bind_eq_some_iff.mp e
 obtain⟨i,eq1,e⟩:=e;cases Bn eq1;clear eq1
 replace e:=bind_eq_some_iff.mp e
 obtain⟨j,eq2,e⟩:=e;cases Bn eq2;clear eq2;split at e
 .rename_i hc
  cases e;obtain⟨x,y,L1,L2,rfl,h1,h2⟩:=BZ hs;cases Bz h1;cases Bz h2;exact⟨_,_,rfl,i,j,rfl,rfl,hc,k _ _ DO⟩
 .cases e
def Hg:List A->Option A:=on1 fun q1=>(Bv q1).bind fun i=>some (.fz (.int (-i)))
def Em:OpN K Hg (r1L (rU fun i=>.int (-i))):=by
 intro N H xs as b Q hs e k
 replace e:=En e
 obtain⟨q1,rfl,e⟩:=e
 replace e:=bind_eq_some_iff.mp e
 obtain⟨i,eq1,e⟩:=e;cases Bn eq1;clear eq1;cases e;obtain⟨x,L1,rfl,h1⟩:=Dv hs;cases Bz h1;exact⟨_,rfl,i,rfl,k _ _ DO⟩
mutual
noncomputable def shB:Nat->D->Bool
 | _,.non=>true
 | _,.bl _=>true
 | _,.int _=>true
 | _,.str _=>true
 | 0,.lst _=>false
 | 0,.tup _=>false
 | n+1,.lst ds=>IK n ds
 | n+1,.tup ds=>IK n ds
noncomputable def IK:Nat->List D->Bool
 | _,[]=>true
 | n,d::ds=>shB n d&&IK n ds
end
mutual
theorem OO:∀{n:Nat} {d:D},shB n d=true->Sh n d
 | _,.non,_=>.non
 | _,.bl b,_=>.bl b
 | _,.int i,_=>.int i
 | _,.str x,_=>.str x
 | 0,.lst _,h=>by simp[shB] at h
 | 0,.tup _,h=>by simp[shB] at h
 | n+1,.lst ds,h=>.lst (MF (by simpa[shB] using h))
 | n+1,.tup ds,h=>.tup (MF (by simpa[shB] using h))
theorem MF:∀{n:Nat} {ds:List D},IK n ds=true->∀d∈ds,Sh n d
 | _,[],_,d,hd=>by simp at hd
 | n,e::ds,h,d,hd=>by
  simp only[IK,Bool.and_eq_true] at h;rcases List.mem_cons.mp hd with q|hd
  .rw[q]; exact OO h.1
  .exact MF h.2 d hd
end
def eqA:List A->Option A:=on2 fun a b=>(er a).bind fun d=>(er b).bind fun e=>if shB 16 d then some (.fz (.bl (eqD d e))) else none
def neA:List A->Option A:=on2 fun a b=>(er a).bind fun d=>(er b).bind fun e=>if shB 16 d then some (.fz (.bl (!eqD d e))) else none
theorem Ki{d:D}(q:Ar K N H v a L)(e:er a=some d):Rep H v d:=(Ar.er q e).rep
def C1:OpN K eqA (r2L Y1):=by
 intro N H xs as b Q hs e k
 replace e:=CN e
 obtain⟨a,b,rfl,e⟩:=e;simp only[bind_eq_some_iff] at e;obtain⟨d,e1,d',e2,e3⟩:=e;split at e3
 .rename_i hz
  cases e3;obtain⟨x,y,L1,L2,rfl,h1,h2⟩:=BZ hs;exact⟨_,_,rfl,d,d',Ki h1 e1,Ki h2 e2,OO hz,k _ _ Eo⟩
 .cases e3
def Pm:OpN K neA (r2L WY):=by
 intro N H xs as b Q hs e k
 replace e:=CN e
 obtain⟨a,b,rfl,e⟩:=e;simp only[bind_eq_some_iff] at e;obtain⟨d,e1,d',e2,e3⟩:=e;split at e3
 .rename_i hz
  cases e3;obtain⟨x,y,L1,L2,rfl,h1,h2⟩:=BZ hs;exact⟨_,_,rfl,d,d',Ki h1 e1,Ki h2 e2,OO hz,k _ _ Eo⟩
 .cases e3
def ltA:List A->Option A:=on2 fun a b=>((Bv a).bind fun i=>(Bv b).map fun j=>A.fz (.bl (decide (i<j)))).or ((C2 a).bind fun x=>(C2 b).map fun y=>A.fz (.bl (decide (x.cps.toList<y.cps.toList))))
def leA:List A->Option A:=on2 fun a b=>((Bv a).bind fun i=>(Bv b).map fun j=>A.fz (.bl (decide (i<=j)))).or ((C2 a).bind fun x=>(C2 b).map fun y=>A.fz (.bl (!decide (y.cps.toList<x.cps.toList))))
def IT:OpN K ltA (r2L Vn):=by
 intro N H xs as b Q hs e k
 replace e:=CN e
 obtain⟨a,b,rfl,e⟩:=e;rcases Option.or_eq_some_iff.mp e with e|⟨_,e⟩
 .simp only[bind_eq_some_iff,map_eq_some_iff] at e
  obtain⟨i,ei,j,ej,rfl⟩:=e;cases Bn ei;cases Bn ej;obtain⟨x,y,L1,L2,rfl,h1,h2⟩:=BZ hs;cases Bz h1;cases Bz h2;exact⟨_,_,rfl,.inl ⟨i,j,rfl,rfl,k _ _ Eo⟩⟩
 .simp only[bind_eq_some_iff,map_eq_some_iff] at e
  obtain⟨i,ei,j,ej,rfl⟩:=e;cases Ds ei;cases Ds ej;obtain⟨x,y,L1,L2,rfl,h1,h2⟩:=BZ hs;obtain⟨rfl,_⟩:=Eb h1;obtain⟨rfl,_⟩:=Eb h2;exact⟨_,_,rfl,.inr ⟨i,j,rfl,rfl,k _ _ Eo⟩⟩
def HR:OpN K leA (r2L Vm):=by
 intro N H xs as b Q hs e k
 replace e:=CN e
 obtain⟨a,b,rfl,e⟩:=e;rcases Option.or_eq_some_iff.mp e with e|⟨_,e⟩
 .simp only[bind_eq_some_iff,map_eq_some_iff] at e
  obtain⟨i,ei,j,ej,rfl⟩:=e;cases Bn ei;cases Bn ej;obtain⟨x,y,L1,L2,rfl,h1,h2⟩:=BZ hs;cases Bz h1;cases Bz h2;exact⟨_,_,rfl,.inl ⟨i,j,rfl,rfl,k _ _ Eo⟩⟩
 .simp only[bind_eq_some_iff,map_eq_some_iff] at e
  obtain⟨i,ei,j,ej,rfl⟩:=e;cases Ds ei;cases Ds ej;obtain⟨x,y,L1,L2,rfl,h1,h2⟩:=BZ hs;obtain⟨rfl,_⟩:=Eb h1;obtain⟨rfl,_⟩:=Eb h2;exact⟨_,_,rfl,.inr ⟨i,j,rfl,rfl,k _ _ Eo⟩⟩
def Ef:D->Bool
 | .lst _=>false
 | .tup _=>false
 | .non | .bl _ | .int _ | .str _=>true
def O9{d:D}(r:RepA N H v d)(h:Ef d=true):G0 v=true:=by
 cases r with
 | lst=>simp[Ef] at h
 | tup=>simp[Ef] at h
 | _=>rfl
def VO{x y:V}{d e:D}(r:RepA N H x d)(q:RepA N H y e)(hd:Ef d=true)(he:Ef e=true):eqV x y=eqD d e:=by
 cases r with
 | lst=>simp[Ef] at hd
 | tup=>simp[Ef] at hd
 | _ =>
  cases q with
  | lst=>simp[Ef] at he
  | tup=>simp[Ef] at he
  | _=>rfl
def inD(d:D)(ds:List D):Bool:=ds.any fun e=>eqD e d
theorem Rp{x:V}{d:D}(r:RepA N H x d)(hd:Ef d=true):∀{vs:List V} {ds:List D},Ay N H vs ds->ds.all Ef=true->vs.all G0=true/\inV x vs=inD d ds
 | [],[],_,_=>⟨rfl,rfl⟩
 | [],_::_,q,_=>by simp only[Ay] at q
 | _::_,[],q,_=>by simp only[Ay] at q
 | v::vs,e::ds,q,h=>by
  simp only[List.all_cons,Bool.and_eq_true] at h;obtain⟨h1,h2⟩:=Rp r hd q.2 h.2;refine⟨by simp[O9 q.1 h.1,h1],?_⟩;simp only[inV,inD,List.any_cons] at h2 |-;rw[h2,VO q.1 r h.1 hd]
def inA(neg:Bool):List A->Option A:=on2 fun a b=>((C2 a).bind fun x=>(C2 b).map fun y=>A.fz (.bl (if neg then !(!(Builtin.Str.occurrences y x 0 y.length 1).isEmpty) else !(Builtin.Str.occurrences y x 0 y.length 1).isEmpty))).or ((fzU a).bind fun d=>(A0 b).bind fun ds=>if Ef d&&ds.all Ef then some (.fz (.bl (if neg then !inD d ds else inD d ds))) else none)
def X9(neg:Bool):OpN K (inA neg) (r2L fun x y H Q=>rIn K neg x y H Q\/∃i j,x=.str i/\y=.str j/\Q (.bl (if neg then !(!(Builtin.Str.occurrences j i 0 j.length 1).isEmpty) else !(Builtin.Str.occurrences j i 0 j.length 1).isEmpty)) H):=by
 intro N H xs as b Q hs e k
 replace e:=CN e
 obtain⟨a,b,rfl,e⟩:=e;rcases Option.or_eq_some_iff.mp e with e|⟨_,e⟩
 .simp only[bind_eq_some_iff,map_eq_some_iff] at e
  obtain⟨i,ei,j,ej,rfl⟩:=e;cases Ds ei;cases Ds ej;obtain⟨x,y,L1,L2,rfl,h1,h2⟩:=BZ hs;obtain⟨rfl,_⟩:=Eb h1;obtain⟨rfl,_⟩:=Eb h2;exact⟨_,_,rfl,.inr ⟨i,j,rfl,rfl,k _ _ Eo⟩⟩
 .simp only[bind_eq_some_iff] at e
  obtain⟨d,ed,ds,e1,e2⟩:=e;cases Og ed;split at e2
  .rename_i hz
   cases e2;simp only[Bool.and_eq_true] at hz;obtain⟨x,y,L1,L2,rfl,h1,h2⟩:=BZ hs;obtain⟨_,h1⟩:=FQ.mp h1;obtain⟨p,vs,rfl,hp,q⟩:=Gq h2 e1;obtain⟨f1,f2⟩:=Rp h1 hz.1 q hz.2;refine⟨_,_,rfl,.inl ⟨p,vs,rfl,hp,O9 h1 hz.1,f1,?_⟩⟩;rw[f2];exact k _ _ Eo
  .cases e2
theorem Wz{X:Cx}:OpR X (compareOp .In) (fun x y H Q=>rIn X.K false x y H Q\/∃i j,x=.str i/\y=.str j/\Q (.bl (if false=true then !(!(Builtin.Str.occurrences j i 0 j.length 1).isEmpty) else !(Builtin.Str.occurrences j i 0 j.length 1).isEmpty)) H):=Qs.or Qt
def ixA:List A->Option A:=on2 fun a b=>(Bv b).bind fun i=>((C2 a).bind fun z=>(atI z.cps.toList i).map fun c=>A.fz (.str ⟨#[c]⟩)).or ((A0 a).bind fun ds=>(atI ds i).map A.fz)
def VF{vs:List V}{ds:List D}{i:Int}{d:D}(q:Ay N H vs ds)(e:atI ds i=some d):∃v,atI vs i=some v/\RepA N H v d:=by
 unfold atI at e |-;rw[q.len];simp only[bind_eq_some_iff] at e |-;obtain⟨j,e1,e2⟩:=e;obtain⟨v,hv⟩:=VL q (AK e2);exact⟨v,⟨j,e1,hv⟩,q.get j v d hv e2⟩
def AO:OpN K ixA (r2L (rIx K)):=by
 intro N H xs as b Q hs e k
 replace e:=CN e
 obtain⟨a,b,rfl,e⟩:=e;obtain⟨i,ei,e8⟩:=bind_eq_some_iff.mp e;cases Bn ei;rcases Option.or_eq_some_iff.mp e8 with e|⟨_,e⟩
 .simp only[bind_eq_some_iff,map_eq_some_iff] at e
  obtain⟨z,ez,c,e1,rfl⟩:=e;cases Ds ez;obtain⟨x,y,L1,L2,rfl,h1,h2⟩:=BZ hs;obtain⟨rfl,hz⟩:=Eb h1;cases Bz h2;exact⟨_,_,rfl,.inr (.inr ⟨z,i,c,rfl,rfl,hz,e1,k _ _ (Jo (by show 1<=sizeLine; decide))⟩)⟩
 .simp only[bind_eq_some_iff,map_eq_some_iff] at e
  obtain⟨ds,e1,d,e2,rfl⟩:=e;obtain⟨x,y,L1,L2,rfl,h1,h2⟩:=BZ hs;cases Bz h2;obtain⟨p,vs,rfl,hp,q⟩:=Gq h1 e1;obtain⟨v,hv,q2⟩:=VF q e2;rcases hp with hp|hp
  .exact⟨_,_,rfl,.inl ⟨p,vs,i,v,rfl,rfl,hp,hv,k _ _ (Ho q2)⟩⟩
  .exact⟨_,_,rfl,.inr (.inl ⟨p,vs,i,v,rfl,rfl,hp,hv,k _ _ (Ho q2)⟩)⟩
def BX:List A->Option A:=on1 fun a=>((C2 a).map fun z=>A.fz (.int z.length)).or ((A0 a).map fun ds=>A.fz (.int ds.length))
def Cm:OpN K BX (Yp K):=by
 intro N H xs as b Q hs e k
 replace e:=En e
 obtain⟨a,rfl,e⟩:=e;rcases Option.or_eq_some_iff.mp e with e|⟨_,e⟩
 .obtain⟨z,ez,rfl⟩:=map_eq_some_iff.mp e
  cases Ds ez;obtain⟨x,L1,rfl,h1⟩:=Dv hs;obtain⟨rfl,hz⟩:=Eb h1;exact .inr ⟨z,rfl,hz,k _ _ DO⟩
 .obtain⟨ds,e1,rfl⟩:=map_eq_some_iff.mp e
  obtain⟨x,L1,rfl,h1⟩:=Dv hs;obtain⟨p,vs,rfl,hp,q⟩:=Gq h1 e1;refine .inl ⟨p,vs,rfl,hp,?_⟩;rw[q.len];exact k _ _ DO
theorem A7{X:Cx}:CF X (.builtin "len") (Yp X.K):=LI.or LJ
def QW:List A->Option A:=on1 fun q1=>(Bv q1).bind fun i=>some (.fz (.int (if i<0 then -i else i)))
def R1:OpN K QW (fun xs H Q=>∃i,xs=[.int i]/\Q (.int (if i<0 then -i else i)) H):=by
 intro N H xs as b Q hs e k
 replace e:=En e
 obtain⟨q1,rfl,e⟩:=e
 replace e:=bind_eq_some_iff.mp e
 obtain⟨i,eq1,e⟩:=e;cases Bn eq1;clear eq1;cases e;obtain⟨x,L1,rfl,h1⟩:=Dv hs;cases Bz h1;exact⟨i,rfl,k _ _ DO⟩
def Wg:List A->Option A:=on2 fun q1 q2=>(Bv q1).bind fun i=>(Bv q2).bind fun j=>some (.fz (.int (if j > i then j else i)))
def RQ:List A->Option A:=on2 fun q1 q2=>(Bv q1).bind fun i=>(Bv q2).bind fun j=>some (.fz (.int (if j<i then j else i)))
def Wv:OpN K Wg (fun xs H Q=>∃i j,xs=[.int i,.int j]/\Q (.int (if j > i then j else i)) H):=by
 intro N H xs as b Q hs e k
 replace e:=CN e
 obtain⟨q1,q2,rfl,e⟩:=e
 replace e:=bind_eq_some_iff.mp e
 obtain⟨i,eq1,e⟩:=e;cases Bn eq1;clear eq1
 replace e:=bind_eq_some_iff.mp e
 obtain⟨j,eq2,e⟩:=e;cases Bn eq2;clear eq2;cases e;obtain⟨x,y,L1,L2,rfl,h1,h2⟩:=BZ hs;cases Bz h1;cases Bz h2;exact⟨i,j,rfl,k _ _ DO⟩
def R5:OpN K RQ (fun xs H Q=>∃i j,xs=[.int i,.int j]/\Q (.int (if j<i then j else i)) H):=by
 intro N H xs as b Q hs e k
 replace e:=CN e
 obtain⟨q1,q2,rfl,e⟩:=e
 replace e:=bind_eq_some_iff.mp e
 obtain⟨i,eq1,e⟩:=e;cases Bn eq1;clear eq1
 replace e:=bind_eq_some_iff.mp e
 obtain⟨j,eq2,e⟩:=e;cases Bn eq2;clear eq2;cases e;obtain⟨x,y,L1,L2,rfl,h1,h2⟩:=BZ hs;cases Bz h1;cases Bz h2;exact⟨i,j,rfl,k _ _ DO⟩
def DY:List D->Option (List Bool)
 | []=>some []
 | .bl b::ds=>(DY ds).map (b :: ·)
 | _::_=>none
def QY:∀{vs:List V} {ds:List D} {bs:List Bool},Ay N H vs ds->DY ds=some bs->vs=Ib bs:=by
 intro _l;induction _l with
 | nil =>
  intro _m;cases _m with
  | nil =>
   intro bs _ e;simp[DY] at e; subst e; rfl
  | cons _ _ =>
   intro _ q _;simp only[Ay] at q
 | cons v vs ih =>
  intro _m;cases _m with
  | nil =>
   intro _ q _;simp only[Ay] at q
  | cons d ds =>
   intro bs q e;cases d with
   | bl b =>
    simp only[DY,map_eq_some_iff] at e;obtain⟨bs',e1,rfl⟩:=e;have:=ih q.2 e1;obtain⟨q1,_⟩:=q;cases q1;subst this;rfl
   | _=>simp[DY] at e
def El:List A->Option A:=on1 fun a=>(CS a).bind fun ds=>(DY ds).map fun bs=>.fz (.bl (bs.all id))
def YO:List A->Option A:=on1 fun a=>(CS a).bind fun ds=>(DY ds).map fun bs=>.fz (.bl (bs.any id))
def EN:OpN K El (Y0 K):=by
 intro N H xs as b Q hs e k
 replace e:=En e
 obtain⟨a,rfl,e⟩:=e;simp only[bind_eq_some_iff,map_eq_some_iff] at e;obtain⟨ds,e1,bs,e2,rfl⟩:=e;obtain⟨x,L1,rfl,h1⟩:=Dv hs;obtain⟨p,vs,rfl,hp,hz,q⟩:=DN h1 e1;cases QY q e2;exact⟨p,bs,rfl,.inl (.inl hp),k _ _ Eo⟩
def Ll:List A->Option A:=on1 fun a=>(A0 a).bind fun ds=>if ds.length<=LIM then some (.lst (ds.map A.fz)) else none
def Pl:OpN K Ll (UE K):=by
 intro N H xs as b Q hs e k
 replace e:=En e
 obtain⟨a,rfl,e⟩:=e;simp only[bind_eq_some_iff] at e;obtain⟨ds,e1,e2⟩:=e;split at e2
 .rename_i hz
  cases e2;obtain⟨x,L1,rfl,h1⟩:=Dv hs;obtain⟨p,vs,rfl,hp,q⟩:=Gq h1 e1;exact⟨p,vs,rfl,hp,fun l hl=>k _ _ (FN hl (by rw[q.len]; exact hz) q)⟩
 .cases e2
def CQ(f:D->Bool):List A->Option A:=on1 fun a=>(er a).map fun d=>.fz (.bl (f d))
def Ws{T:String}{f:D->Bool}:OpN K (CQ f) (r1L fun x H Q=>∃d,Rep H x d/\Q (.bl (f d)) H):=by
 intro N H xs as b Q hs e k
 replace e:=En e
 obtain⟨a,rfl,e⟩:=e;simp only[map_eq_some_iff] at e;obtain⟨d,e1,rfl⟩:=e;obtain⟨x,L1,rfl,h1⟩:=Dv hs;exact⟨x,rfl,d,Ki h1 e1,k _ _ Eo⟩
def Kx{T:String}{f:D->Bool}{m:ME}{σ:L2.St}{Q:VK}(h:tE K (opM (CQ f) (m1L m)) σ H Q):tCB (rIs T f) (C3 (tE K m) (C3 (tC (.ty T)) Hw)) σ H Q:=by
 have h2:=one (Ws (T:=T)) h;exact tE.mono h2 fun x H1 ⟨d,r,q⟩=>⟨x,d,rfl,r,q⟩
end
end J
end
section
namespace J
open PySem PySem.Spec PyProof.Rows L2
section
variable{X:Cx}{a b c e:Expr}{es:List Expr}{m m1 m2 m3:ME}{ms:MA}{p pos pos' p2 apos cpos q:Pos}{x:Str}
variable{K:Frag}{H:Hp}{σ:L2.St}
theorem Rz(hg:Gl X "isinstance")(hg2:Gl X "int")(B:Blt X.mg X.K)(he:starEach [a,.Name "int" q] X.env=[(false,eval a X.env),(false,eval (.Name "int" q) X.env)])(he2:starEach [.Name "int" q] X.env=[(false,eval (.Name "int" q) X.env)])(ha:JE X a m):
  JE X (.Call (.Name "isinstance" p) [a,.Name "int" q] [] pos) (opM (CQ isInt) (m1L m)):=AM (WD hg hg2 B he he2 ha) fun _ _ _ h=>Kx h
theorem Ry(hg:Gl X "isinstance")(hg2:Gl X "bool")(B:Blt X.mg X.K)(he:starEach [a,.Name "bool" q] X.env=[(false,eval a X.env),(false,eval (.Name "bool" q) X.env)])(he2:starEach [.Name "bool" q] X.env=[(false,eval (.Name "bool" q) X.env)])(ha:JE X a m):
  JE X (.Call (.Name "isinstance" p) [a,.Name "bool" q] [] pos) (opM (CQ isBool) (m1L m)):=AM (WC hg hg2 B he he2 ha) fun _ _ _ h=>Kx h
theorem Ip(hg:Gl X "isinstance")(hg2:Gl X "list")(B:Blt X.mg X.K)(he:starEach [a,.Name "list" q] X.env=[(false,eval a X.env),(false,eval (.Name "list" q) X.env)])(he2:starEach [.Name "list" q] X.env=[(false,eval (.Name "list" q) X.env)])(ha:JE X a m):
  JE X (.Call (.Name "isinstance" p) [a,.Name "list" q] [] pos) (opM (CQ Dc) (m1L m)):=AM (WE hg hg2 B he he2 ha) fun _ _ _ h=>Kx h
theorem Oo(hg:Gl X "isinstance")(hg2:Gl X "tuple")(B:Blt X.mg X.K)(he:starEach [a,.Name "tuple" q] X.env=[(false,eval a X.env),(false,eval (.Name "tuple" q) X.env)])(he2:starEach [.Name "tuple" q] X.env=[(false,eval (.Name "tuple" q) X.env)])(ha:JE X a m):
  JE X (.Call (.Name "isinstance" p) [a,.Name "tuple" q] [] pos) (opM (CQ isTup) (m1L m)):=AM (WG hg hg2 B he he2 ha) fun _ _ _ h=>Kx h
theorem LV(hg:Gl X "isinstance")(hg2:Gl X "str")(B:Blt X.mg X.K)(he:starEach [a,.Name "str" q] X.env=[(false,eval a X.env),(false,eval (.Name "str" q) X.env)])(he2:starEach [.Name "str" q] X.env=[(false,eval (.Name "str" q) X.env)])(ha:JE X a m):
  JE X (.Call (.Name "isinstance" p) [a,.Name "str" q] [] pos) (opM (CQ isStr) (m1L m)):=AM (WH hg hg2 B he he2 ha) fun _ _ _ h=>Kx h
def slF(x:A)(lo hi:Option Int):Option A:=match x with
 | .fz (.str z)=>some (.fz (.str (Txt.slice z lo hi)))
 | _=>none
def Y3:List A->Option A:=on2 fun x q2=>(Bv q2).bind fun j=>slF x none (some j)
def Y4:List A->Option A:=on2 fun x q2=>(Bv q2).bind fun i=>slF x (some i) none
def HY:List D->Option (List Str)
 | []=>some []
 | .str z::ds=>(HY ds).map (z :: ·)
 | _::_=>none
def UU{N:Addr->Prop}:∀{vs:List V} {ds:List D} {zs:List Str},Ay N H vs ds->HY ds=some zs->vs=zs.map V.str:=by
 intro _l;induction _l with
 | nil =>
  intro _m;cases _m with
  | nil =>
   intro zs _ e;simp[HY] at e; subst e; rfl
  | cons _ _ =>
   intro _ q _;simp only[Ay] at q
 | cons v vs ih =>
  intro _m;cases _m with
  | nil =>
   intro _ q _;simp only[Ay] at q
  | cons d ds =>
   intro zs q e;cases d with
   | str z =>
    simp only[HY,map_eq_some_iff] at e;obtain⟨zs',e1,rfl⟩:=e;have:=ih q.2 e1;obtain⟨q1,_⟩:=q;cases q1;subst this;rfl
   | _=>simp[HY] at e
def GV(f:Str->List A->Option A)(m:ME)(ms:MA):ME:=fun Z=>(m Z).bind fun p=>match p.1 with
 | .val (.fz (.str z))=>(ms p.2).bind fun q=>(peeks q.2 q.1).bind fun as=>(f z as).map fun a=>(.val a,q.2)
 | _=>none
def S4{f:Str->List A->Option A}{r:V->List V->Hp->VK->Prop}{Q:VK}(ok:∀z,z.length<=sizeLine->OpN K (f z) fun xs H Q=>r (.str z) xs H Q)(h:tE K (GV f m ms) σ H Q):tBM K "str" r (tE K m) (tA K ms) σ H Q:=by
 obtain⟨Z,O,fp,rl,y,Z',h0,k⟩:=h;simp only[GV,bind_eq_some_iff] at h0;obtain⟨⟨r1,Z1⟩,e1,h0⟩:=h0;dsimp only at h0;split at h0
 .rename_i z
  simp only[bind_eq_some_iff,map_eq_some_iff] at h0;obtain⟨⟨rs,Z2⟩,e2,as,e3,c,e4,e5⟩:=h0;cases e5;refine⟨Z,O,fp,rl,_,Z1,e1,fun v H1 yy=>?_⟩;obtain⟨L,fp1,p,q⟩:=yy;obtain⟨rfl,hz⟩:=Eb (K:=K) q;have p':=p.drop0;refine⟨rfl,Z1,O,fp1,p'.rel0,rs,Z2,e2,fun vs H2 yy=>?_⟩;obtain⟨L2,fp2,p2,q2⟩:=yy;exact ok z hz _ H2 vs as c Q (p2.rel.peeks q2 e3) e4 fun u H3 o=>k u H3 ((p2.out o).pre p')
 .cases h0
def X3(sep:Str):List A->Option A:=on1 fun b=>if sep.length=0 then (CS b).bind fun ds=>(HY ds).bind fun zs=>if (zs.map (·.length)).sum<=16777216 then some (.fz (.str (glue zs))) else none else none
def VW(z:Str):List A->Option A:=on1 fun q1=>(C2 q1).bind fun y=>if 0<=Txt.find z y then some (.fz (.int (Txt.find z y))) else none
def Rq:List D->Option (List Int)
 | []=>some []
 | .int z::ds=>(Rq ds).map (z :: ·)
 | _::_=>none
end
section
variable{K:Frag}{Z Z' Z1 Z2:Ro}{σ σ' σ1 σ2:L2.St}{H H' H1 H2:Hp}{O O' N:Addr->Prop}{fp fp' fp1 fp2:Nat->List Addr}{L L1:List Addr}
def Post.mut{i:Nat}{st:Own}{a a':A}{v:V}{p:Addr}{o:HO}{vs:List V}{L':List Addr}(x:Post K O fp H Z Z1 σ σ L fp1 H1)(hi : Z1[i]? = some (some (st,a)))(hst:st≠.ro)(hv : σ[i]? = some (some v))(hp:p∈fp1 i)(hy:H1 p=some (.lst vs))(hL:∀q∈L',q∈fp1 i\/q∈L)(nd:L'.Nodup)(hr:Ar K (NN fp1 (ad O L)) (upd H1 p o) v a' L'):Post K O fp H Z (Z1.set i (some (st,a'))) σ σ [] (pt fp1 i L') (upd H1 p o):=by
 have alp:∀q,H1 q≠none->upd H1 p o q≠none:=fun q z=>by
  by_cases e:q=p
  .subst e; rw[AU]; simp
  .rw[AB e]; exact z
 have k:=Dy (o:=o) hy
 -- first the heap,then the slot
 have nn:∀q,NN (pt fp1 i L') (ad O []) q->NN fp1 (ad O L) q:=fun q z=>by
  rcases z with ⟨j,z⟩|z|z
  .rcases Ck z with ⟨_,z⟩|⟨_,z⟩
   .rcases hL q z with z|z
    .exact .inl ⟨i,z⟩
    .exact .inr (.inr z)
   .exact .inl ⟨j,z⟩
  .exact .inr (.inl z)
  .simp at z
 have dis:∀q∈L',∀j,j≠i->q∉fp1 j:=fun q hq j hj z=>by
  rcases hL q hq with w|w
  .exact hj (x.rel.inj j i q z w)
  .exact x.rel.off j q z (.inr w)
 refine⟨⟨by rw[List.length_set]; exact x.rel.len,fun j st' b e=>?_,fun j h=>?_,fun j=>?_,fun j1 j2 q h1 h2=>?_,fun j q h z=>?_,fun q z=>alp q (x.rel.al q (nn q z))⟩,List.nodup_nil,fun q h=>by simp at h,fun q h=>?_,fun b u e c=>?_,rfl,fun j st' b e h=>?_⟩
 .by_cases hj:j=i
  .subst hj
   rw[List.getElem?_set_self (AK hi)] at e;cases e;exact⟨v,hv,by rw[GQ]; exact Ei nn hr⟩
  .rw[List.getElem?_set_ne (Ne.symm hj)] at e
   obtain⟨w,e1,q⟩:=x.rel.slot j _ _ e;refine⟨w,e1,?_⟩;rw[IU hj];exact q.tr (M:=fun q=>q=p) (fun b z=>by rw[z]; exact .inl ⟨i,hp⟩) k (fun b z=>.inl (nn b z)) fun b hb z=>hj (x.rel.inj j i p (z ▸ hb) hp)
 .by_cases hj:j=i
  .subst hj
   exact absurd (List.getElem?_set_self (AK hi)) (h st a')
  .rw[IU hj]
   exact x.rel.out j fun st' b e=>h st' b (by rw[List.getElem?_set_ne (Ne.symm hj)]; exact e)
 .by_cases hj:j=i
  .subst hj; rw[GQ]; exact nd
  .rw[IU hj]; exact x.rel.nd j
 .rcases Ck h1 with ⟨e1,z1⟩|⟨e1,z1⟩
  .rcases Ck h2 with ⟨e2,z2⟩|⟨e2,z2⟩
   .rw[e1,e2]
   .exact absurd z2 (dis q z1 j2 e2)
  .rcases Ck h2 with ⟨e2,z2⟩|⟨e2,z2⟩
   .exact absurd z1 (dis q z2 j1 e1)
   .exact x.rel.inj j1 j2 q z1 z2
 .have z':=Lw.mp z
  rcases Ck h with ⟨_,z1⟩|⟨_,z1⟩
  .rcases hL q z1 with w|w
   .exact x.rel.off i q w (.inl z')
   .exact x.lo q w z'
  .exact x.rel.off j q z1 (.inl z')
 .rcases h with h|⟨j,h⟩
  .simp at h
  .rcases Ck h with ⟨_,z1⟩|⟨_,z1⟩
   .rcases hL q z1 with w|w
    .exact x.new q (.inr ⟨i,w⟩)
    .exact x.new q (.inl w)
   .exact x.new q (.inr ⟨j,z1⟩)
 .have e1:=x.kept b u e c
  by_cases hb:b=p
  .subst hb
   rw[hy] at e1;cases e1;rcases c with c|c
   .rcases x.new b (.inr ⟨i,hp⟩) with z|z
    .exact absurd z c
    .rw[e] at z; cases z
   .cases c
  .rw[AB hb]; exact e1
 .obtain⟨b',e1,_,f⟩:=x.stab j st' b e h
  by_cases hj:j=i
  .subst hj
   rw[hi] at e1;cases e1;exact⟨a',List.getElem?_set_self (AK hi),rfl,fun z=>absurd z hst⟩
  .exact⟨b',by rw[List.getElem?_set_ne (Ne.symm hj)]; exact e1,rfl,f⟩
theorem Ap.app:∀{vs ws:List V} {as bs:List A} {L1 L2:List Addr},Ap K N H vs as L1->Ap K N H ws bs L2->Ap K N H (vs++ws) (as++bs) (L1++L2)
 | [],ws,[],bs,L1,L2,r,q=>by
  simp only[Ap] at r;subst r;exact q
 | [],_,_::_,_,_,_,r,_=>by simp only[Ap] at r
 | _::_,_,[],_,_,_,r,_=>by simp only[Ap] at r
 | v::vs,ws,a::as,bs,L1,L2,r,q=>by
  simp only[Ap] at r;obtain⟨M1,M2,rfl,h1,h2⟩:=r;simp only[List.cons_append,Ap];exact⟨M1,M2++L2,by simp,h1,Ap.app h2 q⟩
def F6(Z:Ro)(i:Nat):Option (Own×List A):=match Z[i]? with
 | some (some (.ro,_))=>none
 | some (some (st,.lst as))=>some (st,as)
 | _=>none
def Jl{i:Nat}{st:Own}{as:List A}(h:F6 Z i=some (st,as)): Z[i]? = some (some (st,.lst as))/\st≠.ro:=by
 unfold F6 at h;split at h
 .cases h
 .rename_i st' as' hn e
  cases h;exact⟨e,fun z=>hn z⟩
 .cases h
def IX(i:Nat)(m:ME):MS:=fun Z=>(F6 Z i).bind fun _=>(m Z).bind fun p=>(keep p.2 p.1).bind fun q=>(F6 q.2 i).bind fun h=>if h.2.length<LIM then some (.next (q.2.set i (some (h.1,.lst (h.2++[q.1]))))) else none
def Xn{i:Nat}{m:ME}{D:Ends}(h:tS K (IX i m) D σ H):NX (tBM K "list" Mw (OT i) (C3 (tE K m) Hw)) D σ H:=by
 obtain⟨Z,O,fp,rl,fl,e,w⟩:=h;simp only[IX,bind_eq_some_iff] at e;obtain⟨⟨st0,as0⟩,e0,⟨r,Z1⟩,e1,⟨a,Z2⟩,e2,⟨st,as⟩,e3,e4⟩:=e;split at e4
 .rename_i hz
  cases e4;obtain⟨g0,_⟩:=Jl e0;obtain⟨v,hv,q0⟩:=rl.slot i _ _ g0;rw[Ar] at q0;obtain⟨p0,vs0,_,rfl,_,hp0,_,_⟩:=q0;refine⟨_,hv,.inl ⟨rfl,vs0,.inl (.inl hp0)⟩,Z,O,fp,rl,r,Z1,e1,fun y H1 yy=>?_⟩
  obtain⟨L,fp1,p,q⟩:=yy;obtain⟨L2,fp2,p2,q2⟩:=Iu p q e2;obtain⟨g,gst⟩:=Jl e3;obtain⟨v',hv',qi⟩:=p2.rel.slot i _ _ g;rw[hv] at hv'; cases hv';rw[Ar] at qi;obtain⟨pa,vs,L',e5,e6,hp,hz',hs⟩:=qi;cases e5;have hlen:=hs.len;refine⟨p0,vs,y,rfl,rfl,hp,by rw[hlen]; exact hz,w _ _ _ (p2.mut (a':=.lst (as++[a])) (L':=p0::(L'++L2)) g gst hv (by rw[e6]; simp) hp (fun b hb=>?_) ?_ ?_)⟩
  .rcases List.mem_cons.mp hb with rfl|hb
   .rw[e6]; simp
   .rcases List.mem_append.mp hb with hb|hb
    .rw[e6]; simp[hb]
    .exact .inr hb
  .have n1:=p2.rel.nd i
   rw[e6] at n1;have n2:(p0::L').Nodup:=n1;have:((p0::L')++L2).Nodup:=List.nodup_append.mpr ⟨n2,p2.nd,fun b hb c hc e=>by
    subst e;exact p2.rel.off i b (by rw[e6]; exact hb) (.inr hc)⟩
   simpa using this
  .rw[Ar]
   have k:=Dy (o:=.lst (vs++[y])) hp;have pn:NN fp2 (ad O L2) p0:=.inl ⟨i,by rw[e6]; simp⟩;have n1:=p2.rel.nd i;rw[e6] at n1;have h1:Ap K (NN fp2 (ad O L2)) (upd H1 p0 (.lst (vs++[y]))) vs as L':=hs.tr (M:=fun b=>b=p0) (fun b z=>z ▸ pn) k (fun b z=>.inl z) fun b hb z=>by
    subst z;exact(List.nodup_cons.mp n1).1 hb
   have h2:Ar K (NN fp2 (ad O L2)) (upd H1 p0 (.lst (vs++[y]))) y a L2:=q2.tr (M:=fun b=>b=p0) (fun b z=>z ▸ pn) k (fun b z=>.inl z) fun b hb z=>by
    subst z;exact p2.rel.off i b (by rw[e6]; simp) (.inr hb)
   have h3:Ap K (NN fp2 (ad O L2)) (upd H1 p0 (.lst (vs++[y]))) [y] [a] L2:=by
    simp only[Ap];exact⟨L2,[],by simp,h2,rfl⟩
   refine⟨p0,vs++[y],L'++L2,rfl,rfl,AU,?_,Ap.app h1 h3⟩;rw[List.length_append,hlen];exact hz
 .cases e4
def YS(i:Nat)(m:ME):MS:=fun Z=>(F6 Z i).bind fun _=>(m Z).bind fun p=>(peek p.2 p.1).bind fun b=>(CS b).bind fun ds=>(F6 p.2 i).bind fun h=>if h.2.length+ds.length<=LIM then some (.next (p.2.set i (some (h.1,.lst (h.2++ds.map A.fz))))) else none
def NH(i:Nat)(mk me:ME):MS:=fun Z=>(me Z).bind fun p=>(share p.2 p.1).bind fun s=>(F6 s.2 i).bind fun _=>(mk s.2).bind fun t=>match t.1 with
 | .val (.fz (.int k))=>(F6 t.2 i).bind fun h=>(ixN h.2.length k).map fun j=>.next (t.2.set i (some (h.1,.lst (h.2.set j (.fz s.1)))))
 | _=>none
theorem Ap.setFz:∀{vs:List V} {as:List A} {L:List Addr} {j:Nat} {v:V} {d:D},Ap K N H vs as L->RepA N H v d->∃L',Ap K N H (vs.set j v) (as.set j (.fz d)) L'/\(∀q∈L',q∈L)/\(L.Nodup->L'.Nodup)
 | [],[],L,j,v,d,r,_=>⟨L,by simpa using r,fun _ h=>h,id⟩
 | [],_::_,_,_,_,_,r,_=>by simp only[Ap] at r
 | _::_,[],_,_,_,_,r,_=>by simp only[Ap] at r
 | x::vs,a::as,L,0,v,d,r,q=>by
  simp only[Ap] at r;obtain⟨M1,M2,rfl,h1,h2⟩:=r;refine⟨M2,?_,fun b h=>List.mem_append_right _ h,fun h=>(List.nodup_append.mp h).2.1⟩;simp only[List.set_cons_zero,Ap];exact⟨[],M2,rfl,F8 q,h2⟩
 | x::vs,a::as,L,j+1,v,d,r,q=>by
  simp only[Ap] at r;obtain⟨M1,M2,rfl,h1,h2⟩:=r;obtain⟨L',g1,g2,g3⟩:=Ap.setFz (j:=j) h2 q;refine⟨M1++L',?_,fun b h=>?_,fun h=>?_⟩
  .simp only[List.set_cons_succ,Ap]
   exact⟨M1,L',rfl,h1,g1⟩
  .rcases List.mem_append.mp h with h|h
   .exact List.mem_append_left _ h
   .exact List.mem_append_right _ (g2 b h)
  .obtain⟨n1,n2,n3⟩:=List.nodup_append.mp h
   exact List.nodup_append.mpr ⟨n1,g3 n2,fun b hb c hc e=>n3 b hb c (g2 c hc) e⟩
def Xr{i:Nat}{mk me:ME}{D:Ends}(h:tS K (NH i mk me) D σ H):OP (tE K me) (XX (OT i) (tE K mk) Vo) D σ H:=by
 obtain⟨Z,O,fp,rl,fl,e,w⟩:=h;simp only[NH,bind_eq_some_iff] at e;obtain⟨⟨r,Z1⟩,e1,⟨d,Z2⟩,e2,⟨st0,as0⟩,e0,⟨r3,Z3⟩,e3,e4⟩:=e;dsimp only at e4;split at e4
 .rename_i kk
  simp only[bind_eq_some_iff,map_eq_some_iff] at e4;obtain⟨⟨st,as⟩,e5,j,e6,e7⟩:=e4;cases e7;refine⟨Z,O,fp,rl,r,Z1,e1,fun y H1 yy=>?_⟩;obtain⟨L,fp1,p,q⟩:=yy;obtain⟨fp2,p2,q2⟩:=FW p q e2;obtain⟨g0,_⟩:=Jl e0;obtain⟨v,hv,q0⟩:=p2.rel.slot i _ _ g0;rw[Ar] at q0;obtain⟨p0,vs0,_,rfl,_,hp0,_,_⟩:=q0;refine⟨_,hv,Z2,O,fp2,p2.rel0,_,Z3,e3,fun y2 H2 yy=>?_⟩;obtain⟨L3,fp3,p3,q3⟩:=yy;cases Bz (K:=K) q3;have p4:=(p2.next p3).drop0;obtain⟨g,gst⟩:=Jl e5;obtain⟨v',hv',qi⟩:=p4.rel.slot i _ _ g;rw[hv] at hv'; cases hv';rw[Ar] at qi;obtain⟨pa,vs,L',e8,e9,hp,hz',hs⟩:=qi;cases e8;have hlen:=hs.len;have qy:RepA (NN fp3 (ad O [])) H2 y d:=(DT (fun b z=>Gy.mpr z) q2).tr (M:=Fp fp2) (fun b z=>.inl z) p3.kept fun b z=>by
   rcases z with z|z|z
   .exact(p3.new b (.inr z)).imp (fun y=>.inl y) id
   .exact .inl (.inr z)
   .simp at z
  have k:=Dy (o:=.lst (vs.set j y)) hp;have pn:NN fp3 (ad O []) p0:=.inl ⟨i,by rw[e9]; simp⟩;have n1:=p4.rel.nd i;rw[e9] at n1;have h1:Ap K (NN fp3 (ad O [])) (upd H2 p0 (.lst (vs.set j y))) vs as L':=hs.tr (M:=fun b=>b=p0) (fun b z=>z ▸ pn) k (fun b z=>.inl z) fun b hb z=>by
   subst z;exact(List.nodup_cons.mp n1).1 hb
  have h2:RepA (NN fp3 (ad O [])) (upd H2 p0 (.lst (vs.set j y))) y d:=qy.tr (M:=fun b=>b=p0) (fun b z=>z ▸ pn) k fun b z=>.inl z;obtain⟨L4,g1,g2,g3⟩:=Ap.setFz (j:=j) h1 h2;refine⟨p0,vs,kk,j,rfl,rfl,hp,by rw[hlen]; exact e6,w _ _ _ (p4.mut (a':=.lst (as.set j (.fz d))) (L':=p0::L4) g gst hv (by rw[e9]; simp) hp (fun b hb=>?_) ?_ ?_)⟩
  .rcases List.mem_cons.mp hb with rfl|hb
   .exact .inl (by rw[e9]; simp)
   .exact .inl (by rw[e9]; simp[g2 b hb])
  .exact List.nodup_cons.mpr ⟨fun z=>(List.nodup_cons.mp n1).1 (g2 _ z),g3 (List.nodup_cons.mp n1).2⟩
  .rw[Ar]
   exact⟨p0,vs.set j y,L4,rfl,rfl,AU,by rw[List.length_set]; exact hz',g1⟩
 .cases e4
end
section
variable{X:Cx}{a b c e:Expr}{es:List Expr}{m m1 m2 m3:ME}{ms:MA}{p pos pos' p2 apos cpos q npos:Pos}{x:Str}
theorem LX(i:Nat)(hN:X.N[i]? = some x)(hv:Vis X.env.scope x)(hd:(x==("__debug__" : Str))=false)(hcd:(x==("__classdict__" : Str))=false)(hbase:attributeBase (.Name x npos) "append" X.env (eval (.Name x npos) X.env)=eval (.Name x npos) X.env)(hline:(apos.endLine==cpos.line)=true)(hs:starEach [e] X.env=[(false,eval e X.env)])(hw:swapsWith (.Call (.Attribute (.Name x npos) "append" apos) [e] [] cpos) none pos.line X.env=pure false)(he:JE X e m):JS X (.Expr (.Call (.Attribute (.Name x npos) "append" apos) [e] [] cpos) pos) (IX i m):=
 CA (Jp (Pr PySem.F.plainAttrs_list PySem.F.slot_list_append PySem.F.type_list_append GO (Ms hN hv hd hcd) (DP he FO hs) hbase (by rw[hs]; rfl) hline hs rfl) hw) fun _ _ _ h=>Xn h
theorem Ou(i:Nat)(hN:X.N[i]? = some x)(hv:Vis X.env.scope x)(hd:(x==("__debug__" : Str))=false)(hcd:(x==("__classdict__" : Str))=false)(ha:∀v,assign (.Subscript (.Name x npos) b pos') X.env v=(do
   let ov <- holding [v] (eval (.Name x npos) X.env)
   let iv <- holding [v,ov] (eval b X.env)
   standAt pos'
   holding [v,ov,iv] (setItem ov iv v)
   release [v,ov,iv] []))(hs:swapsWithSole [.Subscript (.Name x npos) b pos'] e pos.line X.env=pure false)(hw:swappedStores [.Subscript (.Name x npos) b pos'] e X.env=pure none)(h1:(assignEach [.Subscript (.Name x npos) b pos'] X.env).map (·.2)=[assign (.Subscript (.Name x npos) b pos') X.env])(hk:JE X b m1)(he:JE X e m2):JS X (.Assign [.Subscript (.Name x npos) b pos'] e pos) (NH i m1 m2):=
 CA (Sn he (WO (Ms hN hv hd hcd) hk set_list ha) hs hw h1) fun _ _ _ h=>Xr h
end
end J
end
section
namespace L2
open PySem PySem.Spec PyProof.Rows
mutual
noncomputable def X4:D->Bool
 | .non=>true
 | .int _=>true
 | .str _=>true
 | .tup ds=>Vb ds
 | .bl _=>false
 | .lst _=>false
noncomputable def Vb:List D->Bool
 | []=>true
 | d::ds=>X4 d&&Vb ds
end
structure M1 (X:Cx) (o:Expr) (m:Str) (apos:Pos) (e:Expr) (cpos:Pos):Prop where
 base:attributeBase o m X.env (eval o X.env)=eval o X.env
 few:((backTo cpos (starEach [e] X.env)).all (fun x=>!x.1)&&(backToKw cpos (keywordEach [] X.env)).all (fun x=>x.1.isSome)
  && decide (([e]:List Expr).length+([]:List Keyword).length+(if ([]:List Keyword).isEmpty then 0 else 1)<30))=true
 line:(apos.endLine==cpos.line)=true
 trees:backTo cpos (starEach [e] X.env)=[(false,eval e X.env)]
structure M2 (X:Cx) (o:Expr) (m:Str) (apos:Pos) (e f:Expr) (cpos:Pos):Prop where
 base:attributeBase o m X.env (eval o X.env)=eval o X.env
 few:((backTo cpos (starEach [e,f] X.env)).all (fun x=>!x.1)&&(backToKw cpos (keywordEach [] X.env)).all (fun x=>x.1.isSome)
  && decide (([e,f]:List Expr).length+([]:List Keyword).length+(if ([]:List Keyword).isEmpty then 0 else 1)<30))=true
 line:(apos.endLine==cpos.line)=true
 trees:backTo cpos (starEach [e,f] X.env)=[(false,eval e X.env),(false,eval f X.env)]
end L2
namespace J
open PySem PySem.Spec PyProof.Rows L2
section
variable{X:Cx}{a b c e:Expr}{es:List Expr}{m m1 m2 m3:ME}{ms:MA}{p pos pos' p2 apos cpos q npos:Pos}{x:Str}
variable{K:Frag}{N:Addr->Prop}{H:Hp}{σ:L2.St}{v:V}{L:List Addr}
def YV:D->Option Key
 | .int i=>some (.inl i)
 | .str z=>some (.inr z)
 | .non | .bl _ | .lst _ | .tup _=>none
end
section
variable{P:Program}{w:World}{K:Frag}{mg:Str->Option Value}{base:Heap}
def BC{x qual:Str}{st:Stmt}{f:Addr}{fd:FuncData}{N ps:List Str}{k:Nat}{m:MS}(F:Fun K x qual st f fd)(S:FnScope N ps (As st))(hb:∀(cdv:Value) (A:Around) (outer:List Env) (s:Shared) (H:Hp) (E:XK),Room k (A.deeper (envOfC qual (As st) s.heap.objs.size f cdv))->JSs (Bd CX0 P w K mg base N qual (As st) f cdv A outer s H E).nox (Cn st) m):
  FnOk P w K mg base CX0 (k+1) f fd ps (spJ K (fnM ps.length N.length m) ps.length):=by
 refine F.ok S (fun vs H Q E h=>?_) fun cdv A outer s H vs Q E hr h=>⟨_,hb cdv A outer s H E hr,?_⟩
 .obtain⟨_,_,_,h,_⟩:=h
  exact h
 .have hl:vs.length=ps.length:=by
   obtain⟨_,_,_,h,_⟩:=h;exact h
  have:=LH h;unfold L2.start;rw[hl];exact this
theorem Al{np nn:Nat}{b:MS}:∀args y,fnM np nn b args=some y->args.length=np:=fun args y e=>by
 unfold fnM at e;split at e
 .rename_i h; exact h
 .cases e
def Wc{Φ:Fn}{H:Hp}{a:Addr}{ns:List Int}{as':List A}{E:XK}(hl:ns.length<=63)(hO:Ti H)(hS:SqL K H a (ns.map V.int))(e : Φ [(.ro,.scr ns)]=some (.fz (.bl true),as')):spJ K Φ 1 [.ref a] H (fun v _=>v=.bl true) E:=by
 refine⟨[(.ro,.scr ns)],fun _=>False,fun _=>[],rfl,⟨rfl,fun i st b h=>?_,fun _ _=>rfl,fun _=>List.nodup_nil,fun i j p h=>by simp at h,fun i p h=>by simp at h,fun p z=>?_⟩,_,_,e,fun v H' ⟨L,fp',p,q⟩=>?_⟩
 .cases i with
  | zero =>
   simp at h;obtain⟨rfl,rfl⟩:=h;refine⟨.ref a,rfl,?_⟩;rw[Ar];refine⟨a,rfl,rfl,fun H' k=>?_,Nat.le_trans hl (by decide)⟩;rcases hS with (h|⟨o,h⟩)|h
   .rcases hO a with z|⟨o,xs,z⟩|⟨ps,z⟩
    .rw[z] at h; cases h
    .rw[z] at h; cases h
    .rw[z] at h; cases h
   .exact .inl (.inr ⟨o,k _ _ h⟩)
   .exact .inr h
  | succ i=>simp at h
 .rcases z with ⟨i,z⟩|z
  .simp at z
  .exact z.elim
 .exact Px q rfl
end
end J
end
section
namespace J
open PySem PySem.Spec PyProof.Rows L2
def moves:List R->Ro->Option (List A×Ro)
 | [],Z=>some ([],Z)
 | r::rs,Z=>(move Z r).bind fun p=>(moves rs p.2).map fun q=>(p.1::q.1,q.2)
def CD(m:MA):ME:=fun Z=>(m Z).bind fun p=>(moves p.1 p.2).bind fun q=>if q.1.length<=LIM then some (.val (mkT q.1),q.2) else none
section
variable{K:Frag}{Z Z' Z1 Z2:Ro}{σ σ' σ1 σ2:L2.St}{H H' H1 H2:Hp}{O O' N:Addr->Prop}{fp fp' fp1 fp2:Nat->List Addr}{L L1:List Addr}
theorem Post.perm{L':List Addr}(x:Post K O fp H Z Z1 σ σ1 L fp1 H1)(h:∀p,p∈L'↔p∈L)(nd:L'.Nodup):Post K O fp H Z Z1 σ σ1 L' fp1 H1:=
 ⟨x.rel.congr fun p=>or_congr Iff.rfl (h p).symm,nd,fun p hp=>x.lo p ((h p).mp hp),fun p hp=>x.new p (hp.imp (h p).mp id),x.kept,x.ln,x.stab⟩
def Post.give{i:Nat}{a:A}{v:V}(x:Post K O fp H Z Z1 σ σ L fp1 H1)(ha : Z1[i]? = some (some (.own,a)))(hv : σ[i]? = some (some v)):
  Post K O fp H Z (Z1.set i none) σ σ (L++fp1 i) (pt fp1 i []) H1/\Ar K (NN fp1 (ad O L)) H1 v a (fp1 i)/\∀p,NN (pt fp1 i []) (ad O (L++fp1 i)) p↔NN fp1 (ad O L) p:=by
 obtain⟨v',hv',q⟩:=x.rel.slot i _ _ ha;rw[hv] at hv'; cases hv';have nn:∀p,NN (pt fp1 i []) (ad O (L++fp1 i)) p↔NN fp1 (ad O L) p:=fun p=>by
  constructor
  .intro z
   rcases z with ⟨j,z⟩|z|z
   .rcases Ck z with ⟨_,z⟩|⟨_,z⟩
    .simp at z
    .exact .inl ⟨j,z⟩
   .exact .inr (.inl z)
   .rcases List.mem_append.mp z with z|z
    .exact .inr (.inr z)
    .exact .inl ⟨i,z⟩
  .intro z
   rcases z with ⟨j,z⟩|z|z
   .by_cases hj:j=i
    .subst hj; exact .inr (.inr (List.mem_append_right _ z))
    .exact .inl ⟨j,by rw[IU hj]; exact z⟩
   .exact .inr (.inl z)
   .exact .inr (.inr (List.mem_append_left _ z))
 have nd:(L++fp1 i).Nodup:=List.nodup_append.mpr ⟨x.nd,x.rel.nd i,fun a ha b hb e=>by subst e; exact x.rel.off i a hb (.inr ha)⟩;have R:=x.rel.set (i:=i) (s:=none) (o:=some v) (L:=[]) (O':=ad O (L++fp1 i)) (AK ha) (fun p z=>(nn p).mp (.inr z)) (fun p hp=>by simp at hp) List.nodup_nil (fun p hp=>by simp at hp) (fun p hp=>by simp at hp)
  (fun j p hj h z=>by
   rcases z with z|z
   .exact x.rel.off j p h (.inl z)
   .rcases List.mem_append.mp z with z|z
    .exact x.rel.off j p h (.inr z)
    .exact hj (x.rel.inj j i p h z)) (fun st a e=>by cases e) (fun _=>rfl)
 rw[Kr hv] at R;refine⟨⟨R,nd,fun p hp z=>?_,fun p hp=>?_,x.kept,rfl,fun j st a' h n=>?_⟩,q,nn⟩
 .rcases List.mem_append.mp hp with hp|hp
  .exact x.lo p hp z
  .exact x.rel.off i p hp (.inl z)
 .rcases hp with hp|⟨j,hp⟩
  .rcases List.mem_append.mp hp with hp|hp
   .exact x.new p (.inl hp)
   .exact x.new p (.inr ⟨i,hp⟩)
  .rcases Ck hp with ⟨_,z⟩|⟨_,z⟩
   .simp at z
   .exact x.new p (.inr ⟨j,z⟩)
 .obtain⟨a2,h2,_,f2⟩:=x.stab j st a' h n
  refine⟨a2,?_,rfl,f2⟩;rw[List.getElem?_set_ne]
  .exact h2
  .rintro rfl
   rw[ha] at h2; cases h2; exact n rfl
theorem RRs.weak(h:∀p,O' p->N p):∀{vs:List V} {rs:List R} {L:List Addr},RRs K N H σ vs rs L->RRs K O' H σ vs rs L
 | [],[],_,q=>q
 | [],_::_,_,q=>by simp only[RRs] at q
 | _::_,[],_,q=>by simp only[RRs] at q
 | v::vs,r::rs,L,q=>by
  simp only[RRs] at q |-;obtain⟨L1,L2,rfl,h1,h2⟩:=q;refine⟨L1,L2,rfl,?_,RRs.weak h h2⟩;cases r with
  | val a=>exact Ei h h1
  | ref i=>exact h1
def Oy:∀{rs:List R} {vs:List V} {as:List A} {Z1 Z2:Ro} {fp1:Nat->List Addr} {Lacc L:List Addr},Post K O fp H Z Z1 σ σ (Lacc++L) fp1 H1->RRs K (NN fp1 (ad O (Lacc++L))) H1 σ vs rs L->moves rs Z1=some (as,Z2) ->
  ∃L2 fp2,Post K O fp H Z Z2 σ σ (Lacc++L2) fp2 H1/\Ap K (NN fp2 (ad O (Lacc++L2))) H1 vs as L2/\∀p,NN fp2 (ad O (Lacc++L2)) p↔NN fp1 (ad O (Lacc++L)) p:=by
 intro _l;induction _l with
 | nil =>
  intro _m;cases _m with
  | nil =>
   intro as Z1 Z2 fp1 Lacc L x q e;simp only[moves,Option.some.injEq,Prod.mk.injEq] at e;obtain⟨rfl,rfl⟩:=e;simp only[RRs] at q;subst q;exact⟨[],fp1,x,by simp[Ap],fun p=>Iff.rfl⟩
  | cons _ _ =>
   intro _ _ _ _ _ _ _ q _;simp only[RRs] at q
 | cons r rs ih =>
  intro _m;cases _m with
  | nil =>
   intro _ _ _ _ _ _ _ q _;simp only[RRs] at q
  | cons v vs =>
   intro as Z1 Z2 fp1 Lacc L x q e;simp only[RRs] at q;obtain⟨L1,L2,rfl,h1,h2⟩:=q;simp only[moves,bind_eq_some_iff,map_eq_some_iff] at e;obtain⟨⟨a,Z3⟩,e1,⟨as',Z4⟩,e2,e3⟩:=e;cases e3;cases r with
   | val b =>
    simp only[move,Option.some.injEq,Prod.mk.injEq] at e1;obtain⟨rfl,rfl⟩:=e1;rw[<- List.append_assoc] at x h1 h2;obtain⟨L3,fp3,p3,q3,n3⟩:=ih (Lacc:=Lacc++L1) x h2 e2;rw[List.append_assoc] at p3 q3 n3;refine⟨L1++L3,fp3,p3,?_,fun p=>by rw[n3 p,List.append_assoc]⟩;simp only[Ap];exact⟨L1,L3,rfl,Ei (fun p z=>by have:=(n3 p).mp z; rw[List.append_assoc]; rw[List.append_assoc] at this; exact this) h1,q3⟩
   | ref i =>
    obtain⟨rfl,hv⟩:=h1;rw[List.nil_append] at x h2;simp only[move] at e1;split at e1
    .rename_i a' ha
     cases e1;obtain⟨g1,g2,g3⟩:=x.give ha hv;have nd:((Lacc++fp1 i)++L2).Nodup:=by
      have:=g1.nd;rw[List.append_assoc] at this |-;exact(List.perm_append_comm.append_left Lacc).nodup this
     have g1':Post K O fp H Z (Z1.set i none) σ σ ((Lacc++fp1 i)++L2) (pt fp1 i []) H1:=g1.perm (fun p=>by simp; exact⟨fun z=>by rcases z with z|z|z; exact .inl z; exact .inr (.inr z); exact .inr (.inl z),fun z=>by rcases z with z|z|z; exact .inl z; exact .inr (.inr z); exact .inr (.inl z)⟩) nd;have nn:∀p,NN (pt fp1 i []) (ad O ((Lacc++fp1 i)++L2)) p↔NN fp1 (ad O (Lacc++L2)) p:=fun p=>by
      rw[<- g3 p];refine or_congr Iff.rfl (or_congr Iff.rfl ?_);simp;exact⟨fun z=>by rcases z with z|z|z; exact .inl z; exact .inr (.inr z); exact .inr (.inl z),fun z=>by rcases z with z|z|z; exact .inl z; exact .inr (.inr z); exact .inr (.inl z)⟩
     obtain⟨L3,fp3,p3,q3,n3⟩:=ih (Lacc:=Lacc++fp1 i) g1' (RRs.weak (fun p z=>(nn p).mp z) h2) e2;rw[List.append_assoc] at p3 q3 n3;refine⟨fp1 i++L3,fp3,p3,?_,fun p=>by rw[n3 p,nn p]; simp⟩;simp only[Ap];exact⟨fp1 i,L3,rfl,Ei (fun p z=>(nn p).mp ((n3 p).mp z)) g2,q3⟩
    .cases e1
def UW{m:MA}{Q:VK}(h:tE K (CD m) σ H Q):Xw (tA K m) σ H Q:=by
 obtain⟨Z,O,fp,rl,x,Z',e,k⟩:=h;simp only[CD,bind_eq_some_iff] at e;obtain⟨⟨rs,Z1⟩,e1,⟨as,Z2⟩,e2,e3⟩:=e;split at e3
 .rename_i hz
  cases e3;refine⟨Z,O,fp,rl,rs,_,e1,fun vs H1 yy=>?_⟩
  obtain⟨L,fp1,p,q⟩:=yy;obtain⟨L2,fp2,p2,q',_⟩:=Oy (Lacc:=[]) p q e2;rw[List.nil_append] at p2 q';have hl:=q'.len;refine⟨by rw[hl]; exact hz,fun a ha=>k _ _ ?_⟩;have s:=Dx (o:=.tup vs) ha;have q2:Ap K (NN fp2 (ad O L2)) (upd H1 a (.tup vs)) vs as L2:=q'.tr (M:=fun _=>False) (fun _ z=>z.elim) (Cu.kept s) (fun p z=>.inl z) fun _ _ z=>z;show K1 _ _ _ _ _ _ _ (.val (mkT as)) _ _;unfold mkT;split
  .rename_i ds hd
   obtain⟨rfl,qd⟩:=q2.fzs hd;exact⟨[],fp2,p2.more s List.nodup_nil (fun p hp=>by simp at hp),MB (Mz AU (by rw[hl]; exact hz) qd)⟩
  .refine⟨L2,fp2,p2.more s p2.nd (fun p hp=>.inl hp),?_⟩
   show Ar _ _ _ _ _ _;rw[Ar];exact⟨a,vs,rfl,AU,by rw[hl]; exact hz,q2⟩
 .cases e3
end
section
variable{X:Cx}{a b c e:Expr}{es:List Expr}{m m1 m2 m3:ME}{ms:MA}{p pos pos' p2 apos cpos q npos:Pos}{x:Str}{K:Frag}
theorem A3{k:Nat}(h:JA X es ms):JE X (.Tuple es k pos) (CD ms):=AM (Si h) fun _ _ _ h=>UW h
theorem Hl:OpN K HZ (r2L (rI0 fun i j=>.int (i-j))):=J6
theorem Pj:OpN K K4 (r2L (rI0 fun i j=>.int (Builtin.bitAnd i j))):=J6
theorem Wr:OpN K Tr (r2L (rI0 fun i j=>.int (Builtin.bitOr i j))):=J6
theorem Vg:OpN K gtA (r2L (rI0 fun i j=>.bl (decide (j<i)))):=Nx
theorem X8:OpN K geA (r2L (rI0 fun i j=>.bl (decide (j<=i)))):=Nx
end
end J
end
section
namespace J
open PySem PySem.Spec PyProof.Rows L2
section
variable{X:Cx}{a b c e:Expr}{es:List Expr}{m m1 m2 m3:ME}{ms:MA}{p pos pos' p2 apos cpos q npos:Pos}{x:Str}
variable{K:Frag}{N:Addr->Prop}{H:Hp}{σ:L2.St}{v:V}{L:List Addr}
def Np(i:Nat){y:Str}{py spos:Pos}{scope:Scope}{iter elt:Expr}{ifs:List Expr}{px:Pos}{mi:MI}{mt:MT}(nd:X.N.Nodup)(hiN:X.N[i]? = some y)(hy:X.env.scope.names.lookup y=some .local)(hok:B7 [x] X.N scope X.env.scope=true)(hc:X.calm=true)(hx:scope.names.lookup x=some .local)(hs:∀z,foldedSetIterable iter X.env z=pure z)(hsw:swapsWith (.ListComp elt [⟨.Name x px,iter,ifs,0⟩] scope pos) (some (.Name y py)) spos.line X.env=pure true)(hi:JI X (.Name x px) iter mi)(ht:JTc X [x] scope ifs mt)(he:JEc X [x] scope elt m):
  JS X (.Assign [.Name y py] (.ListComp elt [⟨.Name x px,iter,ifs,0⟩] scope pos) spos) (A5 i (Bh mi 0 mt m)):=by
 have hnx:x∉X.N:=fun hy=>by
  simp only[B7,Bool.and_eq_true,List.all_eq_true] at hok;have:=hok.2 x (by simp);simp[hy] at this
 exact CA (Sr (un:=S9) (te:=tE X.K m) nd hiN hy hc hok hi (fun C s H fp pins=>GG rfl (List.nodup_cons.mpr ⟨hnx,nd⟩) (lookup_relabel_local hx)) ht (fun C s H fp pins=>he C s H fp pins) hs hsw) fun _ _ _ h=>Jr (OS h)
end
end J
end
section
namespace Sg
open PySem
end Sg
end
section
namespace Sg
open PySem PyProof.Rows
end Sg
end
section
namespace L2
open PySem PySem.Spec PyProof.Rows
section
variable{P:Program}{w:World}{A:Around}{E:Value->Shared->Prop}{s:Shared}
theorem nx{n k j:Nat}(h:k≠j:=by decide):n+k≠n+j:=fun e=>h (Nat.add_left_cancel e)
end
end L2
end
section
namespace Ug
open PySem Sg
end Ug
end
section
namespace Ug
open PySem Sg PyProof.Rows
end Ug
end
section
namespace L2
open PySem PySem.Spec PyProof.Rows Sg
section
variable{X:Cx}
def Vk:List V->Hp->VK->Prop:=fun xs H Q=>∃b:Bool,xs=[.bl b]/\Q (.int (if b then 1 else 0)) H
def Qa:CF X (.type "int") Vk:=by
 intro pins s σ H xs us Q I r h;obtain⟨b,rfl,q⟩:=h;obtain⟨u,rfl,ru⟩:=r.one;cases ru;exact call_int_bool ⟨.int _,H,I.tok _,⟨_,rfl⟩,q⟩
end
end L2
namespace J
open PySem PySem.Spec PyProof.Rows L2 Sg
section
variable{X:Cx}{a b c e:Expr}{es:List Expr}{m m1 m2 m3:ME}{ms:MA}{p pos pos' p2 apos cpos q npos:Pos}{x:Str}
variable{K:Frag}{N:Addr->Prop}{H:Hp}{σ:L2.St}{v:V}{L:List Addr}
def TJ:List A->Option A
 | [.fz (.bl b)]=>some (.fz (.int (if b then 1 else 0)))
 | _=>none
def Uh:OpN K TJ Vk:=by
 intro N H xs as b Q hs e k;unfold TJ at e;split at e
 .rename_i c
  cases e;obtain⟨x,L1,rfl,h1⟩:=Dv hs;cases Px h1 rfl;exact⟨c,rfl,k _ _ (Ho (.int _))⟩
 .cases e
def E9:A->Bool
 | .fz .non=>true
 | _=>false
end
end J
end
section
namespace Lm
open PySem PyProof.Rows
end Lm
end
section
namespace L2
open PySem PySem.Spec PyProof.Rows PySem.W
section
variable{X:Cx}{pins:List (Addr×Obj)}{σ:St}{H:Hp}{s:Shared}{h':Heap}
def Inv.tabled{t':Nat}{P c':Addr}{ps:Array Value}(I:Inv X pins σ H s)(eP:H P=some (.tbl ps))(hx:∀b o,b≠P->s.heap.get? b=some o->h'.get? b=some o)(hP:∃o,h'.get? P=some o)(hc:s.heap.objs.size<=c')(hok:HOk X.prog X.w (upd H c' (.own P)) h'):Inv X pins σ (upd H c' (.own P)) { s with heap:=h',toks:=t' }:=by
 have hn:H c'=none:=I.hok.fresh hc;have neP:∀b,H b=none->b≠P:=fun b e z=>by rw[z,eP] at e; cases e
 have neC:∀b u,H b=some u->b≠c':=fun b u e z=>by rw[z,hn] at e; cases e
 refine I.step (g':=s.gens) (d':=s.drawn) (ch:=[]) (fun b hb=>by simp at hb) (fun b o _ _ _ e n=>hx b o (neP b n) e) (fun b o _ _ _ e n=>⟨o.slots,hx b o (neP b n) e⟩) (fun b o _ e n=>?_)
  (fun b o _ e=>?_) (fun b xs e=>by rw[AB (neC b _ e)]; exact e) (fun b o u e=>by rw[AB (neC b _ e)]; exact e) (fun b qs e=>⟨#[],by rw[AB (neC b _ e),e]; simp⟩) (fun m hm=>?_) hok I.bare
 .rw[AB (Nat.ne_of_lt (Nat.lt_of_lt_of_le (Heap.lt_size e) hc))]; exact n
 .by_cases hb:b=P
  .rw[hb]; exact hP
  .exact⟨o,hx b o hb e⟩
 .obtain⟨o,es,ep,ho,r⟩:=hm
  exact⟨o,es,ep,hx _ o (neP _ I.free) ho,r⟩
def N7{pos pos':Pos}{v c:Value}(l:List Value)(h:TriplesOk l)(e:codeAmong pos (l++[rawInt pos'.line,rawInt pos'.col,v])=some c):codeAmong pos l=some c\/c=v:=by
 fun_induction TriplesOk l with
 | case1 =>
  simp only[List.nil_append,codeAmong,rawInt] at e;split at e
  .exact .inr (Option.some.inj e).symm
  .cases e
 | case2 a t b u x rest ih =>
  simp only[List.cons_append,codeAmong] at e |-;split at e
  .rename_i q
   rw[if_pos q]; exact .inl e
  .rename_i q
   rw[if_neg q]; exact ih h e
 | case3=>exact h.elim
theorem Oi{P:Program}{w:World}{h h':Heap}{b c':Addr}{ps qs:Array Value}{pos:Pos}{q:Str}(hok:HOk P w H h)(eP:H b=some (.tbl ps))(gP:h.get? b=some { cls:=.none,data:=.fields qs })(tr:TriplesOk qs.toList)(hx:∀a o,a≠b->h.get? a=some o->h'.get? a=some o)(hP:h'.get? b=some { cls:=.none,data:=.fields (qs ++ #[rawInt pos.line,rawInt pos.col,.ref c']) })(hc:h.objs.size<=c')(hr:h'.CodeRec (.ref c') q)(hq:ps[0]? = some (.str q 0)):
  HOk P w (upd H c' (.own b)) h':=fun a u e=>by
 have hn:H c'=none:=hok.fresh hc;have neC:∀a u,H a=some u->a≠c':=fun a u e z=>by rw[z,hn] at e; cases e
 obtain⟨c2,oc,vs,t,e2,g1,g2,g3⟩:=hr;cases e2;by_cases ha:a=c'
 .subst ha; rw[AU] at e; cases e; exact⟨oc,g1⟩
 .rw[AB ha] at e
  by_cases hb:a=b
  .subst hb
   rw[eP] at e; cases e;obtain⟨qs',gP',_,f⟩:=hok a _ eP;rw[gP] at gP'; cases gP';refine⟨_,hP,by rw[Array.toList_append]; exact TriplesOk_snoc _ _ _ _ tr,fun pos' c hcc=>?_⟩;rw[Array.toList_append] at hcc;rcases N7 _ tr hcc with z|z
   .obtain⟨c3,oc3,vs3,t3,q3,f1,f2,f3,f4⟩:=f pos' c z
    have nb:c3≠a:=fun z=>by rw[z,eP] at f2; cases f2
    exact⟨c3,oc3,vs3,t3,q3,f1,by rw[AB (neC _ _ f2)]; exact f2,hx _ _ nb f3,f4⟩
   .exact⟨c',oc,vs,t,q,z,AU,g1,g2,g3,hq⟩
  .refine(hok a u e).stay (fun d v hd q=>hx d v (fun z=>?_) q) (fun d q=>by rw[AB (neC d _ q)]; exact q) fun d xs q=>by rw[AB (neC d _ q)]; exact q
   rcases hd with hd|hd
   .exact hb (hd ▸ z)
   .rw[z,eP] at hd; cases hd
abbrev RK(q:Str)(params:Arguments)(body:Expr)(scope:Scope)(cl:List (Str×Addr))(pm:Value)(c':Addr)(ctv:Value):Obj:=kla_obj "<lambda>" q params body scope cl pm c' ctv
abbrev X5(params:Arguments)(body:Expr)(scope:Scope)(cl:List (Str×Addr))(pm:Value)(c':Addr)(ctv:Value):Obj:=kla_obj "<lambda>" BW params body scope cl pm c' ctv
def Qn{ln lq:Str}(hm:(ln,lq)∈JY){params:Arguments}{body:Expr}{scope:Scope}{pos:Pos}{c P:Addr}{cl:List (Str×Addr)}{Q:Value->Shared->Prop}(I:Inv X pins σ H s)(hcode:X.env.code=.ref c)(ht:tabIn X.K ln=some (c,P))(hh:codeHdIn X.K c P=true)(hq:X.env.qual ++ "<lambda>" = lq)(hdef:defaultsOf params X.env=([],[]))(hcl:closureFor scope X.env=pure cl)(h:∀f c' pm ctv h' tk H2,Inv X pins σ H2 { s with heap:=h',toks:=tk }->Cu H H2->h'.get? f=some (RK lq params body scope cl pm c' ctv)->h'.CodeRec (.ref c') lq->Q (.ref f) { s with heap:=h',toks:=tk }):
  wpAny (model X.prog X.w) X.A (eval (.Lambda params body scope pos) X.env) Q X.xe s:=by
 obtain⟨ps,eP,e0⟩:=I.tabs ln lq hm c P ht;obtain⟨qs,gP,tr,fc⟩:=I.hok P _ eP;have C:CodeHd s.heap c P:=codeHd_of_K I.kIn hh;obtain⟨bm,ob,b1,b2,b3,b4,b5,b6⟩:=I.mod.bmain;have g3:=I.bk _ _ b3;have hgs:s.heap.Ns mainGlobals X.mg:=I.mod.glob.keeps I.bk;have hgP:mainGlobals≠P:=fun q=>by
  obtain⟨o,es,ep,e,hd,_⟩:=hgs;rw[q,gP] at e; cases e; cases hd
 have hbP:bm≠P:=fun q=>by rw[q,gP] at g3; cases g3; cases b4
 have hbG:bm≠mainGlobals:=fun q=>by
  obtain⟨o,es,ep,e,hd,_⟩:=hgs;rw[q,e] at g3; cases g3; rw[hd] at b6; cases b6
 have hba:s.heap.BuiltinsAt X.mg P:=⟨bm,ob,b1,b2,hbG,hbP,g3,b4,b5,b6⟩;refine kla_eval hdef ?_;rw[hq];cases hnf:codeAmong pos qs.toList with
 | none =>
  refine kla_makeFunction hcl I.ok.glob hgs hcode C gP tr hnf hgP hba fun c' ctv h1 tk hx hge hlt hrec htb=>?_;have ok2:=Oi (q:=lq) I.hok eP gP tr hx htb hge hrec e0;have I2:=I.tabled (t':=tk) eP hx ⟨_,htb⟩ hge ok2;have I3:Inv X pins σ (upd H c' (.own P)) { s with heap:=h1.push (RK lq params body scope cl ((X.mg "__name__").getD .none) c' ctv),toks:=tk }:=I2.kept (t':=tk) fun b o e=>Heap.get?_push_of_some _ e;refine h _ c' _ ctv _ tk _ I3 (J.Dx (I.hok.fresh hge)) (Heap.get?_push_size _ rfl) ?_;obtain⟨c2,oc,vs,t,e1,e2,e3⟩:=hrec;exact⟨c2,oc,vs,t,e1,Heap.get?_push_of_some _ e2,e3⟩
 | some cv =>
  obtain⟨c',oc,vs,t,q,rfl,f2,f3,f4,f5,f6⟩:=fc pos cv hnf;rw[e0] at f6;have hqq:lq=q:=by
   have:=Option.some.inj f6;cases this; rfl
  subst hqq;refine kla_makeFunctionHit hcl I.ok.glob hgs hcode C gP tr hnf hba fun ctv h1 tk hk hsz=>?_;have I3:Inv X pins σ H { s with heap:=h1.push (RK lq params body scope cl ((X.mg "__name__").getD .none) c' ctv),toks:=tk }:=I.kept (t':=tk) fun b o e=>Heap.get?_push_of_some _ (hk b o e);exact h _ c' _ ctv _ tk _ I3 (fun _ _ e=>e) (Heap.get?_push_size _ rfl) ⟨c',oc,vs,t,rfl,Heap.get?_push_of_some _ (hk _ _ f3),f4,f5⟩
theorem RM{params:Arguments}{body:Expr}{scope:Scope}{pos:Pos}{c P:Addr}{cl:List (Str×Addr)}{Q:Value->Shared->Prop}(I:Inv X pins σ H s)(hcode:X.env.code=.ref c)(ht:tabIn X.K LZ=some (c,P))(hh:codeHdIn X.K c P=true)(hq:X.env.qual ++ "<lambda>" = BW)(hdef:defaultsOf params X.env=([],[]))(hcl:closureFor scope X.env=pure cl)(h:∀f c' pm ctv h' tk H2,Inv X pins σ H2 { s with heap:=h',toks:=tk }->Cu H H2->h'.get? f=some (X5 params body scope cl pm c' ctv)->h'.CodeRec (.ref c') BW->Q (.ref f) { s with heap:=h',toks:=tk }):
  wpAny (model X.prog X.w) X.A (eval (.Lambda params body scope pos) X.env) Q X.xe s:=Qn Wb I hcode ht hh hq hdef hcl h
end
end L2
end
section
namespace J
open PySem PySem.Spec PyProof.Rows L2 PySem.W
section
variable{P:Program}{w:World}{K:Frag}{mg:Str->Option Value}{base:Heap}
def Tu{ln:Str}{f c b:Addr}{oc:Value}{od:Option Addr}{fd:FuncData}{osl:Array (Option Value)}(n:nsIn K mainGlobals ln=some (some (.ref f)))(lk:K.lookup f=some ⟨oc,od,.func fd,osl⟩)(t:tabIn K ln=some (c,b)):fd.code=.ref c:=by
 unfold tabIn at t;rw[n] at t;dsimp only at t;rw[lk] at t;dsimp only at t;split at t
 .rename_i c' hc
  split at t
  .split at t
   .cases t; exact hc
   .cases t
  .cases t
 .cases t
def VR{ln:Str}{st:Stmt}{f c b:Addr}{fd:FuncData}{N ps:List Str}{k:Nat}{m:MS}(F:Fun K ln ln st f fd)(hn:nsIn K mainGlobals ln=some (some (.ref f)))(ht:tabIn K ln=some (c,b))(S:FnScope N ps (As st))(hb:∀(A:Around) (outer:List Env) (s:Shared) (H:Hp) (E:XK),Room k (A.deeper (envOfC ln (As st) s.heap.objs.size f (.ref c)))->JSs (Bd CX0 P w K mg base N ln (As st) f (.ref c) A outer s H E).nox (Cn st) m):
  FnOk P w K mg base CX0 (k+1) f fd ps (spJ K (fnM ps.length N.length m) ps.length):=by
 obtain⟨oc,od,kV,doc,pm,an,cdv,ct,osl,rfl,lk,hcd⟩:=F.ex;have ec:cdv=.ref c:=Tu hn lk ht;subst ec;refine Rf lk hcd S (fun vs H Q E h=>?_) fun A outer s H vs Q E hr h=>?_
 .obtain⟨_,_,_,h,_⟩:=h
  exact h
 .have hl:vs.length=ps.length:=by
   obtain⟨_,_,_,h,_⟩:=h;exact h
  have:=LH h;refine⟨_,PSs.nox (hb A outer s H E hr),?_⟩;unfold L2.start;rw[hl];exact this
end
end J
end
section
namespace J
open PySem PySem.Spec PyProof.Rows L2
section
variable{X:Cx}{a b c e:Expr}{es:List Expr}{m m1 m2 m3:ME}{ms:MA}{p pos pos' p2 apos cpos q npos:Pos}{x:Str}
variable{K:Frag}{N:Addr->Prop}{H:Hp}{σ:L2.St}{v:V}{L:List Addr}
def cutD(ds:List D)(lo hi:Option Int):List D:=(ds.drop (HT.sIx ds.length 0 lo)).take (HT.sIx ds.length ds.length hi-HT.sIx ds.length 0 lo)
def Gv:List A->Option A:=on2 fun x q2=>(Bv q2).bind fun j=>(CS x).map fun ds=>.lst ((cutD ds none (some j)).map A.fz)
def SH:∀{vs:List V} {ds:List D},Ay N H vs ds->vs.length=ds.length:=by
 intro vs;induction vs with
 | nil=>intro ds q; cases ds with|nil=>rfl|cons d ds=>simp only[Ay] at q
 | cons v vs ih=>intro ds q; cases ds with|nil=>simp only[Ay] at q|cons d ds=>simp[ih q.2]
def SF:∀{vs:List V} {ds:List D} (n:Nat),Ay N H vs ds->Ay N H (vs.drop n) (ds.drop n):=by
 intro vs;induction vs with
 | nil=>intro ds n q; cases ds with|nil=>cases n<;>exact q|cons d ds=>simp only[Ay] at q
 | cons v vs ih=>intro ds n q; cases ds with|nil=>simp only[Ay] at q|cons d ds=>cases n with|zero=>exact q|succ n=>exact ih n q.2
def SG:∀{vs:List V} {ds:List D} (n:Nat),Ay N H vs ds->Ay N H (vs.take n) (ds.take n):=by
 intro vs;induction vs with
 | nil=>intro ds n q; cases ds with|nil=>cases n<;>exact q|cons d ds=>simp only[Ay] at q
 | cons v vs ih=>intro ds n q; cases ds with|nil=>simp only[Ay] at q|cons d ds=>cases n with|zero=>simp only[List.take_zero]; exact trivial|succ n=>exact⟨q.1,ih n q.2⟩
def Py{vs:List V}{ds:List D}{lo hi:Option Int}(q:Ay N H vs ds):Ay N H (Qd vs lo hi) (cutD ds lo hi):=by
 unfold Qd cutD;rw[SH q];exact SG _ (SF _ q)
def Fj(ha:JE X a m1)(hb:JE X b m2):JE X (.Subscript a (.Slice none (some b) none p2) pos) (opM Gv (m2L m1 m2)):=by
 refine AM (NC PL ha Pu (Pw hb)) fun σ H Q h=>?_;have ok:OpN X.K Gv (r2L fun x y H Q=>∃j,y=.int j/\WZ X.K x none (some j) H Q):=by
  intro N H xs as b Q hs e k
  replace e:=CN e
  obtain⟨x,q2,rfl,e⟩:=e
  replace e:=bind_eq_some_iff.mp e
  obtain⟨j,eq2,e⟩:=e;cases Bn eq2;clear eq2;simp only[map_eq_some_iff] at e;obtain⟨ds,e1,rfl⟩:=e;obtain⟨x,y,L1,L2,rfl,h1,h2⟩:=BZ hs;cases Bz h2;obtain⟨p,vs,rfl,hp,hz,q⟩:=DN h1 e1;refine⟨_,_,rfl,j,rfl,p,vs,rfl,.inl (.inl hp),fun l hl=>k _ _ (FN hl ?_ (Py q))⟩;exact Nat.le_trans (Gk _ _ _) hz
 exact tE.mono (two ok h) fun x H1 h1=>tE.mono h1 fun y H2 ⟨j,e,q⟩=>⟨j,e,q⟩
end
end J
end
section
namespace J
open PySem PySem.Spec PyProof.Rows L2
abbrev MR:=Ro->Option Str
abbrev FnR:=List (Own×A)->Option Str
def Yu(a:MS)(r:MR):MR:=fun Z=>(a Z).bind fun f=>match f with
 | .next Z1=>r Z1
 | _=>none
def ifR(c:MT)(r:MR):MR:=fun Z=>(c Z).bind fun p=>if p.1 then r p.2 else none
def Mx(x:Str):MR:=fun _=>some x
def Ex:List (Own×A)->Bool
 | []=>true
 | (.own,.fz _)::as=>Ex as
 | _=>false
def F5(Ψ:FnR)(m:MA):MR:=fun Z=>(m Z).bind fun p=>(Dj p.2 p.1).bind fun args=>if Ex args then Ψ args else none
def fnR(np nn:Nat)(r:MR):FnR:=fun args=>if args.length=np then r (args.map some++List.replicate (nn-np) none) else none
def tR(K:Frag)(XC:Str->Addr)(E:XK)(r:MR):TS:=fun _ σ H=>∃Z O fp,Rel K Z σ H O fp/\∃x,r Z=some x/\∀H',Kept (Fp fp) H H'->E (.ref (XC x)) none H'
def spR(K:Frag)(XC:Str->Addr)(Ψ:FnR)(np:Nat):Sp:=fun vs H _ E=>∃args O fp,vs.length=np/\Rel K (args.map some) (vs.map some) H O fp/\∃x,Ψ args=some x/\∀H',Kept (Fp fp) H H'->E (.ref (XC x)) none H'
section
variable{K:Frag}{XC:Str->Addr}{E:XK}{σ:L2.St}{H:Hp}{D:Ends}{r:MR}{a:MS}{c:MT}
def YF{u:TS}(h:tR K XC E (ifR c r) D σ H):Xm (tT K c) (tR K XC E r) u D σ H:=by
 obtain⟨Z,O,fp,rl,x,e,k⟩:=h;simp only[ifR,bind_eq_some_iff] at e;obtain⟨⟨b,Z1⟩,e1,e2⟩:=e;cases b with
 | true =>
  refine⟨Z,O,fp,rl,true,Z1,e1,fun fp1 H1 p=>?_⟩;dsimp only;rw[if_pos rfl];exact⟨Z1,O,fp1,p.rel0,x,e2,fun H'' kk=>k H'' (p.kept.trans kk fun q hq=>p.new q (.inr hq))⟩
 | false=>cases e2
def S5{C:Addr}{x:Str}{m:MA}{rs:List R}(hm:∀Z,m Z=some (rs,Z))(hl:rs.length<=8)(hC:XC x=C)(h:tR K XC E (Mx x) D σ H):OR E C (tA K m) D σ H:=by
 obtain⟨Z,O,fp,rl,y,e,k⟩:=h;cases e;refine⟨Z,O,fp,rl,rs,Z,hm Z,fun vs H' q=>?_⟩;obtain⟨L,fp',p,q⟩:=q;refine⟨?_,?_⟩
 .have:∀{rs:List R} {vs:List V} {N:Addr->Prop} {L:List Addr},RRs K N H' σ vs rs L->vs.length=rs.length:=by
   intro rs;induction rs with
   | nil=>intro vs N L q; cases vs with|nil=>rfl|cons _ _=>simp only[RRs] at q
   | cons r rs ih =>
    intro vs N L q;cases vs with
    | nil=>simp only[RRs] at q
    | cons v vs =>
     simp only[RRs] at q;obtain⟨_,_,_,_,q2⟩:=q;simp[ih q2]
  have hs:8<=sizeLine:=by decide
  rw[this q]; lia
 .rw[<- hC]; exact k H' p.kept
def N8{N:Addr->Prop}{Z:Ro}:∀{rs:List R} {args:List (Own×A)} {vs:List V} {L:List Addr},Dj Z rs=some args->Ex args=true->RRs K N H σ vs rs L->args.length=vs.length/\∀(j:Nat) st a v,args[j]? = some (st,a)->vs[j]? = some v->∃d,a=.fz d/\RepA N H v d:=by
 intro rs;induction rs with
 | nil =>
  intro args vs L e _ q;cases vs with
  | nil=>cases e; exact⟨rfl,fun j st a v h=>by simp at h⟩
  | cons _ _=>simp only[RRs] at q
 | cons r rs ih =>
  intro args vs L e hp q;cases vs with
  | nil=>simp only[RRs] at q
  | cons v vs =>
   simp only[RRs] at q;obtain⟨L1,L2,_,q1,q2⟩:=q;simp only[Dj,bind_eq_some_iff,map_eq_some_iff] at e;obtain⟨a,e1,args',e2,rfl⟩:=e;obtain⟨st,a⟩:=a;cases st with
   | lent=>cases a<;>simp[Ex] at hp
   | ro=>cases a<;>simp[Ex] at hp
   | own =>
    cases a with
    | fz d =>
     simp only[Ex] at hp;obtain⟨i1,i2⟩:=ih e2 hp q2;cases r with
     | val b =>
      cases e1;simp only[RR] at q1;rw[Ar] at q1;refine⟨by simp[i1],fun j st a u h1 h2=>?_⟩
      cases j with
      | zero=>cases h1; cases h2; exact⟨d,rfl,q1.2⟩
      | succ j=>exact i2 j st a u (by simpa using h1) (by simpa using h2)
     | ref i =>
      simp only[Gg] at e1;split at e1<;>cases e1
    | _=>simp[Ex] at hp
def PY{np:Nat}{Ψ:FnR}{m:MA}{E':XK}(hE:E'=E)(hnp:∀args y,Ψ args=some y->args.length=np)(h:tR K XC E (F5 Ψ m) D σ H):NX (Lr (spR K XC Ψ np) [] E' (tA K m)) D σ H:=by
 subst hE;obtain⟨Z,O,fp,rl,x,e,k⟩:=h;simp only[F5,bind_eq_some_iff] at e;obtain⟨⟨rs,Z1⟩,e1,args,e2,e3⟩:=e;split at e3
 .rename_i hp
  refine⟨Z,O,fp,rl,rs,Z1,e1,fun vs H1 q=>?_⟩;obtain⟨L,fp1,p,q⟩:=q;obtain⟨i1,i2⟩:=N8 e2 hp q;rw[List.append_nil];have nn:∀b,NN (fun _=>[]) (NN fp1 (ad O L)) b↔NN fp1 (ad O L) b:=fun b=>⟨fun z=>by
   rcases z with ⟨j,z⟩|z
   .simp at z
   .exact z,fun z=>.inr z⟩
  refine⟨args,NN fp1 (ad O L),fun _=>[],by rw[<- i1]; exact hnp _ _ e3,⟨by simp[i1],fun j st a ea=>?_,fun _ _=>rfl,fun _=>List.nodup_nil,fun i j b h=>by simp at h,fun i b h=>by simp at h,fun b z=>p.rel.al b ((nn b).mp z)⟩,x,e3,fun H' kk=>?_⟩
  .have hj:j<args.length:=by
    have:=AK ea;simpa using this
   have ea':args[j]? = some (st,a):=by simpa using ea
   obtain⟨v,hv⟩:∃v,vs[j]? = some v:=⟨vs[j]'(by rw[<- i1]; exact hj),List.getElem?_eq_getElem _⟩;obtain⟨d,rfl,rd⟩:=i2 j st a v ea' hv;refine⟨v,by simp[hv],?_⟩;rw[Ar];exact⟨rfl,DT (fun b z=>(nn b).mp z) rd⟩
  .exact k H' (p.kept.trans kk fun b z=>by
    obtain⟨j,z⟩:=z;simp at z)
 .cases e3
def VJ{np nn:Nat}{r:MR}{vs:List V}{Q:VK}(h:spR K XC (fnR np nn r) np vs H Q E):tR K XC E r D (vs.map some++List.replicate (nn-np) none) H:=by
 obtain⟨args,O,fp,hl,rl,x,e,k⟩:=h;simp only[fnR] at e;split at e
 .exact⟨_,O,fp,rl.start (nn-np),x,e,k⟩
 .cases e
theorem FD{np nn:Nat}{r:MR}:∀args y,fnR np nn r args=some y->args.length=np:=fun args y e=>by
 unfold fnR at e;split at e
 .rename_i h; exact h
 .cases e
end
section
variable{X:Cx}{K:Frag}{XC:Str->Addr}{E:XK}{r:MR}{w1:MS}{s:Stmt}{ss st st':List Stmt}{mt:MT}{c:Expr}{pos:Pos}
def JR(X:Cx)(XC:Str->Addr)(E:XK)(s:Stmt)(r:MR):Prop:=PS X s (tR X.K XC E r)
def JRs(X:Cx)(XC:Str->Addr)(E:XK)(ss:List Stmt)(r:MR):Prop:=PSs X ss (tR X.K XC E r)
theorem Eh(h:JR X XC E s r):JRs X XC E (s::ss) r:=
 Kg (NF h (show PSs X ss (fun _ _ _=>False) from fun _ _ _ _ _ _ h=>h.elim)) fun _ _ _ h=>h
theorem Va(hc:JT X c mt)(ha:JRs X XC E st r):JR X XC E (.If c st st' pos) (ifR mt r):=
 CA (So hc ha (show PSs X st' (fun _ _ _=>False) from fun _ _ _ _ _ _ h=>h.elim)) fun _ _ _ h=>YF h
end
section
variable{P:Program}{w:World}{K:Frag}{mg:Str->Option Value}{base:Heap}{XC:Str->Addr}
def JJ{x qual:Str}{st:Stmt}{f:Addr}{fd:FuncData}{N ps:List Str}{k:Nat}{r:MR}(F:Fun K x qual st f fd)(S:FnScope N ps (As st))(hb:∀(cdv:Value) (A:Around) (outer:List Env) (s:Shared) (H:Hp) (E:XK),Room k (A.deeper (envOfC qual (As st) s.heap.objs.size f cdv))->JRs (Bd (Fly P w) P w K mg base N qual (As st) f cdv A outer s H E) XC E (Cn st) r):
  FnOk P w K mg base (Fly P w) (k+1) f fd ps (spR K XC (fnR ps.length N.length r) ps.length):=by
 refine F.okF S (fun vs H Q E h=>?_) fun cdv A outer s H vs Q E hr h=>⟨_,hb cdv A outer s H E hr,?_⟩
 .obtain⟨_,_,_,h,_⟩:=h
  exact h
 .have hl:vs.length=ps.length:=by
   obtain⟨_,_,_,h,_⟩:=h;exact h
  have:=VJ (D:={ nx:=fun _ H'=>Q .non H',rt:=Q }) h;unfold L2.start;rw[hl];exact this
section
variable{N:List Str}{qual:Str}{scope:Scope}{f:Addr}{cd:Value}{A:Around}{outer:List Env}{s:Shared}{H:Hp}{E:XK}
theorem Nm{x:Str}{C:Addr}{np cpos pos:Pos}{e:Expr}{z:Str}{k:Nat}(X:Exc K mg x C)(hC:XC x=C)(hr:Room k (A.deeper (envOfC qual scope s.heap.objs.size f cd)))(hg:Gl (Bd (Fly P w) P w K mg base N qual scope f cd A outer s H E) x)(hdb:(x==("__debug__" : Str))=false)(he:starEach [e] (Bd (Fly P w) P w K mg base N qual scope f cd A outer s H E).env=(false,eval e (Bd (Fly P w) P w K mg base N qual scope f cd A outer s H E).env)::starEach [] (Bd (Fly P w) P w K mg base N qual scope f cd A outer s H E).env)(hpl:(backTo cpos (starEach [] (Bd (Fly P w) P w K mg base N qual scope f cd A outer s H E).env)).any (·.1)=false)(ha:JE (Bd (Fly P w) P w K mg base N qual scope f cd A outer s H E) e (Ag (.str z))):
  JR (Bd (Fly P w) P w K mg base N qual scope f cd A outer s H E) XC E (.Raise (some (.Call (.Name x np) [e] [] cpos)) none pos) (Mx x):=
 CA (QC X hr hg hdb he hpl (Aa he ha Af)) fun _ _ _ h=>S5 (rs:=[.val (.fz (.str z))]) (fun _=>rfl) (show 1<=8 by decide) hC h
theorem LW{g:Str}{k j np:Nat}{ps:List Str}{Ψ:FnR}{ms:MA}{p cpos pos:Pos}{e:Expr}{es:List Expr}(D:Def P w K mg base (Fly P w) k g ps (spR K XC Ψ np))(hnp:∀args y,Ψ args=some y->args.length=np)(hr:Room j (A.deeper (envOfC qual scope s.heap.objs.size f cd)))(hkj:k<=j)(hs:swapsWith (.Call (.Name g p) (e::es) [] cpos) none pos.line (Bd (Fly P w) P w K mg base N qual scope f cd A outer s H E).env=pure false)(hdb:(g==("__debug__" : Str))=false)(hg:Gl (Bd (Fly P w) P w K mg base N qual scope f cd A outer s H E) g)(he:starEach (e::es) (Bd (Fly P w) P w K mg base N qual scope f cd A outer s H E).env=(false,eval e (Bd (Fly P w) P w K mg base N qual scope f cd A outer s H E).env)::starEach es (Bd (Fly P w) P w K mg base N qual scope f cd A outer s H E).env)(hpl:(backTo cpos (starEach es (Bd (Fly P w) P w K mg base N qual scope f cd A outer s H E).env)).any (·.1)=false)(ha:JA (Bd (Fly P w) P w K mg base N qual scope f cd A outer s H E) (e::es) ms):
  JR (Bd (Fly P w) P w K mg base N qual scope f cd A outer s H E) XC E (.Expr (.Call (.Name g p) (e::es) [] cpos) pos) (F5 Ψ ms):=
 CA (Jp (Mq (X:=Bd (Fly P w) P w K mg base N qual scope f cd A outer s H E) (E:=E) D hr hkj (NB fun _ _ _ h=>h) ha hg hdb he hpl) hs) fun _ _ _ h=>PY rfl hnp h
end
end
end J
end
section
namespace PySem
section
variable{M:Model}{A:Around}{E:Value->Shared->Prop}
variable{nm q nm' q':Str}{C N B N':Addr}{bs bm bs' bm':List Value}{hdct hdct':Bool}{sn sn':List Str}{sub sub':List Value}{ab ab':Bool}{col col':Option Bool}{dd dd':Option Addr}{k0 k1 k2 k3 k5 j0 j1 j2 j3 j5:Option Value}{newId newId':String}
def Ih{h:Heap}{g:Array GenState}{d:Drawn}{t:Nat}{os:OsState}{e:Addr}{oe:Obj}{Q:Bool->Shared->Prop}(hC:h.get? C=some (excClassObj nm q C N bs bm hdct sn sub ab col dd k0 k1 k2 k3 k5 newId))(hB:h.get? B=some (excClassObj nm' q' B N' bs' bm' hdct' sn' sub' ab' col' dd' j0 j1 j2 j3 j5 newId'))(he:h.get? e=some oe)(hcls:oe.cls=.ref C)(hbase:bm'.contains (.type "BaseException")=true)(hm:bm.contains (.ref B)=true)(hq:Q true ⟨h,g,d,t,os⟩):wpAny M A (excMatches (.ref e) (.ref B)) Q E ⟨h,g,d,t,os⟩:=by
 have hcB:(Value.ref B::bm').contains (.type "BaseException")=true:=by rw[List.contains_cons,hbase,Bool.or_true]
 have hcC:(Value.ref C::bm).contains (.ref B)=true:=by rw[List.contains_cons,hm,Bool.or_true]
 have f:=tc_notTuple;unfold excMatches;repeat (first|(with_reducible refine wpAny_loadPart_at he ?_; rw[hcls])|with_reducible refine wpAny_loadPart_at hB ?_|(with_reducible refine wpAny_isSubtype_exc hB ?_; rw[hcB])|(with_reducible refine wpAny_isSubtype_exc hC ?_; rw[hcC])|wp_step)
 exact hq
end
def Above(h:Heap)(C B:Addr):Prop:=∃(nm q nm' q':Str) (N N':Addr) (bs bm bs' bm':List Value) (hd hd':Bool) (sn sn':List Str) (sub sub':List Value) (ab ab':Bool) (col col':Option Bool) (dd dd':Option Addr) (k0 k1 k2 k3 k5 j0 j1 j2 j3 j5:Option Value) (nid nid':String),
 h.get? C=some (excClassObj nm q C N bs bm hd sn sub ab col dd k0 k1 k2 k3 k5 nid)/\h.get? B=some (excClassObj nm' q' B N' bs' bm' hd' sn' sub' ab' col' dd' j0 j1 j2 j3 j5 nid')/\bm'.contains (.type "BaseException")=true/\bm.contains (.ref B)=true
section
variable{prog:Program}{w:World}{A:Around}{E:Value->Shared->Prop}{s:Shared}{env:Env}
def HG{e C B:Addr}{t:Expr}{n:Str}{b₀:Stmt}{suite:List Stmt}{pos:Pos}{rest:List ExceptHandler}{Q:Flow->Shared->Prop}(h:wpAny (model prog w) (A.mark (some (.ref e))) (eval t env) (fun c s₁=>c=.ref B/\Above s₁.heap C B/\(∃oe,s₁.heap.get? e=some oe/\oe.cls=.ref C) /\
   wpAny (model prog w) (A.mark (some (.ref e))) (setFlight (.ref e) none) (fun _ s₂ =>
     wpAny (model prog w) (A.mark (some (.ref e))) (storeName env n (.ref e)) (fun _ s₃ =>
      wpAny (model prog w) (A.mark (some (.ref e))) (execs (b₀::suite) env)
       (fun f s₄=>wpAny (model prog w) A (do bindName env n .none; unbindBehindTheSuite env n pos) (fun _ s₅=>Q f s₅) E s₄)
       (AsSuiteRaised (model prog w) (A.mark (some (.ref e))) env n pos (notedBy (model prog w) (A.mark (some (.ref e))) env (cameBackBy (model prog w) A env E))) s₃) (notedBy (model prog w) (A.mark (some (.ref e))) env (cameBackBy (model prog w) A env E)) s₂) (notedBy (model prog w) (A.mark (some (.ref e))) env (cameBackBy (model prog w) A env E)) s₁) (notedBy (model prog w) (A.mark (some (.ref e))) env (cameBackBy (model prog w) A env E)) s):
  wpAny (model prog w) A (handleBy (.ref e) env (.ExceptHandler (some t) (some n) (b₀::suite) pos::rest)) Q E s:=by
 refine wpAny_handleBy_cons (codeAny_handlers_test (wpAny_mono h (fun c s₁ h₁=>?_) fun _ _ y=>y)) (by intro q; cases q);obtain⟨rfl,⟨_,_,_,_,_,_,_,_,_,_,_,_,_,_,_,_,_,_,_,_,_,_,_,_,_,_,_,_,_,_,_,_,_,_,hC,hB,hb,hm⟩,⟨oe,he,hcls⟩,hk⟩:=h₁;obtain⟨hh,g,d,tk,os⟩:=s₁;exact Ih hC hB he hcls hb hm (codeAny_handlers_suite_as hk)
end
end PySem
end
section
namespace L2
open PySem PySem.Spec PyProof.Rows
section
variable{P:Program}{w:World}{outer:List Env}{H H':Hp}{s s':Shared}{a C:Addr}{a0:Value}{B:Heap}
theorem FlyAt.on{h':Heap}(F:FlyAt P w outer H s a C a0 B H' s')(hd:∀b∈frs outer,∀o,s.heap.get? b=some o->∀vs,o.data≠.fields vs)(fl:Heap.FlyingW B outer a (.ref C) a0 h')(sm:s'.heap.UpToSlots h')(pl:Bj h' a):FlyAt P w outer H s a C a0 B H' { s' with heap:=h' }:=
 ⟨F.os,F.bare,fl,F.keep,fun b o e n hb=>by
  obtain⟨sl,e1⟩:=F.slot b o e n hb;obtain⟨sl2,e2⟩:=sm b { o with slots:=sl } e1 (hd b hb o e);exact⟨sl2,e2⟩,F.free,F.there,F.tups,F.frzs,F.tbls,F.hok,pl⟩
def FlyAt.un(F:FlyAt P w outer H s a C a0 B H' s')(ht:∀b∈frs outer,∀o,s.heap.get? b=some o->H b=none):Un (frs outer) [] H H' s.heap s'.heap/\HOk P w H' s'.heap:=by
 have st:∀b o,B.get? b=some o->s'.heap.get? b=some o:=F.fly.1;refine⟨⟨fun b o e n hb _=>st b o (F.keep b o e n hb),fun b o e n hb _=>F.slot b o e n hb,fun b o e n _=>F.free b o e n,fun b o e _=>?_,F.tups,F.frzs,F.tbls⟩,F.hok.kept st⟩;by_cases hb:b∈frs outer
 .obtain⟨sl,e1⟩:=F.slot b o e (ht b hb o e) hb
  exact⟨_,e1⟩
 .obtain⟨o',e1⟩:=F.there b o e hb
  exact⟨o',st b o' e1⟩
end
section
variable{X:Cx}{pins:List (Addr×Obj)}{σ:St}{H H':Hp}{s s':Shared}{a C:Addr}{a0:Value}{B:Heap}
def Inv.landed(I:Inv X pins σ H s)(F:FlyAt X.prog X.w X.stack H s a C a0 B H' s'):Inv X pins σ H' s':=by
 have e0:=I.env0;obtain⟨u,hok⟩:=F.un fun b hb o e=>e0.frf b hb;obtain⟨v,H1,J,_,q⟩:=I.after (Q:=fun _ H1=>H1=H') (u:=.none) (s':=s') ⟨.non,H',F.os,F.bare,u,hok,rfl,rfl⟩;subst q;exact J
def lands{env:Env}{outer:List Env}{L:Addr}{E:Value->Shared->Prop}{R:Shared->Prop}(I:Inv X pins σ H s)(hs:X.stack=env::outer)(hf:env.frame=some L)(F:FlyAt X.prog X.w X.stack H s a C a0 B H' s')(h:∀s3,FlyAt X.prog X.w X.stack H s a C a0 B H' s3->R s3):
  wpAny (model X.prog X.w) X.A (noteFrame (.ref a) env) (fun _ s2=>wpAny (model X.prog X.w) X.A (setFlight (.ref a) none) (fun _ s3=>R s3) E s2) E s':=by
 have e0:=I.env0;have hd:∀b∈frs X.stack,∀o,s.heap.get? b=some o->∀vs,o.data≠.fields vs:=fun b hb o e=>D7 e0.funs hb e;have fr:=e0.frames;have fl:=F.fly;rw[hs] at fr fl;refine Nt fr hf fl F.pl fun h1 held sm1 pl1=>?_;refine He held.1 held.2.1 held.2.2.1 held.2.2.2 pl1 fun h2 fl2 sm2 pl2=>?_;rw[<- hs] at fl2;exact h _ (F.on hd fl2 (sm1.trans sm2) pl2)
end
section
variable{X:Cx}{body:List Stmt}{h0:ExceptHandler}{hs:List ExceptHandler}{pos:Pos}{t:TS}
def Q1(X:Cx)(pins:List (Addr×Obj))(D:Ends)(hs:List ExceptHandler):Value->Shared->Prop:=fun e s1 =>
 wpAny (model X.prog X.w) X.A (noteFrame e X.env) (fun _ s2=>wpAny (model X.prog X.w) X.A (setFlight e none) (fun _ s3=>wpAny (model X.prog X.w) X.A (handleBy e X.env hs) (SP X pins D) X.xe s3) X.xe s2) X.xe s1
def U1{pins:List (Addr×Obj)}{s:Shared}{σ:St}{H:Hp}{D:Ends}(hb:wpAny (model X.prog X.w) X.A (execs body X.env) (SP X pins D) (Q1 X pins D (h0::hs)) s):
  wpAny (model X.prog X.w) X.A (exec (.Try body (h0::hs) [] [] pos) X.env) (SP X pins D) X.xe s:=by
 refine wpAny_Try_except (wpAny_mono hb (fun f s1 q=>?_) fun e s1 q=>q);cases f with
 | next=>exact wpAny_execs_nil q
 | brk=>exact q
 | cont=>exact q
 | ret u=>exact q
def KQ{P:Program}{w:World}{env:Env}{outer:List Env}{L:Addr}{pins:List (Addr×Obj)}{D:Ends}{E:XK}(hP:X.prog=P)(hw:X.w=w)(he:X.env=env)(hs':X.stack=env::outer)(hf:env.frame=some L)(h:∀(σ:St) (H H':Hp) (s s3:Shared) (a C:Addr) (a0:Value) (B:Heap),Inv X pins σ H s->FlyAt P w X.stack H s a C a0 B H' s3->Inv X pins σ H' s3->E (.ref C) none H'->wpAny (model P w) X.A (handleBy (.ref a) env (h0::hs)) (SP X pins D) X.xe s3):
  ∀(σ:St) (H:Hp) (s:Shared) (e:Value) (s':Shared),Inv X pins σ H s->Fly P w X.stack H s E e s'->Q1 X pins D (h0::hs) e s':=by
 subst hP hw he;intro σ H s e s' I fl;obtain⟨a,C,a0,B,H',rfl,F,q⟩:=fl;exact lands I hs' hf F fun s3 F3=>h σ H H' s s3 a C a0 B I F3 (I.landed F3) q
end
section
variable{X:Cx}{pins:List (Addr×Obj)}{σ:St}{H H':Hp}{s s':Shared}{a C:Addr}{a0:Value}{B:Heap}
def FlyAt.fresh{P:Program}{w:World}{K:Frag}{mg:Str->Option Value}{base:Heap}{A:Around}{outer:List Env}(e0:Env0 P w K mg base A outer s H)(F:FlyAt P w outer H s a C a0 B H' s'):s.heap.get? a=none:=by
 cases hs:s.heap.get? a with
 | none=>rfl
 | some o =>
  by_cases hb:a∈frs outer
  .obtain⟨sl,e1⟩:=F.slot a o hs (e0.frf a hb) hb
   obtain⟨oe,vs,e2,_,hd,_⟩:=F.fly.first;rw[e1] at e2;cases e2;exact absurd hd (D7 e0.funs hb hs vs)
  .obtain⟨o',e1⟩:=F.there a o hs hb
   rw[F.fly.2.1] at e1; cases e1
def Inv.track{s1:Shared}{o:Obj}(I0:Inv X pins σ H s)(I:Inv X pins σ H' s1)(h0:s.heap.get? a=none)(hn:H' a=none)(ho:s1.heap.get? a=some o):Inv X pins σ (upd H' a (.frz o (.own a))) s1:=by
 have ne:∀b u,s.heap.get? b=some u->b≠a:=fun b u e z=>by rw[z,h0] at e; cases e
 have neH:∀b u,H' b=some u->b≠a:=fun b u e z=>by rw[z,hn] at e; cases e
 have u:=I.base;obtain⟨m0,n0,_⟩:=I0.loc;refine⟨I.ok,I.os,I.bare,⟨u.keep,u.slot,fun b ob e n hx=>?_,u.there,fun b xs e=>?_,fun b ob v e=>?_,fun b qs e=>?_⟩,I.loc,I.cell,?_,fun x c hc=>?_,fun q hq=>?_,fun b v e=>?_,I.len⟩
 .by_cases hb:b∈X.ex
  .exact absurd hb hx
  .obtain⟨o',e'⟩:=I0.base.there b ob e hx
   rw[AB (ne b o' e')];exact u.free b ob e n hx
 .have:=u.tups b xs e
  rw[AB (neH b _ this)]; exact this
 .have:=u.frzs b ob v e
  rw[AB (neH b _ this)]; exact this
 .obtain⟨more,this⟩:=u.tbls b qs e
  exact⟨more,by rw[AB (neH b _ this)]; exact this⟩
 .obtain⟨ol,es,ep,el,_⟩:=n0
  rw[AB (ne _ ol el)]; exact I.free
 .obtain⟨v,hv⟩:=I0.cell x c hc
  obtain⟨oc,ec,_⟩:=hv;rw[AB (ne _ oc ec)]; exact I.freeC x c hc
 .obtain⟨e1,e2,e3⟩:=I.pin q hq
  obtain⟨f1,_⟩:=I0.pin q hq;exact⟨e1,by rw[AB (ne _ _ f1)]; exact e2,e3⟩
 .by_cases hb:b=a
  .subst hb
   rw[AU] at e; cases e;exact⟨ho,_,ho⟩
  .rw[AB hb] at e
   exact(I.hok b v e).stay (fun d v' _ q=>q) (fun d q=>by rw[AB (neH d _ q)]; exact q) fun d xs q=>by rw[AB (neH d _ q)]; exact q
end
end L2
end
section
namespace PySem
def Above.keeps{h h':Heap}{C B:Addr}(x:Above h C B)(k:∀b o,h.get? b=some o->h'.get? b=some o):Above h' C B:=by
 obtain⟨a1,a2,a3,a4,a5,a6,a7,a8,a9,b0,b1,b2,b3,b4,b5,b6,b7,b8,b9,c0,c1,c2,c3,c4,c5,c6,c7,c8,c9,d0,d1,d2,d3,d4,hC,hB,q⟩:=x;exact⟨a1,a2,a3,a4,a5,a6,a7,a8,a9,b0,b1,b2,b3,b4,b5,b6,b7,b8,b9,c0,c1,c2,c3,c4,c5,c6,c7,c8,c9,d0,d1,d2,d3,d4,k _ _ hC,k _ _ hB,q⟩
end PySem
namespace L2
open PySem PySem.Spec PyProof.Rows
section
variable{X:Cx}{pins:List (Addr×Obj)}{σ:St}{H H':Hp}{s s3:Shared}{a C:Addr}{a0:Value}{B:Heap}
def Inv.forget{h':Heap}{t':Nat}{m':Str->Option Value}(I:Inv X pins σ H s)(hn':h'.Ns X.env.locals m')(hs:Heap.SameBut X.env.locals s.heap h'):Inv X pins (List.replicate X.N.length none) H { s with heap:=h',toks:=t' }:=by
 have cne:=I.cne;refine⟨I.ok,I.os,I.bare,⟨fun b o e n hb hx=>?_,fun b o e n hb hx=>?_,I.base.free,fun b o e hx=>?_,I.base.tups,I.base.frzs,I.base.tbls⟩,⟨_,hn',fun j y v' e1 e2 e3=>?_⟩,fun y c e=>?_,I.free,I.freeC,fun p hp=>?_,fun b ob e=>?_,by simp⟩
 .exact(hs.2 b (Nat.ne_of_lt (Nat.lt_of_lt_of_le (Heap.lt_size e) I.ok.above))).trans (I.base.keep b o e n hb hx)
 .obtain⟨sl,e1⟩:=I.base.slot b o e n hb hx
  exact⟨sl,(hs.2 b (Nat.ne_of_lt (Nat.lt_of_lt_of_le (Heap.lt_size e) I.ok.above))).trans e1⟩
 .obtain⟨o',e1⟩:=I.base.there b o e hx
  exact⟨o',(hs.2 b (Nat.ne_of_lt (Nat.lt_of_lt_of_le (Heap.lt_size e) I.ok.above))).trans e1⟩
 .rw[List.getElem?_replicate] at e2
  split at e2<;>cases e2
 .obtain⟨w',z⟩:=I.cell y c e
  exact⟨w',z.sameBut hs (cne y c e)⟩
 .obtain⟨e,n,ne,nf,d⟩:=I.pin p hp
  exact⟨(hs.2 p.1 ne).trans e,n,ne,nf,d⟩
 .have hfree:=I.free
  refine(I.hok b ob e).stay (fun c w' hc q=>(hs.2 c ?_).trans q) (fun _ q=>q) fun _ _ q=>q;rintro rfl;rcases hc with hc|hc
  .rw[<- hc,hfree] at e; cases e
  .rw[hfree] at hc; cases hc
def Oh{HE:Addr}{y n:Str}{i:Nat}{e:Expr}{tp rp hpos:Pos}{D:Ends}(hN:X.N.Nodup)(hi:X.N[i]? = some n)(hx:X.env.scope.names.lookup n=some .local)(hk:X.env.kindOf n=some .local)(hg:Gl X y)(hm:X.mg y=some (.ref HE))(hdb:(y==("__debug__" : Str))=false)(hab:Above X.base C HE)(I0:Inv X pins σ H s)(F:FlyAt X.prog X.w X.stack H s a C a0 B H' s3)(hn:H' a=none)(he:∀(oe:Obj) (vs:Array Value) (s5:Shared),oe.cls=.ref C->oe.data=.fields vs->vs[2]? = some .none->Inv X pins (σ.set i (some (.ref a))) (upd H' a (.frz oe (.own a))) s5->wpAny (model X.prog X.w) (X.A.mark (some (.ref a))) (eval e X.env) (fun u s6=>∃v σ6 H6,Inv X pins σ6 H6 s6/\RelV v u/\D.rt v H6) (fun _ _=>False) s5):
  wpAny (model X.prog X.w) X.A (handleBy (.ref a) X.env [.ExceptHandler (some (.Name y tp)) (some n) [.Return (some e) rp] hpos]) (SP X pins D) X.xe s3:=by
 have I3:=I0.landed F;have e0:=I0.env0;have hd:∀b∈frs X.stack,∀o,s.heap.get? b=some o->∀vs,o.data≠.fields vs:=fun b hb o e=>D7 e0.funs hb e;refine HG (C:=C) (B:=HE) (Calls.Name_function_global I3.ok.kind hg (Calls.loadGlobal_global (by rw[I3.ok.glob]; exact I3.mod.glob.keeps I3.bk) hm ⟨rfl,hab.keeps I3.bk,F.fly.there,?_⟩) hdb);refine Nq F.fly F.pl fun h4 fl4 sm4 pl4=>?_;have F4:=F.on hd fl4 sm4 pl4;have I4:=I0.landed F4;obtain⟨oe,hoe,hcls⟩:=fl4.there;obtain⟨oe',vs,q1,q2,q3⟩:=pl4;rw[hoe] at q1;cases q1;have I4':=Inv.track I0 I4 (F.fresh e0) hn hoe;refine Fv (v:=.ref a) I4' hN hi (.inl hx) rfl (fun s5 I5=>?_) (.inr hx);refine wpAny_execs_cons (wpAny_Return_some (wpAny_mono (he oe vs s5 hcls q2 q3 I5) (fun u s6 yy=>?_) fun _ _ z=>z.elim));obtain⟨v,σ6,H6,I6,r,q⟩:=yy;obtain⟨m6,n6,_⟩:=id I6.loc;refine wpAny_nameGoes hk n6 (by rw[I6.ok.kind]; rfl) fun h7 m7 n7 sb7=>?_;exact⟨v,_,H6,I6.forget n7 sb7,r,q⟩
end
end L2
end
section
namespace L2
open PySem PySem.Spec PyProof.Rows
theorem KD:entryFor table "proto.unchain" = some Builtin.«proto.unchain»:=entryFor_of_tree (by kernel_rfl)
section
variable{prog:Program}{w:World}{A:Around}{E:Value->Shared->Prop}{s:Shared}
def My{α:Type}{h e:Addr}{oe:Obj}{ve:Array Value}{Q:α -> Shared->Prop}(hh:A.handled=some (.ref h))(ne:h≠e)(hp:Bj s.heap h)(he:s.heap.get? e=some oe)(hde:oe.data=.fields ve)(h2:2<ve.size)(k:E (.ref e) { s with heap:=s.heap.update e (Obj.mapFields (·.setIfInBounds 2 (.ref h))) }):wpAny (model prog w) A (raiseNew (α:=α) (.ref e)) Q E s:=by
 obtain⟨oh,vh,ho,hd,hc⟩:=hp;simp only[raiseNew];refine wpAny_bind (wpAny_handled ?_);rw[hh];have hne:(Value.ref h != Value.ref e)=true:=by
  rw[bne_iff_ne];intro z;injection z with z
  exact ne z
 show wpAny _ _ (if (Value.ref h != Value.ref e)=true then _ else _) _ _ _;rw[if_pos hne];refine wpAny_bind (wpAny_holding (runValue_entry KD ?_));unfold Builtin.«proto.unchain»;refine wpAny_bind (wpAny_field ho hd hc ?_);refine wpAny_pure ⟨_,rfl,?_⟩;unfold updateField;refine wpAny_bind (wpAny_bind (wpAny_load he ?_));rw[hde];show wpAny _ _ (if 2<ve.size then _ else _) _ _ _;rw[if_pos h2];exact wpAny_update he (wpAny_throw k)
end
section
variable{prog:Program}{w:World}{A:Around}{E:Value->Shared->Prop}{s:Shared}
def IH{it a:Addr}{x left step:Int}{Q:Option Value->Shared->Prop}(hh:A.handled=some (.ref a))(hp:Bj s.heap a)(hit:IsRangeIter s.heap it x left step)(hleft:left<=0)(hQ:∀h',(∀b o,s.heap.get? b=some o->h'.get? b=some o)->Q none { s with heap:=h' }):wpAny (model prog w) A (pyNext (.ref it)) Q E s:=by
 have hT:s.TypeIs (.ref it) "range_iterator" := ⟨_,hit,rfl⟩;unfold pyNext;refine wpAny_bind (wpAny_attempt (wpAny_callSpecial?_slot (name:=Str.ofString "__next__") hT F.slot_range_iterator_next
  (wpAny_call_entry F.slot_range_iterator_next hT F.entry_range_iterator_next ?_ (F.args_range_iterator_next_1 _))))
 show wpAny _ _ (field (.ref it) 0 >>= _) _ _ s;refine wpAny_bind (wpAny_field hit rfl (x:=rawInt x) rfl ?_);show wpAny _ _ (field (.ref it) 1 >>= _) _ _ s;refine wpAny_bind (wpAny_field hit rfl (x:=rawInt left) rfl ?_);show wpAny _ _ (field (.ref it) 2 >>= _) _ _ s;refine wpAny_bind (wpAny_field hit rfl (x:=rawInt step) rfl ?_);show wpAny _ _ (if left<=0 then _ else _) _ _ s;rw[if_pos hleft];refine wpAny_bind (wpAny_rule ?_);refine wpAny_bind ?_;show wpAny _ _ (newExc (.type "StopIteration") [] >>= _) _ _ _;refine wpAny_bind ?_;simp only[newExc,newTuple];refine wpAny_bind (wpAny_newObj_type ?_ (by size_fits));refine wpAny_bind (m:=firstArgMember _ _) (wpAny_of_eq (a:=Value.none) (by first|rfl|(simp only[firstArgMember]; rfl)) ?_);refine wpAny_newObj_type ?_ (by size_fits);have hlt:=hp.lt;have kk:∀(o1 o2:Obj) b o,s.heap.get? b=some o->((s.heap.push o1).push o2).get? b=some o:=fun o1 o2 b o e=>Heap.get?_push_of_some _ (Heap.get?_push_of_some _ e);refine My (h:=a) hh (fun z=>?_) (hp.keeps (kk _ _)) (Heap.get?_push_size _ rfl) rfl (by simp[ownMembersOf]) ?_
 .have:((s.heap.push { cls:=.type "tuple",data:=.seq ([]:List Value).toArray }).objs.size:Nat)=s.heap.objs.size+1:=Heap.size_push ..
  lia
 refine wpAny_bind (wpAny_isInstance (T := "StopIteration") (b:=true) ⟨_,Heap.get?_update_self _ (Heap.get?_push_size _ rfl) rfl,rfl⟩ isSubtype_stop ?_);refine wpAny_pure (hQ _ fun b o e=>?_);refine(Heap.get?_update_other _ _ fun z=>?_).trans (kk _ _ b o e);have hb:=Heap.lt_size e;have:((s.heap.push { cls:=.type "tuple",data:=.seq ([]:List Value).toArray }).objs.size:Nat)=s.heap.objs.size+1:=Heap.size_push ..;lia
end
end L2
end
section
namespace J
open PySem PySem.Spec PyProof.Rows L2
section
variable{X:Cx}{a b c e:Expr}{es:List Expr}{m m1 m2 m3:ME}{ms:MA}{p pos pos' p2 apos cpos q npos:Pos}{x:Str}
variable{K:Frag}{N:Addr->Prop}{H:Hp}{σ:L2.St}{v:V}{L:List Addr}
def TM:List A->Option A:=on2 fun a q2=>(Ja q2).bind fun _u=>some (.fz (.bl (E9 a)))
def R3:OpN K TM (r2L fun x y H Q=>y=.non/\Q (.bl (decide (x=.non))) H):=by
 intro N H xs as b Q hs e k
 replace e:=CN e
 obtain⟨a,q2,rfl,e⟩:=e
 replace e:=bind_eq_some_iff.mp e
 obtain⟨_u,eq2,e⟩:=e;cases Ub eq2;clear eq2;cases e;obtain⟨x,y,L1,L2,rfl,h1,h2⟩:=BZ hs;obtain⟨_,h2⟩:=FQ.mp h2;cases h2;refine⟨_,_,rfl,rfl,k _ _ ?_⟩;have:decide (x=V.non)=E9 a:=by
  cases a with
  | fz d =>
   obtain⟨_,h1⟩:=FQ.mp h1;cases h1<;>simp[E9]
  | lst as=>rw[Ar] at h1; obtain⟨_,_,_,rfl,_⟩:=h1; simp[E9]
  | tup as=>rw[Ar] at h1; obtain⟨_,_,rfl,_⟩:=h1; simp[E9]
  | scr ns=>rw[Ar] at h1; obtain⟨_,rfl,_⟩:=h1; simp[E9]
  | dic kvs=>rw[Ar] at h1; obtain⟨_,_,rfl,_⟩:=h1; simp[E9]
  | dct kvs=>rw[Ar] at h1; obtain⟨_,_,rfl,_⟩:=h1; simp[E9]
  | opq _ _=>rw[Ar] at h1; obtain⟨rfl,_⟩:=h1; simp[E9]
 rw[this];exact Ho (.bl _)
def VC:List A->Option A:=Hb (fun _ _=>true) fun i j=>i+j
def YQ(i:Nat)(m:ME):MS:=A5 i (opM VC (m2L (Ad i) m))
end
end J
end
section
namespace L2
open PySem PySem.Spec PyProof.Rows
section
variable{X:Cx}{pins:List (Addr×Obj)}{σ:St}{H:Hp}{s:Shared}
abbrev withN(X:Cx)(N':List Str):Cx:={ X with N:=N' }
def JM(N' N:List Str)(sco:Scope):Bool:=(N'.length==N.length)&&(N'.zip N).all fun p=>p.1==p.2 || (sco.names.lookup p.1).isNone
def TF:∀{N' N:List Str} {sco:Scope},JM N' N sco=true->∀(i:Nat) (x:Str),N'[i]? = some x->Vis sco x->N[i]? = some x:=by
 intro N' N sco h i x e v;simp only[JM,Bool.and_eq_true,beq_iff_eq,List.all_eq_true] at h;obtain⟨hl,ha⟩:=h;have hi:i<N'.length:=(List.getElem?_eq_some_iff.mp e).1;have hi2:i<N.length:=by rw[<- hl]; exact hi
 have hz:(N'.zip N)[i]? = some (x,N[i]):=by
  rw[List.getElem?_zip_eq_some];exact⟨e,List.getElem?_eq_getElem hi2⟩
 have:=ha _ (List.mem_of_getElem? hz);simp only[Bool.or_eq_true,beq_iff_eq,Option.isNone_iff_eq_none] at this;rcases this with z|z
 .rw[List.getElem?_eq_getElem hi2,<- z]
 .rcases v with v|v|v<;>rw[z] at v<;>cases v
theorem Cx.Ok.withN{N':List Str}(ok:X.Ok):(withN X N').Ok:=⟨ok.mod,ok.kind,ok.glob,ok.blt,ok.above,ok.inj,ok.has,ok.cab,ok.hd,ok.frames,ok.stk,ok.exf,ok.bs,ok.bsz,ok.noex,ok.exfs,ok.funs,ok.frf,ok.tb⟩
def Inv.hide{N':List Str}(h:JM N' X.N X.env.scope=true)(I:Inv X pins σ H s):Inv (withN X N') pins σ H s:=by
 refine⟨I.ok.withN,I.os,I.bare,I.base,?_,I.cell,I.free,I.freeC,I.pin,I.hok,?_⟩
 .obtain⟨m,hn,q⟩:=I.loc
  exact⟨m,hn,fun i x v e1 e2 vis=>q i x v (TF h i x e1 vis) e2 vis⟩
 .simp only[JM,Bool.and_eq_true,beq_iff_eq] at h
  exact I.len.trans h.1.symm
def Inv.blank{N':List Str}(I:Inv (withN X N') pins σ H s):Inv X pins (List.replicate X.N.length none) H s:=by
 have ok:X.Ok:=⟨I.ok.mod,I.ok.kind,I.ok.glob,I.ok.blt,I.ok.above,I.ok.inj,I.ok.has,I.ok.cab,I.ok.hd,I.ok.frames,I.ok.stk,I.ok.exf,I.ok.bs,I.ok.bsz,I.ok.noex,I.ok.exfs,I.ok.funs,I.ok.frf,I.ok.tb⟩;refine⟨ok,I.os,I.bare,I.base,?_,I.cell,I.free,I.freeC,I.pin,I.hok,by rw[List.length_replicate]⟩;obtain⟨m,hn,_⟩:=I.loc;refine⟨m,hn,fun i x v e1 e2 vis=>?_⟩;rw[List.getElem?_replicate] at e2;split at e2<;>simp at e2
def Se{N':List Str}{own:List Str}{scope:Scope}{target iter elt:Expr}{ifs:List Expr}{pos:Pos}{wi:TI}{un:TU}{tc:TT}{te:TE}(hid:JM N' X.N X.env.scope=true)(hc:X.calm=true)(hok:B7 own N' scope X.env.scope=true)(hi:PI X target iter wi)(hg:∀C s H fp pins,PGo (cxC (withN X N') own scope C s H fp pins) target own.length un)(ht:∀C s H fp pins,PTs (cxC (withN X N') own scope C s H fp pins) ifs tc)(he:∀C s H fp pins,PE (cxC (withN X N') own scope C s H fp pins) elt te)(hs:∀x,foldedSetIterable iter X.env x=pure x:=by intro _; rfl):PE X (.ListComp elt [⟨target,iter,ifs,0⟩] scope pos) (tLc wi un tc te):=by
 intro pins s σ H Q I h;have hok':B7 own (withN X N').N scope (withN X N').env.scope=true:=hok;rw[eval_ListComp];refine wpAny_comprehension_free (use:=none) rfl hs (Jv (env:=X.env) (B7.free (X:=withN X N') hok' (I.hide hid))) (B7.kind hok) (B7.names hok) ?_;refine thn (hi pins s σ H _ I h) fun v s1 h1=>thn h1 fun itv s2 h2=>?_;obtain⟨it,fp,tn,J,H2,e,I2,T,st2,f2,q⟩:=h2;subst e;obtain⟨W,w0,turn⟩:=q s2.heap.objs.size I2.fresh;refine wpAny_newObj_type (hd:=by size_fits) ?_;have I3:Inv X pins σ (upd H2 s2.heap.objs.size (.lst [])) { s2 with heap:=s2.heap.push { cls:=.type "list",data:=.seq ([]:List Value).toArray } }:=I2.lnew (its:=[]) (t':=s2.toks) .nil (Nat.zero_le _);have st3:tn 0 (s2.heap.push { cls:=.type "list",data:=.seq ([]:List Value).toArray }):=T.keep _ _ _ st2 fun b _ o e=>Heap.get?_push_of_some _ e;have f3:∀b∈fp,E5 X pins (upd H2 s2.heap.objs.size (.lst [])) b:=fun b hb=>by
  obtain⟨o,e,_⟩:=T.obj _ _ st2 b hb;exact⟨by rw[AB (Nat.ne_of_lt (Heap.lt_size e))]; exact(f2 b hb).1,(f2 b hb).2⟩
 refine thn (II (X:=withN X N') (iter:=iter) (pos:=pos) (R:=compPost (model X.prog X.w) X.A X.xe none (EP X pins σ Q) (.ref s2.heap.objs.size) (s2.heap.push { cls:=.type "list",data:=.seq ([]:List Value).toArray }).objs.size) hc hok' hg ht he (I3.hide hid) T st3 f3 W w0 turn fun s' σ' H' J' q'=>?_) fun cenv s4 ⟨el,h4⟩=>?_
 .obtain⟨m,hn,_⟩:=J'.loc
  have J2:=Inv.blank (X:=cxC X own scope (s2.heap.push { cls:=.type "list",data:=.seq ([]:List Value).toArray }).objs.size _ _ fp pins) (N':=own++N') J';exact⟨m,hn,fun h' hs'=>⟨.ref s2.heap.objs.size,H',EZ I3 f3 J2 hs',rfl,q'⟩⟩
 .have el':cenv.locals=(s2.heap.push { cls:=.type "list",data:=.seq ([]:List Value).toArray }).objs.size:=el
  rw[<- el'] at h4;exact h4
end
end L2
namespace J
open PySem PySem.Spec PyProof.Rows L2
section
variable{X:Cx}{x:Str}{pos:Pos}{mi:MI}{mt:MT}{m:ME}
def V6(N':List Str){scope:Scope}{iter elt:Expr}{ifs:List Expr}{px:Pos}(hid:JM N' X.N X.env.scope=true)(hok:B7 [x] N' scope X.env.scope=true)(hc:X.calm=true)(hn:N'.Nodup)(hx:scope.names.lookup x=some .local)(hs:∀z,foldedSetIterable iter X.env z=pure z)(hi:JI X (.Name x px) iter mi)(ht:JTc (withN X N') [x] scope ifs mt)(he:JEc (withN X N') [x] scope elt m):
  JE X (.ListComp elt [⟨.Name x px,iter,ifs,0⟩] scope pos) (Bh mi 0 mt m):=by
 have hnx:∀y∈N',x≠y:=fun y hy z=>by
  simp only[B7,Bool.and_eq_true,List.all_eq_true] at hok;have:=hok.2 x (by simp);rw[z] at this;simp[hy] at this
 exact AM (Se (te:=tE X.K m) hid hc hok hi (fun C s H fp pins=>GG rfl (List.nodup_cons.mpr ⟨fun z=>hnx x z rfl,hn⟩) (lookup_relabel_local hx)) ht (fun C s H fp pins=>he C s H fp pins) hs) fun _ _ _ h=>Jr h
end
end J
end
section
namespace L2
open PySem PySem.Spec PyProof.Rows
def Mkd(X:Cx):Prop:=∃(a:Addr) (o:Obj) (u:HO) (vs:Array Value),X.A.handled=some (.ref a)/\X.H₀ a=some (.frz o u)/\o.data=.fields vs/\vs[2]? = some .none
def Inv.plainly{X:Cx}{pins:List (Addr×Obj)}{σ:St}{H:Hp}{s:Shared}(I:Inv X pins σ H s)(m:Mkd X):∃a,X.A.handled=some (.ref a)/\Bj s.heap a:=by
 obtain⟨a,o,u,vs,h,hp,hd,hc⟩:=m;have hok:=(show CT X.prog X.w H s.heap a (.frz o u) from I.hok a _ (I.base.frzs _ _ _ hp));exact⟨a,h,o,vs,hok.1,hd,hc⟩
def Vd{X:Cx}{own:List Str}{scope:Scope}{C:Addr}{cl:List (Str×Addr)}{fn:Str->Bool}{s:Shared}{σ:St}{H:Hp}{fp:List Addr}{pins:List (Addr×Obj)}(I:Inv X pins σ H s)(m:Mkd X):Mkd (cxD X own scope C cl fn s H fp pins):=by
 obtain⟨a,o,u,vs,h,hp,r⟩:=m;exact⟨a,o,u,vs,h,I.base.frzs _ _ _ hp,r⟩
structure TurnM (P:Program) (w:World) (K:Frag) (tg:Expr) (J:It) (fp:List Addr) (it:Addr) (tn:Nat->Heap->Prop):Prop where
 mem:it∈fp
 obj:∀i h,tn i h->∀b∈fp,∃o,h.get? b=some o/\∀v,o.data≠.cell v
 keep:∀i h h',tn i h->(∀b∈fp,∀o,h.get? b=some o->h'.get? b=some o)->tn i h'
 item:∀(X:Cx),X.prog=P->X.w=w->X.K=K->Mkd X->∀(i:Nat) (pins:List (Addr×Obj)) (s:Shared) (σ:St) (H:Hp) (E:Value->Shared->Prop),Inv X pins σ H s->(∀b∈fp,E5 X pins H b)->tn i s.heap->J.go i H ->
  wpAny (model P w) X.A (pyNext (.ref it)) (fun r s1=>∃u,r=some u /\
   wpAny (model P w) X.A (letOwnedTupleGo tg (.ref it) u) (fun _ s2=>∃x H',Inv X pins σ H' s2/\RelV x u/\J.yld i H x H'/\tn (i+1) s2.heap/\∀b∈fp,H' b=none) E s1) E s
 done:∀(X:Cx),X.prog=P->X.w=w->X.K=K->Mkd X->∀(i:Nat) (pins:List (Addr×Obj)) (s:Shared) (σ:St) (H:Hp) (E:Value->Shared->Prop),Inv X pins σ H s->(∀b∈fp,E5 X pins H b)->tn i s.heap->J.stop i H ->
  wpAny (model P w) X.A (pyNext (.ref it)) (fun r s1=>r=none/\Inv X pins σ H s1) E s
 self:∀(A:Around) (i:Nat) (s:Shared) (Q:Value->Shared->Prop) (E:Value->Shared->Prop),tn i s.heap->Q (.ref it) s->wpAny (model P w) A (pyIter (.ref it)) Q E s
def XE(X:Cx)(pins:List (Addr×Obj))(σ:St)(tg:Expr)(R:It->Hp->Prop)(itv:Value)(s2:Shared):Prop:=
 ∃(it:Addr) (fp:List Addr) (tn:Nat->Heap->Prop) (J:It) (H':Hp),itv=.ref it/\Inv X pins σ H' s2/\TurnM X.prog X.w X.K tg J fp it tn/\tn 0 s2.heap/\(∀b∈fp,E5 X pins H' b)/\R J H'
def PIM(X:Cx)(tg iter:Expr)(wi:TI):Prop:=
 ∀(pins:List (Addr×Obj)) (s:Shared) (σ:St) (H:Hp) (R:It->Hp->Prop),Inv X pins σ H s->wi σ H R ->
  wpAny (model X.prog X.w) X.A (eval iter X.env) (fun v s1=>wpAny (model X.prog X.w) X.A (pyIter v) (XE X pins σ tg R) X.xe s1) X.xe s
def N0{P:Program}{w:World}{K:Frag}{tg:Expr}(it:Addr)(lo:Int)(n:Nat):TurnM P w K tg (Itr lo n) [it] it (fun i h=>IsRangeIter h it (lo+(i:Nat)*1) ((n:Int)-(i:Nat)) 1) where
 mem:=by simp
 obj:=fun i h st b hb=>by
  have e:b=it:=by simpa using hb
  subst e;exact⟨_,st,fun v z=>by
   have z':Data.fields _=Data.cell v:=z;cases z'⟩
 keep:=fun i h h' st k=>k it (by simp) _ st
 item:=by
  intro X hP hw hK hc i pins s σ H E I hf st hg;subst hP hw hK;obtain⟨f0,f1,f2,f3,f4,f5⟩:=hf it (by simp);have hi:i<n:=hg;refine wpAny_pyNext_range_item st (by lia) fun h' st' sb=>?_;have I1:Inv X pins σ H { s with heap:=h',toks:=s.toks+1 }:=I.turned (fun b o hb e=>(sb.2 b hb).trans e) f0 f1 f3 f4 f5;have e1:lo+((i+1:Nat):Int)*1=lo+(i:Int)*1+1:=by lia
  have e2:(n:Int)-((i+1:Nat):Int)=(n:Int)-(i:Int)-1:=by lia
  have st2:IsRangeIter h' it (lo+((i+1:Nat):Int)*1) ((n:Int)-((i+1:Nat):Int)) 1:=by rw[e1,e2]; exact st'
  refine⟨_,rfl,Ng (s:={ s with heap:=h',toks:=s.toks+1 }) (n := "range_iterator") st2 rfl rfl (by decide) ⟨.int (lo+i),H,I1,⟨s.toks,?_⟩,⟨rfl,rfl⟩,st2,fun b hb=>(hf b hb).1⟩⟩;rw[Int.mul_one]
 done:=by
  intro X hP hw hK hc i pins s σ H E I hf st hg;subst hP hw hK;obtain⟨f0,f1,f2,f3,f4,f5⟩:=hf it (by simp);obtain⟨a,hh,hp⟩:=I.plainly hc;exact IH hh hp st (by have:n<=i:=hg; lia) fun h' kk=>⟨rfl,I.kept (t':=s.toks) fun b o e=>kk b o e⟩
 self:=fun _ _ _ _ _ st h=>wpAny_pyIter_rangeiter st h
section
variable{X:Cx}{tg:Expr}
def QE{pins:List (Addr×Obj)}{σ:St}{H:Hp}{s:Shared}{R:It->Hp->Prop}{E:Value->Shared->Prop}{lo hi:Int}{t u v:Tok}{tk:Nat}(I:Inv X pins σ H s)(h1 : -(2 ^ 62)<=lo)(h2:lo<2 ^ 62)(h3 : -(2 ^ 62)<=hi)(h4:hi<2 ^ 62)(q:R (Itr lo (hi-lo).toNat) H):wpAny (model X.prog X.w) X.A (pyIter (.ref s.heap.objs.size)) (XE X pins σ tg R) E { s with heap:=s.heap.push { cls:=.type "range",data:=.fields #[.int lo t,.int hi u,.int 1 v] },toks:=tk }:=by
 refine wpAny_pyIter_range (IsRange.new ..) (small_one h1 h2 h3 h4) ?_;have I1:Inv X pins σ H { s with heap:=s.heap.push { cls:=.type "range",data:=.fields #[.int lo t,.int hi u,.int 1 v] },toks:=tk }:=I.kept fun b o e=>Heap.get?_push_of_some _ e;refine⟨(s.heap.push { cls:=.type "range",data:=.fields #[.int lo t,.int hi u,.int 1 v] }).objs.size,[(s.heap.push { cls:=.type "range",data:=.fields #[.int lo t,.int hi u,.int 1 v] }).objs.size],_,_,H,rfl,
  I1.kept (t':=tk) fun b o e=>Heap.get?_push_of_some _ e,N0 _ lo (hi-lo).toNat,?_,fun b hb=>?_,q⟩
 .have e1:lo+((0:Nat):Int)*1=lo:=by simp
  have e2:(((hi-lo).toNat:Nat):Int)-((0:Nat):Int)=Builtin.Range.rangeSize lo hi 1:=by rw[rangeSize_one]; split<;>lia
  show IsRangeIter _ _ (lo+((0:Nat):Int)*1) ((((hi-lo).toNat:Nat):Int)-((0:Nat):Int)) 1;rw[e1,e2];exact Heap.get?_push_size _ rfl
 .have e:b=(s.heap.push { cls:=.type "range",data:=.fields #[.int lo t,.int hi u,.int 1 v] }).objs.size:=by simpa using hb
  subst e;exact I1.fpOk (Nat.le_refl _) (I1.hok.fresh (Nat.le_refl _))
def OG{a:Expr}{ta:TA}{p pos:Pos}(hg:Gl X "range")(hm:X.mg "range" = none)(ha:PA X [a] ta)(hs:starEach [a] X.env=[(false,eval a X.env)]:=by rfl):PIM X tg (.Call (.Name "range" p) [a] [] pos) (Rm ta):=by
 intro pins s σ H R I h;refine Call_ (JZ I hg hm boot_range (PyProof.Rows.callWith_type1 (thn (ha pos pins s σ H _ I h) fun us s1 ⟨vs,H1,I1,r1,q1⟩=>?_) hs rfl));obtain⟨j,e,q1,q2,q⟩:=q1;subst e;cases r1 with
 | cons r rr =>
  cases rr;obtain⟨t,rfl⟩:=r;exact call_range_1 (QE I1 (by lia) (by lia) q1 q2 (by simpa using q))
end
section
variable{X:Cx}{pins:List (Addr×Obj)}{σ:St}{H:Hp}{s:Shared}
def QH{own:List Str}{scope:Scope}{fp:List Addr}{it:Addr}{tn:Nat->Heap->Prop}{J:It}{target iter elt:Expr}{ifs:List Expr}{pos:Pos}{un:TU}{tc:TT}{te:TE}{acc:Addr}{Q:VK}{R:Result->Shared->Prop}{cl:List (Str×Addr)}{fn:Str->Bool}{h1:Heap}{t1:Nat}(hc:Mkd X)(hg:PGo (cxD X own scope s.heap.objs.size cl fn s H fp pins) target own.length un)(ht:PTs (cxD X own scope s.heap.objs.size cl fn s H fp pins) ifs tc)(he:PE (cxD X own scope s.heap.objs.size cl fn s H fp pins) elt te)(I:Inv X pins σ H s)(T:TurnM X.prog X.w X.K target J fp it tn)(st:tn 0 s.heap)(f2:∀b∈fp,E5 X pins H b)(W:Nat->Nat->List V->Hp->Prop)(w0:∃m,W 0 m [] H)(turn:∀i m ys H,W i m ys H->H acc=some (.lst ys) /\
   ((J.stop i H/\Q (.ref acc) H)\/(J.go i H/\∀x H',J.yld i H x H'->∃vs,un x H' vs/\tc (vs.map some++σ) H' fun b H3 =>
    if b=true then te (vs.map some++σ) H3 fun v H4=>H4 acc=some (.lst ys)/\ys.length<sizeLine/\∃m',m'<m/\W (i+1) m' (ys++[v]) (upd H4 acc (.lst (ys++[v])))
    else ∃m',m'<m/\W (i+1) m' ys H3)))(fin:∀s' σ' H',Inv (cxD X own scope s.heap.objs.size cl fn s H fp pins) [] σ' H' s'->Q (.ref acc) H'->R (.ok .next) s')(hk:∀b o,s.heap.get? b=some o->h1.get? b=some o)(I0:Inv (cxD X own scope s.heap.objs.size cl fn s H fp pins) [] (List.replicate own.length none++σ) H { s with heap:=h1,toks:=t1 }):
  codeAny (model X.prog X.w) X.A (.compStart (.ListComp elt [⟨target,iter,ifs,0⟩] scope pos) 0 (.ref it) (.ref acc) (compEnvC scope cl s.heap.objs.size X.env)) R { s with heap:=h1,toks:=t1 }:=by
 have st1:tn 0 h1:=T.keep _ _ _ st fun b _ o e=>hk b o e;have stat:∀{H':Hp},(∀b∈fp,H' b=none)->∀b∈fp,E5 (cxD X own scope s.heap.objs.size cl fn s H fp pins) [] H' b:=fun hn b hb=>by
  obtain⟨_,f1,f3,_,f5,f6⟩:=f2 b hb;obtain⟨o,e,_⟩:=T.obj _ _ st b hb;refine⟨hn b hb,Nat.ne_of_lt (Heap.lt_size e),fun hz=>?_,.inl hb,(I0.ok.exf b hb).2,fun p hp=>f6 p (by simpa using hp)⟩;rcases List.mem_cons.mp (I.stkSub b hz) with z|z
  .exact f1 z
  .exact f3 z
 have loop:∀s4,s4={ s with heap:=h1,toks:=t1 }->codeAny (model X.prog X.w) X.A (.compLoop (.ListComp elt [⟨target,iter,ifs,0⟩] scope pos) 0 (.ref it) (.ref acc) (compEnvC scope cl s.heap.objs.size X.env)) R s4:=by
  rintro s4 rfl;obtain⟨m0,w0⟩:=w0;refine Jw (fun n s'=>∃i ys σ0 H',σ0.length=own.length/\Inv (cxD X own scope s.heap.objs.size cl fn s H fp pins) [] (σ0++σ) H' s'/\tn i s'.heap/\(∀b∈fp,H' b=none)/\W i n ys H') ?_ m0 ⟨0,[],_,H,by rw[List.length_replicate],I0,st1,fun b hb=>(f2 b hb).1,w0⟩;rintro n s3 ⟨i,ys,σ0,H3,hl3,I3,st3,fr3,w3⟩;obtain⟨ha,turn3⟩:=turn i n ys H3 w3;rcases turn3 with ⟨stop,qn⟩|⟨go,step⟩
  .refine thn (T.done (cxD X own scope s.heap.objs.size cl fn s H fp pins) rfl rfl rfl (Vd I hc) i [] s3 _ H3 _ I3 (stat fr3) st3 stop) fun r s4 yy=>?_
   obtain⟨hr,I4⟩:=yy;subst hr;exact fin s4 _ H3 I4 qn
  .refine thn (T.item (cxD X own scope s.heap.objs.size cl fn s H fp pins) rfl rfl rfl (Vd I hc) i [] s3 _ H3 _ I3 (stat fr3) st3 go) fun r s4 yy=>?_
   obtain⟨u,hr,h4⟩:=yy;subst hr;refine thn h4 fun _ s5 yy=>?_;obtain⟨x,H5,I5,r5,y5,st5,fr5⟩:=yy;obtain⟨vs,hu,q5⟩:=step x H5 y5;have I5':=I5.pinned (stat fr5) (T.obj _ _ st5);have again:∀{H7:Hp} {s7:Shared},vs.length=own.length->Inv (cxD X own scope s.heap.objs.size cl fn s H fp pins) ([]++IG fp s5.heap) (vs.map some++σ) H7 s7->∀{ys'},(∃m',m'<n/\W (i+1) m' ys' H7) ->
     ∃m,m<n/\∃i ys σ0 H',σ0.length=own.length/\Inv (cxD X own scope s.heap.objs.size cl fn s H fp pins) [] (σ0++σ) H' s7/\tn i s7.heap/\(∀b∈fp,H' b=none)/\W i m ys H':=fun {H7 s7} hl I7 {ys'} ⟨m',hm,w7⟩=>by
    refine⟨m',hm,i+1,ys',vs.map some,H7,by rw[List.length_map,hl],I7.unpinned,T.keep _ _ _ st5 fun b hb o e=>(I7.pin (b,o) (List.mem_append_right _ (List.mem_append_right _ (D8 hb e)))).1,fun b hb=>?_,w7⟩;obtain⟨o,e,d⟩:=T.obj _ _ st5 b hb;exact(I7.pin (b,o) (List.mem_append_right _ (List.mem_append_right _ (D8 hb e)))).2.1
   refine thn (hg _ s5 σ0 σ H5 x u vs hl3 I5' r5 hu) fun _ s6 yy=>?_;obtain⟨hl,I6⟩:=yy;refine thn (ht _ s6 _ H5 _ I6 q5) fun ok s7 yy=>?_;obtain⟨H7,I7,q7⟩:=yy;cases ok with
   | false =>
    rw[if_neg Bool.false_ne_true] at q7;rw[if_neg Bool.false_ne_true];exact again hl I7 q7
   | true =>
    rw[if_pos rfl] at q7;rw[if_pos rfl];refine thn (he _ s7 _ H7 _ I7 q7) fun v s8 yy=>?_;obtain⟨y,H8,I8,r8,ha8,hz8,q8⟩:=yy;refine thn (GO _ s8 _ H8 (.ref acc) [y] (.ref acc) [v] (fun _ H9=>∃m',m'<n/\W (i+1) m' (ys++[y]) H9) I8 rfl (.cons r8 .nil) ⟨acc,ys,y,rfl,rfl,ha8,hz8,q8⟩) fun _ s9 yy=>?_;obtain⟨_,H9,I9,_,q9⟩:=yy;exact again hl I9 q9
 exact codeAny_compStart_list (loop _ rfl) (T.self X.A 0 _ _ _ st1 (loop _ rfl))
def OK{own:List Str}{scope:Scope}{fp:List Addr}{it:Addr}{tn:Nat->Heap->Prop}{J:It}{target iter elt:Expr}{ifs:List Expr}{pos:Pos}{un:TU}{tc:TT}{te:TE}{acc:Addr}{Q:VK}{R:Result->Shared->Prop}{E:Value->Shared->Prop}(hc:Mkd X)(hok:B7 own X.N scope X.env.scope=true)(hg:∀C s H fp pins,PGo (cxC X own scope C s H fp pins) target own.length un)(ht:∀C s H fp pins,PTs (cxC X own scope C s H fp pins) ifs tc)(he:∀C s H fp pins,PE (cxC X own scope C s H fp pins) elt te)(I:Inv X pins σ H s)(T:TurnM X.prog X.w X.K target J fp it tn)(st:tn 0 s.heap)(f2:∀b∈fp,E5 X pins H b)(W:Nat->Nat->List V->Hp->Prop)(w0:∃m,W 0 m [] H)(turn:∀i m ys H,W i m ys H->H acc=some (.lst ys) /\
   ((J.stop i H/\Q (.ref acc) H)\/(J.go i H/\∀x H',J.yld i H x H'->∃vs,un x H' vs/\tc (vs.map some++σ) H' fun b H3 =>
    if b=true then te (vs.map some++σ) H3 fun v H4=>H4 acc=some (.lst ys)/\ys.length<sizeLine/\∃m',m'<m/\W (i+1) m' (ys++[v]) (upd H4 acc (.lst (ys++[v])))
    else ∃m',m'<m/\W (i+1) m' ys H3)))(fin:∀s' σ' H',Inv (cxC X own scope s.heap.objs.size s H fp pins) [] σ' H' s'->Q (.ref acc) H'->R (.ok .next) s'):
  wpAny (model X.prog X.w) X.A (newFunctionEnv scope X.env.globals (clo X.env.cells scope.names []) [] X.env.qual none .none (some X.env)) (fun cenv s₄ =>
   cenv.locals=s.heap.objs.size/\codeAny (model X.prog X.w) X.A (.compStart (.ListComp elt [⟨target,iter,ifs,0⟩] scope pos) 0 (.ref it) (.ref acc) { cenv with scope:=relabel scope X.env }) R s₄) E s:=by
 have hcell:∀x∈scope.names,x.2≠.cell:=fun x hx z=>by
  simp only[B7,Bool.and_eq_true,List.all_eq_true] at hok;have:=(hok.1.1.2 x hx).1.1;rw[z] at this;simp at this
 have hkind:scope.kind=.function:=by
  simp only[B7,Bool.and_eq_true] at hok;simpa using hok.1.2
 refine wpAny_newFunctionEnv hcell (fun x hx=>by simp at hx) (fun h1 hns hsb=>⟨rfl,?_⟩) hkind;have hk:∀b o,s.heap.get? b=some o->h1.get? b=some o:=fun b o e=>(hsb.2 b (Nat.ne_of_lt (Heap.lt_size e))).trans (Heap.get?_push_of_some _ e);have I0:Inv (cxC X own scope s.heap.objs.size s H fp pins) [] (List.replicate own.length none++σ) H { s with heap:=h1,toks:=s.toks+([]:List (Str×Value)).length }:=
  Lk hok I f2 (fun b hb=>let⟨o,e,_⟩:=T.obj _ _ st b hb; ⟨o,e⟩) (by simpa using hns) hk
 exact QH (iter:=iter) (pos:=pos) hc (hg _ _ _ _ _) (ht _ _ _ _ _) (he _ _ _ _ _) I T st f2 W w0 turn fin hk I0
end
structure ExcCls (K:Frag) (C:Addr):Prop where
 ga:PySem.W.findIn K (.ref C) "__getattribute__" = some (some (.builtin "BaseException.__getattribute__"))
 noga:PySem.W.findIn K (.ref C) "__getattr__" = some none
 cl:PySem.W.findIn K (.ref C) "__class__" = some (some (.builtin "object.__class__"))
 obj:PySem.W.mroIn K C (.type "object")=some true
 bex:PySem.W.mroIn K C (.type "BaseException")=some true
section
variable{prog:Program}{w:World}{A:Around}{E:Value->Shared->Prop}{h:Heap}{g:Array GenState}{d:Drawn}{t:Nat}{os:OsState}{a C:Addr}{o:Obj}{K:Frag}
def KG{R:Result->Shared->Prop}(X:K.In h)(Y:ExcCls K C)(hx:h.get? a=some o)(hc:o.cls=.ref C)(hq:R (.ok (.ret (.ref C))) ⟨h,g,d,t,os⟩):
  codeAny (model prog w) A (.call (.builtin "getset_descriptor.__get__") ⟨[.builtin "object.__class__",.ref a,.ref C],[]⟩) R ⟨h,g,d,t,os⟩:=by
 have hT5:(⟨h,g,d,t,os⟩:Shared).TypeIs (.builtin "object.__class__") "getset_descriptor" := F.typeOf_object_class;have L1:=PySem.W.looks_mroIn (M:=model prog w) X Y.obj;have L2:PySem.W.Looks (model prog w) h (isSubtype (.ref C) (.type (".".intercalate ("object.__class__".cutAt '.').dropLast))) true:=by rw[F.owner_object_class]; exact L1
 refine codeAny_call_builtin F.slot_gs_get.plain F.entry_gs_get (F.slot_gs_get.check _ _ _ _ _ _ _ _ hT5 (F.args_gs_get _ _ _) ?_);repeat (any_goals (first|assumption|(with_reducible refine wpAny_loadPart_at hx ?_; rw[hc])|(with_reducible refine L2.at ?_)|wp_step))
 refine⟨Code.quiet_builtin _ dK,codeAny_builtin F.entry_object_class ?_⟩;repeat (any_goals (first|assumption|(with_reducible refine wpAny_loadPart_at hx ?_; rw[hc])|wp_step))
def IY{tk:Tok}{Q:Fin->Shared->Prop}(X:K.In h)(Y:ExcCls K C)(hx:h.get? a=some o)(hc:o.cls=.ref C)(hq:Q (.done (.ret (.ref C))) ⟨h,g,d,t,os⟩):
  wpAny (model prog w) A (Builtin.«object.__getattribute__» ⟨[.ref a,.str "__class__" tk],[]⟩) Q E ⟨h,g,d,t,os⟩:=by
 have hT5:(⟨h,g,d,t,os⟩:Shared).TypeIs (.builtin "object.__class__") "getset_descriptor" := F.typeOf_object_class;have f5:=F.typeOf_object_class;have f6:=F.slot_gs_get.lookup;have f7:=F.slot_gs_set.lookup;have L1:=PySem.W.looks_findIn (M:=model prog w) X Y.cl;repeat (any_goals (first|assumption|(with_reducible refine wpAny_loadPart_at hx ?_; rw[hc])|(with_reducible refine L1.at ?_)|wp_step))
 refine KG X Y hx hc ?_;repeat (any_goals (first|assumption|wp_step))
def LR{M:Model}{nameV:Value}{Q:Unit->Shared->Prop}(X:K.In h)(Y:ExcCls K C)(hx:h.get? a=some o)(hc:o.cls=.ref C)(hq:Q () ⟨h,g,d,t,os⟩):wpAny M A (checkBuiltinCall "BaseException.__getattribute__" ⟨[.ref a,nameV],[]⟩) Q E ⟨h,g,d,t,os⟩:=by
 have hk:builtinKind "BaseException.__getattribute__" = some .slot:=by decide +kernel
 have hsplit:splitId "BaseException.__getattribute__" = some ("BaseException","__getattribute__"):=by decide +kernel
 have L1:=PySem.W.looks_mroIn (M:=M) X Y.bex;have ha:=F.args_bexc_ga (.ref a) nameV;simp only[checkBuiltinCall,hk,hsplit];refine wpAny_bind ?_
 .unfold isInstance
  repeat (first|(with_reducible refine wpAny_loadPart_at hx ?_; rw[hc])|(with_reducible refine L1.at ?_)|wp_step)
  exact hq
theorem JH{tk:Tok}{R:Result->Shared->Prop}(X:K.In h)(Y:ExcCls K C)(hx:h.get? a=some o)(hc:o.cls=.ref C)(hp:Slot "ValueError" "__getattribute__" "BaseException.__getattribute__")(hq:R (.ok (.ret (.ref C))) ⟨h,g,d,t,os⟩):
  codeAny (model prog w) A (.call (.builtin "BaseException.__getattribute__") ⟨[.ref a,.str "__class__" tk],[]⟩) R ⟨h,g,d,t,os⟩:=
 codeAny_call_builtin hp.plain F.entry_bexc_ga (LR X Y hx hc (IY X Y hx hc hq))
def LQ{tk:Tok}{fill:Bool}{Q:Value->Shared->Prop}(X:K.In h)(Y:ExcCls K C)(hx:h.get? a=some o)(hc:o.cls=.ref C)(hp:Slot "ValueError" "__getattribute__" "BaseException.__getattribute__")(hq:Q (.ref C) ⟨h,g,d,t,os⟩):
  wpAny (model prog w) A (getAttrBy (.ref a) (.str "__class__" tk) fill) Q E ⟨h,g,d,t,os⟩:=by
 have f3:=hp.bind (.ref a);have hx2:(Value.builtin "BaseException.__getattribute__" == Value.builtin "object.__getattribute__")=false:=by decide +kernel
 have hx1:(onTheHeap (Value.ref C)&&Value.builtin "BaseException.__getattribute__" == Value.builtin "object.__getattribute__")=false:=by rw[hx2]; rfl
 have L1:=PySem.W.looks_findIn (M:=model prog w) X Y.ga;have L2:=PySem.W.looks_findIn (M:=model prog w) X Y.noga;repeat (any_goals (first|assumption|(with_reducible refine wpAny_loadPart_at hx ?_; rw[hc])|(with_reducible refine L1.at ?_)|(with_reducible refine L2.at ?_)|wp_step))
 refine JH X Y hx hc hp ?_;repeat (any_goals (first|assumption|wp_step))
def JG{Q:Option Value->Shared->Prop}(X:K.In h)(Y:ExcCls K C)(hx:h.get? a=some o)(hc:o.cls=.ref C)(hp:Slot "ValueError" "__getattribute__" "BaseException.__getattribute__")(hq:Q (some (.ref C)) ⟨h,g,d,t+1,os⟩):
  wpAny (model prog w) A (getAttr? (.ref a) "__class__") Q E ⟨h,g,d,t,os⟩:=by
 unfold getAttr? getAttrBy?;repeat (any_goals (first|assumption|with_reducible apply LQ X Y hx hc hp|wp_step))
end
theorem RJ{K:Frag}{a C:Addr}{cd:ClassData}(Y:ExcCls K C)(hcD:PySem.W.clsIn K C=some cd):PySem.W.KitX K (.ref a) (.ref C) (fun h=>∃o,h.get? a=some o/\o.cls=.ref C) where
 ty:=fun M h _ p=>by
  obtain⟨o,h1,h2⟩:=p;exact h2 ▸ (PySem.W.Looks.ld h1).andThen .now
 it:=fun _ _ X _=>by
  unfold PySem.W.clsIn at hcD;split at hcD
  .rename_i c' d' cd' sl' ho
   intro A' Q' E' s' k q;unfold isType loadHead;exact wpAny_bind (wpAny_loadPart (k _ _ (X _ _ ho)) (wpAny_pure q))
  .cases hcD
 ne:=fun h tp dd its n sl X htp=>by
  refine Bool.eq_false_iff.mpr fun q=>?_;have e:C=tp:=Value.ref.inj (beq_iff_eq.mp q);subst e;unfold PySem.W.clsIn at hcD;split at hcD
  .rename_i c' d' cd' sl' ho
   have z:=(X _ _ ho).symm.trans htp;cases z
  .cases hcD
 ca:=fun {_ _ _ _ _ s} X p k=>by
  obtain⟨h,g,d,t,os⟩:=s;obtain⟨o,h1,h2⟩:=p;exact JG X Y h1 h2 F.attr_ValueError.ga k
def Yl(C:Addr)(c:V)(b:Bool):List V->Hp->VK->Prop:=fun xs H Q=>∃a o u,xs=[.ref a,c]/\H a=some (.frz o u)/\o.cls=.ref C/\Q (.bl b) H
def Q0{X:Cx}{C:Addr}{c:V}{cv:Value}{b:Bool}{cd:ClassData}(Y:ExcCls X.K C)(hcD:PySem.W.clsIn X.K C=some cd)(hk:PySem.W.kitOne X.K (.ref C) cv=some b)(hc:∀u,RelV c u->u=cv):
  CF X (.builtin "isinstance") (Yl C c b):=by
 intro pins s σ H xs us Q I r h;obtain⟨a,o,u,rfl,ho,hcl,q⟩:=h;obtain⟨v1,v2,rfl,r1,r2⟩:=r.two;cases (show v1=Value.ref a from r1);cases hc _ r2;have hok:=(show CT X.prog X.w H s.heap a (.frz o u) from I.hok a _ ho);exact PySem.W.kia_one (RJ Y hcD) I.kIn ⟨o,hok.1,hcl⟩ hk (fun z=>nomatch z) fun tk=>⟨.bl b,H,I.tok tk,rfl,q⟩
end L2
end
section
namespace J
open PySem PySem.Spec PyProof.Rows L2
section
variable{X:Cx}{a:Expr}{m:ME}{p pos q:Pos}{K:Frag}{H:Hp}{σ:L2.St}
def VX(C:Addr)(b:Bool):A->Option A
 | .opq _ o=>if (o.cls==.ref C)=true then some (.fz (.bl b)) else none
 | .fz _ | .lst _ | .tup _ | .scr _ | .dic _ | .dct _=>none
def BM(C:Addr)(b:Bool):List A->Option A:=on1 (VX C b)
def Wt{C:Addr}{b:Bool}:OpN K (BM C b) (r1L fun x H Q=>∃a o u,x=.ref a/\H a=some (.frz o u)/\o.cls=.ref C/\Q (.bl b) H):=by
 intro N H xs as b' Q hs e k
 replace e:=En e
 obtain⟨a,rfl,e⟩:=e;obtain⟨x,L1,rfl,h1⟩:=Dv hs;cases a with
 | opq a o =>
  simp only[VX] at e;split at e
  .rename_i hc
   cases e;rw[Ar] at h1;obtain⟨rfl,_,u,h⟩:=h1;exact⟨_,rfl,a,o,u,rfl,h,beq_iff_eq.mp hc,k _ _ Eo⟩
  .cases e
 | _=>cases e
def Xf{C:Addr}{c:V}{b:Bool}{Q:VK}(h:tE K (opM (BM C b) (m1L m)) σ H Q):tCB (Yl C c b) (C3 (tE K m) (C3 (tC c) Hw)) σ H Q:=by
 have h2:=one Wt h;exact tE.mono h2 fun x H1 ⟨a,o,u,e,r,hc,q⟩=>⟨a,o,u,by rw[e],r,hc,q⟩
theorem RA{y:Str}{C:Addr}{c:V}{cv:Value}{b:Bool}{cd:ClassData}(Y:ExcCls X.K C)(hcD:PySem.W.clsIn X.K C=some cd)(hk:PySem.W.kitOne X.K (.ref C) cv=some b)(hc:∀u,RelV c u->u=cv)(hn:PE X (.Name y q) (tC c))(hg:Gl X "isinstance")(B:Blt X.mg X.K)(he:starEach [a,.Name y q] X.env=[(false,eval a X.env),(false,eval (.Name y q) X.env)])(he2:starEach [.Name y q] X.env=[(false,eval (.Name y q) X.env)])(ha:JE X a m):
  JE X (.Call (.Name "isinstance" p) [a,.Name y q] [] pos) (opM (BM C b) (m1L m)):=
 AM (Kc (Q0 Y hcD hk hc) hg B.isinstance PyProof.Rows.Boot.«isinstance» (DP ha (DP hn FO he2) (he.trans (by rw[he2]))) dK dK (he.trans (by rw[he2])) (by rw[he2]; rfl)) fun _ _ _ h=>Xf h
end
section
variable{X:Cx}{a b c e:Expr}{m:ME}{mt:MT}{mi:MI}{p pos:Pos}{x:Str}
def JIM(X:Cx)(tg e:Expr)(m:MI):Prop:=PIM X tg e (tI X.K m)
theorem Sl{tg:Expr}{t t':TI}(h:PIM X tg e t)(w:∀σ H R,t' σ H R->t σ H R):PIM X tg e t':=fun pins s σ H R I q=>h pins s σ H R I (w σ H R q)
theorem RD{tg:Expr}(hg:Gl X "range")(hm:X.mg "range" = none)(hs:starEach [a] X.env=[(false,eval a X.env)])(h:JE X a m):JIM X tg (.Call (.Name "range" p) [a] [] pos) (CP m):=
 Sl (OG hg hm (DP h FO hs) hs) fun _ _ _ h=>PX h
end
end J
end
section
namespace L2
open PySem PySem.Spec PyProof.Rows
structure RoomM (k:Nat) (A:Around):Prop where
 dp:A.depth+3*k+5<recursionLimit
 un:A.units+16*k+200<cLine
theorem RoomM.mono{j k:Nat}{A:Around}(r:RoomM k A)(h:j<=k):RoomM j A:=⟨by have:=r.dp; lia,by have:=r.un; lia⟩
theorem RoomM.deeper{k:Nat}{A:Around}(r:RoomM (k+1) A)(env:Env):RoomM k (A.deeper env):=
 ⟨by have:=r.dp; show A.depth+1+3*k+5<_; lia,by have:=r.un; show A.units+3+16*k+200<_; lia⟩
def RoomM.depth{k:Nat}{A:Around}(r:RoomM k A):A.depth<recursionLimit:=by have:=r.dp; lia
def RoomM.units{k:Nat}{A:Around}(r:RoomM k A):A.units+64<cLine:=by have:=r.un; lia
theorem Room.marked{k:Nat}{A:Around}(r:Room k A)(e:Option Value):RoomM k (A.mark e):=⟨r.dp,r.un⟩
def U6(A:Around)(H:Hp):Prop:=∃(a:Addr) (o:Obj) (u:HO) (vs:Array Value),A.handled=some (.ref a)/\H a=some (.frz o u)/\o.data=.fields vs/\vs[2]? = some .none
def Mkd.of{X:Cx}{pins:List (Addr×Obj)}{σ:St}{H:Hp}{s:Shared}(m:Mkd X)(I:Inv X pins σ H s):U6 X.A H:=by
 obtain⟨a,o,u,vs,h,hp,r⟩:=m;exact⟨a,o,u,vs,h,I.base.frzs _ _ _ hp,r⟩
def cxM(CX:CXT)(P:Program)(w:World)(K:Frag)(mg:Str->Option Value)(base:Heap)(N:List Str)(qual:Str)(scope:Scope)(f:Addr)(cd:Value)(A:Around)(outer:List Env)(s:Shared)(H:Hp)(E:XK):Cx:=
 { Bd CX P w K mg base N qual scope f cd A outer s H E with calm:=false }
def Oj{CX:CXT}{P:Program}{w:World}{K:Frag}{mg:Str->Option Value}{base:Heap}{N ps:List Str}{qual:Str}{scope:Scope}{f:Addr}{cd:Value}{A:Around}{outer:List Env}{s s1:Shared}{H:Hp}{E:XK}{us:List Value}{vs:List V}(S:FnScope N ps scope)(e0:Env0 P w K mg base A outer s H)(hl:vs.length=ps.length)(r:Vals vs us)(x:InCallC s s.heap.objs.size (bindL (envOfC qual scope s.heap.objs.size f cd).kindOf (ps.zip us) fun _=>none) (cellsFrom (s.heap.objs.size+1) scope.names []) (bindC (envOfC qual scope s.heap.objs.size f cd).kindOf (ps.zip us) fun _=>none) s1):
  Inv (cxM CX P w K mg base N qual scope f cd A outer s H E) [] (start N vs) H s1:=by
 have I:=Im (CX:=CX) (E:=E) (A:={ A with handled:=none }) (P:=P) (w:=w) (K:=K) (mg:=mg) (base:=base) (outer:=outer) (qual:=qual) (f:=f) (cd:=cd) S rfl ⟨e0.frames,e0.mod,e0.bs,e0.bsz,e0.funs,e0.frf,e0.hok,e0.bare,e0.tb⟩ hl r x;exact⟨⟨I.ok.mod,I.ok.kind,I.ok.glob,I.ok.blt,I.ok.above,I.ok.inj,I.ok.has,I.ok.cab,fun z=>absurd z Bool.false_ne_true,Around.frames_deeper e0.frames,I.ok.stk,I.ok.exf,I.ok.bs,I.ok.bsz,I.ok.noex,I.ok.exfs,I.ok.funs,I.ok.frf,I.ok.tb⟩,
  I.os,I.bare,I.base,I.loc,I.cell,I.free,I.freeC,I.pin,I.hok,I.len⟩
structure FnOkM (P:Program) (w:World) (K:Frag) (mg:Str->Option Value) (base:Heap) (CX:CXT) (k:Nat) (f:Addr) (fd:FuncData) (ps:List Str) (sp:Sp):Prop where
 len:∀vs H Q E,sp vs H Q E->vs.length=ps.length
 run:∀(A:Around) (outer:List Env) (s:Shared) (H:Hp) (args:Args) (us:List Value) (vs:List V) (Q:VK) (E:XK),RoomM k A->U6 A H->Env0 P w K mg base A outer s H->BindsTo s fd args (ps.zip us)->Vals vs us->sp vs H Q E ->
  codeAny (model P w) A (.call (.ref f) args) (CR CX outer P w H s Q E) s
def VQ{CX:CXT}{P:Program}{w:World}{K:Frag}{mg:Str->Option Value}{base:Heap}{k:Nat}{f:Addr}{name qual:Str}{params:Arguments}{body:List Stmt}{scope:Scope}{dV kV doc pm cdv ct oc:Value}{an od:Option Addr}{osl:Array (Option Value)}{N ps:List Str}{sp:Sp}(lk:K.lookup f=some ⟨oc,od,.func (PySem.W.fnOf name qual params body scope dV kV doc pm an cdv ct),osl⟩)(hcd:PySem.W.codeIn K cdv qual=true)(S:FnScope N ps scope)(len:∀vs H Q E,sp vs H Q E->vs.length=ps.length)(hbody:∀(A:Around) (outer:List Env) (s:Shared) (H:Hp) (vs:List V) (Q:VK) (E:XK),RoomM k (A.deeper (envOfC qual scope s.heap.objs.size f cdv))->Mkd (cxM CX P w K mg base N qual scope f cdv A outer s H E)->sp vs H Q E ->
   ∃t,PSs (cxM CX P w K mg base N qual scope f cdv A outer s H E) body t/\t { nx:=fun _ H'=>Q .non H',rt:=Q } (start N vs) H):
  FnOkM P w K mg base CX (k+1) f (PySem.W.fnOf name qual params body scope dV kV doc pm an cdv ct) ps sp:=by
 refine⟨len,fun A outer s H args us vs Q E hr hmk e0 hb r hsp=>?_⟩;have hl:=len _ _ _ _ hsp;have KX:K.In s.heap:=e0.mod.kin.keeps fun b o e=>(e0.bs b o e).1;have lim:s.heap.NoLimit:=e0.mod.nolimit.keeps fun b o e=>(e0.bs b o e).1;have hkind:∀y∈ps.zip us,scope.names.lookup y.1=some .local\/(scope.names.lookup y.1=some .cell/\((cellsFrom (s.heap.objs.size+1) scope.names []).lookup y.1).isSome=true):=fun⟨n,v⟩ hy=>by
  rcases S.par n (List.of_mem_zip hy).1 with q|q
  .exact .inl q
  .exact .inr ⟨q,PySem.W.cellsFrom_some _ _ _ (.inl q)⟩
 refine codeAny_call_function hr.depth (KX _ _ lk) rfl S.co S.gen rfl (PySem.W.codeRec_of KX hcd) (hb _ _ _ _ ?_);refine wpAny_newFunctionEnv_cells S.kind hkind fun env he s1 x=>?_;subst he;refine⟨lim.keeps x.toInCall.keep,codeAny_func ?_⟩;obtain⟨t,ht,hq⟩:=hbody A outer s H vs Q E (hr.deeper _) hmk hsp;have I:Inv (cxM CX P w K mg base N qual scope f cdv A outer s H E) [] (start N vs) H s1:=Oj S e0 hl r x;refine wpAny_mono (ht [] s1 (start N vs) H _ I hq) (fun fl s' hs=>?_) fun e s' hs=>hs;have fin:∀{σ':St} {H':Hp} {v:V} {u:Value},Inv (cxM CX P w K mg base N qual scope f cdv A outer s H E) [] σ' H' s'->RelV v u->Q v H'->CE outer P w H s Q u s':=
  fun {σ' H' v u} J rv q=>⟨v,H',J.os,J.bare,J.base,J.hok,rv,q⟩
 cases fl with
 | ret u =>
  obtain⟨v,σ',H',J,rv,q⟩:=hs;exact fin J rv q
 | next =>
  obtain⟨σ',H',J,q⟩:=hs;exact fin (v:=V.non) (u:=Value.none) J rfl q
 | brk =>
  obtain⟨_,_,_,q⟩:=hs;exact False.elim q
 | cont =>
  obtain⟨_,_,_,q⟩:=hs;exact False.elim q
section
variable{X:Cx}{CX:CXT}{k:Nat}{f C:Addr}{fd:FuncData}{ps:List Str}{sp:Sp}{dvs:List V}{ds:List Value}{E:XK}{x m:Str}{p pos apos:Pos}{e o:Expr}{es:List Expr}{ta:TE}{t:TA}
def UN{pins:List (Addr×Obj)}{σ:St}{H:Hp}{s:Shared}{Q:VK}{us:List Value}{vs:List V}(F:FnOkM X.prog X.w X.K X.mg X.base CX k f fd ps sp)(hr:RoomM k X.A)(hmk:Mkd X)(hb:Binds X.K fd ps ds)(hd:Vals dvs ds)(hx:Passes CX X E)(I:Inv X pins σ H s)(r:Vals vs us)(h:sp (vs++dvs) H Q E):wpAny (model X.prog X.w) X.A (call (.ref f) us) (EP X pins σ Q) X.xe s:=by
 have r2:Vals (vs++dvs) (us++ds):=r.append hd;have hl:(us++ds).length=ps.length:=by rw[<- r2.length]; exact F.len _ _ _ _ h
 refine wpAny_call (codeAny_mono (F.run X.A X.stack s H ⟨us,[]⟩ (us++ds) (vs++dvs) Q E hr (hmk.of I) I.env0 (hb s us I.kIn hl) r2 h) fun r s' hq=>?_);cases r with
 | error e=>exact hx pins σ H s e s' I hq
 | ok fl =>
  cases fl with
  | ret u=>exact I.after hq
  | next=>exact False.elim hq
  | brk=>exact False.elim hq
  | cont=>exact False.elim hq
def Sb(F:FnOkM X.prog X.w X.K X.mg X.base CX k f fd ps sp)(hr:RoomM k X.A)(hmk:Mkd X)(hg:Gl X x)(hm:X.mg x=some (.ref f))(hk:PySem.W.keepIn X.K (.ref f)=true)(hb:Binds X.K fd ps ds)(hd:Vals dvs ds)(hx:Passes CX X E)(ha:PA X (e::es) t)(hdb:(x==("__debug__" : Str))=false:=by decide)(he:starEach (e::es) X.env=(false,eval e X.env)::starEach es X.env:=by rfl)(hpl:(backTo pos (starEach es X.env)).any (·.1)=false:=by rfl):
  PE X (.Call (.Name x p) (e::es) [] pos) (Lr sp dvs E t):=by
 intro pins s σ H Q I h;refine wpAny_Call_Name_kw (GN I hg hm ?_ hdb);refine PySem.W.callWith_K (h₀:=X.base) I.ok.mod.kin hk (thn (ha pos pins s σ H _ I h) fun us s1 ⟨vs,H1,I1,r,q⟩=>⟨I1.kIn,?_⟩) he hpl;exact UN F hr hmk hb hd hx I1 r q
end
structure DefM (P:Program) (w:World) (K:Frag) (mg:Str->Option Value) (base:Heap) (CX:CXT) (k:Nat) (x:Str) (ps:List Str) (sp:Sp):Prop where
 ex:∃(f:Addr) (fd:FuncData),mg x=some (.ref f)/\PySem.W.keepIn K (.ref f)=true/\Binds K fd ps []/\FnOkM P w K mg base CX k f fd ps sp
end L2
namespace J
open PySem PySem.Spec PyProof.Rows L2
section
variable{P:Program}{w:World}{K:Frag}{mg:Str->Option Value}{base:Heap}
def VS{x:Str}{st:Stmt}{f:Addr}{fd:FuncData}{N ps:List Str}{k:Nat}{m:MS}(F:Fun K x x st f fd)(S:FnScope N ps (As st))(hb:∀(cdv:Value) (A:Around) (outer:List Env) (s:Shared) (H:Hp) (E:XK),RoomM k (A.deeper (envOfC x (As st) s.heap.objs.size f cdv))->Mkd (cxM CX0 P w K mg base N x (As st) f cdv A outer s H E) ->
   JSs (cxM CX0 P w K mg base N x (As st) f cdv A outer s H E).nox (Cn st) m):
  FnOkM P w K mg base CX0 (k+1) f fd ps (spJ K (fnM ps.length N.length m) ps.length):=by
 obtain⟨oc,od,kV,doc,pm,an,cdv,ct,osl,rfl,lk,hcd⟩:=F.ex;refine VQ lk hcd S (fun vs H Q E h=>?_) fun A outer s H vs Q E hr hm h=>?_
 .obtain⟨_,_,_,h,_⟩:=h
  exact h
 .have hl:vs.length=ps.length:=by
   obtain⟨_,_,_,h,_⟩:=h;exact h
  have:=LH h;refine⟨_,PSs.nox (hb cdv A outer s H E hr hm),?_⟩;unfold L2.start;rw[hl];exact this
end
section
variable{X:Cx}{e:Expr}{es:List Expr}{ms:MA}{p pos:Pos}{x:Str}
def Rx{P:Program}{w:World}{K:Frag}{mg:Str->Option Value}{base:Heap}{CX:CXT}{k j:Nat}{ps:List Str}{Φ:Fn}{np:Nat}{E:XK}(D:DefM P w K mg base CX k x ps (spJ K Φ np))(hnp:∀args y,Φ args=some y->args.length=np)(hP:X.prog=P)(hw:X.w=w)(hK:X.K=K)(hm:X.mg=mg)(hb:X.base=base)(hr:RoomM j X.A)(hkj:k<=j)(hmk:Mkd X)(hx:Passes CX X E)(hdb:(x==("__debug__" : Str))=false)(hg:Gl X x)(he:starEach (e::es) X.env=(false,eval e X.env)::starEach es X.env)(hpl:(backTo pos (starEach es X.env)).any (·.1)=false)(ha:JA X (e::es) ms):JE X (.Call (.Name x p) (e::es) [] pos) (Ao Φ ms):=by
 subst hP hw hK hm hb;obtain⟨f,fd,a,b,c,d⟩:=D.ex;exact AM (Sb d (hr.mono hkj) hmk hg a b c .nil hx ha hdb he hpl) fun _ _ _ h=>PU hnp h
end
end J
end
section
namespace L2
open PySem PySem.Spec PyProof.Rows PySem.W
section
variable{P:Program}{w:World}{K:Frag}{mg:Str->Option Value}{base:Heap}
def Of{A:Around}{env:Env}{outer:List Env}{H:Hp}{s s1 s2:Shared}{E:XK}{L:Addr}{e:Value}(hfr:A.frames=some (env::outer))(hf:env.frame=some L)(hL:s.heap.objs.size<=L)(hfun:s.heap.FunFrames base outer)(hos:s1.os=s.os)(hk:∀b o,s.heap.get? b=some o->s1.heap.get? b=some o)(fl:Fly P w (env::outer) H s1 E e s2):
  wpAny (model P w) A (leaving env e) (fun _ s3=>Fly P w outer H s E e s3) (fun e' s3=>Fly P w outer H s E e' s3) s2:=by
 obtain⟨a,C,a0,B,H',rfl,F,q⟩:=fl;have lt:∀{b:Addr} {o:Obj},s.heap.get? b=some o->b≠L:=fun e=>Nat.ne_of_lt (Nat.lt_of_lt_of_le (Heap.lt_size e) hL);have hfs:frs (env::outer)=L::frs outer:=HD hf;refine HM hfr hf F.fly F.pl fun h' fl' sm pl=>?_;refine⟨a,C,a0,B,H',rfl,⟨F.os.trans hos,F.bare,fl',fun b o e n hb=>?_,fun b o e n hb=>?_,fun b o e n=>F.free b o (hk b o e) n,fun b o e hb=>?_,F.tups,F.frzs,F.tbls,F.hok,pl⟩,q⟩
 .refine F.keep b o (hk b o e) n ?_
  rw[hfs];exact fun z=>(List.mem_cons.mp z).elim (lt e) hb
 .obtain⟨sl',e2⟩:=F.slot b _ (hk b o e) n (by rw[hfs]; exact List.mem_cons_of_mem _ hb)
  obtain⟨sl3,e3⟩:=sm b { o with slots:=sl' } e2 (show ∀vs,o.data≠.fields vs from D7 hfun hb e);exact⟨sl3,e3⟩
 .refine F.there b o (hk b o e) ?_
  rw[hfs];exact fun z=>(List.mem_cons.mp z).elim (lt e) hb
def Cs(env:Env)(h:Heap):List Expr->List V->Prop
 | [],[]=>True
 | .Name x _::es,v::vs=>(env.kindOf x=some .free/\(x==("__debug__" : Str))=false/\(x==("__classdict__" : Str))=false/\∃c u,env.cells.lookup x=some c/\h.IsCell c (some u)/\RelV v u)/\Cs env h es vs
 | .Constant (.str z) _ _::es,v::vs=>v=.str z/\Cs env h es vs
 | .BinOp (.Name x _) .Add (.Constant (.str z) _ _) _::es,v::vs=>(∃(y:Str),v=.str (y++z)/\y.length+z.length<=sizeLine/\env.kindOf x=some .free/\(x==("__debug__" : Str))=false/\(x==("__classdict__" : Str))=false/\∃c t,env.cells.lookup x=some c/\h.IsCell c (some (.str y t)))/\Cs env h es vs
 | _,_=>False
def Cs.ind{env:Env}{h:Heap}{M:List Expr->List V->Prop}(nil:M [] [])(nm:∀x p es v vs,(env.kindOf x=some .free/\(x==("__debug__" : Str))=false/\(x==("__classdict__" : Str))=false/\∃c u,env.cells.lookup x=some c/\h.IsCell c (some u)/\RelV v u)->Cs env h es vs->M es vs->M (.Name x p::es) (v::vs))(tx:∀z k p es vs,Cs env h es vs->M es vs->M (.Constant (.str z) k p::es) (.str z::vs))(nt:∀x p z k p2 p3 es v vs,(∃(y:Str),v=.str (y++z)/\y.length+z.length<=sizeLine/\env.kindOf x=some .free/\(x==("__debug__" : Str))=false/\(x==("__classdict__" : Str))=false/\∃c t,env.cells.lookup x=some c/\h.IsCell c (some (.str y t)))->Cs env h es vs->M es vs->M (.BinOp (.Name x p) .Add (.Constant (.str z) k p2) p3::es) (v::vs)):∀{es vs},Cs env h es vs->M es vs:=by
 intro es;induction es with
 | nil=>intro vs x; cases vs with
  | nil=>exact nil
  | cons v vs=>exact x.elim
 | cons e es ih =>
  intro vs x;cases vs with
  | nil =>
   unfold Cs at x;split at x;all_goals first|exact x.elim|contradiction
  | cons v vs =>
   cases e with
   | Name y p=>exact nm y p es v vs x.1 x.2 (ih x.2)
   | Constant c k p =>
    cases c with
    | str z=>obtain⟨rfl,x⟩:=x; exact tx z k p es vs x (ih x)
    | _=>exact x.elim
   | BinOp a op b p =>
    cases a with
    | Name y p1 =>
     cases op with
     | Add =>
      cases b with
      | Constant c k p2 =>
       cases c with
       | str z=>exact nt y p1 z k p2 p es v vs x.1 x.2 (ih x.2)
       | _=>exact x.elim
      | _=>exact x.elim
     | _=>exact x.elim
    | _=>exact x.elim
   | _=>exact x.elim
def Cs.plain{env env':Env}{h:Heap}{es:List Expr}{vs:List V}{pos:Pos}(x:Cs env h es vs):(backTo pos (starEach es env')).any (·.1)=false:=by
 refine Cs.ind (M:=fun es vs=>(backTo pos (starEach es env')).any (·.1)=false) ?_ ?_ ?_ ?_ x
 .rfl
 .intro x p es v vs _ _ ih
  show(false || (backTo pos (starEach es env')).any (·.1))=false;rw[ih]; rfl
 .intro z k p es vs _ ih
  show(false || (backTo pos (starEach es env')).any (·.1))=false;rw[ih]; rfl
 .intro x p z k p2 p3 es v vs _ _ ih
  show(false || (backTo pos (starEach es env')).any (·.1))=false;rw[ih]; rfl
def Cs.run{P0:Program}{w0:World}{A:Around}{E:Value->Shared->Prop}{env:Env}{h:Heap}{es:List Expr}{vs:List V}{pos:Pos}(hk:env.scope.kind=.function)(x:Cs env h es vs):
  ∀{s:Shared},s.heap=h->wpAny (model P0 w0) A (spliced (backTo pos (starEach es env))) (fun us s'=>Vals vs us/\∃tk,s'={ s with toks:=tk }) E s:=by
 refine Cs.ind (M:=fun es vs=>∀{s:Shared},s.heap=h->wpAny (model P0 w0) A (spliced (backTo pos (starEach es env))) (fun us s'=>Vals vs us/\∃tk,s'={ s with toks:=tk }) E s) ?_ ?_ ?_ ?_ x
 .intro s hs
  exact Calls.spliced_nil ⟨.nil,s.toks,rfl⟩
 .intro y p es v vs ⟨k1,k2,k3,c,u,k4,k5,k6⟩ _ ih s hs
  show wpAny (model P0 w0) A (spliced ((false,eval (.Name y p) env)::backTo pos (starEach es env))) _ _ s;refine Calls.spliced_cons (wpAny_Name (wpAny_loadName_free hk k1 k4 (by rw[hs]; exact k5) ?_ k3) k2);exact thn (ih hs) fun us s' ⟨q1,q2⟩=>⟨.cons k6 q1,q2⟩
 .intro z k p es vs _ ih s hs
  show wpAny (model P0 w0) A (spliced ((false,eval (.Constant (.str z) k p) env)::backTo pos (starEach es env))) _ _ s;refine Calls.spliced_cons (wpAny_Constant_str ?_);exact thn (ih (s:={ s with toks:=s.toks+1 }) hs) fun us s' ⟨q1,tk,q2⟩=>⟨.cons ⟨_,rfl⟩ q1,tk,q2⟩
 .intro y p z k p2 p3 es v vs ⟨yy,e0,hz,k1,k2,k3,c,t,k4,k5⟩ _ ih s hs
  subst e0;show wpAny (model P0 w0) A (spliced ((false,eval (.BinOp (.Name y p) .Add (.Constant (.str z) k p2) p3) env)::backTo pos (starEach es env))) _ _ s;refine Calls.spliced_cons (wpAny_BinOp (wpAny_Name (wpAny_loadName_free hk k1 k4 (by rw[hs]; exact k5) (wpAny_Constant_str (add_str (fun t' tk=>?_) hz)) k3) k2));exact thn (ih (s:={ s with toks:=tk }) hs) fun us s' ⟨q1,tk,q2⟩=>⟨.cons ⟨_,rfl⟩ q1,tk,q2⟩
def Cs.keeps{env:Env}{h h':Heap}{es:List Expr}{vs:List V}(k:∀b o,h.get? b=some o->h'.get? b=some o)(x:Cs env h es vs):Cs env h' es vs:=by
 refine Cs.ind (M:=fun es vs=>Cs env h' es vs) ?_ ?_ ?_ ?_ x
 .trivial
 .intro y p es v vs ⟨k1,k2,k3,c,u,k4,⟨oc,k5,k5'⟩,k6⟩ _ ih
  exact⟨⟨k1,k2,k3,c,u,k4,⟨oc,k _ _ k5,k5'⟩,k6⟩,ih⟩
 .intro z k p es vs _ ih
  exact⟨rfl,ih⟩
 .intro y p z k p2 p3 es v vs ⟨yy,e0,hz,k1,k2,k3,c,t,k4,⟨oc,k5,k5'⟩⟩ _ ih
  exact⟨⟨yy,e0,hz,k1,k2,k3,c,t,k4,⟨oc,‹∀b o,h.get? b=some o->h'.get? b=some o› _ _ k5,k5'⟩⟩,ih⟩
structure Clo (P:Program) (w:World) (K:Frag) (mg:Str->Option Value) (base:Heap) (k:Nat) (E:XK) (f:Addr) (s:Shared) (H:Hp):Prop where
 fn:FnAt f s.heap
 run:∀(A:Around) (outer:List Env) (s1:Shared),Room k A->Env0 P w K mg base A outer s1 H->(∀b o,s.heap.get? b=some o->s1.heap.get? b=some o)->codeAny (model P w) A (.call (.ref f) ⟨[],[]⟩) (CR (Fly P w) outer P w H s1 (fun _ _=>False) E) s1
theorem Clo.keeps{k:Nat}{E:XK}{f:Addr}{s s':Shared}{H:Hp}(x:Clo P w K mg base k E f s H)(kp:∀b o,s.heap.get? b=some o->s'.heap.get? b=some o):Clo P w K mg base k E f s' H:=
 ⟨let⟨a,b,c,d,e⟩:=x.fn; ⟨a,b,c,d,kp _ _ e⟩,fun A outer s1 hr e0 q=>x.run A outer s1 hr e0 fun b o e=>q b o (kp b o e)⟩
def T5{k:Nat}{g:Str}{ps:List Str}{sp:Sp}{f c':Addr}{params:Arguments}{e:Expr}{es:List Expr}{cl:List (Str×Addr)}{pm ctv:Value}{gp cp:Pos}{scope:Scope}{s:Shared}{H:Hp}{vs:List V}{E:XK}(Dg:Def P w K mg base (Fly P w) k g ps sp)(ho:s.heap.get? f=some (X5 params (.Call (.Name g gp) (e::es) [] cp) scope cl pm c' ctv))(hcd:s.heap.CodeRec (.ref c') BW)(hbind:bindArgs (kla_fn "<lambda>" BW params (.Call (.Name g gp) (e::es) [] cp) scope cl pm (.ref c') ctv) ⟨[],[]⟩=pure [])(hk:scope.kind=.function)(hco:scope.isCoroutine=false)(hgen:scope.isGenerator=false)(hnc:∀n∈scope.names,n.2≠.cell)(hg:scope.names.lookup g=some .globalImplicit)(hdb:(g==("__debug__" : Str))=false)(hst:∀env,starEach (e::es) env=(false,eval e env)::starEach es env)(hargs:∀L,Cs (newEnv scope L mainGlobals cl (BW ++ ".<locals>.") (some f) (.ref c') none builtinsNs) s.heap (e::es) vs)(hsp:sp vs H (fun _ _=>False) E):Clo P w K mg base (k+1) E f s H:=by
 refine⟨⟨_,_,_,_,ho⟩,fun A outer s1 hr e0 kp=>?_⟩;have KX:K.In s1.heap:=e0.mod.kin.keeps fun b o e=>(e0.bs b o e).1;have lim:s1.heap.NoLimit:=e0.mod.nolimit.keeps fun b o e=>(e0.bs b o e).1;obtain⟨gf,gfd,gm,gk,gb,F⟩:=Dg.ex;obtain⟨d1,d2,d3,d4,d5,d6,d7⟩:=hcd;refine kla_callFunE hr.depth (kp _ _ ho) rfl hco hgen rfl ⟨d1,d2,d3,d4,d5,kp _ _ d6,d7⟩ ?_;rw[hbind];refine wpAny_pure (wpAny_newFunctionEnv hnc (fun b hb=>by simp at hb) (fun h1 hns hsb=>⟨?_,?_⟩) hk)
 .exact lim.fresh _ hsb
 have k1:∀b o,s1.heap.get? b=some o->h1.get? b=some o:=fun b o e=>hsb.extBut b o (Nat.ne_of_lt (Heap.lt_size e)) (Heap.get?_push_of_some _ e);have lt1:s1.heap.objs.size<h1.objs.size:=hns.lt;refine kla_codeExpr ?_;refine wpAny_Call_Name_kw (Calls.Name_function_global hk hg (Calls.loadGlobal_global (mg:=mg) ((e0.mod.glob.keeps fun b o e=>(e0.bs b o e).1).keeps k1) gm ?_) hdb);have la:=(hargs s1.heap.objs.size).keeps (h':=h1) fun b o e=>k1 b o (kp b o e);refine PySem.W.callWith_K (h₀:=h1) (KX.keeps k1) gk (wpAny_mono (Cs.run (pos:=cp) hk la (s:={ s1 with heap:=h1,toks:=s1.toks+0 }) rfl) (fun us s2 hq=>?_) fun _ _ z=>z) (hst _) ?_
 .obtain⟨rv,tk,rfl⟩:=hq
  refine⟨KX.keeps k1,?_⟩;have hl:us.length=ps.length:=by rw[<- rv.length]; exact F.len _ _ _ _ hsp
  have e1:Env0 P w K mg base (A.deeper (newEnv scope s1.heap.objs.size mainGlobals cl (BW ++ ".<locals>.") (some f) (.ref c') none builtinsNs)) (newEnv scope s1.heap.objs.size mainGlobals cl (BW ++ ".<locals>.") (some f) (.ref c') none builtinsNs::outer) { s1 with heap:=h1,toks:=tk } H:=by
   refine⟨Around.frames_deeper e0.frames,e0.mod,fun b o e=>⟨k1 _ _ (e0.bs b o e).1,(e0.bs b o e).2⟩,Nat.le_trans e0.bsz (Nat.le_of_lt lt1),?_,fun b hb=>?_,e0.hok.kept k1,e0.bare,e0.tb⟩
   .refine Heap.FunFrames.cons (by show scope.kind≠_; rw[hk]; decide) rfl hns ?_ (e0.funs.of_keeps fun b o e _=>⟨o,k1 _ _ e,rfl⟩)
    cases q:base.get? s1.heap.objs.size with
    | none=>rfl
    | some o=>exact absurd (Heap.lt_size (e0.bs _ _ q).1) (Nat.lt_irrefl _)
   .rw[HD (L:=s1.heap.objs.size) rfl] at hb
    rcases List.mem_cons.mp hb with rfl|hb
    .exact e0.hok.fresh (Nat.le_refl _)
    .exact e0.frf b hb
  have hb2:=gb { s1 with heap:=h1,toks:=tk } us (KX.keeps k1) (by rw[List.append_nil]; exact hl);rw[List.append_nil] at hb2;refine wpAny_call (codeAny_mono (F.run _ _ _ H ⟨us,[]⟩ us vs (fun _ _=>False) E (hr.deeper _) e1 hb2 rv hsp) fun r s' hq=>?_);cases r with
  | error ex=>exact Of (base:=base) (L:=s1.heap.objs.size) (s:=s1) (s1:={ s1 with heap:=h1,toks:=tk }) (Around.frames_deeper e0.frames) rfl (Nat.le_refl _) e0.funs rfl k1 hq
  | ok fl =>
   cases fl with
   | ret u=>obtain⟨_,_,_,_,_,_,_,z⟩:=hq; exact z.elim
   | next=>exact False.elim hq
   | brk=>exact False.elim hq
   | cont=>exact False.elim hq
 .have:=Cs.plain (env':=newEnv scope s1.heap.objs.size mainGlobals cl (BW ++ ".<locals>.") (some f) (.ref c') none builtinsNs) (pos:=cp) la
  rw[hst] at this;have this:(false || (backTo cp (starEach es (newEnv scope s1.heap.objs.size mainGlobals cl (BW ++ ".<locals>.") (some f) (.ref c') none builtinsNs))).any (·.1))=false:=this;rw[Bool.false_or] at this;exact this
end
def CT.obj{P:Program}{w:World}{H:Hp}{h:Heap}{a:Addr}{o:HO}(x:CT P w H h a o):∃u,h.get? a=some u:=by
 cases o with
 | lst xs=>obtain⟨_,_,_,_,e⟩:=x; exact⟨_,e⟩
 | tup xs=>obtain⟨_,_,_,o,e,_⟩:=x; exact⟨_,e⟩
 | dK kvs=>obtain⟨_,_,_,_,o,_,_,e,_⟩:=x; exact⟨_,e⟩
 | dT kvs=>obtain⟨_,_,_,_,o,_,_,e,_⟩:=x; exact⟨_,e⟩
 | set S n=>obtain⟨o,_,_,_,e,_⟩:=x; exact⟨_,e⟩
 | ins C dx fs=>obtain⟨_,_,_,e,_⟩:=x; exact⟨_,e⟩
 | own y=>obtain⟨_,e⟩:=x; exact⟨_,e⟩
 | xd fs=>obtain⟨_,⟨_,_,_,e,_⟩,_⟩:=x; exact⟨_,e⟩
 | rng lo hi=>obtain⟨_,_,_,e⟩:=x; exact⟨_,e⟩
 | frz ob u=>obtain⟨e,_⟩:=x; exact⟨_,e⟩
 | tbl ps=>obtain⟨_,e,_⟩:=x; exact⟨_,e⟩
 | met f y=>exact⟨_,(show h.get? a=some _ from x)⟩
 | ext φ=>obtain⟨_,⟨_,e⟩,_⟩:=x; exact⟨_,e⟩
def HOk.none{P:Program}{w:World}{H:Hp}{h:Heap}{a:Addr}(x:HOk P w H h)(e:h.get? a=Option.none):H a=Option.none:=by
 cases q:H a with
 | none=>rfl
 | some u =>
  obtain⟨o,z⟩:=(x a u q).obj;rw[e] at z; cases z
theorem FlyAt.untracked{P:Program}{w:World}{outer:List Env}{H H':Hp}{s s':Shared}{a C:Addr}{a0:Value}{B:Heap}(F:FlyAt P w outer H s a C a0 B H' s'):H' a=Option.none:=F.hok.none F.fly.2.1
abbrev Cx.mk2(X:Cx)(a:Addr)(o:Obj):Cx:={ X with A:=X.A.mark (some (.ref a)),calm:=false,H₀:=upd X.H₀ a (.frz o (.own a)),xe:=fun _ _=>False }
section
variable{X:Cx}{pins:List (Addr×Obj)}{σ:St}{H:Hp}{s:Shared}{a:Addr}{o:Obj}
def Inv.mk2(I:Inv X pins σ H s)(ha:H a=some (.frz o (.own a)))(hs:X.s₀.heap.get? a=none)(hn:X.H₀ a=none):Inv (X.mk2 a o) pins σ H s:=by
 have k:=I.ok;have ne:∀b u,X.s₀.heap.get? b=some u->b≠a:=fun b u e z=>by rw[z,hs] at e; cases e
 have nh:∀b u,X.H₀ b=some u->b≠a:=fun b u e z=>by rw[z,hn] at e; cases e
 refine⟨⟨k.mod,k.kind,k.glob,k.blt,k.above,k.inj,k.has,k.cab,fun z=>absurd z Bool.false_ne_true,k.frames,k.stk,k.exf,fun b ob e=>⟨(k.bs b ob e).1,?_⟩,k.bsz,k.noex,k.exfs,k.funs,fun b hb=>?_,fun n q hm c p e=>?_⟩,
  I.os,I.bare,⟨fun b ob e n=>I.base.keep b ob e ?_,fun b ob e n=>I.base.slot b ob e ?_,fun b ob e n=>I.base.free b ob e ?_,I.base.there,fun b xs e=>?_,fun b ob u e=>?_,fun b qs e=>?_⟩,I.loc,I.cell,I.free,I.freeC,I.pin,I.hok,I.len⟩
 .show upd X.H₀ a _ b=none
  rw[AB (ne b ob (k.bs b ob e).1)]; exact(k.bs b ob e).2
 .obtain⟨_,ob,e,_⟩:=k.funs.mem hb
  show upd X.H₀ a _ b=none;rw[AB (ne b ob e)]; exact k.frf b hb
 .obtain⟨ps,e1,e2⟩:=k.tb n q hm c p e
  exact⟨ps,by show upd X.H₀ a _ p=_; rw[AB (nh p _ e1)]; exact e1,e2⟩
 .have n:upd X.H₀ a _ b=none:=n
  rw[AB (ne b ob e)] at n; exact n
 .have n:upd X.H₀ a _ b=none:=n
  rw[AB (ne b ob e)] at n; exact n
 .have n:upd X.H₀ a _ b=none:=n
  rw[AB (ne b ob e)] at n; exact n
 .have e:upd X.H₀ a _ b=_:=e
  by_cases z:b=a
  .rw[z,AU] at e; cases e
  .rw[AB z] at e; exact I.base.tups b xs e
 .have e:upd X.H₀ a _ b=_:=e
  by_cases z:b=a
  .rw[z,AU] at e; cases e; rw[z]; exact ha
  .rw[AB z] at e; exact I.base.frzs b ob u e
 .have e:upd X.H₀ a _ b=_:=e
  by_cases z:b=a
  .rw[z,AU] at e; cases e
  .rw[AB z] at e; exact I.base.tbls b qs e
def Inv.un2(I:Inv (X.mk2 a o) pins σ H s)(k:X.Ok)(hs:X.s₀.heap.get? a=none)(hn:X.H₀ a=none):Inv X pins σ H s:=by
 have ne:∀b u,X.s₀.heap.get? b=some u->b≠a:=fun b u e z=>by rw[z,hs] at e; cases e
 have nh:∀b u,X.H₀ b=some u->b≠a:=fun b u e z=>by rw[z,hn] at e; cases e
 have u:=I.base;refine⟨k,I.os,I.bare,⟨fun b ob e n=>u.keep b ob e ?_,fun b ob e n=>u.slot b ob e ?_,fun b ob e n=>u.free b ob e ?_,u.there,fun b xs e=>u.tups b xs ?_,fun b ob v e=>u.frzs b ob v ?_,fun b qs e=>u.tbls b qs ?_⟩,I.loc,I.cell,I.free,I.freeC,I.pin,I.hok,I.len⟩
 .show upd X.H₀ a _ b=none; rw[AB (ne b ob e)]; exact n
 .show upd X.H₀ a _ b=none; rw[AB (ne b ob e)]; exact n
 .show upd X.H₀ a _ b=none; rw[AB (ne b ob e)]; exact n
 .show upd X.H₀ a _ b=_; rw[AB (nh b _ e)]; exact e
 .show upd X.H₀ a _ b=_; rw[AB (nh b _ e)]; exact e
 .show upd X.H₀ a _ b=_; rw[AB (nh b _ e)]; exact e
theorem YY{vs:Array Value}(hd:o.data=.fields vs)(h2:vs[2]? = some .none):Mkd (X.mk2 a o):=⟨a,o,_,vs,rfl,AU,hd,h2⟩
end
def Rg{CX:CXT}{P:Program}{w:World}{K:Frag}{mg:Str->Option Value}{base:Heap}{k:Nat}{f:Addr}{name qual:Str}{params:Arguments}{body:List Stmt}{scope:Scope}{dV kV doc pm cdv ct oc:Value}{an od:Option Addr}{osl:Array (Option Value)}{N ps:List Str}(lk:K.lookup f=some ⟨oc,od,.func (PySem.W.fnOf name qual params body scope dV kV doc pm an cdv ct),osl⟩)(hcd:PySem.W.codeIn K cdv qual=true)(S:FnScope N ps scope){A:Around}{outer:List Env}{s:Shared}{H:Hp}{args:Args}{us:List Value}{vs:List V}{Q:VK}{E:XK}(hr:Room (k+1) A)(e0:Env0 P w K mg base A outer s H)(hb:BindsTo s (PySem.W.fnOf name qual params body scope dV kV doc pm an cdv ct) args (ps.zip us))(r:Vals vs us)(hl:vs.length=ps.length)(hbody:∀s1,Room k (A.deeper (envOfC qual scope s.heap.objs.size f cdv))->Inv (Bd CX P w K mg base N qual scope f cdv A outer s H E) [] (start N vs) H s1->(∀b o,s.heap.get? b=some o->s1.heap.get? b=some o) ->
   wpAny (model P w) (A.deeper (envOfC qual scope s.heap.objs.size f cdv)) (execs body (envOfC qual scope s.heap.objs.size f cdv)) (SP (Bd CX P w K mg base N qual scope f cdv A outer s H E) [] { nx:=fun _ H'=>Q .non H',rt:=Q }) (Bd CX P w K mg base N qual scope f cdv A outer s H E).xe s1):
  codeAny (model P w) A (.call (.ref f) args) (CR CX outer P w H s Q E) s:=by
 have KX:K.In s.heap:=e0.mod.kin.keeps fun b o e=>(e0.bs b o e).1;have lim:s.heap.NoLimit:=e0.mod.nolimit.keeps fun b o e=>(e0.bs b o e).1;have hkind:∀y∈ps.zip us,scope.names.lookup y.1=some .local\/(scope.names.lookup y.1=some .cell/\((cellsFrom (s.heap.objs.size+1) scope.names []).lookup y.1).isSome=true):=fun⟨n,v⟩ hy=>by
  rcases S.par n (List.of_mem_zip hy).1 with q|q
  .exact .inl q
  .exact .inr ⟨q,PySem.W.cellsFrom_some _ _ _ (.inl q)⟩
 refine codeAny_call_function hr.depth (KX _ _ lk) rfl S.co S.gen rfl (PySem.W.codeRec_of KX hcd) (hb _ _ _ _ ?_);refine wpAny_newFunctionEnv_cells S.kind hkind fun env he s1 x=>?_;subst he;refine⟨lim.keeps x.toInCall.keep,codeAny_func ?_⟩;have I:Inv (Bd CX P w K mg base N qual scope f cdv A outer s H E) [] (start N vs) H s1:=Im S hr.hd e0 hl r x;refine wpAny_mono (hbody s1 (hr.deeper _) I x.toInCall.keep) (fun fl s' hs=>?_) fun e s' hs=>hs;have fin:∀{σ':St} {H':Hp} {v:V} {u:Value},Inv (Bd CX P w K mg base N qual scope f cdv A outer s H E) [] σ' H' s'->RelV v u->Q v H'->CE outer P w H s Q u s':=
  fun {σ' H' v u} J rv q=>⟨v,H',J.os,J.bare,J.base,J.hok,rv,q⟩
 cases fl with
 | ret u =>
  obtain⟨v,σ',H',J,rv,q⟩:=hs;exact fin J rv q
 | next =>
  obtain⟨σ',H',J,q⟩:=hs;exact fin (v:=V.non) (u:=Value.none) J rfl q
 | brk =>
  obtain⟨_,_,_,q⟩:=hs;exact False.elim q
 | cont =>
  obtain⟨_,_,_,q⟩:=hs;exact False.elim q
def QV{K:Frag}{h:Heap}{C B:Addr}{n n':String}(X:K.In h)(qC:excIn K C Ta n=true)(qB:excIn K B Ta n'=true)(hm:mroIn K C (.ref B)=some true)(hne:C≠B):Above h C B:=by
 obtain⟨bm',N',nm',qn',bs',hdct',sn',sub',ab',col',dd',j0,j1,j2,j3,j5,mN',hB,_,_,T'⟩:=O8 X qB;have hbase:=T'.hasType PySem.F.excBase_ValueError.hasBase;unfold excIn at qC;split at qC
 .rename_i dd cd sl ho
  split at qC
  .rename_i C' bm k0 k1 k2 k3 n k5 hmro hs
   simp only[Bool.and_eq_true,beq_iff_eq,Bool.not_eq_true'] at qC;obtain⟨⟨⟨⟨⟨rfl,rfl⟩,hdel⟩,ht⟩,hok⟩,hni⟩:=qC;have hc:clsIn K C'=some cd:=by unfold clsIn; rw[ho]
   unfold mroIn at hm;rw[hc,Option.bind_some,hmro] at hm;have hm2:(Value.ref C'::bm).contains (.ref B)=true:=by simpa using hm
   rw[List.contains_cons] at hm2;have hne2:((Value.ref B:Value)==.ref C')=false:=by
    rw[Bool.eq_false_iff];intro z;exact hne (Value.ref.inj (beq_iff_eq.mp z)).symm
   rw[hne2,Bool.false_or] at hm2;obtain⟨nm,bs,mro,ns,qn,hd,sn,sub,ab,col,del⟩:=cd;dsimp only at hmro hdel hok hni;subst hmro hdel;have hsl:sl = #[k0,k1,k2,k3,some (.builtin n),k5]:=by
    obtain⟨l⟩:=sl;simp only at hs;rw[hs]
   subst hsl;exact⟨_,_,_,_,_,_,_,_,_,_,_,_,_,_,_,_,_,_,_,_,_,_,_,_,_,_,_,_,_,_,_,_,_,_,X _ _ ho,hB,hbase,hm2⟩
  .cases qC
 .cases qC
end L2
end
section
namespace J
open PySem PySem.Spec PyProof.Rows L2
section
variable{P:Program}{w:World}{K:Frag}{mg:Str->Option Value}{base:Heap}
def Ii{M:Model}{A:Around}{E:Value->Shared->Prop}{s:Shared}{env:Env}{st:Stmt}{Q:Flow->Shared->Prop}(h:wpAny M A (exec st env) Q E s):wpAny M A (execs [st] env) Q E s:=by
 refine wpAny_execs_cons (wpAny_mono h (fun fl s2 q=>?_) fun _ _ z=>z);cases fl with
 | next=>exact wpAny_execs_nil q
 | brk=>exact q
 | cont=>exact q
 | ret u=>exact q
def QQ{Φ:Fn}{a:Addr}{o:Obj}{wd:Str}(hΦ : Φ [(.lent,.opq a o)]=some (.fz (.str wd),[.opq a o])):
  Jk (Ab (Ag (.str "refused")) (Ab (Ao Φ (Ab (Ad 1) Ai)) Ai)) [none,some (.own,.opq a o)]=some (.val (.fz (.tup [.str "refused",.str wd])),[none,some (.own,.opq a o)]):=by
 have h2:2<=LIM:=by decide
 simp[Jk,Ab,Ag,Ao,Ad,Ai,Dj,Gg,refs,hΦ,vals,mkT,fzs,back,ON,h2]
def OJ{k kw kc:Nat}{f C HE fv:Addr}{fd:FuncData}{st:Stmt}{wd:Str}{Φ:Fn}{k1 k2 k3 k4:Nat}{p1 p2 p3 p4 p5 p6 p7 p8 p9 p10 p11 p12 p13 p14:Pos}{A:Around}{outer:List Env}{s:Shared}{H:Hp}(F:Fun K "_law_answer" "_law_answer" st f fd)(S:FnScope ["_law_deed","_law_e"] ["_law_deed"] (As st))(hbd:Binds K fd ["_law_deed"] [])(hbody:Cn st=[.Try [.Return (some (.Tuple [.Constant (.str "told") k1 p1,.Call (.Name "_law_deed" p2) [] [] p3] k2 p4)) p5]
   [.ExceptHandler (some (.Name "HandError" p6)) (some "_law_e") [.Return (some (.Tuple [.Constant (.str "refused") k3 p7,.Call (.Name "_law_word" p8) [.Name "_law_e" p9] [] p10] k4 p11)) p12] p13] [] [] p14])(hs1:(As st).names.lookup ("_law_deed" : Str)=some .local)(hs2:(As st).names.lookup ("_law_e" : Str)=some .local)(hs3:(As st).names.lookup ("HandError" : Str)=some .globalImplicit)(hs4:(As st).names.lookup ("_law_word" : Str)=some .globalImplicit)(hHE:mg "HandError" = some (.ref HE))(hab:Above base C HE)(W:DefM P w K mg base CX0 kw "_law_word" ["_law_e"] (spJ K Φ 1))(hnp:∀args y,Φ args=some y->args.length=1)(hΦ:∀a o,o.cls=.ref C -> Φ [(.lent,.opq a o)]=some (.fz (.str wd),[.opq a o]))(hkw:kw<=k)(hkc:kc<=k)(hr:Room (k+1) A)(e0:Env0 P w K mg base A outer s H)(clo:Clo P w K mg base kc (fun c _ H'=>c=.ref C/\Cu H H') fv s H):
  codeAny (model P w) A (.call (.ref f) ⟨[.ref fv],[]⟩) (CR CX0 outer P w H s (fun v H'=>Cu H H'/\Rep H' v (.tup [.str "refused",.str wd])) E0) s:=by
 obtain⟨oc,od,kV,doc,pm,an,cdv,ct,osl,rfl,lk,hcd⟩:=F.ex;have KX:K.In s.heap:=e0.mod.kin.keeps fun b o e=>(e0.bs b o e).1;have hb:=hbd s [.ref fv] KX rfl;refine Rg (E:=E0) lk hcd S hr e0 (us:=[.ref fv]) hb (vs:=[.ref fv]) (.cons rfl .nil) rfl fun s1 hr1 I kp=>?_;rw[hbody];refine Ii ?_;have I:Inv (Bd CX0 P w K mg base ["_law_deed","_law_e"] "_law_answer" (As st) f cdv A outer s H E0) [] [some (.ref fv),none] H s1:=I;refine U1 (X:=Bd CX0 P w K mg base ["_law_deed","_law_e"] "_law_answer" (As st) f cdv A outer s H E0) (σ:=[some (.ref fv),none]) (H:=H) ?_;refine Ii (wpAny_Return_some (wpAny_Tuple_spliced ?_));refine Calls.spliced_cons (wpAny_Constant_str (k:=k1) (pos:=p1) ?_);refine Calls.spliced_cons ?_;obtain⟨m,hn,hl⟩:=I.loc;obtain⟨u,ru,lku⟩:=hl 0 "_law_deed" (.ref fv) rfl rfl (.inl hs1);obtain rfl:u=.ref fv:=ru;have hm:m "_law_deed" = some (.ref fv):=by
  rcases lku with ⟨_,z⟩|⟨z,_⟩
  .exact z
  .rcases z with z|z<;>(rw[show Env.kindOf (Bd CX0 P w K mg base ["_law_deed","_law_e"] "_law_answer" (As st) f cdv A outer s H E0).env ("_law_deed" : Str)=some .local from hs1] at z; cases z)
 refine wpAny_Call_Name_kw (wpAny_Name (wpAny_loadName_local (v:=.ref fv) S.kind hs1 hn hm ?_) (by decide));have clo1:=clo.keeps (s':={ s1 with toks:=s1.toks+1 }) kp;refine PySem.W.callWith_F0 clo1.fn ?_;have I1:=I.tok (s1.toks+1);refine wpAny_call (codeAny_mono (clo1.run _ _ _ (hr1.mono hkc) I1.env0 fun _ _ e=>e) fun r s2 hq=>?_);cases r with
 | ok fl =>
  cases fl with
  | ret u=>obtain⟨_,_,_,_,_,_,_,z⟩:=hq; exact z.elim
  | next=>exact False.elim hq
  | brk=>exact False.elim hq
  | cont=>exact False.elim hq
 | error ex =>
  refine KQ (X:=Bd CX0 P w K mg base ["_law_deed","_law_e"] "_law_answer" (As st) f cdv A outer s H E0) (E:=fun c _ H'=>c=.ref C/\Cu H H') rfl rfl rfl rfl rfl (fun σ H1 H2 s3 s4 a C' a0 B I3 F3 I4 he=>?_) _ H _ _ _ I1 hq;obtain⟨hc,sm⟩:=he;obtain rfl:C'=C:=Value.ref.inj hc;have fresh3:s3.heap.get? a=none:=F3.fresh I3.env0;have fresh0:s.heap.get? a=none:=by
   cases q:s.heap.get? a with
   | none=>rfl
   | some o =>
    obtain⟨o',z⟩:=I3.base.there a o q (fun z=>absurd (show a∈([]:List Addr) from z) (by simp));rw[fresh3] at z; cases z
  refine Oh (X:=Bd CX0 P w K mg base ["_law_deed","_law_e"] "_law_answer" (As st) f cdv A outer s H E0) (i:=1) (HE:=HE) S.nd rfl hs2 hs2 hs3 hHE (by decide) hab I3 F3 F3.untracked ?_;intro oe vs s5 hcls hd h2 I5;have I6:=I5.mk2 AU fresh0 (e0.hok.none fresh0);have hl6:(σ.set 1 (some (.ref a))).length=2:=by rw[List.length_set]; exact I3.len
  have hlσ : σ.length=2:=I3.len;obtain⟨x0,x1,rfl⟩:∃x0 x1,σ=[x0,x1]:=by
   match σ,hlσ with
   | [x0,x1],_=>exact⟨x0,x1,rfl⟩
  have je:JE ((Bd CX0 P w K mg base ["_law_deed","_law_e"] "_law_answer" (As st) f cdv A outer s H E0).mk2 a oe) (.Tuple [.Constant (.str "refused") k3 p7,.Call (.Name "_law_word" p8) [.Name "_law_e" p9] [] p10] k4 p11)
    (Jk (Ab (Ag (.str "refused")) (Ab (Ao Φ (Ab (Ad 1) Ai)) Ai))):=
   Oq (Aa rfl (AI (by decide)) (Aa rfl (Rx (X:=(Bd CX0 P w K mg base ["_law_deed","_law_e"] "_law_answer" (As st) f cdv A outer s H E0).mk2 a oe) (E:=E0) W hnp rfl rfl rfl rfl rfl (hr1.marked _) hkw (YY hd h2) (fun _ _ _ _ _ _ _ z=>False.elim z) (by decide) hs4 rfl rfl (Aa rfl (Ot 1 rfl (.inl hs2) (by decide) (by decide)) Af)) Af))
  have cl:=je [] s5 _ _ (fun v H'=>Cu H H'/\Rep H' v (.tup [.str "refused",.str wd])) I6 ?_
  .refine wpAny_mono cl (fun u s6 q=>?_) fun _ _ z=>z
   obtain⟨v,H6,I7,r7,q7⟩:=q;exact⟨v,_,H6,I7.un2 I3.ok fresh0 (e0.hok.none fresh0),r7,q7⟩
  .refine⟨[none,some (.own,.opq a oe)],fun _=>False,fun _=>[],⟨rfl,fun i st' a' e=>?_,fun _ _=>rfl,fun _=>List.nodup_nil,fun i j p z=>by simp at z,fun i p z=>by simp at z,fun p z=>?_⟩,_,_,QQ (hΦ a oe hcls),fun v H' q=>?_⟩
   .match i,e with
    | 1,e =>
     cases e;refine⟨.ref a,rfl,?_⟩;rw[Ar];exact⟨rfl,rfl,_,AU⟩
   .rcases z with ⟨i,z⟩|z
    .simp at z
    .exact z.elim
   .obtain⟨L,fp',p,rr⟩:=q
    simp only[RR] at rr;rw[Ar] at rr;refine⟨fun b o e=>p.kept b o ?_ (.inl fun⟨i,z⟩=>by simp at z),DT (fun _ z=>z.elim) rr.2⟩;have ne:b≠a:=fun z=>by
     rw[z,e0.hok.none fresh0] at e; cases e
    rw[AB ne];exact sm b o e
end
end J
end
section
namespace J
open PySem PySem.Spec PyProof.Rows L2 PySem.W
section
variable{P:Program}{w:World}{K:Frag}{mg:Str->Option Value}{base:Heap}
structure Ans (P:Program) (w:World) (K:Frag) (mg:Str->Option Value) (base:Heap) (k kc:Nat) (C:Addr) (wd:Str):Prop where
 ex:∃fa,mg "_law_answer" = some (.ref fa)/\keepIn K (.ref fa)=true/\∀(A:Around) (outer:List Env) (s:Shared) (H:Hp) (fv:Addr),Room k A->Env0 P w K mg base A outer s H->Clo P w K mg base kc (fun c _ H'=>c=.ref C/\Cu H H') fv s H ->
  codeAny (model P w) A (.call (.ref fa) ⟨[.ref fv],[]⟩) (CR CX0 outer P w H s (fun v H'=>Cu H H'/\Rep H' v (.tup [.str "refused",.str wd])) E0) s
def NQ{k ka kc:Nat}{f C fv:Addr}{fd:FuncData}{st:Stmt}{wd:Str}{t:Tok}{k1 k2:Nat}{p1 p2 p3 p4 p5 p6 p7 p8:Pos}{A:Around}{outer:List Env}{s:Shared}{H:Hp}(F:Fun K "_law_refuses" "_law_refuses" st f fd)(S:FnScope ["_law_deed","_law_word_here"] ["_law_deed","_law_word_here"] (As st))(hbd:Binds K fd ["_law_deed","_law_word_here"] [])(hbody:Cn st=[.Return (some (.Compare (.Call (.Name "_law_answer" p1) [.Name "_law_deed" p2] [] p3) [.Eq] [.Tuple [.Constant (.str "refused") k1 p4,.Name "_law_word_here" p5] k2 p6] p7)) p8])(hs1:(As st).names.lookup ("_law_deed" : Str)=some .local)(hs2:(As st).names.lookup ("_law_word_here" : Str)=some .local)(hs3:(As st).names.lookup ("_law_answer" : Str)=some .globalImplicit)(An:Ans P w K mg base ka kc C wd)(hwd:wd.length<=sizeLine)(hka:ka<=k)(hr:Room (k+1) A)(e0:Env0 P w K mg base A outer s H)(clo:Clo P w K mg base kc (fun c _ H'=>c=.ref C/\Cu H H') fv s H):
  codeAny (model P w) A (.call (.ref f) ⟨[.ref fv,.str wd t],[]⟩) (CR CX0 outer P w H s (fun v H'=>v=.bl true/\Cu H H') E0) s:=by
 obtain⟨oc,od,kV,doc,pm,an,cdv,ct,osl,rfl,lk,hcd⟩:=F.ex;obtain⟨fa,am,ak,arun⟩:=An.ex;have KX:K.In s.heap:=e0.mod.kin.keeps fun b o e=>(e0.bs b o e).1;have hb:=hbd s [.ref fv,.str wd t] KX rfl;refine Rg (E:=E0) lk hcd S hr e0 (us:=[.ref fv,.str wd t]) hb (vs:=[.ref fv,.str wd]) (.cons rfl (.cons ⟨t,rfl⟩ .nil)) rfl fun s1 hr1 I kp=>?_;rw[hbody];have I:Inv (Bd CX0 P w K mg base ["_law_deed","_law_word_here"] "_law_refuses" (As st) f cdv A outer s H E0) [] [some (.ref fv),some (.str wd)] H s1:=I;refine Ii (wpAny_Return_some (wpAny_Compare1 ?_ rfl));obtain⟨m,hn,hl⟩:=I.loc;obtain⟨u,ru,lku⟩:=hl 0 "_law_deed" (.ref fv) rfl rfl (.inl hs1);obtain rfl:u=.ref fv:=ru;have hm:m "_law_deed" = some (.ref fv):=by
  rcases lku with ⟨_,z⟩|⟨z,_⟩
  .exact z
  .rcases z with z|z<;>(rw[show Env.kindOf (Bd CX0 P w K mg base ["_law_deed","_law_word_here"] "_law_refuses" (As st) f cdv A outer s H E0).env ("_law_deed" : Str)=some .local from hs1] at z; cases z)
 refine wpAny_Call_Name_kw (GN (X:=Bd CX0 P w K mg base ["_law_deed","_law_word_here"] "_law_refuses" (As st) f cdv A outer s H E0) I hs3 am ?_ (by decide));refine callWith_K (h₀:=base) I.ok.mod.kin ak ?_ rfl rfl;refine Calls.spliced_cons (wpAny_Name (wpAny_loadName_local (v:=.ref fv) S.kind hs1 hn hm ?_) (by decide));refine Calls.spliced_nil ⟨I.kIn,?_⟩;refine wpAny_call (codeAny_mono (arun _ _ _ _ fv (hr1.mono hka) I.env0 (clo.keeps kp)) fun r s2 hq=>?_);cases r with
 | error ex=>exact False.elim hq
 | ok fl =>
  cases fl with
  | next=>exact False.elim hq
  | brk=>exact False.elim hq
  | cont=>exact False.elim hq
  | ret u =>
   obtain⟨v,H2,I2,r2,sm,rep⟩:=I.after hq;have je:JE (Bd CX0 P w K mg base ["_law_deed","_law_word_here"] "_law_refuses" (As st) f cdv A outer s H E0) (.Tuple [.Constant (.str "refused") k1 p4,.Name "_law_word_here" p5] k2 p6) (Jk (Ab (Ag (.str "refused")) (Ab (Ad 1) Ai))):=
    Oq (Aa rfl (AI (by decide)) (Aa rfl (Ot 1 rfl (.inl hs2) (by decide) (by decide)) Af))
   have em:Jk (Ab (Ag (.str "refused")) (Ab (Ad 1) Ai)) [none,some (.own,.fz (.str wd))]=some (.val (.fz (.tup [.str "refused",.str wd])),[none,some (.own,.fz (.str wd))]):=by
    have h2:2<=LIM:=by decide
    simp[Jk,Ab,Ag,Ad,Ai,vals,mkT,fzs,h2]
   refine thn (je [] s2 _ H2 (fun v H'=>Cu H2 H'/\Rep H' v (.tup [.str "refused",.str wd])) I2 ?_) fun u3 s3 q3=>?_
   .refine⟨[none,some (.own,.fz (.str wd))],fun _=>False,fun _=>[],⟨rfl,fun i st' a' e=>?_,fun _ _=>rfl,fun _=>List.nodup_nil,fun i j p z=>by simp at z,fun i p z=>by simp at z,fun p z=>?_⟩,_,_,em,fun v H' q=>?_⟩
    .match i,e with
     | 1,e =>
      cases e;refine⟨.str wd,rfl,?_⟩;rw[Ar];exact⟨rfl,.str wd hwd⟩
    .rcases z with ⟨i,z⟩|z
     .simp at z
     .exact z.elim
    .obtain⟨L,fp',p,rr⟩:=q
     simp only[RR] at rr;rw[Ar] at rr;exact⟨fun b o e=>p.kept b o e (.inl fun⟨i,z⟩=>by simp at z),DT (fun _ z=>z.elim) rr.2⟩
   .obtain⟨v3,H3,I3,r3,sm3,rep3⟩:=q3
    refine thn (BY hr1 [] s3 _ H3 v v3 _ _ (fun v H'=>v=.bl true/\Cu H H') I3 r2 r3 ⟨_,_,rep.same (fun b o _ e=>sm3 b o e) (fun b xs e=>sm3 b _ e),rep3,.tup fun d hd=>?_,?_,sm.trans sm3⟩) fun u4 s4 q4=>?_
    .rcases List.mem_cons.mp hd with rfl|hd
     .exact .str _
     .rcases List.mem_cons.mp hd with rfl|hd
      .exact .str _
      .simp at hd
    .have:eqD (.tup [.str "refused",.str wd]) (.tup [.str "refused",.str wd])=(("refused" : Str) == "refused" && ((wd==wd)&&true)):=rfl
     rw[this,beq_self_eq_true,beq_self_eq_true]; rfl
    .obtain⟨v4,H4,I4,r4,q4⟩:=q4
     exact⟨v4,_,H4,I4,r4,q4⟩
structure Rfs (P:Program) (w:World) (K:Frag) (mg:Str->Option Value) (base:Heap) (k kc:Nat) (C:Addr) (wd:Str):Prop where
 ex:∃fa,mg "_law_refuses" = some (.ref fa)/\keepIn K (.ref fa)=true/\∀(A:Around) (outer:List Env) (s:Shared) (H:Hp) (fv:Addr) (t:Tok),Room k A->Env0 P w K mg base A outer s H->Clo P w K mg base kc (fun c _ H'=>c=.ref C/\Cu H H') fv s H ->
  codeAny (model P w) A (.call (.ref fa) ⟨[.ref fv,.str wd t],[]⟩) (CR CX0 outer P w H s (fun v H'=>v=.bl true/\Cu H H') E0) s
end
inductive LA where
 | nm (i:Nat)|tx (z:Str)|nt (i:Nat) (z:Str)
def laE(X:Cx)(scope:Scope):List LA->List Expr->Prop
 | [],[]=>True
 | .nm i::ls,.Name x _::es=>(X.N[i]? = some x/\scope.names.lookup x=some .free/\X.env.scope.names.lookup x=some .cell/\(x==("__debug__" : Str))=false/\(x==("__classdict__" : Str))=false)/\laE X scope ls es
 | .tx z::ls,.Constant (.str z') _ _::es=>(z=z'/\z.length<=sizeLine)/\laE X scope ls es
 | .nt i z::ls,.BinOp (.Name x _) .Add (.Constant (.str z') _ _) _::es=>(z=z'/\X.N[i]? = some x/\scope.names.lookup x=some .free/\X.env.scope.names.lookup x=some .cell/\(x==("__debug__" : Str))=false/\(x==("__classdict__" : Str))=false)/\laE X scope ls es
 | _,_=>False
def laD(Z:Ro):LA->Option (Own×A)
 | .nm i=>match Z[i]? with
  | some (some (_,.fz d))=>some (.own,.fz d)
  | _=>none
 | .tx z=>some (.own,.fz (.str z))
 | .nt i z=>match Z[i]? with
  | some (some (_,.fz (.str y)))=>if y.length+z.length<=sizeLine then some (.own,.fz (.str (y++z))) else none
  | _=>none
def Qm(Z:Ro):List LA->Option (List (Own×A))
 | []=>some []
 | l::ls=>(laD Z l).bind fun a=>(Qm Z ls).map (a :: ·)
def KS(Ψ:FnR)(ls:List LA)(wd:Str):ME:=fun Z=>(Qm Z ls).bind fun as=>(Ψ as).bind fun y=>if y=wd then some (.val (.fz (.bl true)),Z) else none
theorem LK{cells:List (Str×Addr)}{x:Str}{c:Addr}(hc:cells.lookup x=some c):∀{names:List (Str×NameKind)} {cs:List (Str×Addr)},(cs.lookup x=some c\/(cs.lookup x=none/\(x,NameKind.free)∈names))->(clo cells names cs).lookup x=some c
 | [],cs,h=>by
  rcases h with h|⟨_,h⟩
  .exact h
  .simp at h
 | (n,k)::r,cs,h=>by
  simp only[clo];apply LK hc;cases hk:(k==NameKind.free) with
  | true =>
   simp only[if_true,List.lookup_cons];cases hx:(x==n) with
   | true =>
    have:x=n:=beq_iff_eq.mp hx;subst this;simp only[hc,Option.getD_some];exact .inl trivial
   | false =>
    simp only;rcases h with h|⟨h1,h2⟩
    .exact .inl h
    .refine .inr ⟨h1,?_⟩
     rcases List.mem_cons.mp h2 with z|z
     .cases z; simp at hx
     .exact z
  | false =>
   simp only[Bool.false_eq_true,if_false];rcases h with h|⟨h1,h2⟩
   .exact .inl h
   .refine .inr ⟨h1,?_⟩
    rcases List.mem_cons.mp h2 with z|z
    .cases z; simp at hk
    .exact z
section
variable{X:Cx}{scope:Scope}{pins:List (Addr×Obj)}{σ:L2.St}{H H2:Hp}{s:Shared}{Z:Ro}{O:Addr->Prop}{fp:Nat->List Addr}
def T3{env:Env}(I:Inv X pins σ H2 s)(sm:Cu H H2)(rl:Rel X.K Z σ H O fp)(hes:env.scope=scope)(hcl:env.cells=clo X.env.cells scope.names []):
  ∀{ls:List LA} {es:List Expr} {as:List (Own×A)},laE X scope ls es->Qm Z ls=some as->∃vs,vs.length=as.length/\Cs env s.heap es vs/\∀(j:Nat) st a,as[j]? = some (st,a)->∃v d,vs[j]? = some v/\a=.fz d/\Rep H2 v d:=by
 intro ls;induction ls with
 | nil =>
  intro es as h e;cases es with
  | nil=>cases e; exact⟨[],rfl,trivial,fun j st a z=>by simp at z⟩
  | cons _ _=>exact h.elim
 | cons l ls ih =>
  intro es as h e;simp only[Qm,bind_eq_some_iff,map_eq_some_iff] at e;obtain⟨a1,e1,as',e2,rfl⟩:=e;cases l with
  | nm i =>
   cases es with
   | nil=>exact h.elim
   | cons ex es =>
    cases ex with
    | Name x p =>
     obtain⟨⟨h1,h2,h3,h4,h5⟩,h⟩:=h;obtain⟨vs,l1,l2,l3⟩:=ih h e2;simp only[laD] at e1;split at e1
     .rename_i st d hi
      cases e1;obtain⟨v,hv,rep⟩:=rl.slot i st _ hi;rw[Ar] at rep;obtain⟨m,hn,hl⟩:=I.loc;obtain⟨u,ru,lk⟩:=hl i x v h1 hv (.inr (.inl h3));have hce:∃c,X.env.cells.lookup x=some c/\s.heap.IsCell c (some u):=by
       rcases lk with ⟨z,_⟩|⟨_,z⟩
       .rw[show X.env.kindOf x=some .cell from h3] at z; cases z
       .exact z
      obtain⟨c,c1,c2⟩:=hce;refine⟨v::vs,by simp[l1],⟨⟨by show env.scope.names.lookup x=_; rw[hes]; exact h2,h4,h5,c,u,by rw[hcl]; exact LK c1 (.inr ⟨rfl,mem_of_lookup h2⟩),c2,ru⟩,l2⟩,fun j st' a' z=>?_⟩;cases j with
      | zero=>cases z; exact⟨v,d,rfl,rfl,(DT (fun _ z=>z.elim) rep.2).same (fun b o _ e=>sm b o e) (fun b xs e=>sm b _ e)⟩
      | succ j=>exact l3 j st' a' (by simpa using z)
     .cases e1
    | _=>exact h.elim
  | nt i z =>
   cases es with
   | nil=>exact h.elim
   | cons ex es =>
    unfold laE at h;split at h
    case h_5=>exact h.elim
    all_goals rename_i q1 q2
    all_goals first|(cases q1; done)|skip
    all_goals cases q1
    all_goals cases q2
    obtain⟨⟨rfl,h1,h2,h3,h4,h5⟩,h⟩:=h;rename_i xn _ _ _ _;obtain⟨vs,l1,l2,l3⟩:=ih h e2;simp only[laD] at e1;split at e1
    .rename_i st y hi
     split at e1
     case isFalse=>cases e1
     rename_i hz;cases e1;obtain⟨v,hv,rep⟩:=rl.slot i st _ hi;rw[Ar] at rep;obtain⟨_,rep⟩:=rep;cases rep;obtain⟨m,hn,hl⟩:=I.loc;obtain⟨u,ru,lk⟩:=hl i _ _ h1 hv (.inr (.inl h3));obtain⟨t,rfl⟩:=ru;have hce:∃c,X.env.cells.lookup xn=some c/\s.heap.IsCell c (some (.str y t)):=by
      rcases lk with ⟨z,_⟩|⟨_,z⟩
      .rw[show X.env.kindOf _=some .cell from h3] at z; cases z
      .exact z
     obtain⟨c,c1,c2⟩:=hce;refine⟨.str (y++z)::vs,by simp[l1],⟨⟨y,rfl,hz,by show env.scope.names.lookup _=_; rw[hes]; exact h2,h4,h5,c,t,by rw[hcl]; exact LK c1 (.inr ⟨rfl,mem_of_lookup h2⟩),c2⟩,l2⟩,fun j st' a' q=>?_⟩;cases j with
     | zero=>cases q; exact⟨_,_,rfl,rfl,.str _ (by rw[Str.length_append]; exact hz)⟩
     | succ j=>exact l3 j st' a' (by simpa using q)
    .cases e1
  | tx z =>
   cases es with
   | nil=>exact h.elim
   | cons ex es =>
    cases ex with
    | Constant c k p =>
     cases c with
     | str z' =>
      obtain⟨⟨rfl,hz⟩,h⟩:=h;obtain⟨vs,l1,l2,l3⟩:=ih h e2;cases e1;refine⟨.str z::vs,by simp[l1],⟨rfl,l2⟩,fun j st' a' q=>?_⟩;cases j with
      | zero=>cases q; exact⟨_,_,rfl,rfl,.str z hz⟩
      | succ j=>exact l3 j st' a' (by simpa using q)
     | _=>exact h.elim
    | _=>exact h.elim
def Iq{P:Program}{w:World}{K:Frag}{mg:Str->Option Value}{base:Heap}{XC:Str->Addr}{kr kg j np:Nat}{g wd:Str}{ps:List Str}{Ψ:FnR}{ls:List LA}{params:Arguments}{e:Expr}{es:List Expr}{c b:Addr}{gp cp lp p kp pos:Pos}{kk:Nat}(hP:X.prog=P)(hw:X.w=w)(hK:X.K=K)(hm:X.mg=mg)(hb:X.base=base)(R:Rfs P w K mg base kr (kg+1) (XC wd) wd)(Dg:Def P w K mg base (Fly P w) kg g ps (spR K XC Ψ np))(hnp:∀args y,Ψ args=some y->args.length=np)(hr:Room j X.A)(hj:kr<=j)(ht:tabIn K LZ=some (c,b))(hh:codeHdIn K c b=true)(hcode:X.env.code=.ref c)(hg:Gl X "_law_refuses")(hq:X.env.qual ++ "<lambda>" = BW)(hdef:defaultsOf params X.env=([],[]))(hfree:(scope.names.all fun x=>!(x.2==.free) || X.env.scope.names.lookup x.1==some .cell)=true)(hbind:∀pm c' cl ctv,bindArgs (kla_fn "<lambda>" BW params (.Call (.Name g gp) (e::es) [] cp) scope cl pm (.ref c') ctv) ⟨[],[]⟩=pure [])(hk:scope.kind=.function)(hco:scope.isCoroutine=false)(hgen:scope.isGenerator=false)(hnc:∀n∈scope.names,n.2≠.cell)(hgg:scope.names.lookup g=some .globalImplicit)(hdb:(g==("__debug__" : Str))=false)(hst:∀env,starEach (e::es) env=(false,eval e env)::starEach es env)(hla:laE X scope ls (e::es)):
  JE X (.Call (.Name "_law_refuses" p) [.Lambda params (.Call (.Name g gp) (e::es) [] cp) scope lp,.Constant (.str wd) kk kp] [] pos) (KS Ψ ls wd):=by
 subst hP hw hK hm hb;intro pins s σ H Q I h;obtain⟨Z,O,fp,rl,r,Z',em,kont⟩:=h;simp only[KS,bind_eq_some_iff] at em;obtain⟨as,e1,y,e2,e3⟩:=em;split at e3
 .rename_i hy
  subst hy;cases e3;obtain⟨fa,rm,rk,run⟩:=R.ex;have hfr:∀x∈scope.names,(x.2==.free)=true->(X.env.cells.lookup x.1).isSome=true:=fun x hx hf=>by
   have:=List.all_eq_true.mp hfree x hx;rw[hf] at this;obtain⟨c,hc⟩:=I.ok.has x.1 (.inl (by
    have q:(X.env.scope.names.lookup x.1==some .cell)=true:=by simpa using this
    exact beq_iff_eq.mp q))
   rw[hc]; rfl
  refine wpAny_Call_Name_kw (GN I hg rm ?_ (by decide));refine callWith_K (h₀:=X.base) I.ok.mod.kin rk ?_ rfl rfl;refine Calls.spliced_cons (RM I hcode ht hh hq hdef (Jv hfr) fun f c' pm ctv h' tk H2 I2 sm ho hcd=>?_);refine Calls.spliced_cons (wpAny_Constant_str (k:=kk) (pos:=kp) ?_);refine Calls.spliced_nil ⟨I2.kIn,?_⟩;have I3:=I2.tok (tk+1);have clo:Clo X.prog X.w X.K X.mg X.base (kg+1) (fun c _ H'=>c=.ref (XC y)/\Cu H2 H') f { s with heap:=h',toks:=tk+1 } H2:=by
   obtain⟨vs,l1,l2,l3⟩:=T3 (env:=newEnv scope 0 mainGlobals (clo X.env.cells scope.names []) (BW ++ ".<locals>.") (some f) (.ref c') none builtinsNs) I3 sm rl rfl rfl hla e1;refine T5 (s:={ s with heap:=h',toks:=tk+1 }) Dg ho hcd (hbind _ _ _ _) hk hco hgen hnc hgg hdb hst (vs:=vs) (fun L=>?_) ?_
   .refine Cs.ind (env:=newEnv scope 0 mainGlobals (clo X.env.cells scope.names []) (BW ++ ".<locals>.") (some f) (.ref c') none builtinsNs) (h:=h') (M:=fun es vs=>Cs (newEnv scope L mainGlobals (clo X.env.cells scope.names []) (BW ++ ".<locals>.") (some f) (.ref c') none builtinsNs) h' es vs) trivial (fun x p es v vs a _ ih=>⟨a,ih⟩) (fun z k p es vs _ ih=>⟨rfl,ih⟩) (fun x p z k p2 p3 es v vs a _ ih=>⟨a,ih⟩) l2
   .refine⟨as,fun _=>False,fun _=>[],by rw[l1]; exact hnp _ _ e2,⟨by simp[l1],fun i st a ea=>?_,fun _ _=>rfl,fun _=>List.nodup_nil,fun i j b h=>by simp at h,fun i b h=>by simp at h,fun b z=>?_⟩,y,e2,fun H' kk=>⟨rfl,fun b o e=>kk b o e (.inl fun⟨i,z⟩=>by simp at z)⟩⟩
    .obtain⟨v,d,hv,rfl,rd⟩:=l3 i st a (by simpa using ea)
     refine⟨v,by simp[hv],?_⟩;rw[Ar];refine⟨rfl,DT (fun b z=>?_) rd⟩;rcases z with ⟨i,z⟩|z
     .simp at z
     .exact z
    .rcases z with ⟨i,z⟩|z
     .simp at z
     .exact z.elim
  refine wpAny_call (codeAny_mono (run _ _ _ _ f tk (hr.mono hj) I3.env0 clo) fun r s2 hq=>?_);cases r with
  | error ex=>exact False.elim hq
  | ok fl =>
   cases fl with
   | next=>exact False.elim hq
   | brk=>exact False.elim hq
   | cont=>exact False.elim hq
   | ret u =>
    obtain⟨v,H3,I4,r4,rfl,sm4⟩:=I3.after hq;exact⟨_,H3,I4,r4,kont _ _ (rl.post.out ⟨sm.trans sm4,[],by rw[Ar]; exact⟨rfl,.bl _⟩,List.nodup_nil,fun _ h=>by simp at h⟩)⟩
 .cases e3
end
end J
end
section
namespace L2
open PySem PySem.Spec PyProof.Rows
section
variable{X:Cx}
def QD{i:Nat}{y:Str}{py spos:Pos}{own:List Str}{scope:Scope}{target iter elt:Expr}{ifs:List Expr}{pos:Pos}{wi:TI}{un:TU}{tc:TT}{te:TE}(nd:X.N.Nodup)(hiN:X.N[i]? = some y)(hy:X.env.scope.names.lookup y=some .local)(hc:Mkd X)(hok:B7 own X.N scope X.env.scope=true)(hi:PIM X target iter wi)(hg:∀C s H fp pins,PGo (cxC X own scope C s H fp pins) target own.length un)(ht:∀C s H fp pins,PTs (cxC X own scope C s H fp pins) ifs tc)(he:∀C s H fp pins,PE (cxC X own scope C s H fp pins) elt te)(hs:∀x,foldedSetIterable iter X.env x=pure x:=by intro _; rfl)(hsw:swapsWith (.ListComp elt [⟨target,iter,ifs,0⟩] scope pos) (some (.Name y py)) spos.line X.env=pure true:=by rfl):
  PS X (.Assign [.Name y py] (.ListComp elt [⟨target,iter,ifs,0⟩] scope pos) spos) (OP (tLc wi un tc te) (HF i)):=by
 intro pins s σ H D I h;rw[exec_Assign_Name_used _ _ _ _ hsw];refine wpAny_bind (wpAny_standAt (wpAny_bind ?_));show wpAny _ X.A (do let _ <- comprehension (.ListComp elt [⟨target,iter,ifs,0⟩] scope pos) scope X.env _ (newList []) false (eval iter X.env) (some (assign (.Name y py) X.env))) _ _ s;refine wpAny_bind (wpAny_mono (wpAny_comprehension_free (use:=some (assign (.Name y py) X.env)) (Q:=fun _ s'=>SP X pins D .next s') rfl hs (Jv (B7.free hok I)) (B7.kind hok) (B7.names hok) ?_) (fun _ s' hq=>wpAny_pure (wpAny_pure hq)) fun _ _ e=>e);refine thn (hi pins s σ H _ I h) fun v s1 h1=>thn h1 fun itv s2 h2=>?_;obtain⟨it,fp,tn,J,H2,e,I2,T,st2,f2,q⟩:=h2;subst e;obtain⟨W,w0,turn⟩:=q s2.heap.objs.size I2.fresh;refine wpAny_newObj_type (hd:=by size_fits) ?_;have I3:Inv X pins σ (upd H2 s2.heap.objs.size (.lst [])) { s2 with heap:=s2.heap.push { cls:=.type "list",data:=.seq ([]:List Value).toArray } }:=I2.lnew (its:=[]) (t':=s2.toks) .nil (Nat.zero_le _);have st3:tn 0 (s2.heap.push { cls:=.type "list",data:=.seq ([]:List Value).toArray }):=T.keep _ _ _ st2 fun b _ o e=>Heap.get?_push_of_some _ e;have f3:∀b∈fp,E5 X pins (upd H2 s2.heap.objs.size (.lst [])) b:=fun b hb=>by
  obtain⟨o,e,_⟩:=T.obj _ _ st2 b hb;exact⟨by rw[AB (Nat.ne_of_lt (Heap.lt_size e))]; exact(f2 b hb).1,(f2 b hb).2⟩
 generalize hS:({ s2 with heap:=s2.heap.push { cls:=.type "list",data:=.seq ([]:List Value).toArray } }:Shared)=s3 at I3 st3;have st3':tn 0 s3.heap:=by rw[<- hS]; exact st3
 refine thn (OK (iter:=iter) (pos:=pos) (acc:=s2.heap.objs.size) (Q:=fun x H1=>HF i x σ H1 D.nx) (R:=compPost (model X.prog X.w) X.A X.xe (some (assign (.Name y py) X.env)) (fun _ s'=>SP X pins D .next s') (.ref s2.heap.objs.size) s3.heap.objs.size) hc hok hg ht he I3 T st3' f3 W w0 turn fun s' σ' H' J' q'=>?_) fun cenv s4 ⟨el,h4⟩=>?_
 .have I4:Inv X pins σ H' s':=EZ I3 f3 J' (h':=s'.heap) (.refl ..)
  obtain⟨m,⟨oC,es,ep,hoC,hdC,hrC⟩,_⟩:=J'.loc;have hCL:s3.heap.objs.size≠X.env.locals:=Nat.ne_of_gt I3.lt;have hfs:s3.heap.objs.size∉X.fs:=I3.nofs (Nat.le_refl _);have hCc:∀x c,X.env.cells.lookup x=some c->c≠s3.heap.objs.size:=fun x c e=>by
   obtain⟨v,z⟩:=I3.cell x c e;exact Nat.ne_of_lt z.lt
  have hCp:∀p∈X.pn++pins,p.1≠s3.heap.objs.size:=fun p hp=>Nat.ne_of_lt (Heap.lt_size (I3.pin p hp).1);have I5:Inv X (pins++[(s3.heap.objs.size,oC)]) σ H' s':=I4.pins_of fun p hp=>(List.mem_append.mp hp).elim (fun z=>I4.pin p (List.mem_append_right _ z)) fun z=>by
   have z':p=(s3.heap.objs.size,oC):=by simpa using z
   subst z';exact⟨hoC,J'.free,hCL,hfs,fun v=>by rw[hdC]; intro z; cases z⟩
  show wpAny _ X.A (assign (.Name y py) X.env (.ref s2.heap.objs.size)) _ _ s';refine wpAny_assign_Name (Fv I5 nd hiN (.inl hy) (v:=.ref s2.heap.objs.size) rfl (fun s6 I6=>?_) (.inr hy));have hp:=I6.pin (s3.heap.objs.size,oC) (List.mem_append_right _ (List.mem_append_right _ (by simp)));refine⟨m,⟨oC,es,ep,hp.1,hdC,hrC⟩,fun h' hs'=>?_⟩;exact⟨_,H',I6.unpinned.turned (h':=h') (t':=s6.toks) (it:=s3.heap.objs.size) (fun b o hb e=>(hs'.2 b hb).trans e) hp.2.1 hCL (.inr I3.sz) hCc hCp,q'⟩
 .rw[<- el] at h4
  exact h4
def Um{k:Nat}(hr:RoomM k X.A):OpR X (compareOp .NotEq) WY:=by
 intro pins s σ H x y v u Q I rx ry h;obtain⟨d,e,r1,r2,hs,q⟩:=h;exact EqBoolInt.of_rcne (NI I.hok r1 r2 rx ry hs (by have:=hr.units; lia)) ⟨.bl _,H,I,rfl,q⟩
end
end L2
namespace J
open PySem PySem.Spec PyProof.Rows L2
section
variable{X:Cx}{a b c e:Expr}{m:ME}{mt:MT}{mi:MI}{p pos apos cpos q:Pos}{x:Str}{K:Frag}
def Qj(i:Nat){y:Str}{py spos:Pos}{scope:Scope}{iter elt:Expr}{ifs:List Expr}{px:Pos}(nd:X.N.Nodup)(hiN:X.N[i]? = some y)(hy:X.env.scope.names.lookup y=some .local)(hok:B7 [x] X.N scope X.env.scope=true)(hc:Mkd X)(hx:scope.names.lookup x=some .local)(hs:∀z,foldedSetIterable iter X.env z=pure z)(hsw:swapsWith (.ListComp elt [⟨.Name x px,iter,ifs,0⟩] scope pos) (some (.Name y py)) spos.line X.env=pure true)(hi:JIM X (.Name x px) iter mi)(ht:JTc X [x] scope ifs mt)(he:JEc X [x] scope elt m):
  JS X (.Assign [.Name y py] (.ListComp elt [⟨.Name x px,iter,ifs,0⟩] scope pos) spos) (A5 i (Bh mi 0 mt m)):=by
 have hnx:x∉X.N:=fun hy=>by
  simp only[B7,Bool.and_eq_true,List.all_eq_true] at hok;have:=hok.2 x (by simp);simp[hy] at this
 exact CA (QD (un:=S9) (te:=tE X.K m) nd hiN hy hc hok hi (fun C s H fp pins=>GG rfl (List.nodup_cons.mpr ⟨hnx,nd⟩) (lookup_relabel_local hx)) ht (fun C s H fp pins=>he C s H fp pins) hs hsw) fun _ _ _ h=>Jr (OS h)
def MW:List Str:=["NoHouse","NoRow","NoMachine","NoRoom","NoHand","Unlike","NoPast","TooMany","Torn","NoTable","NoSet","Falls","Whole","NoText","NoWord"]
structure XW (K:Frag) (mg:Str->Option Value) (C:Addr) (wd:Str):Prop where
 cls:ExcCls K C
 cd:(PySem.W.clsIn K C).isSome=true
 own:∀y∈MW,∃a,mg y=some (.ref a)/\PySem.W.kitOne K (.ref C) (.ref a)=some (y==wd)
 ve:mg "ValueError" = none/\PySem.W.kitOne K (.ref C) (.type "ValueError")=some true
def Du{y wd:Str}{C:Addr}(bb:Bool)(W:XW X.K X.mg C wd)(hy:y∈MW)(hb:(y==wd)=bb)(hdb:(y==("__debug__" : Str))=false)(hgy:Gl X y)(hg:Gl X "isinstance")(B:Blt X.mg X.K)(he:starEach [a,.Name y q] X.env=[(false,eval a X.env),(false,eval (.Name y q) X.env)])(he2:starEach [.Name y q] X.env=[(false,eval (.Name y q) X.env)])(ha:JE X a m):
  JE X (.Call (.Name "isinstance" p) [a,.Name y q] [] pos) (opM (BM C bb) (m1L m)):=by
 obtain⟨cd,hcd⟩:=Option.isSome_iff_exists.mp W.cd;obtain⟨ay,h1,h2⟩:=W.own y hy;rw[hb] at h2;exact RA (c:=.ref ay) W.cls hcd h2 (fun u r=>r) (Mr hgy h1 rfl hdb) hg B he he2 ha
def V5{wd:Str}{C:Addr}(W:XW X.K X.mg C wd)(hgy:Gl X "ValueError")(hg:Gl X "isinstance")(B:Blt X.mg X.K)(he:starEach [a,.Name "ValueError" q] X.env=[(false,eval a X.env),(false,eval (.Name "ValueError" q) X.env)])(he2:starEach [.Name "ValueError" q] X.env=[(false,eval (.Name "ValueError" q) X.env)])(ha:JE X a m):
  JE X (.Call (.Name "isinstance" p) [a,.Name "ValueError" q] [] pos) (opM (BM C true) (m1L m)):=by
 obtain⟨cd,hcd⟩:=Option.isSome_iff_exists.mp W.cd;exact RA (c:=.ty "ValueError") W.cls hcd W.ve.2 (fun u r=>r) (GP hgy W.ve.1 dK rfl dK dK) hg B he he2 ha
def N6(r s:MR):MR:=fun Z=>(r Z).or (s Z)
def T2{XC:Str->Addr}{E:XK}{ss:List Stmt}{r r2:MR}(h:JRs X XC E ss r)(h2:JRs X XC E ss r2):JRs X XC E ss (N6 r r2):=by
 intro pins s σ H D I q;obtain⟨Z,O,fp,rl,x,e,k⟩:=q;simp only[N6] at e;rcases Option.or_eq_some_iff.mp e with e|⟨_,e⟩
 .exact h pins s σ H D I ⟨Z,O,fp,rl,x,e,k⟩
 .exact h2 pins s σ H D I ⟨Z,O,fp,rl,x,e,k⟩
end
end J
end
section
namespace J
open PySem PySem.Spec PyProof.Rows L2 PySem.W
def Hq(x:Str)(n:Nat):Str:=⟨(List.replicate n x.cps).foldl (· ++ ·) #[]⟩
def Rh(x:Array Nat):∀(n:Nat) (a:Array Nat),((List.replicate n x).foldl (· ++ ·) a).toList=a.toList++(List.replicate n x.toList).flatten:=by
 intro n;induction n with
 | zero=>intro a; simp
 | succ n ih=>intro a; rw[List.replicate_succ,List.foldl_cons,ih]; simp[List.replicate_succ]
def Ln(x:Str)(n:Nat):(Hq x n).cps.toList=(List.replicate n x.cps.toList).flatten:=by
 unfold Hq;exact(Rh x.cps n #[]).trans (by simp)
def SA(x:Str)(n:Nat):(Hq x n).length=n*x.length:=by
 have h:(Hq x n).length=(Hq x n).cps.toList.length:=by simp[Str.length]
 rw[h,Ln];simp[Str.length]
def SE(x:Str):Hq x 1=x:=by
 obtain⟨c⟩:=x;simp[Hq]
def SD{x:Str}(h:x.length=0)(n:Nat):Hq x n=x:=by
 obtain⟨⟨c⟩⟩:=x;have:c=[]:=List.eq_nil_of_length_eq_zero (by simpa[Str.length] using h);subst this;have e:=Ln ⟨#[]⟩ n;have:(Hq ⟨#[]⟩ n).cps.toList=[]:=by rw[e]; simp
 generalize Hq ⟨#[]⟩ n=y at this;obtain⟨⟨d⟩⟩:=y;simp at this;subst this;rfl
def R9{X:Cx}:OpR X (binaryOp .Mult) (fun x y H Q=>∃z i,x=.str z/\y=.int i/\(z.length<=1000/\0<=i/\i<=1000)/\Q (.str (Hq z i.toNat)) H):=by
 intro pins s σ H x y v u Q I rx ry h;obtain⟨z,i,rfl,rfl,⟨h1,h2,h3⟩,q⟩:=h;obtain⟨t,rfl⟩:=rx;obtain⟨t',rfl⟩:=ry;have hz:z.length*i.toNat<=1000000:=Nat.le_trans (Nat.mul_le_mul h1 (show i.toNat<=1000 by omega)) (by decide);have hlim:1000000<=sizeLine:=by decide
 refine P.mul_str (by rw[decide_eq_false (by omega),decide_eq_false (by omega)]; rfl) (fun a b=>?_) (fun a b=>?_) ?_
 .have:1000<=(2 ^ 63-1:Int) / i:=Int.le_ediv_of_mul_le (by omega) (by omega)
  omega
 .unfold Builtin.Str.tooLong
  exact decide_eq_false (by omega)
 .split
  .rename_i hi
   have:i.toNat=0:=by omega
   rw[this] at q;exact⟨by decide,⟨.str (Hq z 0),H,I.tok _,⟨_,rfl⟩,q⟩⟩
  .split
   .rename_i hc
    have:Hq z i.toNat=z:=by
     simp only[Bool.or_eq_true,beq_iff_eq] at hc;rcases hc with hc|hc
     .rw[hc]; exact SE z
     .exact SD hc _
    rw[this] at q;exact⟨.str z,H,I,⟨_,rfl⟩,q⟩
   .exact⟨by rw[show(⟨(List.replicate i.toNat z.cps).foldl (· ++ ·) #[]⟩:Str)=Hq z i.toNat from rfl,SA,Nat.mul_comm]; omega,⟨.str (Hq z i.toNat),H,I.tok _,⟨_,rfl⟩,q⟩⟩
section
variable{X:Cx}{K:Frag}{a b:Expr}{m1 m2:ME}{p2 pos:Pos}{N:Addr->Prop}{H:Hp}
def HN:List A->Option A:=on2 fun x q2=>(Bv q2).bind fun j=>(CS x).map fun ds=>.lst ((cutD ds (some j) none).map A.fz)
def Gs(ha:JE X a m1)(hb:JE X b m2):JE X (.Subscript a (.Slice (some b) none none p2) pos) (opM HN (m2L m1 m2)):=by
 refine AM (NC PL ha (Pw hb) Pu) fun σ H Q h=>?_;have ok:OpN X.K HN (r2L fun x y H Q=>∃j,y=.int j/\WZ X.K x (some j) none H Q):=by
  intro N H xs as b Q hs e k
  replace e:=CN e
  obtain⟨x,q2,rfl,e⟩:=e
  replace e:=bind_eq_some_iff.mp e
  obtain⟨j,eq2,e⟩:=e;cases Bn eq2;clear eq2;simp only[map_eq_some_iff] at e;obtain⟨ds,e1,rfl⟩:=e;obtain⟨x,y,L1,L2,rfl,h1,h2⟩:=BZ hs;cases Bz h2;obtain⟨p,vs,rfl,hp,hz,q⟩:=DN h1 e1;refine⟨_,_,rfl,j,rfl,p,vs,rfl,.inl (.inl hp),fun l hl=>k _ _ (FN hl ?_ (Py q))⟩;exact Nat.le_trans (Gk _ _ _) hz
 exact tE.mono (two ok h) fun x H1 h1=>tE.mono h1 fun y H2 ⟨j,e,q⟩=>⟨j,e,q⟩
end
end J
end
section
namespace L2
open PySem PySem.Spec PyProof.Rows
section
variable{X:Cx}
def Sx(K:Frag):List V->Hp->VK->Prop:=fun xs H Q=>∃p ys,xs=[.ref p]/\SqL K H p ys/\∀l,H l=none->Q (.ref l) (upd H l (.tup ys))
def EH:CF X (.type "tuple") (Sx X.K):=by
 intro pins s σ H xs us Q I r h;obtain⟨p,ys,rfl,hq,q⟩:=h;obtain⟨u,rfl,ru⟩:=r.one;cases ru;obtain⟨its,rv,pl,hz⟩:=I.list hq;have hlen:=rv.length;refine call_tuple_list pl.isList (fun h' kk=>?_) (by simp; lia);have I1:Inv X pins σ H { s with heap:=h',toks:=s.toks }:=I.kept kk;exact⟨.ref h'.objs.size,_,I1.laid (t':=s.toks) (o:=.tup ys) (fun b o e=>Heap.get?_push_of_some _ e) (Nat.le_refl _) ⟨hz,its,rv,⟨_,Heap.get?_push_size _ rfl,rfl,_,rfl⟩⟩,rfl,q _ (I1.hok.fresh (Nat.le_refl _))⟩
end
end L2
namespace J
open PySem PySem.Spec PyProof.Rows L2
section
variable{X:Cx}{e:Expr}{es:List Expr}{m:ME}{ms:MA}{p pos:Pos}{K:Frag}
def MN:List A->Option A:=on1 fun a=>(CS a).bind fun ds=>if ds.length<=LIM then some (.fz (.tup ds)) else none
def HU:OpN K MN (Sx K):=by
 intro N H xs as b Q hs e k
 replace e:=En e
 obtain⟨a,rfl,e⟩:=e;simp only[bind_eq_some_iff] at e;obtain⟨ds,e1,e2⟩:=e;split at e2
 .rename_i hz
  cases e2;obtain⟨x,L1,rfl,h1⟩:=Dv hs;obtain⟨p,vs,rfl,hp,hz',q⟩:=DN h1 e1;exact⟨p,vs,rfl,.inl (.inl hp),fun l hl=>k _ _ (Up hl hz' q)⟩
 .cases e2
end
end J
end
section
namespace J
open PySem PySem.Spec PyProof.Rows L2
section
variable{P:Program}{w:World}{K:Frag}{mg:Str->Option Value}{base:Heap}{XC:Str->Addr}
variable{N:List Str}{qual:Str}{scope:Scope}{f:Addr}{cd:Value}{A:Around}{outer:List Env}{s:Shared}{H:Hp}{E:XK}
theorem T1{g:Str}{k j np:Nat}{ps:List Str}{Ψ:FnR}{ms:MA}{p cpos pos npos:Pos}{e:Expr}{es:List Expr}{st st':List Stmt}(D:Def P w K mg base (Fly P w) k g ps (spR K XC Ψ np))(hnp:∀args y,Ψ args=some y->args.length=np)(hr:Room j (A.deeper (envOfC qual scope s.heap.objs.size f cd)))(hkj:k<=j)(hdb:(g==("__debug__" : Str))=false)(hg:Gl (Bd (Fly P w) P w K mg base N qual scope f cd A outer s H E) g)(he:starEach (e::es) (Bd (Fly P w) P w K mg base N qual scope f cd A outer s H E).env=(false,eval e (Bd (Fly P w) P w K mg base N qual scope f cd A outer s H E).env)::starEach es (Bd (Fly P w) P w K mg base N qual scope f cd A outer s H E).env)(hpl:(backTo cpos (starEach es (Bd (Fly P w) P w K mg base N qual scope f cd A outer s H E).env)).any (·.1)=false)(ha:JA (Bd (Fly P w) P w K mg base N qual scope f cd A outer s H E) (e::es) ms):
  JR (Bd (Fly P w) P w K mg base N qual scope f cd A outer s H E) XC E (.If (.UnaryOp .Not (.Call (.Name g p) (e::es) [] cpos) npos) st st' pos) (F5 Ψ ms):=
 CA (So (Su (Sv (Mq (X:=Bd (Fly P w) P w K mg base N qual scope f cd A outer s H E) (E:=E) D hr hkj (NB fun _ _ _ h=>h) ha hg hdb he hpl) (fun _=>rfl))) (show PSs _ st (fun _ _ _=>False) from fun _ _ _ _ _ _ h=>h.elim) (show PSs _ st' (fun _ _ _=>False) from fun _ _ _ _ _ _ h=>h.elim)) fun D _ _ h=>PY (D:=D) rfl hnp h
end
end J
namespace L2
open PySem PySem.Spec PyProof.Rows
def Sk(its:List Value):slicePick its.toArray none none (some (-1))=its.reverse.toArray:=by
 have e0:slicePick its.toArray none none (some (-1))=((sliceRange ((its.toArray.size:Int)-1) (-1) (-1)).filterMap fun i=>its.toArray[i]?).toArray:=rfl;rw[e0,PySem.W.krv_sliceRange,PySem.W.krv_range,List.filterMap_reverse,PySem.W.krv_all]
section
variable{X:Cx}
def Uu{e b:Expr}{te ts:TE}{p2 pos:Pos}{K:Frag}(hK:X.K=K)(he:PE X e te)(hb:PE X b ts):PE X (.Subscript e (.Slice none none (some b) p2) pos) (fun σ H Q=>te σ H fun x H1=>ts σ H1 fun y H2=>∃a xs,x=.ref a/\y=.int (-1)/\SqL K H2 a xs/\∀p,H2 p=none->Q (.ref p) (upd H2 p (.lst xs.reverse))):=by
 subst hK;intro pins s σ H Q I h;refine Subscript_ (thn (he pins s σ H _ I h) fun v s1 yy=>?_);obtain⟨x,H1,I1,r1,q1⟩:=yy;refine wpAny_Slice ?_;rw[evalPart_none];refine wpAny_pure (wpAny_pure ?_);rw[evalPart_some];refine thn (hb pins s1 σ H1 _ I1 q1) fun u s3 yy=>?_;obtain⟨y,H3,I3,r3,a,xs,rfl,rfl,hx,q⟩:=yy;cases r1;obtain⟨tj,rfl⟩:=r3;have I4:Inv X pins σ H3 { s3 with heap:=s3.heap.push { cls:=.type "slice",data:=.fields #[.none,.none,.int (-1) tj] } }:=I3.kept (t':=s3.toks) fun b ob q=>Heap.get?_push_of_some _ q;show wpAny (model X.prog X.w) X.A (subscriptTail e (.Slice none none (some b) p2) (.ref a) (.ref s3.heap.objs.size)) (EP X pins σ Q) X.xe { s3 with heap:=s3.heap.push { cls:=.type "slice",data:=.fields #[.none,.none,.int (-1) tj] } };obtain⟨its,r,ht,hz⟩:=I4.list hx;have hlen:=r.length;refine tail_any (ops:=[.ref a,.ref s3.heap.objs.size]) ht.isList.typeIs slot_list_getitem.lookup ?_ (by with_unfolding_all rfl);refine wpAny_getItem_list_slice ht.isList ⟨_,Heap.get?_push_size _ rfl,rfl,rfl⟩ .none .none (.int _ _) (by simp) ?_ (by rw[List.size_toArray]<;>lia);rw[Sk];refine⟨.ref _,_,I4.laid (o:=.lst xs.reverse) (fun b ob q=>Heap.get?_push_of_some _ q) (Nat.le_refl _) ?_,rfl,q _ (I4.hok.fresh (Nat.le_refl _))⟩;exact⟨by rw[List.length_reverse]; exact hz,_,0,r.reverse,Heap.get?_push_size _ rfl⟩
end
end L2
namespace J
open PySem PySem.Spec PyProof.Rows L2
section
variable{K:Frag}{H:Hp}{N:Addr->Prop}
def UM:∀{vs:List V} {ds:List D},Ay N H vs ds->Ay N H vs.reverse ds.reverse:=by
 intro vs;induction vs with
 | nil =>
  intro ds q;cases ds with
  | nil=>exact q
  | cons _ _=>simp only[Ay] at q
 | cons v vs ih =>
  intro ds q;cases ds with
  | nil=>simp only[Ay] at q
  | cons d ds =>
   simp only[Ay] at q;rw[List.reverse_cons,List.reverse_cons];exact Ft (ih q.2) (by simp only[Ay]; exact⟨q.1,trivial⟩)
def QG{vs:List V}{ds:List D}(q:Ay N H vs ds):∀k:Nat,Ay N H (List.replicate k vs).flatten (List.replicate k ds).flatten:=by
 intro k;induction k with
 | zero=>simp only[List.replicate_zero,List.flatten_nil,Ay]
 | succ k ih=>rw[List.replicate_succ,List.replicate_succ,List.flatten_cons,List.flatten_cons]; exact Ft q ih
def Pf:List A->Option A:=on2 fun x q2=>(Bv q2).bind fun j=>(CS x).bind fun ds=>if 0<=j/\j<=1000/\ds.length<=1000 then some (.lst ((List.replicate j.toNat ds).flatten.map A.fz)) else none
def Uj:OpN K Pf (r2L Yq):=by
 intro N H xs as b Q hs e k
 replace e:=CN e
 obtain⟨q1,q2,rfl,e⟩:=e
 replace e:=bind_eq_some_iff.mp e
 obtain⟨j,eq2,e⟩:=e;cases Bn eq2;simp only[bind_eq_some_iff] at e;obtain⟨ds,e1,e⟩:=e;split at e
 .rename_i hc
  cases e;obtain⟨x,y,L1,L2,rfl,h1,h2⟩:=BZ hs;cases Bz h2;obtain⟨p,vs,rfl,hp,hz,q⟩:=DN h1 e1;have hl:=q.len;have big:1000000<=sizeLine:=by decide
  have h3:vs.length*j.toNat<=1000*1000:=Nat.mul_le_mul (by omega) (by omega);refine⟨_,_,rfl,p,j,vs,rfl,rfl,hp,by omega,by omega,by omega,fun p' hp'=>k _ _ (FN hp' ?_ (QG q _))⟩;rw[len_rep,Nat.mul_comm]; omega
 .cases e
end
section
variable{X:Cx}{a b:Expr}{m m1 m2:ME}{p2 pos:Pos}
def W3:List A->Option A:=on2 fun x q2=>(Bv q2).bind fun j=>if j = -1 then (CS x).map fun ds=>.lst (ds.reverse.map A.fz) else none
def TZ(ha:JE X a m1)(hb:JE X b m2):JE X (.Subscript a (.Slice none none (some b) p2) pos) (opM W3 (m2L m1 m2)):=by
 refine AM (Uu rfl ha hb) fun σ H Q h=>?_;have ok:OpN X.K W3 (r2L fun x y H Q=>∃a xs,x=.ref a/\y=.int (-1)/\SqL X.K H a xs/\∀p,H p=none->Q (.ref p) (upd H p (.lst xs.reverse))):=by
  intro N H xs as b Q hs e k
  replace e:=CN e
  obtain⟨q1,q2,rfl,e⟩:=e
  replace e:=bind_eq_some_iff.mp e
  obtain⟨j,eq2,e⟩:=e;cases Bn eq2;split at e
  .rename_i hj
   subst hj;simp only[map_eq_some_iff] at e;obtain⟨ds,e1,rfl⟩:=e;obtain⟨x,y,L1,L2,rfl,h1,h2⟩:=BZ hs;cases Bz h2;obtain⟨p,vs,rfl,hp,hz,q⟩:=DN h1 e1;refine⟨_,_,rfl,p,vs,rfl,rfl,.inl (.inl hp),fun p' hp'=>k _ _ (FN hp' (by rw[List.length_reverse]; exact hz) (UM q))⟩
  .cases e
 exact two ok h
end
end J
end
section
namespace J
open PySem PySem.Spec PyProof.Rows L2
def gk(d:D):Bool:=X4 d&&shB 8 d
end J
end
section
namespace J
open PySem PySem.Spec PyProof.Rows L2 PySem.W
section
variable{X:Cx}{XC:Str->Addr}{E:XK}{K:Frag}{σ:L2.St}{H:Hp}{D:Ends}
def V0(c:MT)(r s:MR):MR:=fun Z=>(c Z).bind fun p=>if p.1 then r p.2 else s p.2
end
end J
end
section
namespace L2
open PySem PySem.Spec PyProof.Rows
def apart{n a b:Addr}(ha:a<n)(hb:b<n):ZipApart (n+4) (n+2) (n+3) n (n+1) a b:=by
 refine⟨?_,?_,?_,?_,?_,?_,?_,?_,?_,?_,?_,?_,?_,?_,?_,?_,?_,?_⟩<;>(intro e; simp only[Addr] at *; omega)
end L2
end
section
namespace Sp
open PySem Sg
end Sp
end
section
namespace Sp
open PySem PySem.Spec PyProof.Rows L2 Sg
end Sp
end
section
namespace J
open PySem PySem.Spec PyProof.Rows L2 Sg Sp
section
variable{X:Cx}{a b c e:Expr}{es:List Expr}{m m1 m2 m3:ME}{ms:MA}{p pos pos' p2 apos cpos q npos:Pos}{x:Str}
variable{K:Frag}{N:Addr->Prop}{H:Hp}{σ:L2.St}{v:V}{L:List Addr}
end
end J
end
section
namespace J
open PySem PySem.Spec PyProof.Rows L2
section
variable{K:Frag}{Z Z' Z1 Z2:Ro}{σ σ' σ1 σ2:L2.St}{H H' H1 H2:Hp}{O O' N:Addr->Prop}{fp fp' fp1 fp2:Nat->List Addr}{L L1:List Addr}
def Gj(pat:Nat)(c:MT)(e:ME):List D->Ro->Option (List A×Ro)
 | [],Z=>some ([],Z)
 | d::ds,Z=>(Mp pat d).bind fun bs=>(c (bs.map own++Z)).bind fun p =>
  if p.1 then (e p.2).bind fun q=>match q.1 with
   | .val a=>(Gj pat c e ds (q.2.drop bs.length)).map fun t=>(a::t.1,t.2)
   | .ref _=>none
  else Gj pat c e ds (p.2.drop bs.length)
def Lf(it:MI)(pat:Nat)(c:MT)(e:ME):ME:=fun Z=>(it Z).bind fun p=>if p.1.length<=LIM then (Gj pat c e p.1 (lock p.2.2 p.2.1)).map fun q=>(.val (.lst q.1),unlock p.2.2 q.2 p.2.1) else none
theorem Post.hs{vs:List V}{as:List A}{Ls:List Addr}(x:Post K O fp H Z Z1 σ σ1 L fp1 H1)(hr:Rel K Z σ H O fp)(q:Ap K (NN fp O) H vs as Ls)(hL:∀p∈Ls,O p):Ap K (NN fp1 (ad O L)) H1 vs as Ls:=
 q.tr (M:=Fp fp) (fun p z=>.inl z) x.kept (fun p z=>by
  rcases z with z|z|z
  .exact(x.new p (.inr z)).imp (fun y=>.inl y) id
  .exact .inl (.inr z)
  .exact(x.new p (.inl z)).imp (fun y=>.inl y) id) fun p hp ⟨i,z⟩=>hr.off i p z (hL p hp)
def S2{it:MI}{pat:Nat}{c:MT}{e:ME}{Q:VK}(h:tE K (Lf it pat c e) σ H Q):tLc (tI K it) (Xy K pat) (tT K c) (tE K e) σ H Q:=by
 obtain⟨Z,O,fp,rl,x,Z',h0,k⟩:=h;simp only[Lf,bind_eq_some_iff] at h0;obtain⟨⟨ds,n,Z1⟩,e1,h0⟩:=h0;split at h0
 case isFalse=>cases h0
 rename_i hz;simp only[map_eq_some_iff] at h0;obtain⟨⟨es,Z8⟩,e2,e3⟩:=h0;cases e3;refine⟨Z,O,fp,rl,ds,n,Z1,e1,fun J H1 yy acc hacc=>?_⟩;obtain⟨r,v,a,L,fp1,p1,q1,hn,ha,hJ⟩:=yy;have hlk:∀i,n=some i->∃st,Z1[i]? = some (some (st,a)):=fun i hi=>by
  rw[hn] at hi;cases r with
  | val b=>simp[nameOf] at hi
  | ref j =>
   simp only[nameOf,Option.some.injEq] at hi;subst hi;simp only[peek] at ha;split at ha
   .rename_i st b hb
    cases ha;exact⟨st,hb⟩
   .cases ha
 have rl1:Rel K (lock Z1 n) σ H1 (ad O L) fp1:=p1.rel.lock;have st0:Post K (ad O L) fp1 H1 (lock Z1 n) (lock Z1 n) σ σ [acc] fp1 (upd H1 acc (.lst [])):=rl1.post.more (Dx hacc) (by simp) fun p hp=>by
  have:p=acc:=by simpa using hp
  subst this;exact .inr ⟨hacc,by rw[AU]; simp⟩
 refine⟨fun i m ys H'=>m=ds.length-i/\i<=ds.length/\H' acc=some (.lst ys)/\ys.length<=i/\∃Z' fp' done rest Ls,Post K (ad O L) fp1 H1 (lock Z1 n) Z' σ σ (acc::Ls) fp' H'/\Ap K (NN fp' (ad (ad O L) (acc::Ls))) H' ys done Ls/\Gj pat c e (ds.drop i) Z'=some (rest,Z8)/\es=done++rest,
  ⟨ds.length,by simp,Nat.zero_le _,AU,by simp,lock Z1 n,fp1,[],es,[],st0,by simp only[Ap],by simpa using e2,rfl⟩,?_⟩
 rintro i m ys H2 ⟨rfl,hi,hy,hyl,Z2,fp2,done,rest,Ls,p2,qd,e2,ees⟩;refine⟨hy,?_⟩;obtain⟨L',src⟩:=PN hn p1.rel q1 ha p2;have offacc:∀j,acc∉fp2 j:=fun j z=>p2.rel.off j acc z (.inr (by simp));have nacc:acc∉Ls:=(List.nodup_cons.mp p2.nd).1;by_cases hlt:i<ds.length
 .obtain⟨go,stop,yld⟩:=hJ _ _ ⟨⟨L',src⟩,fun _ _ h=>p2.kept _ _ h (.inr rfl),fun _ _ q=>p2.stayT q⟩
  refine .inr ⟨go i hlt,fun x H3 y=>?_⟩;have hd:ds[i]? = some ds[i]:=by simp[hlt]
  obtain⟨sm,qx0⟩:=yld i x H3 _ y hd;have qx:RepA (NN fp2 (ad (ad O L) (acc::Ls))) H3 x ds[i]:=qx0;have p3:Post K (ad O L) fp1 H1 (lock Z1 n) Z2 σ σ (acc::Ls) fp2 H3:=p2.more sm p2.nd fun p hp=>.inl hp;have hy3:H3 acc=some (.lst ys):=sm _ _ hy;have qd3:Ap K (NN fp2 (ad (ad O L) (acc::Ls))) H3 ys done Ls:=qd.tr (M:=fun _=>False) (fun _ z=>z.elim) (Cu.kept sm) (fun p z=>.inl z) fun _ _ z=>z;rw[List.drop_eq_getElem_cons hlt] at e2;simp only[Gj,bind_eq_some_iff] at e2;obtain⟨bs,eb,⟨b,Z3⟩,ec,e4⟩:=e2;obtain⟨vs,hu,hvs⟩:=Pq (K:=K) qx eb;have rb:=p3.rel.block hvs;refine⟨vs,hu,_,_,_,rb,b,Z3,ec,fun fp4 H4 p4=>?_⟩;have keep:∀{Z5:Ro} {fp5:Nat->List Addr} {H5:Hp} {L5:List Addr},Post K (ad (ad O L) (acc::Ls)) (sh bs.length fp2) H3 (bs.map own++Z2) Z5 (vs.map some++σ) (vs.map some++σ) L5 fp5 H5 ->
    H5 acc=some (.lst ys)/\Post K (ad O L) fp1 H1 (lock Z1 n) (Z5.drop bs.length) σ σ (acc::Ls++L5) (fun j=>fp5 (j+bs.length)) H5/\Ap K (NN (fun j=>fp5 (j+bs.length)) (ad (ad (ad O L) (acc::Ls)) L5)) H5 ys done Ls:=fun {Z5 fp5 H5 L5} p5=>by
   have u:=p5.unblock hvs.len;refine⟨p5.kept _ _ hy3 (.inl fun z=>?_),p3.then u,u.hs p3.rel qd3 fun p hp=>.inr (List.mem_cons_of_mem _ hp)⟩;obtain⟨j,z⟩:=Nf.mp z;exact offacc j z
  cases b with
  | false =>
   simp only[Bool.false_eq_true,if_false] at e4;dsimp only;rw[if_neg Bool.false_ne_true];obtain⟨h1,h2,h3⟩:=keep p4;rw[List.append_nil] at h2;refine⟨ds.length-(i+1),by lia,rfl,hlt,h1,by lia,_,_,done,rest,Ls,h2,?_,e4,ees⟩;exact OX (fun p z=>Gy.mpr z) h3
  | true =>
   simp only[if_true,bind_eq_some_iff] at e4;obtain⟨⟨r5,Z5⟩,e5,e4⟩:=e4;dsimp only at e4;cases r5 with
   | ref _=>cases e4
   | val a5 =>
    simp only[map_eq_some_iff] at e4;obtain⟨⟨rest',Z7⟩,e7,e8⟩:=e4;cases e8;dsimp only;rw[if_pos rfl];refine⟨Z3,_,fp4,p4.rel0,_,Z5,e5,fun y H5 yy=>?_⟩;obtain⟨L5,fp5,p5,q5⟩:=yy;obtain⟨h1,h2,h3⟩:=keep (p4.next p5);have hacc1:H1 acc=none:=hacc;have nd5:=h2.nd;have nL5:acc∉L5:=fun z=>(List.nodup_cons.mp nd5).1 (List.mem_append_right _ z);refine⟨h1,Nat.lt_of_lt_of_le (Nat.lt_of_le_of_lt hyl hlt) hz,ds.length-(i+1),by lia,rfl,hlt,AU,by simp; lia,_,_,done++[a5],rest',Ls++L5,h2.updT (by simp) hacc1 h1,?_,e7,by rw[ees]; simp⟩;have nn1:∀p,NN (fun j=>fp5 (j+bs.length)) (ad (ad O L) (acc::(Ls++L5))) p->NN (fun j=>fp5 (j+bs.length)) (ad (ad (ad O L) (acc::Ls)) L5) p:=fun p z=>by
     rcases z with z|z|z
     .exact .inl z
     .exact .inr (.inl (.inl z))
     .rcases List.mem_cons.mp z with z|z
      .exact .inr (.inl (.inr (z ▸ List.mem_cons_self)))
      .rcases List.mem_append.mp z with z|z
       .exact .inr (.inl (.inr (List.mem_cons_of_mem _ z)))
       .exact .inr (.inr z)
    have q5':Ar K (NN (fun j=>fp5 (j+bs.length)) (ad (ad (ad O L) (acc::Ls)) L5)) H5 y a5 L5:=Ei (fun p z=>z.imp (fun⟨j,q⟩=>⟨_,q⟩) id) q5;have tr:∀{ws:List V} {fs:List A} {M:List Addr},acc∉M->Ap K (NN (fun j=>fp5 (j+bs.length)) (ad (ad (ad O L) (acc::Ls)) L5)) H5 ws fs M->Ap K (NN (fun j=>fp5 (j+bs.length)) (ad (ad O L) (acc::(Ls++L5)))) (upd H5 acc (.lst (ys++[y]))) ws fs M:=fun {ws fs M} hM q =>
     q.tr (M:=fun q=>q=acc) (fun b z=>by rw[z]; exact .inr (.inl (.inr (by simp)))) (Dy h1) (fun p z=>.inl (nn1 p z)) fun p hp z=>hM (z ▸ hp)
    refine Ap.app (tr nacc h3) (tr nL5 ?_);simp only[Ap];exact⟨L5,[],by simp,q5',rfl⟩
 .have:i=ds.length:=by lia
  subst this;obtain⟨go,stop,yld⟩:=hJ _ _ ⟨⟨L',src⟩,fun _ _ h=>p2.kept _ _ h (.inr rfl),fun _ _ q=>p2.stayT q⟩;simp only[List.drop_length,Gj,Option.some.injEq,Prod.mk.injEq] at e2;obtain⟨rfl,rfl⟩:=e2;refine .inl ⟨stop _ (Nat.le_refl _),k _ _ ?_⟩;have p3:=(p1.then (p2.unlock hlk)).drop;refine⟨acc::Ls,fp2,p3,?_⟩;show Ar _ _ _ _ _ _;rw[Ar];rw[List.append_nil] at ees;subst ees;refine⟨acc,ys,Ls,rfl,rfl,hy,Nat.le_trans hyl hz,OX (fun p z=>?_) qd⟩;rcases z with z|z|z
  .exact .inl z
  .exact .inr (.inl (.inl z))
  .exact .inr (.inr z)
end
end J
end
section
namespace J
open PySem PySem.Spec PyProof.Rows L2
structure GStr (mg:Str->Option Value) (x z:Str):Prop where
 at_:z.length<=sizeLine/\∃t,mg x=some (.str z t)
section
variable{X:Cx}{a b c e:Expr}{es:List Expr}{m m1 m2 m3:ME}{K:Frag}{σ:L2.St}{H:Hp}{x:Str}{p p2 pos pos' apos cpos npos:Pos}
def TX{z:Str}(G:GStr X.mg x z)(hg:Gl X x)(hd:(x==("__debug__" : Str))=false):JE X (.Name x pos) (Ag (.str z)):=by
 obtain⟨hz,t,e⟩:=G.at_;exact AM (Mr (v:=.str z) hg e ⟨t,rfl⟩ hd) fun _ _ _ h=>IM (fun _ _=>.str z hz) h
end
end J
end
section
namespace J
open PySem L2
def EV(m:ME)(Z:Ro)(Q:R->Ro->Prop):Prop:=∃r Z',m Z=some (r,Z')/\Q r Z'
def AV(m:MA)(Z:Ro)(Q:List R->Ro->Prop):Prop:=∃r Z',m Z=some (r,Z')/\Q r Z'
def TV(m:MT)(Z:Ro)(Q:Bool->Ro->Prop):Prop:=∃b Z',m Z=some (b,Z')/\Q b Z'
def SV(m:MS)(Z:Ro)(Q:Fl->Prop):Prop:=∃f,m Z=some f/\Q f
def IV(m:MI)(Z:Ro)(Q:List D->Option Nat->Ro->Prop):Prop:=∃ds n Z',m Z=some (ds,n,Z')/\Q ds n Z'
def FV(Φ:Fn)(as:List (Own×A))(Q:A->List A->Prop):Prop:=∃a os,Φ as=some (a,os)/\Q a os
def nxt(K:Ro->Prop)(Q:Fl->Prop):Fl->Prop
 | .next Z=>K Z
 | f=>Q f
def turn(I:Ro->Prop)(u:Ro->Ro)(Q:Fl->Prop):Fl->Prop
 | .next Z=>I Z
 | .cnt Z=>I Z
 | .brk Z=>Q (.next (u Z))
 | .ret x Z=>Q (.ret x (u Z))
def fin(np:Nat)(Q:A->List A->Prop):Fl->Prop
 | .next Z=>Q (.fz .non) ((Z.take np).map Hn)
 | .ret a Z=>Q a ((Z.take np).map Hn)
 | _=>False
abbrev Fr(x:Slot):Prop:=free [x] 0=true
section
variable{m m1 m2 m3:ME}{ms:MA}{c c2:MT}{a b:MS}{it:MI}{Z Z1 Z2:Ro}{Q:R->Ro->Prop}{QA:List R->Ro->Prop}{QT:Bool->Ro->Prop}{QS:Fl->Prop}{K:Ro->Prop}{i:Nat}
theorem Li{r:R}(h:m Z=some (r,Z1))(q:Q r Z1):EV m Z Q:=⟨r,Z1,h,q⟩
theorem B0{Φ:Fn}{as:List (Own×A)}{QF:A->List A->Prop}{x:A}{os:List A}(h : Φ as=some (x,os))(q:QF x os):FV Φ as QF:=⟨x,os,h,q⟩
def BI{Φ:Fn}{as:List (Own×A)}{QF QF':A->List A->Prop}(h:FV Φ as QF)(k:∀x os,QF x os->QF' x os):FV Φ as QF':=by
 obtain⟨x,os,e,q⟩:=h; exact⟨x,os,e,k x os q⟩
def PR{QS':Fl->Prop}(h:SV a Z QS)(k:∀f,QS f->QS' f):SV a Z QS':=by
 obtain⟨f,e,q⟩:=h; exact⟨f,e,k f q⟩
def DS{np nn:Nat}{as:List (Own×A)}{QF:A->List A->Prop}(hl:as.length=np)(hZ:as.map some++List.replicate (nn-np) none=Z)(h:SV b Z (fin np QF)):FV (fnM np nn b) as QF:=by
 obtain⟨f,e,q⟩:=h;subst hZ;cases f with
 | next Z'=>exact⟨_,_,by simp only[fnM,if_pos hl,e,Option.bind_some],q⟩
 | ret x Z'=>exact⟨_,_,by simp only[fnM,if_pos hl,e,Option.bind_some],q⟩
 | brk Z'=>exact q.elim
 | cnt Z'=>exact q.elim
theorem DK{d:D}(q:Q (.val (.fz d)) Z):EV (Ag d) Z Q:=⟨_,_,rfl,q⟩
def EY{f:List A->Option A}(h:AV ms Z fun rs Z1=>∃as,peeks Z1 rs=some as/\∃x,f as=some x/\Q (.val x) Z1):EV (opM f ms) Z Q:=by
 obtain⟨rs,Z1,e,as,e2,x,e3,q⟩:=h;exact⟨_,_,by simp only[opM,e,e2,e3,Option.bind_some,Option.map_some],q⟩
def bk(rs:List R)(os:List A)(Z:Ro):Ro:=match refs rs with
 | []=>Z
 | _::_=>back rs os Z
def XM(rs:List R)(os:List A)(Z:Ro):bk rs os Z=back rs os Z:=by
 unfold bk;split
 .rename_i h
  induction rs generalizing os Z with
  | nil=>simp[back]
  | cons r rs ih =>
   cases r with
   | ref i=>simp[refs] at h
   | val a =>
    have h:refs rs=[]:=h;cases os with
    | nil=>rfl
    | cons o os=>exact ih os Z h
 .rfl
def Fy{Φ:Fn}(h:AV ms Z fun rs Z1=>∃as,Dj Z1 rs=some as/\decide (refs rs).Nodup=true/\FV Φ as fun x os=>Q (.val x) (bk rs os Z1)):EV (Ao Φ ms) Z Q:=by
 obtain⟨rs,Z1,e,as,e2,hn,x,os,e3,q⟩:=h;rw[XM] at q;exact⟨_,_,by simp only[Ao,e,e2,e3,Option.bind_some,Option.map_some,if_pos (of_decide_eq_true hn)],q⟩
def Ee(h:EV m Z fun r Z1=>∃d Z2,share Z1 r=some (d,Z2)/\Q (.val (.fz d)) Z2):EV (Ae m) Z Q:=by
 obtain⟨r,Z1,e,d,Z2,e2,q⟩:=h;exact⟨_,_,by simp only[Ae,e,e2,Option.bind_some,Option.map_some],q⟩
def G6(h:EV m1 Z fun r Z1=>∃x,peek Z1 r=some x/\∃y,EE x=some y/\if y then EV m2 Z1 Q else Q (.val (.fz (.bl false))) Z1):EV (andM m1 m2) Z Q:=by
 obtain⟨r,Z1,e,x,e2,y,e3,q⟩:=h;cases y with
 | false=>exact⟨_,_,by simp only[andM,AJ,e,e2,e3,Option.bind_some,Option.map_some,Bool.false_eq_true,if_false],q⟩
 | true =>
  obtain⟨r',Z',e4,q⟩:=q;exact⟨_,_,by simp only[andM,AJ,e,e2,e3,Option.bind_some,Option.map_some,if_true,e4],q⟩
def JD(h:EV m1 Z fun r Z1=>∃x,peek Z1 r=some x/\∃y,EE x=some y/\if y then Q (.val (.fz (.bl true))) Z1 else EV m2 Z1 Q):EV (orM m1 m2) Z Q:=by
 obtain⟨r,Z1,e,x,e2,y,e3,q⟩:=h;cases y with
 | true=>exact⟨_,_,by simp only[orM,AJ,e,e2,e3,Option.bind_some,Option.map_some,if_true],q⟩
 | false =>
  obtain⟨r',Z',e4,q⟩:=q;exact⟨_,_,by simp only[orM,AJ,e,e2,e3,Option.bind_some,Option.map_some,Bool.false_eq_true,if_false,e4],q⟩
def G8(h:EV m Z fun r Z1=>∃x,peek Z1 r=some x/\∃y,EE x=some y/\Q (.val (.fz (.bl (!y)))) Z1):EV (notM m) Z Q:=by
 obtain⟨r,Z1,e,x,e2,y,e3,q⟩:=h;exact⟨_,_,by simp only[notM,AJ,e,e2,e3,Option.bind_some,Option.map_some],q⟩
def G7(h:TV c Z fun x Z1=>if x then EV m1 Z1 Q else EV m2 Z1 Q):EV (VZ c m1 m2) Z Q:=by
 obtain⟨x,Z1,e,q⟩:=h;cases x with
 | true=>obtain⟨r',Z',e4,q⟩:=q; exact⟨_,_,by simp only[VZ,e,Option.bind_some,if_true,e4],q⟩
 | false=>obtain⟨r',Z',e4,q⟩:=q; exact⟨_,_,by simp only[VZ,e,Option.bind_some,Bool.false_eq_true,if_false,e4],q⟩
def Gn(h:AV ms Z fun rs Z1=>∃as,vals rs=some as/\decide (as.length<=LIM)=true/\Q (.val (.lst as)) Z1):EV (lstM ms) Z Q:=by
 obtain⟨rs,Z1,e,as,e2,hl,q⟩:=h;exact⟨_,_,by simp only[lstM,e,e2,Option.bind_some,if_pos (of_decide_eq_true hl)],q⟩
def G9(h:AV ms Z fun rs Z1=>∃as Z2,moves rs Z1=some (as,Z2)/\decide (as.length<=LIM)=true/\Q (.val (mkT as)) Z2):EV (CD ms) Z Q:=by
 obtain⟨rs,Z1,e,as,Z2,e2,hl,q⟩:=h;exact⟨_,_,by simp only[CD,e,e2,Option.bind_some,if_pos (of_decide_eq_true hl)],q⟩
theorem DF(q:QA [] Z):AV Ai Z QA:=⟨_,_,rfl,q⟩
def BU(h:EV m Z fun r Z1=>AV ms Z1 fun rs Z2=>QA (r::rs) Z2):AV (Ab m ms) Z QA:=by
 obtain⟨r,Z1,e,rs,Z2,e2,q⟩:=h;exact⟨_,_,by simp only[Ab,e,e2,Option.bind_some,Option.map_some],q⟩
theorem M4(h:EV m Z fun r Z1=>QA [r] Z1):AV (m1L m) Z QA:=BU (by
 obtain⟨r,Z1,e,q⟩:=h; exact⟨r,Z1,e,DF q⟩)
theorem Ia(h:EV m1 Z fun r Z1=>EV m2 Z1 fun r2 Z2=>QA [r,r2] Z2):AV (m2L m1 m2) Z QA:=BU (by
 obtain⟨r,Z1,e,q⟩:=h; exact⟨r,Z1,e,M4 q⟩)
def ER(h:EV m Z fun r Z1=>∃x,peek Z1 r=some x/\∃y,EE x=some y/\QT y Z1):TV (AJ m) Z QT:=by
 obtain⟨r,Z1,e,x,e2,y,e3,q⟩:=h;exact⟨_,_,by simp only[AJ,e,e2,e3,Option.bind_some,Option.map_some],q⟩
def EO(h:TV c Z fun x Z1=>QT (!x) Z1):TV (BR c) Z QT:=by
 obtain⟨x,Z1,e,q⟩:=h;exact⟨_,_,by simp only[BR,e,Option.map_some],q⟩
def Ky(h:TV c Z fun x Z1=>if x then QT true Z1 else TV c2 Z1 QT):TV (orT c c2) Z QT:=by
 obtain⟨x,Z1,e,q⟩:=h;cases x with
 | true=>exact⟨_,_,by simp only[orT,e,Option.bind_some,if_true],q⟩
 | false=>obtain⟨y,Z',e4,q⟩:=q; exact⟨_,_,by simp only[orT,e,Option.bind_some,Bool.false_eq_true,if_false,e4],q⟩
def Hx(h:TV c Z fun x Z1=>if x then TV c2 Z1 QT else QT false Z1):TV (To c c2) Z QT:=by
 obtain⟨x,Z1,e,q⟩:=h;cases x with
 | false=>exact⟨_,_,by simp only[To,e,Option.bind_some,Bool.false_eq_true,if_false],q⟩
 | true=>obtain⟨y,Z',e4,q⟩:=q; exact⟨_,_,by simp only[To,e,Option.bind_some,if_true,e4],q⟩
def CC(h:SV a Z (nxt (fun Z1=>SV b Z1 QS) QS)):SV (AA a b) Z QS:=by
 obtain⟨f,e,q⟩:=h;cases f with
 | next Z1=>obtain⟨f,e2,q⟩:=q; exact⟨f,by simp only[AA,e,Option.bind_some,e2],q⟩
 | brk Z1=>exact⟨_,by simp only[AA,e,Option.bind_some],q⟩
 | cnt Z1=>exact⟨_,by simp only[AA,e,Option.bind_some],q⟩
 | ret x Z1=>exact⟨_,by simp only[AA,e,Option.bind_some],q⟩
def Fd(h:EV m Z fun r Z1=>∃x Z2,keep Z1 r=some (x,Z2)/\free Z2 i=true/\QS (.next (Z2.set i (some (.own,x))))):SV (A5 i m) Z QS:=by
 obtain⟨r,Z1,e,x,Z2,e2,e3,q⟩:=h;exact⟨_,by simp only[A5,e,e2,e3,Option.bind_some,if_true],q⟩
def GI(h:EV m Z fun _ Z1=>QS (.next Z1)):SV (F9 m) Z QS:=by
 obtain⟨r,Z1,e,q⟩:=h;exact⟨_,by simp only[F9,e,Option.map_some],q⟩
def Ff(h:EV m Z fun r Z1=>∃x Z2,move Z1 r=some (x,Z2)/\QS (.ret x Z2)):SV (retS m) Z QS:=by
 obtain⟨r,Z1,e,x,Z2,e2,q⟩:=h;exact⟨_,by simp only[retS,e,e2,Option.bind_some,Option.map_some],q⟩
def GJ(h:TV c Z fun x Z1=>if x then SV a Z1 QS else SV b Z1 QS):SV (ifS c a b) Z QS:=by
 obtain⟨x,Z1,e,q⟩:=h;cases x with
 | true=>obtain⟨f,e2,q⟩:=q; exact⟨f,by simp only[ifS,e,Option.bind_some,if_true,e2],q⟩
 | false=>obtain⟨f,e2,q⟩:=q; exact⟨f,by simp only[ifS,e,Option.bind_some,Bool.false_eq_true,if_false,e2],q⟩
theorem FY(q:QS (.next Z)):SV Bc Z QS:=⟨_,rfl,q⟩
def Hv{is:List Nat}(h:EV m Z fun r Z1=>∃x Z2,keep Z1 r=some (x,Z2)/\∃as,FP x=some as/\∃Z3,Dw is as Z2=some Z3/\QS (.next Z3)):SV (K0 is m) Z QS:=by
 obtain⟨r,Z1,e,x,Z2,e2,as,e3,Z3,e4,q⟩:=h;exact⟨_,by simp only[K0,e,e2,e3,e4,Option.bind_some,Option.map_some],q⟩
def Hu(h:∃d Z2,share Z (.ref i)=some (d,Z2)/\QS (.next Z2)):SV (XT i) Z QS:=by
 obtain⟨d,Z2,e,q⟩:=h;exact⟨_,by simp only[XT,e,Option.map_some],q⟩
theorem Ht(h:SV (A5 i (opM VC (m2L (Ad i) m))) Z QS):SV (YQ i m) Z QS:=h
def MJ(h0:∃p,F6 Z i=some p)(h:EV m Z fun r Z1=>∃x Z2,keep Z1 r=some (x,Z2)/\∃st as,F6 Z2 i=some (st,as)/\as.length<LIM/\QS (.next (Z2.set i (some (st,.lst (as++[x])))))):SV (IX i m) Z QS:=by
 obtain⟨p,e0⟩:=h0;obtain⟨r,Z1,e,x,Z2,e2,st,as,e3,hl,q⟩:=h;exact⟨_,by simp only[IX,e0,e,e2,e3,Option.bind_some,if_pos hl],q⟩
def Kv{is:List Nat}{one:Bool}(h:IV it Z fun ds n Z1=>∃Inv:Nat->Ro->Prop,Inv 0 (lock Z1 n)/\(∀j d Z2,ds[j]? = some d->Inv j Z2->∃Z3,K9 is one d Z2=some Z3/\SV b Z3 (turn (Inv (j+1)) (fun Z4=>unlock Z1 Z4 n) QS))/\∀Z2,Inv ds.length Z2->QS (.next (unlock Z1 Z2 n))):SV (KH is one it b) Z QS:=by
 obtain⟨ds,n,Z1,e,Inv,h0,hs,he⟩:=h;have key:∀(es:List D) (j:Nat) (Z2:Ro),j<=ds.length->ds.drop j=es->Inv j Z2->∃f,forL is one b es Z2=some f/\QS (MO Z1 n f):=by
  intro es;induction es with
  | nil =>
   intro j Z2 hj hd hI;have hj2:ds.length<=j:=by
    have:=congrArg List.length hd;simp at this;lia
   have:j=ds.length:=by lia
   subst this;exact⟨_,rfl,he Z2 hI⟩
  | cons d es ih =>
   intro j Z2 hj hd hI;have hlt:j<ds.length:=by
    rcases Nat.lt_or_ge j ds.length with z|z
    .exact z
    .rw[List.drop_eq_nil_of_le z] at hd; cases hd
   rw[List.drop_eq_getElem_cons hlt] at hd;injection hd with e1 e2
   obtain⟨Z3,e3,f,e4,q⟩:=hs j d Z2 (by rw[<- e1]; simp) hI;cases f with
   | next Z4 =>
    obtain⟨f,e5,q⟩:=ih (j+1) Z4 hlt e2 q;exact⟨f,by simp only[forL,e3,e4,Option.bind_some,e5],q⟩
   | cnt Z4 =>
    obtain⟨f,e5,q⟩:=ih (j+1) Z4 hlt e2 q;exact⟨f,by simp only[forL,e3,e4,Option.bind_some,e5],q⟩
   | brk Z4=>exact⟨.next Z4,by simp only[forL,e3,e4,Option.bind_some],q⟩
   | ret x Z4=>exact⟨.ret x Z4,by simp only[forL,e3,e4,Option.bind_some],q⟩
 obtain⟨f,e2,q⟩:=key ds 0 (lock Z1 n) (Nat.zero_le _) (by simp) h0;exact⟨_,by simp only[KH,e,Option.bind_some,e2,Option.map_some],q⟩
def Tx{pat:Nat}{e:ME}(f:D->Option D)(h:IV it Z fun ds n Z1=>decide (ds.length<=LIM)=true/\(∀d∈ds,∃bs,Mp pat d=some bs/\TV c (bs.map own++lock Z1 n) fun x Z2=>Z2=bs.map own++lock Z1 n/\if x then EV e (bs.map own++lock Z1 n) (fun r Z3=>Z3=bs.map own++lock Z1 n/\∃v,share (bs.map own++lock Z1 n) r=some (v,bs.map own++lock Z1 n)/\f d=some v) else f d=none)/\Q (.val (.lst ((ds.filterMap f).map A.fz))) (unlock Z1 (lock Z1 n) n)):EV (Bh it pat c e) Z Q:=by
 obtain⟨ds,n,Z1,e0,hl,hs,q⟩:=h;have key:∀es:List D,(∀d∈es,d∈ds)->Gi pat c e es (lock Z1 n)=some (es.filterMap f,lock Z1 n):=by
  intro es;induction es with
  | nil=>intro _; rfl
  | cons d es ih =>
   intro hm;obtain⟨bs,e1,x,Z2,e2,rfl,q2⟩:=hs d (hm d List.mem_cons_self);have ih:=ih fun y hy=>hm y (List.mem_cons_of_mem _ hy);have hdr:(bs.map own++lock Z1 n).drop bs.length=lock Z1 n:=by
    rw[List.drop_append_of_le_length (by simp),List.drop_of_length_le (by simp),List.nil_append]
   cases x with
   | false =>
    have q2:f d=none:=q2;simp only[Gi,e1,Option.bind_some,e2,Bool.false_eq_true,if_false,hdr,ih,List.filterMap_cons,q2]
   | true =>
    obtain⟨r,Z3,e3,rfl,v,e4,e5⟩:=q2;simp only[Gi,e1,Option.bind_some,e2,if_true,e3,e4,hdr,ih,Option.map_some,List.filterMap_cons,e5]
 exact⟨_,_,by simp only[Bh,e0,Option.bind_some,if_pos (of_decide_eq_true hl),key ds fun _ h=>h,Option.map_some],q⟩
def JC{pat:Nat}{e:ME}(f:D->Option D)(out:List D)(h:IV it Z fun ds n Z1=>ds.length<=100000/\ds.filterMap f=out/\(∀d∈ds,∃bs,Mp pat d=some bs/\TV c (bs.map own++lock Z1 n) fun x Z2=>Z2=bs.map own++lock Z1 n/\if x then EV e (bs.map own++lock Z1 n) (fun r Z3=>Z3=bs.map own++lock Z1 n/\∃v,share (bs.map own++lock Z1 n) r=some (v,bs.map own++lock Z1 n)/\f d=some v) else f d=none)/\Q (.val (.lst (out.map A.fz))) (unlock Z1 (lock Z1 n) n)):EV (Bh it pat c e) Z Q:=by
 obtain⟨ds,n,Z1,e0,hl,rfl,hs,q⟩:=h;have hL:100000<=LIM:=by decide
 exact Tx f ⟨ds,n,Z1,e0,decide_eq_true (by lia),hs,q⟩
theorem F0{QT:Bool->Ro->Prop}(q:QT true Z):TV CO Z QT:=⟨_,_,rfl,q⟩
def Ol{QI:List D->Option Nat->Ro->Prop}(h:EV m Z fun r Z1=>∃x,peek Z1 r=some x/\∃ds,A0 x=some ds/\QI ds (nameOf r) Z1):IV (Cr m) Z QI:=by
 obtain⟨r,Z1,e,x,e2,ds,e3,q⟩:=h;exact⟨_,_,_,by simp only[Cr,e,e2,e3,Option.bind_some,Option.map_some],q⟩
def Io{QI:List D->Option Nat->Ro->Prop}(h:EV m Z fun r Z1=>∃k:Int,r=.val (.fz (.int k))/\(-1000000<=k/\k<=1000000)/\QI (ET 0 k.toNat) none Z1):IV (CP m) Z QI:=by
 obtain⟨r,Z1,e,k,rfl,hk,q⟩:=h;have e0:(-(2 ^ 62)<=k/\k<2 ^ 62)=True:=by simp; lia
 exact⟨_,_,_,by simp only[CP,e,Option.bind_some,e0,if_true],q⟩
def V1{QI:List D->Option Nat->Ro->Prop}(h:EV m Z fun r Z1=>∃z,r=.val (.fz (.str z))/\decide (z.length<=LIM)=true/\QI (IL z) none Z1):IV (NU m) Z QI:=by
 obtain⟨r,Z1,e,z,rfl,hl,q⟩:=h;exact⟨_,_,_,by simp only[NU,e,Option.bind_some,if_pos (of_decide_eq_true hl)],q⟩
theorem Js{I:Ro->Prop}{u:Ro->Ro}{Z:Ro}(h:I Z):turn I u QS (.next Z):=h
theorem AE{Z:Ro}(h:K Z):nxt K QS (.next Z):=h
theorem Hh{x:A}{Z:Ro}(h:QS (.ret x Z)):nxt K QS (.ret x Z):=h
theorem Fz{np:Nat}{QF:A->List A->Prop}{x:A}{Z:Ro}(h:QF x ((Z.take np).map Hn)):fin np QF (.ret x Z):=h
theorem EK{np:Nat}{QF:A->List A->Prop}{Z:Ro}(h:QF (.fz .non) ((Z.take np).map Hn)):fin np QF (.next Z):=h
def IS{P1 P2:Prop}{x:Bool}(hx:x=true)(h:P1):if x then P1 else P2:=by rw[if_pos hx]; exact h
def JQ{P1 P2:Prop}{x:Bool}(hx:x=false)(h:P2):if x then P1 else P2:=by rw[if_neg (by rw[hx]; exact Bool.false_ne_true)]; exact h
def Rv{P1 P2:Prop}{x:Bool}(h1:x=true->P1)(h2:x=false->P2):if x then P1 else P2:=by
 cases x with
 | true=>exact h1 rfl
 | false=>exact h2 rfl
end
def D9{i j:Int}(h:decide (-1000000<=j/\j<=1000000)=true):L9 [.fz (.int i),.fz (.int j)]=some (.fz (.int (i*j))):=by
 have h:=of_decide_eq_true h;have e:((-(2 ^ 64)<i/\i<2 ^ 64)\/(-(2 ^ 64)<j/\j<2 ^ 64))=True:=by simp only[eq_iff_iff,iff_true]; exact .inr ⟨by lia,by lia⟩
 simp only[L9,on2,Bv,fzU,Dz,Option.bind_some,e,if_true]
theorem ex1{α:Type}{f:Option α}{q:α -> Prop}{x:α}(h:f=some x)(k:q x):∃x,f=some x/\q x:=⟨x,h,k⟩
theorem ex2{α β:Type}{f:Option (α×β)}{q:α -> β -> Prop}{x:α}{y:β}(h:f=some (x,y))(k:q x y):∃x y,f=some (x,y)/\q x y:=⟨x,y,h,k⟩
theorem Dq{i:Nat}{Z Z1:Ro}{Q:R->Ro->Prop}{r:R}(h:Ad i Z=some (r,Z1))(q:Q r Z1):EV (Ad i) Z Q:=⟨r,Z1,h,q⟩
theorem ex3{α β:Type}{f:Option (α×β)}{b:β}{q:α -> Prop}{x:α}(h:f=some (x,b))(k:q x):∃x,f=some (x,b)/\q x:=⟨x,h,k⟩
theorem ex0{α β:Type}{r:β}{g:α -> β}{q:α -> Prop}{x:α}(h:r=g x)(k:q x):∃x,r=g x/\q x:=⟨x,h,k⟩
def EF{Ψ:FnR}{ms:MA}{Z:Ro}{o:Option Str}(h:AV ms Z fun rs Z1=>∃as,Dj Z1 rs=some as/\Ex as=true/\Ψ as=o):F5 Ψ ms Z=o:=by
 obtain⟨rs,Z1,e,as,e2,hp,q⟩:=h;simp only[F5,e,e2,Option.bind_some,hp,if_true,q]
def FH{c:MT}{r s:MR}{Z:Ro}{o:Option Str}(h:TV c Z fun x Z1=>if x then r Z1=o else s Z1=o):V0 c r s Z=o:=by
 obtain⟨x,Z1,e,q⟩:=h;cases x with
 | true=>simp only[V0,e,Option.bind_some,if_true]; exact q
 | false=>simp only[V0,e,Option.bind_some,Bool.false_eq_true,if_false]; exact q
def E8{c:MT}{r:MR}{Z:Ro}{o:Option Str}(h:TV c Z fun x Z1=>if x then r Z1=o else none=o):ifR c r Z=o:=by
 obtain⟨x,Z1,e,q⟩:=h;cases x with
 | true=>simp only[ifR,e,Option.bind_some,if_true]; exact q
 | false=>simp only[ifR,e,Option.bind_some,Bool.false_eq_true,if_false]; exact q
def FU{a:MS}{r:MR}{Z:Ro}{o:Option Str}(h:SV a Z (nxt (fun Z1=>r Z1=o) fun _=>False)):Yu a r Z=o:=by
 obtain⟨f,e,q⟩:=h;cases f with
 | next Z1=>simp only[Yu,e,Option.bind_some]; exact q
 | brk Z1=>exact q.elim
 | cnt Z1=>exact q.elim
 | ret x Z1=>exact q.elim
def FC{np nn:Nat}{r:MR}{as:List (Own×A)}{Z:Ro}{o:Option Str}(hl:as.length=np)(hZ:as.map some++List.replicate (nn-np) none=Z)(h:r Z=o):fnR np nn r as=o:=by
 subst hZ;simp only[fnR,if_pos hl,h]
def VD{r s:MR}{Z:Ro}{z:Str}(h:r Z=some z):N6 r s Z=some z:=by simp only[N6,h,Option.some_or]
def VE{r s:MR}{Z:Ro}{o:Option Str}(h:r Z=none)(h2:s Z=o):N6 r s Z=o:=by simp only[N6,h,h2,Option.none_or]
section
variable{i:Nat}{m:ME}{Z:Ro}{QS:Fl->Prop}{QI:List D->Option Nat->Ro->Prop}
theorem Ju{Z:Ro}{i:Nat}{d:D}(h:free Z i=true):K9 [i] true d Z=some (Z.set i (J.own d)):=if_pos h
end
def BO(ds:List D):fzs (ds.map A.fz)=some ds:=by
 induction ds with
 | nil=>rfl
 | cons d ds ih=>simp[fzs,ih]
def HC(ds:List D):ers (ds.map A.fz)=some ds:=by
 induction ds with
 | nil=>simp[ers]
 | cons d ds ih=>simp[ers,er,ih]
theorem Qo(Z:Ro):lock Z none=Z:=rfl
def N3(Z:Ro)(n:Option Nat):unlock Z (lock Z n) n=Z:=by
 cases n with
 | none=>rfl
 | some i =>
  simp only[unlock,lock];split
  .rename_i s e
   apply List.ext_getElem?;intro j;by_cases h:j=i
   .subst h
    have hj:j<Z.length:=AK e;split
    .rw[List.getElem?_set_self (by simpa using hj),e]
    .rw[List.getElem?_set_self hj,e]
   .split
    .rw[List.getElem?_set_ne (Ne.symm h),List.getElem?_set_ne (Ne.symm h)]
    .rw[List.getElem?_set_ne (Ne.symm h)]
  .rename_i e
   split
   .rename_i st a e'
    rw[e] at e'; cases e'
   .rfl
def Q2{c:MT}{e:ME}{f:D->D}{g:D->Bool}{Z:Ro}:∀{ds:List D},(∀d∈ds,c (own d::Z)=some (g d,own d::Z))->(∀d∈ds,g d=true->∃r,e (own d::Z)=some (r,own d::Z)/\share (own d::Z) r=some (f d,own d::Z))->Gi 0 c e ds Z=some ((ds.filter g).map f,Z):=by
 intro _l;induction _l with
 | nil =>
  intro _ _;exact rfl
 | cons d ds ih =>
  intro hc he;have ih:=ih (fun x hx=>hc x (List.mem_cons_of_mem _ hx)) fun x hx=>he x (List.mem_cons_of_mem _ hx);simp only[Gi,Mp,Option.bind_some,List.map_cons,List.map_nil,List.cons_append,List.nil_append,hc d List.mem_cons_self];cases h:g d with
  | true =>
   obtain⟨r,h1,h2⟩:=he d List.mem_cons_self h;simp[h1,h2,ih,h]
  | false=>simp[ih,h]
def Q3{it:MI}{c:MT}{e:ME}{f:D->D}{g:D->Bool}{Z Z1:Ro}{ds:List D}{n:Option Nat}(hi:it Z=some (ds,n,Z1))(hl:ds.length<=LIM)(hc:∀d∈ds,c (own d::lock Z1 n)=some (g d,own d::lock Z1 n))(he:∀d∈ds,g d=true->∃r,e (own d::lock Z1 n)=some (r,own d::lock Z1 n)/\share (own d::lock Z1 n) r=some (f d,own d::lock Z1 n)):Bh it 0 c e Z=some (.val (.lst (((ds.filter g).map f).map A.fz)),Z1):=by
 simp only[Bh,hi,Option.bind_some,hl,if_true,Q2 hc he,Option.map_some,N3]
def DZ{it:MI}{e:ME}{f:D->D}{Z Z1:Ro}{ds:List D}{n:Option Nat}(hi:it Z=some (ds,n,Z1))(hl:ds.length<=LIM)(he:∀d∈ds,∃r,e (own d::lock Z1 n)=some (r,own d::lock Z1 n)/\share (own d::lock Z1 n) r=some (f d,own d::lock Z1 n)):Bh it 0 CO e Z=some (.val (.lst ((ds.map f).map A.fz)),Z1):=by
 have:=Q3 (g:=fun _=>true) (c:=CO) hi hl (fun d _=>rfl) fun d hd _=>he d hd;rw[List.filter_eq_self.mpr (fun _ _=>rfl)] at this;exact this
def GK(lo:Int)(n:Nat):(ET lo n).length=n:=by simp[ET]
def F1{lo:Int}{n j:Nat}{d:D}(h:(ET lo n)[j]? = some d):d=.int (lo+j)/\j<n:=by
 have hj:j<n:=by have:=AK h; simpa[ET] using this
 simp only[ET,List.getElem?_map,List.getElem?_range hj,Option.map_some,Option.some.injEq] at h;exact⟨h.symm,hj⟩
def iL(xs:List Int):List D:=xs.map D.int
def Pb(xs:List Int):(iL xs).all Ef=true:=by simp[iL,Ef,List.all_eq_true]
def Rn(x:Int)(xs:List Int):inD (.int x) (iL xs)=decide (x∈xs):=by
 induction xs with
 | nil=>rfl
 | cons y ys ih =>
  have:inD (.int x) (iL (y::ys))=(eqD (.int y) (.int x) || inD (.int x) (iL ys)):=rfl;rw[this,ih];simp only[GZ,List.mem_cons];by_cases h:y=x
  .subst h; simp
  .have h':¬x=y:=fun z=>h z.symm
   simp[h,h']
def EA{α:Type}(xs:List α)(f:α -> Bool):DY (xs.map fun x=>D.bl (f x))=some (xs.map f):=by
 induction xs with
 | nil=>rfl
 | cons x xs ih=>simp[DY,ih]
def Nj(xs:List Int):Rq (iL xs)=some xs:=by
 induction xs with
 | nil=>rfl
 | cons x xs ih =>
  simp only[iL,List.map_cons,Rq] at ih |-;rw[ih]; rfl
end J
namespace J
open PySem L2
@[simp] theorem Bs(xs:List Int):(iL xs).length=xs.length:=by simp[iL]
def Wh{d:D}{xs:List Int}:d∈iL xs↔∃i∈xs,d=.int i:=by
 simp only[iL,List.mem_map];constructor
 .rintro ⟨i,h,rfl⟩; exact⟨i,h,rfl⟩
 .rintro ⟨i,h,rfl⟩; exact⟨i,h,rfl⟩
def nD:D->Int
 | .int i=>i
 | _=>0
@[simp] theorem YZ(i:Int):nD (.int i)=i:=rfl
def Wf{β:Type}(f:Int -> β)(xs:List Int):(iL xs).map (fun d=>f (nD d))=xs.map f:=by simp[iL]
end J
namespace J
open PySem L2
def AY{a b:MS}{Z Z1:Ro}(h:a Z=some (.next Z1)):AA a b Z=b Z1:=by simp[AA,h]
def DQ{a b:MS}{Z Z1:Ro}{v:A}(h:a Z=some (.ret v Z1)):AA a b Z=some (.ret v Z1):=by simp[AA,h]
def JO{c:MT}{a b:MS}{Z Z1:Ro}(h:c Z=some (true,Z1)):ifS c a b Z=a Z1:=by simp[ifS,h]
def HH{c:MT}{a b:MS}{Z Z1:Ro}(h:c Z=some (false,Z1)):ifS c a b Z=b Z1:=by simp[ifS,h]
def B6{m:ME}{Z Z1:Ro}{b:Bool}(h:m Z=some (.val (.fz (.bl b)),Z1)):AJ m Z=some (b,Z1):=by simp[AJ,h,peek,EE]
def not_of{m:MT}{Z Z1:Ro}{b:Bool}(h:m Z=some (b,Z1)):BR m Z=some (!b,Z1):=by simp[BR,h]
def Bl{m:ME}{Z Z1:Ro}{a:A}(h:m Z=some (.val a,Z1)):retS m Z=some (.ret a Z1):=by simp[retS,h,move]
def LD{m:ME}{Z Z1:Ro}{a:A}{i:Nat}(h:m Z=some (.val a,Z1))(hf:free Z1 i=true):A5 i m Z=some (.next (Z1.set i (some (.own,a)))):=by simp[A5,h,keep,hf]
def Rc{m:ME}{Z Z1:Ro}{r:R}(h:m Z=some (r,Z1)):F9 m Z=some (.next Z1):=by simp[F9,h]
def A2{np nn:Nat}{b:MS}{args:List (Own×A)}{a:A}{Z:Ro}(hl:args.length=np)(h:b (args.map some++List.replicate (nn-np) none)=some (.ret a Z)):fnM np nn b args=some (a,(Z.take np).map Hn):=by simp[fnM,hl,h]
def TB{np nn:Nat}{b:MS}{args:List (Own×A)}{Z:Ro}(hl:args.length=np)(h:b (args.map some++List.replicate (nn-np) none)=some (.next Z)):fnM np nn b args=some (.fz .non,(Z.take np).map Hn):=by simp[fnM,hl,h]
end J
end
section
namespace J
open PySem L2
section
variable{i:Nat}{m e:ME}{Z:Ro}{QS:Fl->Prop}{Q:R->Ro->Prop}
def Xz{n:Nat}{d:D}(h:d∈ET 0 n):∃k,k<n/\d=.int (k:Int):=by
 simp only[ET,List.mem_map,List.mem_range,Int.zero_add] at h;obtain⟨k,h1,h2⟩:=h;exact⟨k,h1,h2.symm⟩
def LP(n:Nat)(g:Nat->D)(h:EV m Z fun r Z1=>r=.val (.fz (.int (n:Int)))/\n<=1000/\(∀k,k<n->EV e (own (.int (k:Int))::Z1) fun r Z3=>∃v,share Z3 r=some (v,own (.int (k:Int))::Z1)/\Z3=own (.int (k:Int))::Z1/\v=g k)/\Q (.val (.lst (((List.range n).map g).map A.fz))) Z1):EV (Bh (CP m) 0 CO e) Z Q:=by
 refine JC (fun d=>match d with | .int i=>some (g i.toNat)|_=>none) ((List.range n).map g) (Io ?_);obtain⟨r,Z1,e0,rfl,hn,hs,q⟩:=h;refine⟨_,Z1,e0,(n:Int),rfl,⟨by lia,by lia⟩,?_,?_,?_,q⟩
 .simp[ET]; lia
 .rw[ET,Int.toNat_natCast,List.filterMap_map,<- List.filterMap_eq_map]
  refine congrArg (fun z=>List.filterMap z (List.range n)) (funext fun k=>?_);simp
 .intro d hd
  obtain⟨k,hk,rfl⟩:=Xz hd;refine⟨[.int (k:Int)],rfl,F0 ⟨rfl,?_⟩⟩;obtain⟨r,Z3,e1,v,e2,rfl,e3⟩:=hs k (by simpa using hk);exact⟨r,_,e1,rfl,v,e2,by simp[e3]⟩
def C8(xs:List D)(g:D->D)(h:EV m Z fun r Z1=>∃x,peek Z1 r=some x/\A0 x=some xs/\xs.length<=100000/\(∀d,d∈xs->EV e (own d::lock Z1 (nameOf r)) fun r2 Z3=>∃v,share Z3 r2=some (v,own d::lock Z1 (nameOf r))/\Z3=own d::lock Z1 (nameOf r)/\v=g d)/\Q (.val (.lst ((xs.map g).map A.fz))) (unlock Z1 (lock Z1 (nameOf r)) (nameOf r))):EV (Bh (Cr m) 0 CO e) Z Q:=by
 refine JC (fun d=>some (g d)) (xs.map g) (Ol ?_);obtain⟨r,Z1,e0,x,e1,e2,hl,hs,q⟩:=h;refine⟨_,Z1,e0,x,e1,xs,e2,hl,by rw[<- List.filterMap_eq_map]; rfl,?_,q⟩;intro d hd;refine⟨[d],rfl,F0 ⟨rfl,?_⟩⟩;obtain⟨r,Z3,e1,v,e2,rfl,e3⟩:=hs d hd;exact⟨r,_,e1,rfl,v,e2,by simp[e3]⟩
def GS{Z:Ro}{i:Nat}{ds:List D}(h : Z[i]? = some (some (.own,.lst (ds.map A.fz)))):share Z (.ref i)=some (.lst ds,Z.set i (some (.own,.fz (.lst ds)))):=by
 simp only[share,h,J.er,HC,Option.map_some]
end
section
variable{i:Nat}{m m1 m2 e:ME}{Z:Ro}{QS:Fl->Prop}{Q:R->Ro->Prop}
def RI{Z:Ro}{i:Nat}{ds:List D}(h : Z[i]? = some (some (.own,.lst (ds.map A.fz)))):keep Z (.ref i)=some (.fz (.lst ds),Z.set i (some (.own,.fz (.lst ds)))):=by
 show(share Z (.ref i)).map _=_;rw[GS h]; rfl
end
end J
end
section
namespace J
open PySem PySem.Spec PyProof.Rows L2
def brw(Z:Ro):R->Option D
 | .val a=>er a
 | .ref i=>match Z[i]? with
  | some (some (_,a))=>er a
  | _=>none
def P9(Z:Ro):List R->Option (List D)
 | []=>some []
 | r::rs=>(brw Z r).bind fun d=>(P9 Z rs).map (d :: ·)
def Xb:A->Bool
 | .fz .non=>true
 | .fz (.bl _)=>true
 | .fz (.int _)=>true
 | .fz (.str _)=>true
 | _=>false
def fzA(d:D):Own×A:=(.own,.fz d)
def GY(Φ:Fn)(m:MA):ME:=fun Z=>(m Z).bind fun p=>(P9 p.2 p.1).bind fun ds=>(Φ (ds.map fzA)).bind fun q=>if Xb q.1 then some (.val q.1,p.2) else none
section
variable{K:Frag}{Z Z' Z1 Z2:Ro}{σ σ' σ1 σ2:L2.St}{H H' H1 H2:Hp}{O O' N:Addr->Prop}{fp fp' fp1 fp2:Nat->List Addr}{L L1:List Addr}
def Ts(rl:Rel K Z1 σ H1 O fp1){v:V}{r:R}{d:D}(q:RR K N H1 σ v r L)(e:brw Z1 r=some d):RepA (fun _=>False) H1 v d:=by
 cases r with
 | val a=>exact DT (fun _ z=>z.elim) (Ar.er q e)
 | ref i =>
  simp only[brw] at e;split at e
  .rename_i st a ea
   obtain⟨w,hw,z⟩:=rl.slot i _ _ ea;obtain⟨_,hv⟩:=q;rw[hv] at hw; cases hw;exact DT (fun _ z=>z.elim) (Ar.er z e)
  .cases e
theorem M6(rl:Rel K Z1 σ H1 O fp1):∀{vs:List V} {rs:List R} {L:List Addr} {ds:List D},RRs K N H1 σ vs rs L->P9 Z1 rs=some ds->vs.length=ds.length/\∀(j:Nat) d,ds[j]? = some d->∃v,vs[j]? = some v/\RepA (fun _=>False) H1 v d
 | [],[],L,ds,q,e=>by
  cases e;exact⟨rfl,fun j d h=>by simp at h⟩
 | [],_::_,L,ds,q,e=>q.elim
 | _::_,[],L,ds,q,e=>q.elim
 | v::vs,r::rs,L,ds,q,e=>by
  obtain⟨La,Lb,rfl,q1,q2⟩:=q;simp only[P9,bind_eq_some_iff,map_eq_some_iff] at e;obtain⟨d,e1,ds',e2,rfl⟩:=e;obtain⟨h1,h2⟩:=M6 rl q2 e2;refine⟨by simp[h1],fun j d' h=>?_⟩;cases j with
  | zero=>simp at h; subst h; exact⟨v,rfl,Ts rl q1 e1⟩
  | succ j=>simpa using h2 j d' (by simpa using h)
def S0{Φ:Fn}{np:Nat}{m:MA}{Q:VK}{E:XK}(hnp:∀args y,Φ args=some y->args.length=np)(h:tE K (GY Φ m) σ H Q):Lr (spJ K Φ np) [] E (tA K m) σ H Q:=by
 obtain⟨Z,O,fp,rl,x,Z',e,k⟩:=h;simp only[GY,bind_eq_some_iff] at e;obtain⟨⟨rs,Z1⟩,e1,ds,e2,⟨a,as'⟩,e3,e4⟩:=e;split at e4
 case isFalse=>cases e4
 rename_i hsc;cases e4;refine⟨Z,O,fp,rl,rs,_,e1,fun vs H1 yy=>?_⟩;obtain⟨L,fp1,p,q⟩:=yy;rw[List.append_nil];obtain⟨hl,hg⟩:=M6 p.rel q e2;have hn:=hnp _ _ e3;refine⟨ds.map fzA,fun _=>False,fun _=>[],by rw[<- hn,hl]; simp,⟨by simp[hl],fun j st b hb=>?_,fun _ _=>rfl,fun _=>List.nodup_nil,fun _ _ _ h=>by simp at h,fun _ _ h=>by simp at h,fun pp z=>?_⟩,a,as',e3,fun v H' o=>?_⟩
 .rw[List.map_map,List.getElem?_map] at hb
  cases hd:ds[j]? with
  | none=>rw[hd] at hb; cases hb
  | some d =>
   rw[hd] at hb;cases hb;obtain⟨w,hw,r⟩:=hg j d hd;refine⟨w,by rw[List.getElem?_map,hw]; rfl,?_⟩;rw[Ar];exact⟨rfl,DT (fun pp z=>by rcases z with ⟨i,hi⟩|z; simp at hi; exact z) r⟩
 .rcases z with ⟨i,hi⟩|z
  .simp at hi
  .exact z.elim
 .obtain⟨L',fp2,p2,q2⟩:=o
  have sm:Cu H1 H':=fun b o hb=>p2.kept b o hb (.inl fun⟨i,hi⟩=>by simp at hi);have p3:Post K O fp H Z Z1 σ σ [] fp1 H':=p.more sm List.nodup_nil fun _ h=>by simp at h
  refine k v H' ⟨[],fp1,p3,?_⟩;show Ar K _ H' v a [];cases a with
  | fz d =>
   obtain⟨_,q3⟩:=(FQ (K:=K)).mp q2;rw[Ar];refine⟨rfl,?_⟩;cases q3 with
   | non=>exact .non
   | bl b=>exact .bl b
   | int i=>exact .int i
   | str z hz=>exact .str z hz
   | lst=>cases hsc
   | tup=>cases hsc
  | lst as=>cases hsc
  | tup as=>cases hsc
  | scr as=>cases hsc
  | dic as=>cases hsc
  | dct as=>cases hsc
  | opq b o=>cases hsc
def JB{Φ:Fn}{ms:MA}{Z:Ro}{Q:R->Ro->Prop}(h:AV ms Z fun rs Z1=>∃ds,P9 Z1 rs=some ds/\FV Φ (ds.map fzA) fun x _=>Xb x=true/\Q (.val x) Z1):EV (GY Φ ms) Z Q:=by
 obtain⟨rs,Z1,e,ds,e2,x,os,e3,hs,q⟩:=h;exact⟨_,_,by simp only[GY,e,e2,e3,Option.bind_some,hs,if_true],q⟩
end
section
variable{X:Cx}{e:Expr}{es:List Expr}{ms:MA}{p pos:Pos}{x:Str}
def JU{P:Program}{w:World}{K:Frag}{mg:Str->Option Value}{base:Heap}{CX:CXT}{k j:Nat}{ps:List Str}{Φ:Fn}{np:Nat}{E:XK}(D:Def P w K mg base CX k x ps (spJ K Φ np))(hnp:∀args y,Φ args=some y->args.length=np)(hP:X.prog=P)(hw:X.w=w)(hK:X.K=K)(hm:X.mg=mg)(hb:X.base=base)(hr:Room j X.A)(hkj:k<=j)(hx:Passes CX X E)(hdb:(x==("__debug__" : Str))=false)(hg:Gl X x)(he:starEach (e::es) X.env=(false,eval e X.env)::starEach es X.env)(hpl:(backTo pos (starEach es X.env)).any (·.1)=false)(ha:JA X (e::es) ms):JE X (.Call (.Name x p) (e::es) [] pos) (GY Φ ms):=by
 subst hP hw hK hm hb;exact AM (Mq D hr hkj hx ha hg hdb he hpl) fun _ _ _ h=>S0 hnp h
end
def Il:List Nat->A->Option A
 | [],a=>some a
 | n::p,.lst as=>match as[n]? with
  | some b=>Il p b
  | none=>none
 | n::p,.tup as=>match as[n]? with
  | some b=>Il p b
  | none=>none
 | _::_,_=>none
def Jj:List Nat->A->A->A
 | [],b,_=>b
 | n::p,b,.lst as=>match as[n]? with
  | some c=>.lst (as.set n (Jj p b c))
  | none=>.lst as
 | n::p,b,.tup as=>match as[n]? with
  | some c=>.tup (as.set n (Jj p b c))
  | none=>.tup as
 | _::_,_,a=>a
def Nh(Z:Ro)(i:Nat)(p:List Nat):Option (Own×A×List A):=match Z[i]? with
 | some (some (.ro,_))=>none
 | some (some (st,a))=>match Il p a with
  | some (.lst bs)=>some (st,a,bs)
  | _=>none
 | _=>none
def Mo(i:Nat)(p:List Nat)(j:Int):MS:=fun Z=>(Nh Z i p).bind fun h=>if h.2.2.length<LIM then some (.next (Z.set i (some (h.1,Jj p (.lst (h.2.2++[.fz (.int j)])) h.2.1)))) else none
def Walk(H:Hp):V->List Nat->V->Prop
 | v,[],w=>v=w
 | v,n::p,w=>∃a vs u,v=.ref a/\(H a=some (.lst vs)\/H a=some (.tup vs))/\vs[n]? = some u/\Walk H u p w
def UA(K:Frag):TE->List Nat->TE
 | t,[]=>t
 | t,n::p=>UA K (tOp (rIx K) t (tC (.int n))) p
section
variable{K:Frag}{Z Z' Z1 Z2:Ro}{σ σ' σ1 σ2:L2.St}{H H' H1 H2:Hp}{O O' N:Addr->Prop}{fp fp' fp1 fp2:Nat->List Addr}{L L1:List Addr}
def LF{α:Type}{xs:List α}{n:Nat}{u:α}(h:xs[n]? = some u):atI xs (n:Int)=some u:=by
 have hn:n<xs.length:=by
  rcases Nat.lt_or_ge n xs.length with z|z
  .exact z
  .rw[List.getElem?_eq_none z] at h; cases h
 unfold atI ixN;rw[if_pos (Int.natCast_nonneg n)];simp[hn];exact(List.getElem?_eq_some_iff.mp h).2
theorem NG:∀{p:List Nat} {t:TE} {v w:V} {Q:VK},(∀Q':VK,Q' v H->t σ H Q')->Walk H v p w->Q w H->UA K t p σ H Q
 | [],t,v,w,Q,ht,hw,q=>by
  cases hw;exact ht _ q
 | n::p,t,v,w,Q,ht,hw,q=>by
  obtain⟨a,vs,u,rfl,ha,hu,hw⟩:=hw;refine NG (p:=p) (v:=u) (fun Q' q'=>?_) hw q;refine ht _ ?_;rcases ha with ha|ha
  .exact .inl ⟨a,vs,n,u,rfl,rfl,.inl (.inl ha),LF hu,q'⟩
  .exact .inr (.inl ⟨a,vs,n,u,rfl,rfl,.inl (.inl ha),LF hu,q'⟩)
theorem Ap.splitAt:∀{vs:List V} {as:List A} {L:List Addr} {n:Nat} {c:A},Ap K N H vs as L->as[n]? = some c->∃w La Lc Lb,L=La++(Lc++Lb)/\vs[n]? = some w/\Ar K N H w c Lc /\
  ∀(H2:Hp) (M:Addr->Prop) (c':A) (Lc':List Addr),(∀q,M q->N q)->Kept M H H2->(∀q∈La,¬M q)->(∀q∈Lb,¬M q)->Ar K N H2 w c' Lc'->Ap K N H2 vs (as.set n c') (La++(Lc'++Lb))
 | [],[],L,n,c,r,e=>by simp at e
 | [],_::_,L,n,c,r,e=>by simp only[Ap] at r
 | _::_,[],L,n,c,r,e=>by simp only[Ap] at r
 | v::vs,a::as,L,0,c,r,e=>by
  simp only[Ap] at r;obtain⟨La,Lb,rfl,h1,h2⟩:=r;simp at e;subst e;refine⟨v,[],La,Lb,rfl,rfl,h1,fun H2 M c' Lc' hM k _ hb r'=>?_⟩;simp only[List.set_cons_zero,List.nil_append,Ap];exact⟨_,_,rfl,r',h2.tr hM k (fun q z=>.inl z) hb⟩
 | v::vs,a::as,L,n+1,c,r,e=>by
  simp only[Ap] at r;obtain⟨La,Lb,rfl,h1,h2⟩:=r;obtain⟨w,Lx,Lc,Ly,rfl,g1,g2,g3⟩:=Ap.splitAt (n:=n) h2 (by simpa using e);refine⟨w,La++Lx,Lc,Ly,by simp,by simpa using g1,g2,fun H2 M c' Lc' hM k ha hb r'=>?_⟩;simp only[List.set_cons_succ,Ap];exact⟨La,Lx++(Lc'++Ly),by simp,h1.tr hM k (fun q z=>.inl z) fun q hq=>ha q (by simp[hq]),g3 H2 M c' Lc' hM k (fun q hq=>ha q (by simp[hq])) hb r'⟩
def nd3{La Lc Lb Lc':List Addr}(nd:(La++(Lc++Lb)).Nodup)(s:∀q∈Lc',q∈Lc)(n:Lc'.Nodup):(La++(Lc'++Lb)).Nodup:=by
 have h:=List.nodup_append.mp nd;have h2:=List.nodup_append.mp h.2.1;refine List.nodup_append.mpr ⟨h.1,List.nodup_append.mpr ⟨n,h2.2.1,fun x hx y hy=>h2.2.2 x (s x hx) y hy⟩,fun x hx y hy=>?_⟩;rcases List.mem_append.mp hy with hy|hy
 .exact h.2.2 x hx y (by simp[s y hy])
 .exact h.2.2 x hx y (by simp[hy])
theorem Ar.putP:∀{p:List Nat} {v:V} {a:A} {L:List Addr} {bs:List A},Ar K N H v a L->Il p a=some (.lst bs)->L.Nodup->(∀q∈L,N q)->∃p1 ws L1,Walk H v p (.ref p1)/\p1∈L/\H p1=some (.lst ws)/\ws.length<=sizeLine/\Ap K N H ws bs L1/\p1∉L1/\L1.Nodup/\(∀q∈L1,q∈L) /\
  ∀ws' bs' L1',Ap K N (upd H p1 (.lst ws')) ws' bs' L1'->ws'.length<=sizeLine->(∀q∈L1',q∈L1)->L1'.Nodup->∃L',Ar K N (upd H p1 (.lst ws')) v (Jj p (.lst bs') a) L'/\(∀q∈L',q∈L)/\L'.Nodup
 | [],v,a,L,bs,r,e,nd,hN=>by
  cases e;rw[Ar] at r;obtain⟨p1,ws,L1,rfl,rfl,hp,hz,hs⟩:=r;have n1:=List.nodup_cons.mp nd;refine⟨p1,ws,L1,rfl,by simp,hp,hz,hs,n1.1,n1.2,fun q hq=>by simp[hq],fun ws' bs' L1' r' hz' sub nd1=>⟨p1::L1',?_,?_,?_⟩⟩
  .simp only[Jj]
   rw[Ar];exact⟨p1,ws',L1',rfl,rfl,AU,hz',r'⟩
  .intro q hq
   rcases List.mem_cons.mp hq with rfl|hq
   .simp
   .simp[sub q hq]
  .exact List.nodup_cons.mpr ⟨fun z=>n1.1 (sub _ z),nd1⟩
 | n::p,v,.lst as,L,bs,r,e,nd,hN=>by
  rw[Ar] at r;obtain⟨a0,vs,L0,rfl,rfl,h0,hz0,hs⟩:=r;simp only[Il] at e;split at e
  case h_2=>cases e
  rename_i c hc;have n1:=List.nodup_cons.mp nd;obtain⟨w,La,Lc,Lb,rfl,g1,g2,g3⟩:=Ap.splitAt hs hc;have n2:=List.nodup_append.mp n1.2;have n3:=List.nodup_append.mp n2.2.1;obtain⟨p1,ws,L1,k1,k2,k3,k4,k5,k6,k7,k8,k9⟩:=Ar.putP (p:=p) g2 e n3.1 fun q hq=>hN q (by simp[hq]);have ne:a0≠p1:=fun z=>n1.1 (by simp[z,k2]);refine⟨p1,ws,L1,⟨a0,vs,w,rfl,.inl h0,g1,k1⟩,by simp[k2],k3,k4,k5,k6,k7,fun q hq=>by simp[k8 q hq],fun ws' bs' L1' r' hz' sub nd1=>?_⟩;obtain⟨Lc',m1,m2,m3⟩:=k9 ws' bs' L1' r' hz' sub nd1;refine⟨a0::(La++(Lc'++Lb)),?_,?_,?_⟩
  .simp only[Jj,hc]
   rw[Ar];refine⟨a0,vs,_,rfl,rfl,by rw[AB ne]; exact h0,hz0,g3 _ (fun q=>q=p1) _ _ (fun q z=>z ▸ hN p1 (by simp[k2])) (Dy k3) (fun q hq z=>?_) (fun q hq z=>?_) m1⟩
   .exact n2.2.2 q hq p1 (by simp[k2]) z
   .exact n3.2.2 p1 k2 q hq z.symm
  .intro q hq
   simp only[List.mem_cons,List.mem_append] at hq |-;rcases hq with h|h|h|h
   .exact .inl h
   .exact .inr (.inl h)
   .exact .inr (.inr (.inl (m2 q h)))
   .exact .inr (.inr (.inr h))
  .refine List.nodup_cons.mpr ⟨fun z=>n1.1 ?_,nd3 n1.2 m2 m3⟩
   simp only[List.mem_append] at z |-;exact z.imp id fun z=>z.imp (m2 _) id
 | n::p,v,.tup as,L,bs,r,e,nd,hN=>by
  rw[Ar] at r;obtain⟨a0,vs,rfl,h0,hz0,hs⟩:=r;simp only[Il] at e;split at e
  case h_2=>cases e
  rename_i c hc;obtain⟨w,La,Lc,Lb,rfl,g1,g2,g3⟩:=Ap.splitAt hs hc;have n2:=List.nodup_append.mp nd;have n3:=List.nodup_append.mp n2.2.1;obtain⟨p1,ws,L1,k1,k2,k3,k4,k5,k6,k7,k8,k9⟩:=Ar.putP (p:=p) g2 e n3.1 fun q hq=>hN q (by simp[hq]);have ne:a0≠p1:=fun z=>by rw[z,k3] at h0; cases h0
  refine⟨p1,ws,L1,⟨a0,vs,w,rfl,.inr h0,g1,k1⟩,by simp[k2],k3,k4,k5,k6,k7,fun q hq=>by simp[k8 q hq],fun ws' bs' L1' r' hz' sub nd1=>?_⟩;obtain⟨Lc',m1,m2,m3⟩:=k9 ws' bs' L1' r' hz' sub nd1;refine⟨La++(Lc'++Lb),?_,?_,nd3 nd m2 m3⟩
  .simp only[Jj,hc]
   rw[Ar];refine⟨a0,vs,rfl,by rw[AB ne]; exact h0,hz0,g3 _ (fun q=>q=p1) _ _ (fun q z=>z ▸ hN p1 (by simp[k2])) (Dy k3) (fun q hq z=>?_) (fun q hq z=>?_) m1⟩
   .exact n2.2.2 q hq p1 (by simp[k2]) z
   .exact n3.2.2 p1 k2 q hq z.symm
  .intro q hq
   simp only[List.mem_append] at hq |-;rcases hq with h|h|h
   .exact .inl h
   .exact .inr (.inl (m2 q h))
   .exact .inr (.inr h)
 | n::p,v,.fz d,L,bs,r,e,nd,hN=>by simp[Il] at e
 | n::p,v,.scr d,L,bs,r,e,nd,hN=>by simp[Il] at e
 | n::p,v,.dic d,L,bs,r,e,nd,hN=>by simp[Il] at e
 | n::p,v,.dct d,L,bs,r,e,nd,hN=>by simp[Il] at e
 | n::p,v,.opq d o,L,bs,r,e,nd,hN=>by simp[Il] at e
def Rk{i:Nat}{p:List Nat}{st:Own}{a:A}{bs:List A}(h:Nh Z i p=some (st,a,bs)): Z[i]? = some (some (st,a))/\st≠.ro/\Il p a=some (.lst bs):=by
 unfold Nh at h;split at h
 .cases h
 .rename_i st' a' hs hne
  split at h
  .rename_i bs' e
   cases h;exact⟨hne,fun z=>hs z,e⟩
  .cases h
 .cases h
def Xq{i:Nat}{p:List Nat}{j:Int}{D:Ends}(h:tS K (Mo i p j) D σ H):NX (tBM K "list" Mw (UA K (OT i) p) (C3 (tC (.int j)) Hw)) D σ H:=by
 obtain⟨Z,O,fp,rl,fl,e,w⟩:=h;simp only[Mo,bind_eq_some_iff] at e;obtain⟨⟨st,a,bs⟩,e0,e⟩:=e;split at e
 case isFalse=>cases e
 rename_i hz;cases e;obtain⟨g,gst,gp⟩:=Rk e0;obtain⟨v,hv,r⟩:=rl.slot i _ _ g;have hN:∀q∈fp i,NN fp O q:=fun q hq=>.inl ⟨i,hq⟩;obtain⟨p1,ws,L1,k1,k2,k3,k4,k5,k6,k7,k8,k9⟩:=Ar.putP r gp (rl.nd i) hN;have l5:=k5.len;refine NG (v:=v) (fun Q' q'=>⟨v,hv,q'⟩) k1 ⟨.inl ⟨rfl,ws,.inl (.inl k3)⟩,p1,ws,.int j,rfl,rfl,k3,by rw[l5]; exact hz,?_⟩;have t1:Ap K (NN fp O) (upd H p1 (.lst (ws++[.int j]))) ws bs L1:=k5.tr (M:=fun b=>b=p1) (fun b z=>z ▸ hN p1 k2) (Dy k3) (fun b z=>.inl z) fun b hb z=>k6 (z ▸ hb);have t2:Ap K (NN fp O) (upd H p1 (.lst (ws++[.int j]))) (ws++[.int j]) (bs++[.fz (.int j)]) (L1++[]):=t1.app (by
  simp only[Ap];exact⟨[],[],rfl,by rw[Ar]; exact⟨rfl,.int j⟩,rfl⟩)
 obtain⟨L',m1,m2,m3⟩:=k9 (ws++[.int j]) (bs++[.fz (.int j)]) (L1++[]) t2 (by rw[List.length_append,l5]; exact hz) (fun q hq=>by simpa using hq) (by simpa using k7);refine w _ _ _ (rl.post.mut (a':=Jj p (.lst (bs++[.fz (.int j)])) a) (L':=L') g gst hv k2 k3 (fun q hq=>.inl (m2 q hq)) m3 ?_);exact m1.tr (M:=fun _=>False) (fun _ z=>z.elim) Kept.refl (fun b z=>.inl (Gy.mp z)) fun _ _ z=>z
end
section
variable{X:Cx}{a o e:Expr}{p pos apos cpos npos:Pos}{x:Str}
def JP(X:Cx)(o:Expr)(t:TE):Prop:=PE X o t
theorem RF(i:Nat)(hN:X.N[i]? = some x)(hv:Vis X.env.scope x)(hd:(x==("__debug__" : Str))=false)(hcd:(x==("__classdict__" : Str))=false):JP X (.Name x npos) (OT i):=Ms hN hv hd hcd
theorem RE{t:TE}{j:Nat}(n:Nat)(h:JP X a t):JP X (.Subscript a (.Constant (.int n) j p) pos) (tOp (rIx X.K) t (tC (.int n))):=Vi Az h OF fun _ _=>rfl
theorem RG(i:Nat)(pt:List Nat){j:Int}{k:Nat}(ho:JP X o (UA X.K (OT i) pt))(hbase:attributeBase o "append" X.env (eval o X.env)=eval o X.env)(hline:(apos.endLine==cpos.line)=true)(hw:swapsWith (.Call (.Attribute o "append" apos) [.Constant (.int j) k p] [] cpos) none pos.line X.env=pure false):JS X (.Expr (.Call (.Attribute o "append" apos) [.Constant (.int j) k p] [] cpos) pos) (Mo i pt j):=
 CA (Jp (Pr PySem.F.plainAttrs_list PySem.F.slot_list_append PySem.F.type_list_append GO ho (DP OF FO rfl) hbase rfl hline rfl rfl) hw) fun _ _ _ h=>Xq h
theorem SY{i:Nat}{pt:List Nat}{j:Int}{Z:Ro}{Q:Fl->Prop}{st:Own}{a:A}{bs:List A}(h:Nh Z i pt=some (st,a,bs))(hz:bs.length<LIM)(q:Q (.next (Z.set i (some (st,Jj pt (.lst (bs++[.fz (.int j)])) a))))):SV (Mo i pt j) Z Q:=
 ⟨_,by simp only[Mo,h,Option.bind_some,hz,if_true],q⟩
end
end J
end
section
namespace L2
open PySem PySem.Spec PyProof.Rows PySem.Builtin PySem.Builtin.Str
section
variable{prog:Program}{w:World}{A:Around}{E:Value->Shared->Prop}{s:Shared}{x y:PySem.Str}{t u:Tok}{Q:Value->Shared->Prop}
def Td(hy:(y.length==0)=false)(hsz:x.length+2<=sizeLine)(h:∀l k,l.map (·.1)=Txt.split x y->Q (.ref s.heap.objs.size) { s with heap:=s.heap.push { cls:=.type "list",data:=.seq (strValues l).toArray },toks:=k }):
  wpAny (model prog w) A (call (.builtin "str.split") [.str x t,.str y u]) Q E s:=by
 have hn:(partsBetween x (occurrences x y 0 x.length (x.length+1)) y.length).length<=sizeLine:=by
  have e1:=StrLaws.occ_length_le x y 0 x.length (x.length+1);rw[length_partsBetween]; omega
 cases h1:(decide (x.length<y.length) || decide (strKind x<strKind y))
 .cases hf:(occurrences x y 0 x.length (x.length+1)).isEmpty
  .refine call_meets F.slot_str_split (typeIs_str _ _ _) F.entry_str_split (F.args_str_split_2 _ _) (meets_str_split_sep x y t u h1 hy hf (by omega) hn) ?_
   show wants Q E _ { s with toks:=_,heap:=s.heap.push { cls:=.type "list",data:=.seq (strsFrom s.toks (partsBetween x (occurrences x y 0 x.length (x.length+1)) y.length)).toArray } };rw[strsFrom_eq];exact h (numbered s.toks _) _ ((numbered_texts _ _).trans ((if_neg (ne_true_of_eq_false h1)).trans (if_neg (ne_true_of_eq_false hf))).symm)
  .exact call_meets F.slot_str_split (typeIs_str _ _ _) F.entry_str_split (F.args_str_split_2 _ _) (meets_str_split_not_found x y t u h1 hy hf)
    (h [(x,t)] s.toks ((if_neg (ne_true_of_eq_false h1)).trans (if_pos hf)).symm)
 .exact call_meets F.slot_str_split (typeIs_str _ _ _) F.entry_str_split (F.args_str_split_2 _ _) (meets_str_split_cannot_occur x y t u h1)
   (h [(x,t)] s.toks (if_pos h1).symm)
end
section
variable{X:Cx}{a e:Expr}{ta te:TE}{apos cpos:Pos}
def OH:V->List V->Hp->VK->Prop:=fun x xs H Q=>∃z y,x=.str z/\xs=[.str y]/\(y.length==0)=false/\z.length+2<=sizeLine/\∀l,H l=none->Q (.ref l) (upd H l (.lst ((Txt.split z y).map V.str)))
theorem Kz:∀{l:List (PySem.Str×Tok)},Vals ((l.map (·.1)).map V.str) (strValues l)
 | []=>.nil
 | (z,t)::l=>.cons ⟨t,rfl⟩ (Kz (l:=l))
def RT:MtR X "str.split" OH:=by
 intro pins s σ H x xs v us Q I rx rv h;obtain⟨z,y,rfl,rfl,hy,hz,q⟩:=h;obtain⟨t,rfl⟩:=rx;obtain⟨u,rfl,ru⟩:=rv.one;obtain⟨t',rfl⟩:=ru;refine Td hy hz fun l k e=>?_;refine⟨.ref s.heap.objs.size,_,I.laid (t':=k) (o:=.lst ((Txt.split z y).map V.str)) (fun b o hb=>?_) (Nat.le_refl _) ⟨?_,strValues l,0,by rw[<- e]; exact Kz,?_⟩,rfl,q _ (I.hok.fresh (Nat.le_refl _))⟩
 .rw[Heap.get?_push_ne]
  .exact hb
  .intro z; have:=Heap.lt_size hb; lia
 .rw[List.length_map]
  exact Nat.le_trans (split_le z y) hz
 .exact Heap.get?_push_size _ rfl
theorem Sf(hbase:attributeBase a "split" X.env (eval a X.env)=eval a X.env)(hline:(apos.endLine==cpos.line)=true)(hs:starEach [e] X.env=[(false,eval e X.env)])(ha:PE X a ta)(he:PE X e te):
  PE X (.Call (.Attribute a "split" apos) [e] [] cpos) (tBM X.K "str" OH ta (C3 te Hw)):=
 Pr F.plainAttrs_str F.slot_str_split F.type_str_split RT ha (DP he FO hs) hbase (by rw[hs]; rfl) hline hs rfl
def Vp:List V->Hp->VK->Prop:=fun xs H Q=>∃i:Int,xs=[.int i]/\i.natAbs.log2<1920/\Q (.str (PySem.Str.ofString (toString i))) H
def Ic:CF X (.type "str") Vp:=by
 intro pins s σ H xs us Q I r h;obtain⟨i,rfl,hi,q⟩:=h;obtain⟨u,rfl,t,rfl⟩:=r.one;exact PySem.P.str_of_int hi ⟨.str _,H,I.tok _,⟨_,rfl⟩,q⟩
def Vl:List V->Hp->VK->Prop:=fun xs H Q=>∃z n,xs=[.str z]/\z.length<=640/\PySem.intText? z=some n/\Q (.int n) H
def Qb:CF X (.type "int") Vl:=by
 intro pins s σ H xs us Q I r h;obtain⟨z,n,rfl,hz,hn,q⟩:=h;obtain⟨u,rfl,t,rfl⟩:=r.one;exact PySem.W.KIN.call_text hn hz ⟨.int _,H,I.tok _,⟨_,rfl⟩,q⟩
end
end L2
namespace J
open PySem PySem.Spec PyProof.Rows L2
section
variable{K:Frag}
def CB(zs:List PySem.Str):List D:=zs.map D.str
def QM(z:PySem.Str):List A->Option A:=on1 fun q1=>(C2 q1).bind fun y=>if (y.length==0)=false/\z.length+2<=sizeLine then some (.lst ((CB (Txt.split z y)).map A.fz)) else none
theorem Lo{N:Addr->Prop}{H:Hp}:∀{zs:List PySem.Str},(∀z∈zs,z.length<=sizeLine)->Ay N H (zs.map V.str) (CB zs)
 | [],_=>trivial
 | z::zs,h=>⟨.str _ (h z (by simp)),Lo (zs:=zs) fun y hy=>h y (by simp[hy])⟩
def Ww(z:PySem.Str)(hz:z.length<=sizeLine):OpN K (QM z) fun xs H Q=>OH (.str z) xs H Q:=by
 intro N H xs as b Q hs e k
 replace e:=En e
 obtain⟨q1,rfl,e⟩:=e
 replace e:=bind_eq_some_iff.mp e
 obtain⟨y,eq1,e⟩:=e;cases Ds eq1;clear eq1;split at e
 .rename_i h0
  cases e;obtain⟨x,L1,rfl,h1⟩:=Dv hs;obtain⟨rfl,_⟩:=Eb h1;refine⟨z,y,rfl,rfl,h0.1,h0.2,fun l hl=>k _ _ (FN hl ?_ (Lo fun a ha=>?_))⟩
  .rw[List.length_map]; exact Nat.le_trans (split_le z y) h0.2
  .exact Nat.le_trans (part_short ha) hz
 .cases e
def G1(sep:PySem.Str):List A->Option A:=on1 fun b=>(CS b).bind fun ds=>(HY ds).bind fun zs=>if (zs.map (·.length)).sum+zs.length*sep.length<=16777216 then some (.fz (.str (Txt.join sep zs))) else none
def R4(sep:PySem.Str)(hz:sep.length<=sizeLine):OpN K (G1 sep) fun xs H Q=>rJoin K (.str sep) xs H Q:=by
 intro N H xs as b Q hs e k
 replace e:=En e
 obtain⟨b,rfl,e⟩:=e;simp only[bind_eq_some_iff] at e;obtain⟨ds,e1,zs,e2,e3⟩:=e;split at e3
 .rename_i hl
  cases e3;obtain⟨x,L1,rfl,h1⟩:=Dv hs;obtain⟨p,vs,rfl,hp,hz',q⟩:=DN h1 e1;cases UU q e2;refine⟨_,p,zs,rfl,rfl,.inl (.inl hp),hl,k _ _ (Jo ?_)⟩;show(Builtin.Str.glued sep zs).length<=sizeLine;rw[StrLaws.glued_eq_join];exact Nat.le_trans (StrLaws.join_length_le sep zs) hl
 .cases e3
def strN:List A->Option A:=on1 fun a=>(Bv a).bind fun i=>if 0<=i/\i<1000000000 then some (.fz (.str (PySem.Str.ofString (toString i)))) else none
def Mk:OpN K strN Vp:=by
 intro N H xs as b Q hs e k
 replace e:=En e
 obtain⟨a,rfl,e⟩:=e;simp only[bind_eq_some_iff] at e;obtain⟨i,e1,e2⟩:=e;cases Bn e1;split at e2
 .rename_i h0
  cases e2;obtain⟨x,L1,rfl,h1⟩:=Dv hs;cases Bz h1;refine⟨i,rfl,?_,k _ _ (Jo ?_)⟩
  .have h2:i.natAbs<2 ^ 30:=by omega
   have h3:i.natAbs.log2<1920:=by
    by_cases h4:i.natAbs=0
    .rw[h4]; decide
    .exact Nat.lt_trans ((Nat.log2_lt h4).mpr h2) (by decide)
   exact h3
  .exact Nat.le_trans (PySem.W.KT.len_num h0.1 (by omega)) (by decide)
 .cases e2
def TK:List A->Option A:=on1 fun a=>(C2 a).bind fun z=>if z.length<=640 then (PySem.intText? z).map fun n=>.fz (.int n) else none
def Ui:OpN K TK Vl:=by
 intro N H xs as b Q hs e k
 replace e:=En e
 obtain⟨a,rfl,e⟩:=e;simp only[bind_eq_some_iff] at e;obtain⟨z,e1,e2⟩:=e;cases Ds e1;split at e2
 .rename_i h0
  simp only[map_eq_some_iff] at e2;obtain⟨n,e2,rfl⟩:=e2;obtain⟨x,L1,rfl,h1⟩:=Dv hs;obtain⟨rfl,_⟩:=Eb h1;exact⟨z,n,rfl,h0,e2,k _ _ DO⟩
 .cases e2
end
section
variable{X:Cx}{a e:Expr}{m1 m2:ME}{apos cpos:Pos}
def Nk(hbase:attributeBase a "split" X.env (eval a X.env)=eval a X.env)(hline:(apos.endLine==cpos.line)=true)(hs:starEach [e] X.env=[(false,eval e X.env)])(ha:JE X a m1)(he:JE X e m2):
  JE X (.Call (.Attribute a "split" apos) [e] [] cpos) (GV QM m1 (m1L m2)):=by
 refine AM (Sf hbase hline hs ha he) fun σ H Q h=>?_;exact tE.mono (S4 Ww h) fun x H1 ⟨ty,q⟩=>⟨ty,GU q |> fun q=>tE.mono q fun y H2 q=>Kw q⟩
def Gr(hbase:attributeBase a "join" X.env (eval a X.env)=eval a X.env)(hline:(apos.endLine==cpos.line)=true)(B:Blt X.mg X.K)(hs:starEach [e] X.env=[(false,eval e X.env)])(ha:JE X a m1)(he:JE X e m2):
  JE X (.Call (.Attribute a "join" apos) [e] [] cpos) (GV G1 m1 (m1L m2)):=by
 refine AM (Ut rfl B hbase hline hs ha he) fun σ H Q h=>?_;exact tE.mono (S4 R4 h) fun x H1 ⟨ty,q⟩=>⟨ty,GU q |> fun q=>tE.mono q fun y H2 q=>Kw q⟩
end
end J
end
section
namespace J
open PySem PySem.Spec PyProof.Rows L2
section
variable{X:Cx}{m:ME}{mt:MT}{mi:MI}{x:Str}{pos:Pos}
def TY(N':List Str){scope:Scope}{iter elt:Expr}{ifs:List Expr}{px:Pos}(hid:JM N' X.N X.env.scope=true)(hok:B7 [x] N' scope X.env.scope=true)(hc:X.calm=true)(hn:N'.Nodup)(hx:scope.names.lookup x=some .local)(hs:∀z,foldedSetIterable iter X.env z=pure z)(hi:JI X (.Name x px) iter mi)(ht:JTc (withN X N') [x] scope ifs mt)(he:JEc (withN X N') [x] scope elt m):
  JE X (.ListComp elt [⟨.Name x px,iter,ifs,0⟩] scope pos) (Lf mi 0 mt m):=by
 have hnx:∀y∈N',x≠y:=fun y hy z=>by
  simp only[B7,Bool.and_eq_true,List.all_eq_true] at hok;have:=hok.2 x (by simp);rw[z] at this;simp[hy] at this
 exact AM (Se (te:=tE X.K m) hid hc hok hi (fun C s H fp pins=>GG rfl (List.nodup_cons.mpr ⟨fun z=>hnx x z rfl,hn⟩) (lookup_relabel_local hx)) ht (fun C s H fp pins=>he C s H fp pins) hs) fun _ _ _ h=>S2 (pat:=0) h
end
def GS0(K:Frag)(x z:Str):Prop:=z.length<=sizeLine/\∃t,PySem.W.nsIn K mainGlobals x=some (some (.str z t))
def XZ{K:Frag}{h:Heap}{mg:Str->Option Value}{x z:Str}(X:K.In h)(G:h.Ns mainGlobals mg)(e:GS0 K x z):GStr mg x z:=by
 obtain⟨hz,t,e⟩:=e;exact⟨hz,t,PySem.W.mg_of X G e⟩
end J
end
section
namespace St
def hit(f:Nat->List Int)(bs:List Int)(c:Nat):Bool:=(f c).any fun x=>decide (x∈bs)
def fs(f:Nat->List Int):List Int->List Nat->List Nat
 | _,[]=>[]
 | bs,c::w=>if hit f bs c then fs f (bs++f c) w else c::fs f (bs++f c) w
def rs(f:Nat->List Int):List Int->List Nat->List Nat
 | _,[]=>[]
 | bs,c::w=>if hit f bs c then c::rs f (bs++f c) w else rs f (bs++f c) w
def srt(cs:List Nat):List Nat:=cs.mergeSort fun a b=>decide (a<=b)
variable{f:Nat->List Int}
def pl(f:Nat->List Int):List Int->Nat->List Nat->List Nat
 | _,_,[]=>[]
 | bs,k,c::w=>if hit f bs c then pl f (bs++f c) (k+1) w else k::pl f (bs++f c) (k+1) w
end St
end
section
namespace St
variable{f:Nat->List Int}
def lst(cs:List Nat):Nat:=(srt cs).headD 0
end St
end
section
namespace St
variable{f:Nat->List Int}
def dec(k:Nat->Nat)(c:Nat):Nat->Nat:=fun d=>if d=c then k d-1 else k d
def wi:(Nat->Nat)->List Nat->List Nat
 | _,[]=>[]
 | k,c::w=>if 0<k c then c::wi (dec k c) w else wi k w
def pt(o:List Nat):List Nat->List Nat->List Nat->List Nat×List Nat
 | ws,bs,[]=>(ws,bs)
 | ws,bs,c::w=>if ws.count c<o.count c then pt o (ws++[c]) bs w else pt o ws (bs++[c]) w
end St
end
section
namespace St
open PySem
def O2(x y:Str):(x++y).cps.toList=x.cps.toList++y.cps.toList:=by
 show(x.cps++y.cps).toList=_;simp
theorem Q4{c:Nat}:∀{p q X Y:List Nat},c∉p->c∉q->p++c::X=q++c::Y->p=q/\X=Y
 | [],[],X,Y,_,_,e=>⟨rfl,by simpa using e⟩
 | [],b::q,X,Y,_,hq,e=>by
  simp only[List.nil_append,List.cons_append,List.cons.injEq] at e;exact absurd (by simp[e.1]) hq
 | a::p,[],X,Y,hp,_,e=>by
  simp only[List.nil_append,List.cons_append,List.cons.injEq] at e;exact absurd (by simp[e.1]) hp
 | a::p,b::q,X,Y,hp,hq,e=>by
  simp only[List.cons_append,List.cons.injEq] at e;obtain⟨h1,h2⟩:=Q4 (p:=p) (q:=q) (fun z=>hp (by simp[z])) (fun z=>hq (by simp[z])) e.2;exact⟨by rw[e.1,h1],h2⟩
def PQ{x y:Str}(h:x.cps.toList=y.cps.toList):x=y:=by
 cases x; cases y;simp only[Str.mk.injEq];exact Array.toList_inj.mp h
def Gu(c:Nat)(x y:Str)(r:List Str):(Str.join ⟨#[c]⟩ (x::y::r)).cps.toList=x.cps.toList++c::(Str.join ⟨#[c]⟩ (y::r)).cps.toList:=by
 show(x++(⟨#[c]⟩:Str)++Str.join ⟨#[c]⟩ (y::r)).cps.toList=_;rw[O2,O2];simp
theorem Nl{c:Nat}:∀{ps qs:List Str},ps≠[]->qs≠[]->(∀p∈ps,c∉p.cps.toList)->(∀q∈qs,c∉q.cps.toList)->Str.join ⟨#[c]⟩ ps=Str.join ⟨#[c]⟩ qs->ps=qs
 | [],_,h,_,_,_,_=>absurd rfl h
 | _::_,[],_,h,_,_,_=>absurd rfl h
 | [p],[q],_,_,_,_,e=>by
  have:p=q:=e;rw[this]
 | [p],q::q2::r,_,_,hp,_,e=>by
  have e1:p.cps.toList=(Str.join ⟨#[c]⟩ (q::q2::r)).cps.toList:=congrArg (fun z=>z.cps.toList) e;rw[Gu] at e1;exact absurd (by rw[e1]; simp) (hp p (by simp))
 | p::p2::r,[q],_,_,_,hq,e=>by
  have e1:(Str.join ⟨#[c]⟩ (p::p2::r)).cps.toList=q.cps.toList:=congrArg (fun z=>z.cps.toList) e;rw[Gu] at e1;exact absurd (by rw[<- e1]; simp) (hq q (by simp))
 | p::p2::r,q::q2::r2,_,_,hp,hq,e=>by
  have e1:(Str.join ⟨#[c]⟩ (p::p2::r)).cps.toList=(Str.join ⟨#[c]⟩ (q::q2::r2)).cps.toList:=congrArg (fun z=>z.cps.toList) e;rw[Gu,Gu] at e1;obtain⟨h1,h2⟩:=Q4 (hp p (by simp)) (hq q (by simp)) e1;have h3:=Nl (ps:=p2::r) (qs:=q2::r2) (by simp) (by simp) (fun x hx=>hp x (by simp only[List.mem_cons] at hx |-; exact .inr hx)) (fun x hx=>hq x (by simp only[List.mem_cons] at hx |-; exact .inr hx)) (PQ h2);rw[PQ h1,h3]
def NS{c:Nat}{ps:List Str}(ne:ps≠[])(fr:∀p∈ps,c∉p.cps.toList):Txt.split (Txt.join ⟨#[c]⟩ ps) ⟨#[c]⟩=ps:=by
 have e:Txt.join ⟨#[c]⟩ ps=Str.join ⟨#[c]⟩ ps:=StrLaws.glued_eq_join _ _;rw[e];refine Nl (fun z=>?_) ne (StrLaws.split_free _ c) fr (StrLaws.join_split _ _);have:=PyProof.Rows.split_pos (Str.join ⟨#[c]⟩ ps) ⟨#[c]⟩;rw[z] at this;exact absurd this (by decide)
theorem mem_join{c x:Nat}:∀{ps:List Str},x∈(Str.join ⟨#[c]⟩ ps).cps.toList->x=c\/∃p∈ps,x∈p.cps.toList
 | [],h=>by
  have:(Str.join ⟨#[c]⟩ []).cps.toList=[]:=(by decide +kernel:(("" : Str)).cps.toList=[]);rw[this] at h;cases h
 | [p],h=>.inr ⟨p,by simp,h⟩
 | p::q::r,h=>by
  rw[Gu] at h;simp only[List.mem_append,List.mem_cons] at h;rcases h with h|h|h
  .exact .inr ⟨p,by simp,h⟩
  .exact .inl h
  .rcases mem_join (ps:=q::r) h with h|⟨z,hz,hx⟩
   .exact .inl h
   .exact .inr ⟨z,by simp only[List.mem_cons] at hz |-; exact .inr hz,hx⟩
theorem N1(s:Str)(ps:List Str):Txt.join s ps=Str.join s ps:=StrLaws.glued_eq_join _ _
def SX{ps:List Str}{b:Nat}(h:∀p∈ps,p.length<=b):(ps.map (·.length)).sum<=ps.length*b:=by
 induction ps with
 | nil=>simp
 | cons p ps ih =>
  have h1:=h p (by simp);have h2:=ih fun q hq=>h q (by simp[hq]);simp only[List.map_cons,List.sum_cons,List.length_cons,Nat.succ_mul];omega
def join_le{c b:Nat}{ps:List Str}(h:∀p∈ps,p.length<=b):(Txt.join ⟨#[c]⟩ ps).length<=ps.length*(b+1):=by
 rw[N1];refine Nat.le_trans (StrLaws.join_length_le _ _) ?_;have:=SX h;show _+ps.length*1<=_;rw[Nat.mul_add];omega
end St
end
section
namespace Gk62
open PySem PySem.Spec PyProof.Rows L2 J
def top(i:Nat):Stmt:=PySem.Challenge.pw_handsapart_k62_machines_written.main.body.getD i (.Pass ⟨0,0,0,0⟩)
def EX:MS:=retS (andM (opM (CQ isTup) (m1L (Ad 0))) (opM eqA (m2L (opM BX (Ab (Ad 0) Ai)) (Ag (.int 2)))))
def Bq:Fn:=fnM 1 1 EX
def HB:MS:=retS (andM (opM (CQ isInt) (m1L (Ad 0))) (notM (opM (CQ isBool) (m1L (Ad 0)))))
def CW:Fn:=fnM 1 1 HB
def DR:MS:=retS (andM (Ao CW (Ab (Ad 0) Ai)) (Gh leA leA (Ag (.int 2)) (Ad 0) (Ag (.int 4))))
def Be:Fn:=fnM 1 1 DR
def Er:MS:=retS (andM (Ao CW (Ab (Ad 0) Ai)) (Gh leA ltA (Ag (.int 0)) (Ad 0) (Ad 1)))
def Bf:Fn:=fnM 2 2 Er
def BA:MS:=retS (opM El (Ab (Bh (Cr (Ad 0)) 0 CO (Ao Bf (Ab (Ad 0) (Ab (Ad 2) Ai)))) Ai))
def BL:Fn:=fnM 2 2 BA
def AD:MS:=retS (andM (opM (CQ Dc) (m1L (Ad 0))) (Ao BL (Ab (Ad 0) (Ab (Ad 1) Ai))))
def Ax:Fn:=fnM 2 2 AD
def A8:MS:=AA (ifS (BR (AJ (Ao Ax (Ab (Ad 0) (Ab (Ad 1) Ai))))) (retS (Ag (.bl false))) Bc) (retS (opM El (Ab (Bh (CP (opM HZ (m2L (opM BX (Ab (Ad 0) Ai)) (Ag (.int 1))))) 0 CO (opM ltA (m2L (opM ixA (m2L (Ad 1) (Ad 0))) (opM ixA (m2L (Ad 1) (opM Bk (m2L (Ad 0) (Ag (.int 1))))))))) Ai)))
def AR:Fn:=fnM 2 2 A8
def Es:MS:=retS (andM (opM (CQ isStr) (m1L (Ad 0))) (andM (opM eqA (m2L (opM BX (Ab (Ad 0) Ai)) (Ag (.int 1)))) (Gh leA leA (Ag (.str (Str.ofString "a"))) (Ad 0) (Ag (.str (Str.ofString "z"))))))
def Bg:Fn:=fnM 1 1 Es
def BF:MS:=AA (ifS (orT (BR (AJ (Ao Bq (Ab (Ad 1) Ai)))) (BR (AJ (Ao Bg (Ab (opM ixA (m2L (Ad 1) (Ag (.int 0)))) Ai))))) (retS (Ag (.bl false))) Bc) (retS (andM (Ao AR (Ab (opM ixA (m2L (Ad 1) (Ag (.int 1)))) (Ab (Ad 0) Ai))) (opM gtA (m2L (opM BX (Ab (opM ixA (m2L (Ad 1) (Ag (.int 1)))) Ai)) (Ag (.int 0))))))
def Bm:Fn:=fnM 2 2 BF
def A6:MS:=AA (ifS (orT (BR (AJ (opM (CQ Dc) (m1L (Ad 1))))) (BR (AJ (Gh leA leA (Ag (.int 1)) (opM BX (Ab (Ad 1) Ai)) (Ag (.int 6)))))) (retS (Ag (.bl false))) Bc) (AA (ifS (BR (AJ (opM El (Ab (Bh (Cr (Ad 1)) 0 CO (Ao Bm (Ab (Ad 1) (Ab (Ad 0) Ai)))) Ai)))) (retS (Ag (.bl false))) Bc) (retS (opM El (Ab (Bh (CP (opM HZ (m2L (opM BX (Ab (Ad 1) Ai)) (Ag (.int 1))))) 0 CO (opM ltA (m2L (opM ixA (m2L (opM ixA (m2L (Ad 2) (Ad 0))) (Ag (.int 0)))) (opM ixA (m2L (opM ixA (m2L (Ad 2) (opM Bk (m2L (Ad 0) (Ag (.int 1)))))) (Ag (.int 0))))))) Ai))))
def CV:Fn:=fnM 2 2 A6
def Ce:MS:=AA (ifS (BR (AJ (Ao Bq (Ab (Ad 0) Ai)))) (retS (Ag (.bl false))) Bc) (retS (andM (Ao Be (Ab (opM ixA (m2L (Ad 0) (Ag (.int 0)))) Ai)) (Ao CV (Ab (opM ixA (m2L (Ad 0) (Ag (.int 0)))) (Ab (opM ixA (m2L (Ad 0) (Ag (.int 1)))) Ai)))))
def Ct:Fn:=fnM 1 1 Ce
def Gm:MS:=ifS (BR (AJ (Ao Ct (Ab (Ad 0) Ai)))) (Fc) Bc
def BH:Fn:=fnM 1 1 Gm
def A9:MS:=retS (andM (Ao Ax (Ab (Ad 2) (Ab (Ad 1) Ai))) (opM eqA (m2L (opM BX (Ab (Ad 2) Ai)) (Ad 0))))
def A1:Fn:=fnM 3 3 A9
def BE:MS:=AA (ifS (orT (BR (AJ (opM (CQ Dc) (m1L (Ad 1))))) (BR (AJ (Gh leA leA (Ag (.int 1)) (opM BX (Ab (Ad 1) Ai)) (Ag (.int 30)))))) (retS (Ag (.bl false))) Bc) (retS (opM El (Ab (Bh (Cr (Ad 1)) 0 CO (Ao A1 (Ab (Ad 1) (Ab (opM BX (Ab (Ad 2) Ai)) (Ab (Ad 0) Ai))))) Ai)))
def Cz:Fn:=fnM 2 2 BE
def Bu:MS:=AA (F9 (Ao BH (Ab (Ad 0) Ai))) (AA (ifS (orT (BR (AJ (Ao Bq (Ab (Ad 1) Ai)))) (BR (AJ (Ao Cz (Ab (opM BX (Ab (opM ixA (m2L (Ad 0) (Ag (.int 1)))) Ai)) (Ab (opM ixA (m2L (Ad 1) (Ag (.int 0)))) Ai)))))) (retS (Ag (.bl false))) Bc) (retS (Ao AR (Ab (opM ixA (m2L (Ad 1) (Ag (.int 1)))) (Ab (opM BX (Ab (opM ixA (m2L (Ad 1) (Ag (.int 0)))) Ai)) Ai)))))
def Ci:Fn:=fnM 2 2 Bu
def DG:MS:=AA (ifS (AJ (opM geA (m2L (opM QW (Ab (Ad 0) Ai)) (opM ND (m2L (Ag (.int 10)) (Ag (.int 18))))))) (retS (lstM (Ab (Ae (opM QW (Ab (Ad 0) Ai))) (Ab (Ae (Ag (.int 0))) Ai)))) Bc) (retS (lstM (Ab (Ae (opM L8 (m2L (Ad 0) (Ag (.int 2147483647))))) (Ab (Ae (Ag (.int 1))) Ai))))
def Eg:Fn:=fnM 1 1 DG
def Dp:MS:=AA (ifS (AJ (opM eqA (m2L (opM ixA (m2L (Ad 0) (Ag (.int 1)))) (Ag (.int 0))))) (AA (A5 2 (opM L8 (m2L (opM ixA (m2L (Ad 0) (Ag (.int 0)))) (Ad 1)))) (AA (NH 0 (Ag (.int 0)) (opM Nd (m2L (opM ixA (m2L (Ad 0) (Ag (.int 0)))) (Ad 1)))) (retS (Ad 2)))) Bc) (AA (NH 0 (Ag (.int 0)) (opM L8 (m2L (opM Bk (m2L (opM Bk (m2L (opM L9 (m2L (opM ixA (m2L (Ad 0) (Ag (.int 0)))) (Ag (.int 48271)))) (opM L9 (m2L (opM L9 (m2L (Ag (.int 7919)) (opM ixA (m2L (Ad 0) (Ag (.int 1)))))) (opM ixA (m2L (Ad 0) (Ag (.int 1)))))))) (Ag (.int 17)))) (Ag (.int 2147483647))))) (AA (NH 0 (Ag (.int 1)) (opM Bk (m2L (opM ixA (m2L (Ad 0) (Ag (.int 1)))) (Ag (.int 1))))) (retS (opM L8 (m2L (opM Nd (m2L (opM L8 (m2L (opM L9 (m2L (opM ixA (m2L (Ad 0) (Ag (.int 0)))) (Ag (.int 69621)))) (Ag (.int 2147483629)))) (Ag (.int 5)))) (Ad 1))))))
def Aq:Fn:=fnM 2 3 Dp
def EI:MS:=AA (A5 1 (opM Bk (m2L (Ag (.int 2)) (Ao Aq (Ab (Ad 0) (Ab (Ag (.int 3)) Ai)))))) (AA (A5 2 (opM Bk (m2L (Ag (.int 1)) (Ao Aq (Ab (Ad 0) (Ab (Ag (.int 6)) Ai)))))) (AA (A5 3 (Ao Aq (Ab (Ad 0) (Ab (Ag (.int 2)) Ai)))) (AA (A5 4 (lstM Ai)) (AA (A5 5 (Ag (.int 0))) (AA (KH [6] true (CP (Ad 2)) (AA (A5 5 (opM Bk (m2L (Ad 5) (Ao Aq (Ab (Ad 0) (Ab (opM HZ (m2L (opM Bk (m2L (opM HZ (m2L (Ag (.int 27)) (Ad 2))) (Ad 6))) (Ad 5))) Ai)))))) (AA (A5 7 (opM Bk (m2L (Ag (.int 1)) (Ao Aq (Ab (Ad 0) (Ab (opM HZ (m2L (opM Ks (m2L (Ag (.int 1)) (Ad 1))) (Ag (.int 1)))) Ai)))))) (AA (ifS (AJ (opM eqA (m2L (Ad 3) (Ag (.int 1))))) (A5 7 (opM Tr (m2L (opM Ks (m2L (Ag (.int 1)) (Ao Aq (Ab (Ad 0) (Ab (Ad 1) Ai))))) (opM Ks (m2L (Ag (.int 1)) (Ao Aq (Ab (Ad 0) (Ab (Ad 1) Ai)))))))) Bc) (AA (IX 4 (CD (Ab (Ae (opM ixA (m2L (Ag (.str (Str.ofString "abcdefghijklmnopqrstuvwxyz"))) (Ad 5)))) (Ab (Ae (Bh (CP (Ad 1)) 0 (AJ (opM eqA (m2L (opM K4 (m2L (opM MG (m2L (Ad 8) (Ad 0))) (Ag (.int 1)))) (Ag (.int 1))))) (Ad 0))) Ai)))) (A5 5 (opM Bk (m2L (Ad 5) (Ag (.int 1)))))))))) (retS (CD (Ab (Ae (Ad 1)) (Ab (Ae (Ad 4)) Ai)))))))))
def CJ:Fn:=fnM 1 8 EI
def D0:MS:=AA (A5 3 (opM Bk (m2L (Ag (.int 1)) (Ao Aq (Ab (Ad 0) (Ab (Ad 2) Ai)))))) (AA (A5 4 (lstM Ai)) (AA (KH [5] true (CP (Ad 3)) (AA (A5 6 (lstM Ai)) (AA (KH [7] true (Cr (opM ixA (m2L (Ad 1) (Ag (.int 1))))) (IX 6 (Ao Aq (Ab (Ad 0) (Ab (Ad 3) Ai))))) (IX 4 (Ad 6))))) (AA (A5 8 (Ao Aq (Ab (Ad 0) (Ab (opM Ks (m2L (Ag (.int 1)) (Ad 3))) Ai)))) (retS (CD (Ab (Ae (Ad 4)) (Ab (Ae (Bh (CP (Ad 3)) 0 (AJ (opM eqA (m2L (opM K4 (m2L (opM MG (m2L (Ad 9) (Ad 0))) (Ag (.int 1)))) (Ag (.int 1))))) (Ad 0))) Ai)))))))
def B8:Fn:=fnM 3 9 D0
def CL:MS:=retS (CD (Ab (Ae (Bh (Cr (opM ixA (m2L (Ad 0) (Ag (.int 0))))) 0 CO (opM Ll (Ab (Ad 0) Ai)))) (Ab (Ae (opM Ll (Ab (opM ixA (m2L (Ad 0) (Ag (.int 1)))) Ai))) Ai)))
def Br:Fn:=fnM 1 1 CL
def CM:MS:=AA (A5 1 (Bh (Cr (opM ixA (m2L (Ad 0) (Ag (.int 0))))) 0 CO (GV G1 (Ag (.str (Str.ofString " "))) (m1L (opM Bk (m2L (lstM (Ab (Ae (Ag (.str (Str.ofString "room")))) Ai)) (Bh (Cr (Ad 0)) 0 CO (opM strN (Ab (Ad 0) Ai))))))))) (retS (GV G1 (Ag (.str (Str.ofString "\n"))) (m1L (opM Bk (m2L (Ad 1) (lstM (Ab (Ae (GV G1 (Ag (.str (Str.ofString " "))) (m1L (opM Bk (m2L (lstM (Ab (Ae (Ag (.str (Str.ofString "good")))) Ai)) (Bh (Cr (opM ixA (m2L (Ad 0) (Ag (.int 1))))) 0 CO (opM strN (Ab (Ad 0) Ai)))))))) Ai)))))))
def BK:Fn:=fnM 1 2 CM
def D3:MS:=ifS (BR (AJ (Ad 0))) (Fc) Bc
def BP:Fn:=fnM 1 1 D3
def DI:MS:=AA (F9 (Ao BP (Ab (opM (CQ isStr) (m1L (Ad 0))) Ai))) (retS (Bh (Cr (GV QM (Ad 0) (m1L (Ag (.str (Str.ofString "\n")))))) 0 CO (GV QM (Ad 0) (m1L (Ag (.str (Str.ofString " ")))))))
def C9:Fn:=fnM 1 1 DI
def D2:MS:=ifS (BR (AJ (Ao Ci (Ab (Ad 0) (Ab (Ad 1) Ai))))) (Fc) Bc
def B9:Fn:=fnM 2 2 D2
def G5:MS:=AA (ifS (orT (AJ (opM eqA (m2L (Ad 0) (Ag (.str (Str.ofString "")))))) (BR (AJ (opM El (Ab (Bh (NU (Ad 0)) 0 CO (opM (inA false) (m2L (Ad 0) (Ag (.str (Str.ofString "0123456789")))))) Ai))))) (retS (Ag (.bl false))) Bc) (retS (orM (opM eqA (m2L (Ad 0) (Ag (.str (Str.ofString "0"))))) (opM neA (m2L (opM ixA (m2L (Ad 0) (Ag (.int 0)))) (Ag (.str (Str.ofString "0")))))))
def BN:Fn:=fnM 1 1 G5
def Cy:MS:=retS (andM (opM eqA (m2L (opM ixA (m2L (Ad 1) (Ag (.int 0)))) (Ad 0))) (opM El (Ab (Bh (Cr (opM HN (m2L (Ad 1) (Ag (.int 1))))) 0 CO (Ao BN (Ab (Ad 0) Ai))) Ai)))
def BB:Fn:=fnM 2 2 Cy
def Dt:MS:=retS (Bh (Cr (opM HN (m2L (Ad 0) (Ag (.int 1))))) 0 CO (opM TK (Ab (Ad 0) Ai)))
def Cf:Fn:=fnM 1 1 Dt
def D4:MS:=AA (F9 (Ao BH (Ab (Ad 0) Ai))) (AA (A5 2 (Ao C9 (Ab (Ad 1) Ai))) (AA (F9 (Ao BP (Ab (Ao BB (Ab (Ag (.str (Str.ofString "good"))) (Ab (opM ixA (m2L (Ad 2) (opM Hg (m1L (Ag (.int 1)))))) Ai))) Ai))) (AA (KH [3] true (Cr (opM Gv (m2L (Ad 2) (opM Hg (m1L (Ag (.int 1))))))) (F9 (Ao BP (Ab (Ao BB (Ab (Ag (.str (Str.ofString "room"))) (Ab (Ad 3) Ai))) Ai)))) (AA (A5 4 (Jk (Ab (Lf (Cr (opM Gv (m2L (Ad 2) (opM Hg (m1L (Ag (.int 1))))))) 0 CO (Ao Cf (Ab (Ad 0) Ai))) (Ab (Ao Cf (Ab (opM ixA (m2L (Ad 2) (opM Hg (m1L (Ag (.int 1)))))) Ai)) Ai)))) (AA (F9 (GY B9 (Ab (Ad 0) (Ab (Ad 4) Ai)))) (retS (Ad 4)))))))
def BQ:Fn:=fnM 2 5 D4
def Dk:MS:=AA (K0 [2,3] (Ad 1)) (AA (A5 4 (opM ixA (m2L (lstM (Ab (Ae (Ag .non)) (Ab (Ae (Ag (.bl true))) (Ab (Ae (Ag (.int 0))) (Ab (Ae (Ag (.str (Str.ofString "")))) (Ab (Ae (lstM Ai)) (Ab (Ae (CD Ai)) (Ab (Ae (opM ND (m2L (Ag (.int 10)) (Ag (.int 39))))) (Ab (Ae (opM Hg (m1L (Ag (.int 1))))) (Ab (Ae (Ag (.str (Str.ofString "a")))) (Ab (Ae (lstM (Ab (Ae (Ag (.int 0))) Ai))) (Ab (Ae (CD (Ab (Ae (Ag (.int 0))) Ai))) Ai)))))))))))) (Ao Aq (Ab (Ad 0) (Ab (Ag (.int 11)) Ai)))))) (AA (A5 5 (Ao Aq (Ab (Ad 0) (Ab (Ag (.int 10)) Ai)))) (AA (A5 6 (Ao Aq (Ab (Ad 0) (Ab (opM BX (Ab (Ad 2) Ai)) Ai)))) (AA (A5 7 (Ao Aq (Ab (Ad 0) (Ab (opM BX (Ab (opM ixA (m2L (Ad 2) (Ad 6))) Ai)) Ai)))) (AA (A5 8 (Ao Aq (Ab (Ad 0) (Ab (Ag (.int 7)) Ai)))) (AA (A5 9 (opM ixA (m2L (Ad 2) (Ad 6)))) (AA (ifS (AJ (opM ltA (m2L (Ad 5) (Ag (.int 3))))) (retS (opM ixA (m2L (lstM (Ab (Ae (Ad 4)) (Ab (Ae (lstM (Ab (Ae (Ad 2)) (Ab (Ae (Ad 3)) Ai)))) (Ab (Ae (CD (Ab (Ae (Ad 2)) (Ab (Ae (Ad 3)) (Ab (Ae (Ad 4)) Ai))))) Ai)))) (Ad 5)))) Bc) (AA (ifS (AJ (opM ltA (m2L (Ad 5) (Ag (.int 6))))) (retS (opM ixA (m2L (lstM (Ab (Ae (CD (Ab (Ae (opM MN (Ab (Ad 2) Ai))) (Ab (Ae (Ad 3)) Ai)))) (Ab (Ae (CD (Ab (Ae (lstM Ai)) (Ab (Ae (lstM Ai)) Ai)))) (Ab (Ae (CD (Ab (Ae (Bh (CP (Ag (.int 31))) 0 CO (Bh (Cr (Ad 10)) 0 CO (Ag (.int 0))))) (Ab (Ae (lstM Ai)) Ai)))) Ai)))) (opM HZ (m2L (Ad 5) (Ag (.int 3))))))) Bc) (AA (ifS (AJ (opM eqA (m2L (Ad 5) (Ag (.int 8))))) (retS (CD (Ab (Ae (Ad 2)) (Ab (Ae (opM ixA (m2L (lstM (Ab (Ae (opM MN (Ab (Ad 3) Ai))) (Ab (Ae (opM Bk (m2L (Ad 3) (lstM (Ab (Ae (opM BX (Ab (Ad 2) Ai))) Ai))))) (Ab (Ae (opM Bk (m2L (lstM (Ab (Ae (opM Hg (m1L (Ag (.int 1))))) Ai)) (Ad 3)))) (Ab (Ae (lstM (Ab (Ae (Ag (.int 0))) (Ab (Ae (Ag (.int 0))) Ai)))) (Ab (Ae (lstM (Ab (Ae (Ag (.bl true))) Ai))) (Ab (Ae (Ag .non)) (Ab (Ae (Ag (.str (Str.ofString "0")))) Ai)))))))) (Ad 8)))) Ai)))) Bc) (AA (ifS (AJ (opM eqA (m2L (Ad 5) (Ag (.int 9))))) (retS (CD (Ab (Ae (Ad 2)) Ai))) Bc) (AA (ifS (AJ (opM eqA (m2L (Ad 5) (Ag (.int 6))))) (A5 9 (opM ixA (m2L (lstM (Ab (Ae (opM Bk (m2L (Ad 9) (lstM (Ab (Ae (Ag (.int 0))) Ai))))) (Ab (Ae (opM Gv (m2L (Ad 9) (opM Hg (m1L (Ag (.int 1))))))) (Ab (Ae (opM MN (Ab (Ad 9) Ai))) Ai)))) (opM L8 (m2L (Ad 8) (Ag (.int 3))))))) (A5 9 (opM Bk (m2L (opM Bk (m2L (opM Gv (m2L (Ad 9) (Ad 7))) (lstM (Ab (Ae (opM ixA (m2L (lstM (Ab (Ae (opM BX (Ab (Ad 2) Ai))) (Ab (Ae (opM Hg (m1L (Ag (.int 1))))) (Ab (Ae (Ag (.bl true))) (Ab (Ae (Ag .non)) (Ab (Ae (Ag (.str (Str.ofString "0")))) (Ab (Ae (opM ND (m2L (Ag (.int 10)) (Ag (.int 39))))) (Ab (Ae (lstM (Ab (Ae (Ag (.int 0))) Ai))) Ai)))))))) (Ad 8)))) Ai)))) (opM HN (m2L (Ad 9) (opM Bk (m2L (Ad 7) (Ag (.int 1)))))))))) (retS (CD (Ab (Ae (opM Bk (m2L (opM Bk (m2L (opM Gv (m2L (Ad 2) (Ad 6))) (lstM (Ab (Ae (Ad 9)) Ai)))) (opM HN (m2L (Ad 2) (opM Bk (m2L (Ad 6) (Ag (.int 1))))))))) (Ab (Ae (Ad 3)) Ai)))))))))))))))
def BD:Fn:=fnM 2 10 Dk
def DH:MS:=AA (K0 [2,3] (Ad 1)) (AA (A5 4 (opM ixA (m2L (lstM (Ab (Ae (Ag .non)) (Ab (Ae (Ag (.bl true))) (Ab (Ae (Ag (.int 0))) (Ab (Ae (Ag (.str (Str.ofString "")))) (Ab (Ae (lstM Ai)) (Ab (Ae (CD Ai)) (Ab (Ae (opM ND (m2L (Ag (.int 10)) (Ag (.int 39))))) (Ab (Ae (opM Hg (m1L (Ag (.int 1))))) (Ab (Ae (Ag (.str (Str.ofString "a")))) (Ab (Ae (lstM (Ab (Ae (Ag (.int 0))) Ai))) (Ab (Ae (CD (Ab (Ae (Ag (.int 0))) Ai))) Ai)))))))))))) (Ao Aq (Ab (Ad 0) (Ab (Ag (.int 11)) Ai)))))) (AA (A5 5 (Ao Aq (Ab (Ad 0) (Ab (Ag (.int 12)) Ai)))) (AA (A5 6 (Ao Aq (Ab (Ad 0) (Ab (opM BX (Ab (Ad 3) Ai)) Ai)))) (AA (K0 [7,8] (opM ixA (m2L (Ad 3) (Ad 6)))) (AA (A5 9 (Ao Aq (Ab (Ad 0) (Ab (Ag (.int 8)) Ai)))) (AA (ifS (AJ (opM ltA (m2L (Ad 5) (Ag (.int 3))))) (retS (opM ixA (m2L (lstM (Ab (Ae (Ad 4)) (Ab (Ae (lstM (Ab (Ae (Ad 2)) (Ab (Ae (Ad 3)) Ai)))) (Ab (Ae (CD (Ab (Ae (Ad 2)) (Ab (Ae (Ad 3)) (Ab (Ae (Ad 4)) Ai))))) Ai)))) (Ad 5)))) Bc) (AA (ifS (AJ (opM eqA (m2L (Ad 5) (Ag (.int 3))))) (retS (CD (Ab (Ae (opM ixA (m2L (lstM (Ab (Ae (Ag (.int 1))) (Ab (Ae (Ag (.int 5))) (Ab (Ae (Ag (.int 0))) (Ab (Ae (opM Hg (m1L (Ag (.int 1))))) (Ab (Ae (Ag (.bl true))) (Ab (Ae (Ag (.str (Str.ofString "2")))) (Ab (Ae (Ag .non)) (Ab (Ae (opM ND (m2L (Ag (.int 10)) (Ag (.int 39))))) Ai))))))))) (Ad 9)))) (Ab (Ae (Ad 3)) Ai)))) Bc) (AA (ifS (AJ (opM ltA (m2L (Ad 5) (Ag (.int 6))))) (retS (opM ixA (m2L (lstM (Ab (Ae (CD (Ab (Ae (Ad 2)) (Ab (Ae (opM MN (Ab (Ad 3) Ai))) Ai)))) (Ab (Ae (CD (Ab (Ae (Ad 2)) (Ab (Ae (lstM Ai)) Ai)))) Ai))) (opM HZ (m2L (Ad 5) (Ag (.int 4))))))) Bc) (AA (ifS (AJ (opM eqA (m2L (Ad 5) (Ag (.int 6))))) (retS (CD (Ab (Ae (Ad 2)) (Ab (Ae (opM Bk (m2L (Ad 3) (lstM (Ab (Ae (opM ixA (m2L (Ad 3) (Ad 6)))) Ai))))) Ai)))) Bc) (AA (ifS (AJ (opM eqA (m2L (Ad 5) (Ag (.int 7))))) (A5 10 (CD (Ab (Ae (opM ixA (m2L (lstM (Ab (Ae (Ag (.str (Str.ofString "")))) (Ab (Ae (Ag (.str (Str.ofString "A")))) (Ab (Ae (Ag (.str (Str.ofString "ab")))) (Ab (Ae (Ag (.str (Str.ofString "-")))) (Ab (Ae (Ag (.str (Str.ofString "1")))) (Ab (Ae (Ag .non)) (Ab (Ae (Ag (.int 5))) (Ab (Ae (CD (Ab (Ae (Ag (.str (Str.ofString "a")))) Ai))) Ai))))))))) (Ad 9)))) (Ab (Ae (Ad 8)) Ai)))) (ifS (AJ (opM eqA (m2L (Ad 5) (Ag (.int 8))))) (AA (A5 11 (opM ixA (m2L (lstM (Ab (Ae (lstM Ai)) (Ab (Ae (opM Bk (m2L (Ad 8) (Ad 8)))) (Ab (Ae (opM Bk (m2L (Ad 8) (lstM (Ab (Ae (Ad 2)) Ai))))) (Ab (Ae (opM Bk (m2L (lstM (Ab (Ae (opM Hg (m1L (Ag (.int 1))))) Ai)) (Ad 8)))) (Ab (Ae (opM MN (Ab (Ad 8) Ai))) (Ab (Ae (lstM (Ab (Ae (Ag (.bl true))) Ai))) (Ab (Ae (Ag .non)) (Ab (Ae (Ag (.str (Str.ofString "0")))) Ai))))))))) (Ad 9)))) (A5 10 (CD (Ab (Ae (Ad 7)) (Ab (Ae (Ad 11)) Ai))))) (ifS (AJ (opM eqA (m2L (Ad 5) (Ag (.int 9))))) (A5 10 (opM ixA (m2L (lstM (Ab (Ae (lstM (Ab (Ae (Ad 7)) (Ab (Ae (Ad 8)) Ai)))) (Ab (Ae (CD (Ab (Ae (Ad 7)) Ai))) (Ab (Ae (CD (Ab (Ae (Ad 7)) (Ab (Ae (Ad 8)) (Ab (Ae (Ad 4)) Ai))))) (Ab (Ae (Ad 7)) (Ab (Ae (Ag .non)) (Ab (Ae (Ag (.int 3))) (Ab (Ae (CD Ai)) (Ab (Ae (CD (Ab (Ae (Ad 8)) (Ab (Ae (Ad 7)) Ai)))) Ai))))))))) (Ad 9)))) (ifS (AJ (opM eqA (m2L (Ad 5) (Ag (.int 10))))) (retS (CD (Ab (Ae (Ad 2)) (Ab (Ae (opM Pf (m2L (opM W3 (m2L (Ad 3) (opM Hg (m1L (Ag (.int 1)))))) (opM TJ (Ab (opM gtA (m2L (opM BX (Ab (Ad 3) Ai)) (Ag (.int 1)))) Ai))))) Ai)))) (retS (CD (Ab (Ae (Ad 2)) (Ab (Ae (Bh (NU (Ag (.str (Str.ofString "abcdefg")))) 0 CO (CD (Ab (Ae (Ad 0)) (Ab (Ae (lstM (Ab (Ae (Ag (.int 0))) Ai))) Ai))))) Ai)))))))) (retS (CD (Ab (Ae (Ad 2)) (Ab (Ae (opM Bk (m2L (opM Bk (m2L (opM Gv (m2L (Ad 3) (Ad 6))) (lstM (Ab (Ae (Ad 10)) Ai)))) (opM HN (m2L (Ad 3) (opM Bk (m2L (Ad 6) (Ag (.int 1))))))))) Ai))))))))))))))
def B4:Fn:=fnM 2 12 DH
def EJ:MS:=retS (andM (opM (CQ isInt) (m1L (Ad 0))) (notM (opM (CQ isBool) (m1L (Ad 0)))))
def BG:Fn:=fnM 1 1 EJ
def D1:MS:=retS (andM (opM (CQ Dc) (m1L (Ad 0))) (andM (opM eqA (m2L (Ad 0) (Ad 1))) (opM El (Ab (Bh (Cr (Ad 0)) 0 CO (Ao BG (Ab (Ad 0) Ai))) Ai))))
def Dr:Fn:=fnM 2 2 D1
def Cw:MS:=AA (ifS (orT (BR (AJ (opM (CQ isTup) (m1L (Ad 0))))) (orT (AJ (opM neA (m2L (opM BX (Ab (Ad 0) Ai)) (Ag (.int 2))))) (BR (AJ (opM (CQ Dc) (m1L (opM ixA (m2L (Ad 0) (Ag (.int 0)))))))))) (retS (Ag (.bl false))) Bc) (AA (ifS (orT (BR (AJ (opM El (Ab (Bh (Cr (opM ixA (m2L (Ad 0) (Ag (.int 0))))) 0 CO (opM (CQ Dc) (m1L (Ad 0)))) Ai)))) (BR (AJ (Ao Dr (Ab (opM ixA (m2L (Ad 0) (Ag (.int 1)))) (Ab (opM ixA (m2L (Ad 1) (Ag (.int 1)))) Ai)))))) (retS (Ag (.bl false))) Bc) (retS (andM (opM eqA (m2L (Ad 0) (Ad 1))) (opM El (Ab (Bh (Cr (opM ixA (m2L (Ad 0) (Ag (.int 0))))) 0 CO (opM El (Ab (Bh (Cr (Ad 0)) 0 CO (Ao BG (Ab (Ad 0) Ai))) Ai))) Ai)))))
def Ba:Fn:=fnM 2 2 Cw
def Dn:MS:=AA (ifS (AJ (opM ltA (m2L (Ad 1) (opM BX (Ab (Ad 0) Ai))))) (retS (opM ixA (m2L (Ad 0) (Ad 1)))) Bc) (retS (Ag (.int 0)))
def DL:Fn:=fnM 2 2 Dn
def E7:Fn:=fnM 2 2 Fc
def E6:MS:=AA (ifS (AJ (opM (CQ isTup) (m1L (Ad 1)))) (Fc) Bc) (AA (ifS (AJ (opM (CQ isStr) (m1L (Ad 1)))) (retS (andM (opM (CQ isStr) (m1L (Ad 0))) (opM eqA (m2L (Ad 0) (Ad 1))))) Bc) (AA (ifS (AJ (opM TM (m2L (Ad 1) (Ag .non)))) (retS (opM TM (m2L (Ad 0) (Ag .non)))) Bc) (retS (andM (Ao BG (Ab (Ad 0) Ai)) (opM eqA (m2L (Ad 0) (Ad 1)))))))
def DM:Fn:=fnM 2 2 E6
def D6:MS:=retS (GV G1 (Ag (.str (Str.ofString " "))) (m1L (opM Bk (m2L (lstM (Ab (Ae (Ad 0)) Ai)) (Bh (Cr (Ad 1)) 0 CO (opM strN (Ab (Ad 0) Ai)))))))
def CH:Fn:=fnM 2 2 D6
def D5:MS:=AA (F9 (Ao B9 (Ab (Ad 0) (Ab (Ad 1) Ai)))) (AA (A5 2 (Bh (Cr (opM ixA (m2L (Ad 1) (Ag (.int 0))))) 0 CO (Ao CH (Ab (Ag (.str (Str.ofString "room"))) (Ab (Ad 0) Ai))))) (AA (IX 2 (Ao CH (Ab (Ag (.str (Str.ofString "good"))) (Ab (opM ixA (m2L (Ad 1) (Ag (.int 1)))) Ai)))) (retS (GV G1 (Ag (.str (Str.ofString "\n"))) (m1L (Ad 2))))))
def CG:Fn:=fnM 2 3 D5
def B3:FnR:=fnR 1 1 (ifR (BR (AJ (Ao Ct (Ab (Ad 0) Ai)))) (Mx "NoHouse"))
def CK:FnR:=fnR 2 2 (F5 B3 (Ab (Ad 0) Ai))
def Ca:FnR:=fnR 2 2 (N6 (F5 CK (Ab (Ad 0) (Ab (Ad 1) Ai))) (ifR (BR (AJ (Ao Ci (Ab (Ad 0) (Ab (Ad 1) Ai))))) (Mx "NoMachine")))
def Bp:FnR:=fnR 2 3 (F5 Ca (Ab (Ad 0) (Ab (Ad 1) Ai)))
def Cb:FnR:=fnR 2 5 (F5 B3 (Ab (Ad 0) Ai))
def Jx(C:Addr)(j:Nat):MS:=AA (A5 1 (lstM (Ab (Ae (opM (BM C (0==j)) (m1L (Ad 0)))) (Ab (Ae (opM (BM C (1==j)) (m1L (Ad 0)))) (Ab (Ae (opM (BM C (2==j)) (m1L (Ad 0)))) (Ab (Ae (opM (BM C (3==j)) (m1L (Ad 0)))) Ai)))))) (AA (A5 1 (opM Bk (m2L (Ad 1) (lstM (Ab (Ae (opM (BM C (4==j)) (m1L (Ad 0)))) (Ab (Ae (opM (BM C (5==j)) (m1L (Ad 0)))) (Ab (Ae (opM (BM C (6==j)) (m1L (Ad 0)))) (Ab (Ae (opM (BM C (7==j)) (m1L (Ad 0)))) Ai)))))))) (AA (A5 1 (opM Bk (m2L (Ad 1) (lstM (Ab (Ae (opM (BM C (8==j)) (m1L (Ad 0)))) (Ab (Ae (opM (BM C (9==j)) (m1L (Ad 0)))) (Ab (Ae (opM (BM C (10==j)) (m1L (Ad 0)))) (Ab (Ae (opM (BM C (11==j)) (m1L (Ad 0)))) Ai)))))))) (AA (A5 1 (opM Bk (m2L (Ad 1) (lstM (Ab (Ae (opM (BM C (12==j)) (m1L (Ad 0)))) (Ab (Ae (opM (BM C (13==j)) (m1L (Ad 0)))) (Ab (Ae (opM (BM C (14==j)) (m1L (Ad 0)))) Ai))))))) (AA (A5 2 (lstM (Ab (Ae (Ag (.str (Str.ofString "NoHouse")))) (Ab (Ae (Ag (.str (Str.ofString "NoRow")))) (Ab (Ae (Ag (.str (Str.ofString "NoMachine")))) (Ab (Ae (Ag (.str (Str.ofString "NoRoom")))) (Ab (Ae (Ag (.str (Str.ofString "NoHand")))) (Ab (Ae (Ag (.str (Str.ofString "Unlike")))) (Ab (Ae (Ag (.str (Str.ofString "NoPast")))) (Ab (Ae (Ag (.str (Str.ofString "TooMany")))) (Ab (Ae (Ag (.str (Str.ofString "Torn")))) (Ab (Ae (Ag (.str (Str.ofString "NoTable")))) Ai)))))))))))) (AA (A5 2 (opM Bk (m2L (Ad 2) (lstM (Ab (Ae (Ag (.str (Str.ofString "NoSet")))) (Ab (Ae (Ag (.str (Str.ofString "Falls")))) (Ab (Ae (Ag (.str (Str.ofString "Whole")))) (Ab (Ae (Ag (.str (Str.ofString "NoText")))) (Ab (Ae (Ag (.str (Str.ofString "NoWord")))) Ai))))))))) (AA (A5 3 (Bh (CP (Ag (.int 15))) 0 (AJ (opM ixA (m2L (Ad 2) (Ad 0)))) (opM ixA (m2L (Ad 3) (Ad 0))))) (AA (ifS (orT (AJ (opM neA (m2L (opM BX (Ab (Ad 3) Ai)) (Ag (.int 1))))) (BR (AJ (opM (BM C true) (m1L (Ad 0)))))) (retS (Ag (.str (Str.ofString "else")))) Bc) (retS (opM ixA (m2L (Ad 3) (Ag (.int 0))))))))))))
def GL(C:Addr)(j:Nat):Fn:=fnM 1 4 (Jx C j)
def LN:MS:=AA (KH [1] true (CP (opM Wg (Ab (Ag (.int 3)) (Ab (opM RQ (Ab (opM BX (Ab (Ad 0) Ai)) (Ab (Ag (.int 9)) Ai))) Ai)))) (AA (A5 2 (Ao Eg (Ab (opM Bk (m2L (Ao DL (Ab (Ad 0) (Ab (Ad 1) Ai))) (Ad 1))) Ai))) (AA (A5 3 (Ao CJ (Ab (Ad 2) Ai))) (AA (A5 4 (Ao B8 (Ab (Ad 2) (Ab (Ad 3) (Ab (opM ixA (m2L (lstM (Ab (Ae (Ag (.int 30))) (Ab (Ae (Ag (.int 8))) Ai))) (opM RQ (Ab (Ag (.int 1)) (Ab (Ao Aq (Ab (Ad 2) (Ab (Ag (.int 8)) Ai))) Ai))))) Ai))))) (AA (A5 5 (Ao Br (Ab (Ad 4) Ai))) (AA (A5 6 (Ao BK (Ab (Ad 4) Ai))) (AA (ifS (orT (BR (AJ (Ao DM (Ab (Ao CG (Ab (Ad 3) (Ab (Ad 5) Ai))) (Ab (Ad 6) Ai))))) (AJ (opM neA (m2L (Ad 5) (Ad 4))))) (retS (Ag (.bl false))) Bc) (AA (A5 7 (Ao BQ (Ab (Ad 3) (Ab (Ad 6) Ai)))) (AA (ifS (BR (AJ (GY Ba (Ab (Ad 7) (Ab (Ad 4) Ai))))) (retS (Ag (.bl false))) Bc) (AA (Mo 7 [0,0] 9) (AA (Mo 7 [1] 99) (AA (ifS (BR (AJ (GY Ba (Ab (Ao BQ (Ab (Ad 3) (Ab (Ad 6) Ai))) (Ab (Ad 4) Ai))))) (retS (Ag (.bl false))) Bc) (AA (A5 8 (Ao BD (Ab (Ad 2) (Ab (Ad 4) Ai)))) (AA (ifS (BR (AJ (KS Bp [.nm 3,.nm 8] "NoMachine"))) (retS (Ag (.bl false))) Bc) (AA (A5 9 (Ao B4 (Ab (Ad 2) (Ab (Ad 3) Ai)))) (AA (ifS (BR (AJ (KS Bp [.nm 9,.nm 8] "NoHouse"))) (retS (Ag (.bl false))) Bc) (ifS (BR (AJ (KS Cb [.nm 9,.nt 6 "?"] "NoHouse"))) (retS (Ag (.bl false))) Bc))))))))))))))))) (retS (Ag (.bl true)))
def Ij:Fn:=fnM 1 10 LN
local macro_rules | `(tactic| walk_at $s:str)=>do
 let n:=s.getString
 if n.startsWith "v" && n.length < 4 && n != "vis" then `(tactic| exact Ot $(Lean.quote (n.drop 1).toNat!) rfl (by walk_at "vis") dK dK) else Lean.Macro.throwUnsupported
local macro_rules | `(tactic| walk_at "vis")=>`(tactic| first | exact .inl rfl | exact .inr (.inl rfl) | exact .inr (.inr rfl))
local macro_rules | `(tactic| walk_at "loc")=>`(tactic| first | exact .inl rfl | exact .inr rfl)
structure Blt2 (mg:Str->Option Value):Prop where
 sorted:mg "sorted" = none
 set:mg "set" = none
 enumerate:mg "enumerate" = none
 zip:mg "zip" = none
 reversed:mg "reversed" = none
section
variable{P:Program}{w:World}{K:Frag}{mg:Str->Option Value}{base:Heap}{XC:Str->Addr}
def OB{f:Addr}{fd:FuncData}(F:Fun K "is_pair" "is_pair" (top 20) f fd)(B:Blt mg K)(B2:Blt2 mg):
  FnOk P w K mg base CX0 1 f fd ["thing"] (spJ K Bq 1):=by
 refine BC (N:=["thing"]) F ⟨rfl,rfl,rfl,dK,rfl,dK,dK⟩ fun cdv A outer s H E hr=>?_;refine Ak ?_;refine Aw ?_;refine CY ?_ ?_;refine Oo rfl rfl B rfl rfl ?_;walk_at "v0";refine Dm ?_;refine Dl C1 (BY hr) (A4 _) ?_ ?_;refine AF Cm A7 B.len Boot.«len» dK dK rfl rfl rfl ?_;refine Aa rfl ?_ ?_;walk_at "v0";exact Af;exact Ah
def NA{f:Addr}{fd:FuncData}(F:Fun K "is_whole" "is_whole" (top 18) f fd)(B:Blt mg K)(B2:Blt2 mg):
  FnOk P w K mg base CX0 1 f fd ["thing"] (spJ K CW 1):=by
 refine BC (N:=["thing"]) F ⟨rfl,rfl,rfl,dK,rfl,dK,dK⟩ fun cdv A outer s H E hr=>?_;refine Ak ?_;refine Aw ?_;refine CY ?_ ?_;refine Rz rfl rfl B rfl rfl ?_;walk_at "v0";refine Dm ?_;refine RB ?_;refine Ry rfl rfl B rfl rfl ?_;walk_at "v0"
def GD{f:Addr}{fd:FuncData}(F:Fun K "is_count_of_hands" "is_count_of_hands" (top 29) f fd)(B:Blt mg K)(B2:Blt2 mg)(DW:Def P w K mg base CX0 1 "is_whole" ["thing"] (spJ K CW 1))(EL:GInt mg "FEWEST_HANDS" 2)(FE:GInt mg "MOST_HANDS" 4):
  FnOk P w K mg base CX0 2 f fd ["thing"] (spJ K Be 1):=by
 refine BC (N:=["thing"]) F ⟨rfl,rfl,rfl,dK,rfl,dK,dK⟩ fun cdv A outer s H E hr=>?_;refine Ak ?_;refine Aw ?_;refine CY ?_ ?_;refine Am DW Al rfl rfl rfl rfl rfl hr (by decide) AG dK rfl rfl rfl ?_;refine Aa rfl ?_ ?_;walk_at "v0";exact Af;refine Dm ?_;refine Om HR HR Ew Ew (by with_unfolding_all rfl) ?_ ?_ ?_;exact Jm EL rfl dK;walk_at "v0";exact Jm FE rfl dK
def Hj{f:Addr}{fd:FuncData}(F:Fun K "is_number_below" "is_number_below" (top 19) f fd)(B:Blt mg K)(B2:Blt2 mg)(DW:Def P w K mg base CX0 1 "is_whole" ["thing"] (spJ K CW 1)):
  FnOk P w K mg base CX0 2 f fd ["thing","bound"] (spJ K Bf 2):=by
 refine BC (N:=["thing","bound"]) F ⟨rfl,rfl,rfl,dK,rfl,dK,dK⟩ fun cdv A outer s H E hr=>?_;refine Ak ?_;refine Aw ?_;refine CY ?_ ?_;refine Am DW Al rfl rfl rfl rfl rfl hr (by decide) AG dK rfl rfl rfl ?_;refine Aa rfl ?_ ?_;walk_at "v0";exact Af;refine Dm ?_;refine Om HR IT Ew E3 (by with_unfolding_all rfl) ?_ ?_ ?_;exact Ah;walk_at "v0";walk_at "v1"
def GC{f:Addr}{fd:FuncData}(F:Fun K "are_numbers_below" "are_numbers_below" (top 22) f fd)(B:Blt mg K)(B2:Blt2 mg)(DB:Def P w K mg base CX0 2 "is_number_below" ["thing","bound"] (spJ K Bf 2)):
  FnOk P w K mg base CX0 3 f fd ["things","bound"] (spJ K BL 2):=by
 refine BC (N:=["things","bound"]) F ⟨rfl,rfl,rfl,dK,rfl,dK,dK⟩ fun cdv A outer s H E hr=>?_;have nd2:List.Nodup (["things","bound"]:List Str):=by decide +kernel
 refine Ak ?_;refine Aw ?_;refine AF EN (CU rfl) B.all Boot.«all» dK dK rfl rfl rfl ?_;refine Aa rfl ?_ ?_;refine Cj (by rfl) rfl nd2 (by rfl) (fun _=>rfl) ?_ ?_ ?_;refine Cp ?_;walk_at "v0";exact Bx;intro _ _ _ _ _;refine Am DB Al rfl rfl rfl rfl rfl hr (by decide) AG dK rfl rfl rfl ?_;refine Aa rfl ?_ ?_;walk_at "v0";refine Aa rfl ?_ ?_;walk_at "v2";exact Af;exact Af
def Eu{f:Addr}{fd:FuncData}(F:Fun K "is_list_of_numbers_below" "is_list_of_numbers_below" (top 21) f fd)(B:Blt mg K)(B2:Blt2 mg)(Dh:Def P w K mg base CX0 3 "are_numbers_below" ["things","bound"] (spJ K BL 2)):
  FnOk P w K mg base CX0 4 f fd ["thing","bound"] (spJ K Ax 2):=by
 refine BC (N:=["thing","bound"]) F ⟨rfl,rfl,rfl,dK,rfl,dK,dK⟩ fun cdv A outer s H E hr=>?_;refine Ak ?_;refine Aw ?_;refine CY ?_ ?_;refine Ip rfl rfl B rfl rfl ?_;walk_at "v0";refine Dm ?_;refine Am Dh Al rfl rfl rfl rfl rfl hr (by decide) AG dK rfl rfl rfl ?_;refine Aa rfl ?_ ?_;walk_at "v0";refine Aa rfl ?_ ?_;walk_at "v1";exact Af
def Fq{f:Addr}{fd:FuncData}(F:Fun K "is_rising_list_below" "is_rising_list_below" (top 23) f fd)(B:Blt mg K)(B2:Blt2 mg)(AZ:Def P w K mg base CX0 4 "is_list_of_numbers_below" ["thing","bound"] (spJ K Ax 2)):
  FnOk P w K mg base CX0 5 f fd ["thing","bound"] (spJ K AR 2):=by
 refine BC (N:=["thing","bound"]) F ⟨rfl,rfl,rfl,dK,rfl,dK,dK⟩ fun cdv A outer s H E hr=>?_;have nd2:List.Nodup (["thing","bound"]:List Str):=by decide +kernel
 refine Aj ?_ ?_;refine Bt ?_ ?_ ?_;refine By ?_;refine Bw (fun _=>rfl) ?_;refine Am AZ Al rfl rfl rfl rfl rfl hr (by decide) AG dK rfl rfl rfl ?_;refine Aa rfl ?_ ?_;walk_at "v0";refine Aa rfl ?_ ?_;walk_at "v1";exact Af;refine Ak ?_;refine Aw ?_;exact CZ;exact AW;refine Ak ?_;refine Aw ?_;refine AF EN (CU rfl) B.all Boot.«all» dK dK rfl rfl rfl ?_;refine Aa rfl ?_ ?_;refine Cj (by rfl) rfl nd2 (by rfl) (fun _=>rfl) ?_ ?_ ?_;refine E1 rfl B.range rfl ?_;refine Au Hl Hm ?_ ?_;refine AF Cm A7 B.len Boot.«len» dK dK rfl rfl rfl ?_;refine Aa rfl ?_ ?_;walk_at "v0";exact Af;exact Ah;exact Bx;intro _ _ _ _ _;refine Dl IT E3 (A4 _) ?_ ?_;refine AN AO Az (fun _ _=>rfl) ?_ ?_;walk_at "v1";walk_at "v0";refine AN AO Az (fun _ _=>rfl) ?_ ?_;walk_at "v1";refine Au Bb AQ ?_ ?_;walk_at "v0";exact Ah;exact Af
def Hk{f:Addr}{fd:FuncData}(F:Fun K "is_small_letter" "is_small_letter" (top 32) f fd)(B:Blt mg K)(B2:Blt2 mg):
  FnOk P w K mg base CX0 1 f fd ["thing"] (spJ K Bg 1):=by
 refine BC (N:=["thing"]) F ⟨rfl,rfl,rfl,dK,rfl,dK,dK⟩ fun cdv A outer s H E hr=>?_;refine Ak ?_;refine Aw ?_;refine CY ?_ ?_;refine LV rfl rfl B rfl rfl ?_;walk_at "v0";refine CY ?_ ?_;refine Dl C1 (BY hr) (A4 _) ?_ ?_;refine AF Cm A7 B.len Boot.«len» dK dK rfl rfl rfl ?_;refine Aa rfl ?_ ?_;walk_at "v0";exact Af;exact Ah;refine Dm ?_;refine Om HR HR Ew Ew (by with_unfolding_all rfl) ?_ ?_ ?_;exact AI dK;walk_at "v0";exact AI dK
def Ny{f:Addr}{fd:FuncData}(F:Fun K "is_entry" "is_entry" (top 31) f fd)(B:Blt mg K)(B2:Blt2 mg)(Bi:Def P w K mg base CX0 5 "is_rising_list_below" ["thing","bound"] (spJ K AR 2))(C5:Def P w K mg base CX0 1 "is_pair" ["thing"] (spJ K Bq 1))(DC:Def P w K mg base CX0 1 "is_small_letter" ["thing"] (spJ K Bg 1)):
  FnOk P w K mg base CX0 6 f fd ["hands","thing"] (spJ K Bm 2):=by
 refine BC (N:=["hands","thing"]) F ⟨rfl,rfl,rfl,dK,rfl,dK,dK⟩ fun cdv A outer s H E hr=>?_;refine Aj ?_ ?_;refine Bt ?_ ?_ ?_;refine Et ?_;refine G2 ?_ ?_;refine By ?_;refine Bw (fun _=>rfl) ?_;refine Am C5 Al rfl rfl rfl rfl rfl hr (by decide) AG dK rfl rfl rfl ?_;refine Aa rfl ?_ ?_;walk_at "v1";exact Af;refine FI ?_;refine By ?_;refine Bw (fun _=>rfl) ?_;refine Am DC Al rfl rfl rfl rfl rfl hr (by decide) AG dK rfl rfl rfl ?_;refine Aa rfl ?_ ?_;refine AN AO Az (fun _ _=>rfl) ?_ ?_;walk_at "v1";exact Ah;exact Af;refine Ak ?_;refine Aw ?_;exact CZ;exact AW;refine Ak ?_;refine Aw ?_;refine CY ?_ ?_;refine Am Bi Al rfl rfl rfl rfl rfl hr (by decide) AG dK rfl rfl rfl ?_;refine Aa rfl ?_ ?_;refine AN AO Az (fun _ _=>rfl) ?_ ?_;walk_at "v1";exact Ah;refine Aa rfl ?_ ?_;walk_at "v0";exact Af;refine Dm ?_;refine Dl Vg Vh (A4 _) ?_ ?_;refine AF Cm A7 B.len Boot.«len» dK dK rfl rfl rfl ?_;refine Aa rfl ?_ ?_;refine AN AO Az (fun _ _=>rfl) ?_ ?_;walk_at "v1";exact Ah;exact Af;exact Ah
def J4{f:Addr}{fd:FuncData}(F:Fun K "are_entries" "are_entries" (top 30) f fd)(B:Blt mg K)(B2:Blt2 mg)(G4:Def P w K mg base CX0 6 "is_entry" ["hands","thing"] (spJ K Bm 2))(EM:GInt mg "MOST_LETTERS" 6):
  FnOk P w K mg base CX0 7 f fd ["hands","thing"] (spJ K CV 2):=by
 refine BC (N:=["hands","thing"]) F ⟨rfl,rfl,rfl,dK,rfl,dK,dK⟩ fun cdv A outer s H E hr=>?_;have nd2:List.Nodup (["hands","thing"]:List Str):=by decide +kernel
 refine Aj ?_ ?_;refine Bt ?_ ?_ ?_;refine Et ?_;refine G2 ?_ ?_;refine By ?_;refine Bw (fun _=>rfl) ?_;refine Ip rfl rfl B rfl rfl ?_;walk_at "v1";refine FI ?_;refine By ?_;refine RH HR HR Ew Ew (by with_unfolding_all rfl) ?_ ?_ ?_;exact Ah;refine AF Cm A7 B.len Boot.«len» dK dK rfl rfl rfl ?_;refine Aa rfl ?_ ?_;walk_at "v1";exact Af;exact Jm EM rfl dK;refine Ak ?_;refine Aw ?_;exact CZ;exact AW;refine Aj ?_ ?_;refine Bt ?_ ?_ ?_;refine By ?_;refine Bw (fun _=>rfl) ?_;refine AF EN (CU rfl) B.all Boot.«all» dK dK rfl rfl rfl ?_;refine Aa rfl ?_ ?_;refine Cj (by rfl) rfl nd2 (by rfl) (fun _=>rfl) ?_ ?_ ?_;refine Cp ?_;walk_at "v1";exact Bx;intro _ _ _ _ _;refine Am G4 Al rfl rfl rfl rfl rfl hr (by decide) AG dK rfl rfl rfl ?_;refine Aa rfl ?_ ?_;walk_at "v1";refine Aa rfl ?_ ?_;walk_at "v0";exact Af;exact Af;refine Ak ?_;refine Aw ?_;exact CZ;exact AW;refine Ak ?_;refine Aw ?_;refine AF EN (CU rfl) B.all Boot.«all» dK dK rfl rfl rfl ?_;refine Aa rfl ?_ ?_;refine Cj (by rfl) rfl nd2 (by rfl) (fun _=>rfl) ?_ ?_ ?_;refine E1 rfl B.range rfl ?_;refine Au Hl Hm ?_ ?_;refine AF Cm A7 B.len Boot.«len» dK dK rfl rfl rfl ?_;refine Aa rfl ?_ ?_;walk_at "v1";exact Af;exact Ah;exact Bx;intro _ _ _ _ _;refine Dl IT E3 (A4 _) ?_ ?_;refine AN AO Az (fun _ _=>rfl) ?_ ?_;refine AN AO Az (fun _ _=>rfl) ?_ ?_;walk_at "v2";walk_at "v0";exact Ah;refine AN AO Az (fun _ _=>rfl) ?_ ?_;refine AN AO Az (fun _ _=>rfl) ?_ ?_;walk_at "v2";refine Au Bb AQ ?_ ?_;walk_at "v0";exact Ah;exact Ah;exact Af
def Nz{f:Addr}{fd:FuncData}(F:Fun K "is_house" "is_house" (top 28) f fd)(B:Blt mg K)(B2:Blt2 mg)(C5:Def P w K mg base CX0 1 "is_pair" ["thing"] (spJ K Bq 1))(Di:Def P w K mg base CX0 2 "is_count_of_hands" ["thing"] (spJ K Be 1))(E4:Def P w K mg base CX0 7 "are_entries" ["hands","thing"] (spJ K CV 2)):
  FnOk P w K mg base CX0 8 f fd ["thing"] (spJ K Ct 1):=by
 refine BC (N:=["thing"]) F ⟨rfl,rfl,rfl,dK,rfl,dK,dK⟩ fun cdv A outer s H E hr=>?_;refine Aj ?_ ?_;refine Bt ?_ ?_ ?_;refine By ?_;refine Bw (fun _=>rfl) ?_;refine Am C5 Al rfl rfl rfl rfl rfl hr (by decide) AG dK rfl rfl rfl ?_;refine Aa rfl ?_ ?_;walk_at "v0";exact Af;refine Ak ?_;refine Aw ?_;exact CZ;exact AW;refine Ak ?_;refine Aw ?_;refine CY ?_ ?_;refine Am Di Al rfl rfl rfl rfl rfl hr (by decide) AG dK rfl rfl rfl ?_;refine Aa rfl ?_ ?_;refine AN AO Az (fun _ _=>rfl) ?_ ?_;walk_at "v0";exact Ah;exact Af;refine Dm ?_;refine Am E4 Al rfl rfl rfl rfl rfl hr (by decide) AG dK rfl rfl rfl ?_;refine Aa rfl ?_ ?_;refine AN AO Az (fun _ _=>rfl) ?_ ?_;walk_at "v0";exact Ah;refine Aa rfl ?_ ?_;refine AN AO Az (fun _ _=>rfl) ?_ ?_;walk_at "v0";exact Ah;exact Af
def KP{f:Addr}{fd:FuncData}(F:Fun K "need_house" "need_house" (top 33) f fd)(B:Blt mg K)(B2:Blt2 mg)(DU:Def P w K mg base CX0 8 "is_house" ["thing"] (spJ K Ct 1)):
  FnOk P w K mg base CX0 9 f fd ["house"] (spJ K BH 1):=by
 refine BC (N:=["house"]) F ⟨rfl,rfl,rfl,dK,rfl,dK,dK⟩ fun cdv A outer s H E hr=>?_;refine Ak ?_;refine Bt ?_ ?_ ?_;refine By ?_;refine Bw (fun _=>rfl) ?_;refine Am DU Al rfl rfl rfl rfl rfl hr (by decide) AG dK rfl rfl rfl ?_;refine Aa rfl ?_ ?_;walk_at "v0";exact Af;refine Ak ?_;exact JX;exact AW
def GB{f:Addr}{fd:FuncData}(F:Fun K "are_moves_of_room" "are_moves_of_room" (top 38) f fd)(B:Blt mg K)(B2:Blt2 mg)(AZ:Def P w K mg base CX0 4 "is_list_of_numbers_below" ["thing","bound"] (spJ K Ax 2)):
  FnOk P w K mg base CX0 5 f fd ["letter_count","room_count","thing"] (spJ K A1 3):=by
 refine BC (N:=["letter_count","room_count","thing"]) F ⟨rfl,rfl,rfl,dK,rfl,dK,dK⟩ fun cdv A outer s H E hr=>?_;refine Ak ?_;refine Aw ?_;refine CY ?_ ?_;refine Am AZ Al rfl rfl rfl rfl rfl hr (by decide) AG dK rfl rfl rfl ?_;refine Aa rfl ?_ ?_;walk_at "v2";refine Aa rfl ?_ ?_;walk_at "v1";exact Af;refine Dm ?_;refine Dl C1 (BY hr) (A4 _) ?_ ?_;refine AF Cm A7 B.len Boot.«len» dK dK rfl rfl rfl ?_;refine Aa rfl ?_ ?_;walk_at "v2";exact Af;walk_at "v0"
def Mh{f:Addr}{fd:FuncData}(F:Fun K "are_moves" "are_moves" (top 37) f fd)(B:Blt mg K)(B2:Blt2 mg)(Df:Def P w K mg base CX0 5 "are_moves_of_room" ["letter_count","room_count","thing"] (spJ K A1 3))(FF:GInt mg "MOST_ROOMS" 30):
  FnOk P w K mg base CX0 6 f fd ["letter_count","thing"] (spJ K Cz 2):=by
 refine BC (N:=["letter_count","thing"]) F ⟨rfl,rfl,rfl,dK,rfl,dK,dK⟩ fun cdv A outer s H E hr=>?_;have nd2:List.Nodup (["letter_count","thing"]:List Str):=by decide +kernel
 refine Aj ?_ ?_;refine Bt ?_ ?_ ?_;refine Et ?_;refine G2 ?_ ?_;refine By ?_;refine Bw (fun _=>rfl) ?_;refine Ip rfl rfl B rfl rfl ?_;walk_at "v1";refine FI ?_;refine By ?_;refine RH HR HR Ew Ew (by with_unfolding_all rfl) ?_ ?_ ?_;exact Ah;refine AF Cm A7 B.len Boot.«len» dK dK rfl rfl rfl ?_;refine Aa rfl ?_ ?_;walk_at "v1";exact Af;exact Jm FF rfl dK;refine Ak ?_;refine Aw ?_;exact CZ;exact AW;refine Ak ?_;refine Aw ?_;refine AF EN (CU rfl) B.all Boot.«all» dK dK rfl rfl rfl ?_;refine Aa rfl ?_ ?_;refine Cj (by rfl) rfl nd2 (by rfl) (fun _=>rfl) ?_ ?_ ?_;refine Cp ?_;walk_at "v1";exact Bx;intro _ _ _ _ _;refine Am Df Al rfl rfl rfl rfl rfl hr (by decide) AG dK rfl rfl rfl ?_;refine Aa rfl ?_ ?_;walk_at "v1";refine Aa rfl ?_ ?_;refine AF Cm A7 B.len Boot.«len» dK dK rfl rfl rfl ?_;refine Aa rfl ?_ ?_;walk_at "v2";exact Af;refine Aa rfl ?_ ?_;walk_at "v0";exact Af;exact Af
def KO{f:Addr}{fd:FuncData}(F:Fun K "is_machine" "is_machine" (top 36) f fd)(B:Blt mg K)(B2:Blt2 mg)(C6:Def P w K mg base CX0 9 "need_house" ["house"] (spJ K BH 1))(Bi:Def P w K mg base CX0 5 "is_rising_list_below" ["thing","bound"] (spJ K AR 2))(C5:Def P w K mg base CX0 1 "is_pair" ["thing"] (spJ K Bq 1))(Gf:Def P w K mg base CX0 6 "are_moves" ["letter_count","thing"] (spJ K Cz 2)):
  FnOk P w K mg base CX0 10 f fd ["house","thing"] (spJ K Ci 2):=by
 refine BC (N:=["house","thing"]) F ⟨rfl,rfl,rfl,dK,rfl,dK,dK⟩ fun cdv A outer s H E hr=>?_;refine Aj ?_ ?_;refine Hd rfl ?_;refine Am C6 Al rfl rfl rfl rfl rfl hr (by decide) AG dK rfl rfl rfl ?_;refine Aa rfl ?_ ?_;walk_at "v0";exact Af;refine Aj ?_ ?_;refine Bt ?_ ?_ ?_;refine Et ?_;refine G2 ?_ ?_;refine By ?_;refine Bw (fun _=>rfl) ?_;refine Am C5 Al rfl rfl rfl rfl rfl hr (by decide) AG dK rfl rfl rfl ?_;refine Aa rfl ?_ ?_;walk_at "v1";exact Af;refine FI ?_;refine By ?_;refine Bw (fun _=>rfl) ?_;refine Am Gf Al rfl rfl rfl rfl rfl hr (by decide) AG dK rfl rfl rfl ?_;refine Aa rfl ?_ ?_;refine AF Cm A7 B.len Boot.«len» dK dK rfl rfl rfl ?_;refine Aa rfl ?_ ?_;refine AN AO Az (fun _ _=>rfl) ?_ ?_;walk_at "v0";exact Ah;exact Af;refine Aa rfl ?_ ?_;refine AN AO Az (fun _ _=>rfl) ?_ ?_;walk_at "v1";exact Ah;exact Af;refine Ak ?_;refine Aw ?_;exact CZ;exact AW;refine Ak ?_;refine Aw ?_;refine Am Bi Al rfl rfl rfl rfl rfl hr (by decide) AG dK rfl rfl rfl ?_;refine Aa rfl ?_ ?_;refine AN AO Az (fun _ _=>rfl) ?_ ?_;walk_at "v1";exact Ah;refine Aa rfl ?_ ?_;refine AF Cm A7 B.len Boot.«len» dK dK rfl rfl rfl ?_;refine Aa rfl ?_ ?_;refine AN AO Az (fun _ _=>rfl) ?_ ?_;walk_at "v1";exact Ah;exact Af;exact Af
def Nw{f:Addr}{fd:FuncData}(F:Fun K "_law_bag" "_law_bag" (top 52) f fd)(B:Blt mg K)(B2:Blt2 mg):
  FnOk P w K mg base CX0 1 f fd ["_law_cell_here"] (spJ K Eg 1):=by
 refine BC (N:=["_law_cell_here"]) F ⟨rfl,rfl,rfl,dK,rfl,dK,dK⟩ fun cdv A outer s H E hr=>?_;refine Aj ?_ ?_;refine Bt ?_ ?_ ?_;refine BV X8 Ya (A4 _) ?_ ?_;refine AF R1 M7 B.abs Boot.«abs» dK dK rfl rfl rfl ?_;refine Aa rfl ?_ ?_;walk_at "v0";exact Af;refine Au J7 J8 ?_ ?_;exact Ah;exact Ah;refine Ak ?_;refine Aw ?_;refine AH ?_;refine Aa rfl ?_ ?_;refine Ac ?_;refine AF R1 M7 B.abs Boot.«abs» dK dK rfl rfl rfl ?_;refine Aa rfl ?_ ?_;walk_at "v0";exact Af;refine Aa rfl ?_ ?_;refine Ac ?_;exact Ah;exact Af;exact AW;refine Ak ?_;refine Aw ?_;refine AH ?_;refine Aa rfl ?_ ?_;refine Ac ?_;refine Au ID IF ?_ ?_;walk_at "v0";exact Ah;refine Aa rfl ?_ ?_;refine Ac ?_;exact Ah;exact Af
def Mg{f:Addr}{fd:FuncData}(F:Fun K "_law_take" "_law_take" (top 53) f fd)(B:Blt mg K)(B2:Blt2 mg):
  FnOk P w K mg base CX0 1 f fd ["_law_bag_here","_law_many"] (spJ K Aq 2):=by
 refine BC (N:=["_law_bag_here","_law_many","_law_digit"]) F ⟨rfl,rfl,rfl,dK,rfl,dK,dK⟩ fun cdv A outer s H E hr=>?_;have nd3:List.Nodup (["_law_bag_here","_law_many","_law_digit"]:List Str):=by decide +kernel
 refine Aj ?_ ?_;refine Bt ?_ ?_ ?_;refine BV C1 (BY hr) (A4 _) ?_ ?_;refine AN AO Az (fun _ _=>rfl) ?_ ?_;walk_at "v0";exact Ah;exact Ah;refine Aj ?_ ?_;refine AS 2 nd3 rfl (by walk_at "loc") rfl rfl ?_;refine Au ID IF ?_ ?_;refine AN AO Az (fun _ _=>rfl) ?_ ?_;walk_at "v0";exact Ah;walk_at "v1";refine Aj ?_ ?_;refine Ou 0 rfl (by walk_at "vis") dK dK (fun _=>rfl) rfl rfl rfl ?_ ?_;exact Ah;refine Au Pk Po ?_ ?_;refine AN AO Az (fun _ _=>rfl) ?_ ?_;walk_at "v0";exact Ah;walk_at "v1";refine Ak ?_;refine Aw ?_;walk_at "v2";exact AW;refine Aj ?_ ?_;refine Ou 0 rfl (by walk_at "vis") dK dK (fun _=>rfl) rfl rfl rfl ?_ ?_;exact Ah;refine Au ID IF ?_ ?_;refine Au Bb AQ ?_ ?_;refine Au Bb AQ ?_ ?_;refine Au Mi Ml ?_ ?_;refine AN AO Az (fun _ _=>rfl) ?_ ?_;walk_at "v0";exact Ah;exact Ah;refine Au Mi Ml ?_ ?_;refine Au Mi Ml ?_ ?_;exact Ah;refine AN AO Az (fun _ _=>rfl) ?_ ?_;walk_at "v0";exact Ah;refine AN AO Az (fun _ _=>rfl) ?_ ?_;walk_at "v0";exact Ah;exact Ah;exact Ah;refine Aj ?_ ?_;refine Ou 0 rfl (by walk_at "vis") dK dK (fun _=>rfl) rfl rfl rfl ?_ ?_;exact Ah;refine Au Bb AQ ?_ ?_;refine AN AO Az (fun _ _=>rfl) ?_ ?_;walk_at "v0";exact Ah;exact Ah;refine Ak ?_;refine Aw ?_;refine Au ID IF ?_ ?_;refine Au Pk Po ?_ ?_;refine Au ID IF ?_ ?_;refine Au Mi Ml ?_ ?_;refine AN AO Az (fun _ _=>rfl) ?_ ?_;walk_at "v0";exact Ah;exact Ah;exact Ah;exact Ah;walk_at "v1"
def KJ{f:Addr}{fd:FuncData}(F:Fun K "_law_house" "_law_house" (top 54) f fd)(B:Blt mg K)(B2:Blt2 mg)(Av:Def P w K mg base CX0 1 "_law_take" ["_law_bag_here","_law_many"] (spJ K Aq 2)):
  FnOk P w K mg base CX0 2 f fd ["_law_bag_here"] (spJ K CJ 1):=by
 refine BC (N:=["_law_bag_here","_law_hands","_law_many","_law_few","_law_letters","_law_at","_law_k","_law_bits"]) F ⟨rfl,rfl,rfl,dK,rfl,dK,dK⟩ fun cdv A outer s H E hr=>?_;have nd8:List.Nodup (["_law_bag_here","_law_hands","_law_many","_law_few","_law_letters","_law_at","_law_k","_law_bits"]:List Str):=by decide +kernel
 refine Aj ?_ ?_;refine AS 1 nd8 rfl (by walk_at "loc") rfl rfl ?_;refine Au Bb AQ ?_ ?_;exact Ah;refine Am Av Al rfl rfl rfl rfl rfl hr (by decide) AG dK rfl rfl rfl ?_;refine Aa rfl ?_ ?_;walk_at "v0";refine Aa rfl ?_ ?_;exact Ah;exact Af;refine Aj ?_ ?_;refine AS 2 nd8 rfl (by walk_at "loc") rfl rfl ?_;refine Au Bb AQ ?_ ?_;exact Ah;refine Am Av Al rfl rfl rfl rfl rfl hr (by decide) AG dK rfl rfl rfl ?_;refine Aa rfl ?_ ?_;walk_at "v0";refine Aa rfl ?_ ?_;exact Ah;exact Af;refine Aj ?_ ?_;refine AS 3 nd8 rfl (by walk_at "loc") rfl rfl ?_;refine Am Av Al rfl rfl rfl rfl rfl hr (by decide) AG dK rfl rfl rfl ?_;refine Aa rfl ?_ ?_;walk_at "v0";refine Aa rfl ?_ ?_;exact Ah;exact Af;refine Aj ?_ ?_;refine AS 4 nd8 rfl (by walk_at "loc") rfl rfl ?_;refine AH ?_;exact Af;refine Aj ?_ ?_;refine AS 5 nd8 rfl (by walk_at "loc") rfl rfl ?_;exact Ah;refine Aj ?_ ?_;refine JV PassesOwn.never rfl ?_ ?_ ?_ (fun _=>rfl);refine E1 rfl B.range rfl ?_;walk_at "v2";exact Ke 6 nd8 rfl (by walk_at "loc") rfl;refine Aj ?_ ?_;refine AS 5 nd8 rfl (by walk_at "loc") rfl rfl ?_;refine Au Bb AQ ?_ ?_;walk_at "v5";refine Am Av Al rfl rfl rfl rfl rfl hr (by decide) AG dK rfl rfl rfl ?_;refine Aa rfl ?_ ?_;walk_at "v0";refine Aa rfl ?_ ?_;refine Au Hl Hm ?_ ?_;refine Au Bb AQ ?_ ?_;refine Au Hl Hm ?_ ?_;exact Ah;walk_at "v2";walk_at "v6";walk_at "v5";exact Af;refine Aj ?_ ?_;refine AS 7 nd8 rfl (by walk_at "loc") rfl rfl ?_;refine Au Bb AQ ?_ ?_;exact Ah;refine Am Av Al rfl rfl rfl rfl rfl hr (by decide) AG dK rfl rfl rfl ?_
 refine Aa rfl ?_ ?_;walk_at "v0";refine Aa rfl ?_ ?_;refine Au Hl Hm ?_ ?_;refine Au Mj Mm ?_ ?_;exact Ah;walk_at "v1";exact Ah;exact Af;refine Aj ?_ ?_;refine Bt ?_ ?_ ?_;refine BV C1 (BY hr) (A4 _) ?_ ?_;walk_at "v3";exact Ah;refine Ak ?_;refine AS 7 nd8 rfl (by walk_at "loc") rfl rfl ?_;refine Au Wr Yd ?_ ?_;refine Au Mj Mm ?_ ?_;exact Ah;refine Am Av Al rfl rfl rfl rfl rfl hr (by decide) AG dK rfl rfl rfl ?_;refine Aa rfl ?_ ?_;walk_at "v0";refine Aa rfl ?_ ?_;walk_at "v1";exact Af;refine Au Mj Mm ?_ ?_;exact Ah;refine Am Av Al rfl rfl rfl rfl rfl hr (by decide) AG dK rfl rfl rfl ?_;refine Aa rfl ?_ ?_;walk_at "v0";refine Aa rfl ?_ ?_;walk_at "v1";exact Af;exact AW;refine Aj ?_ ?_;refine LX 4 rfl (by walk_at "vis") dK dK rfl rfl rfl rfl ?_;refine A3 ?_;refine Aa rfl ?_ ?_;refine Ac ?_;refine AN AO Az (fun _ _=>rfl) ?_ ?_;exact AI dK;walk_at "v5";refine Aa rfl ?_ ?_;refine Ac ?_;refine Cj (by rfl) rfl nd8 (by rfl) (fun _=>rfl) ?_ ?_ ?_;refine E1 rfl B.range rfl ?_;walk_at "v1";refine LY fun _ _ _ _ _=>?_;refine BV C1 (BY hr) (A4 _) ?_ ?_;refine Au Pj R7 ?_ ?_;refine Au R6 Sa ?_ ?_;walk_at "v8";walk_at "v0";exact Ah;exact Ah;intro _ _ _ _ _;walk_at "v0";exact Af;refine Ak ?_;refine AS 5 nd8 rfl (by walk_at "loc") rfl rfl ?_;refine Au Bb AQ ?_ ?_;walk_at "v5";exact Ah;refine Ak ?_;refine Aw ?_;refine A3 ?_;refine Aa rfl ?_ ?_;refine Ac ?_;walk_at "v1";refine Aa rfl ?_ ?_;refine Ac ?_;walk_at "v4";exact Af
def Jb{f:Addr}{fd:FuncData}(F:Fun K "_law_machine" "_law_machine" (top 55) f fd)(B:Blt mg K)(B2:Blt2 mg)(Av:Def P w K mg base CX0 1 "_law_take" ["_law_bag_here","_law_many"] (spJ K Aq 2)):
  FnOk P w K mg base CX0 2 f fd ["_law_bag_here","_law_house_here","_law_most"] (spJ K B8 3):=by
 refine BC (N:=["_law_bag_here","_law_house_here","_law_most","_law_rooms","_law_moves","_law_room","_law_line","_law_letter","_law_bits"]) F ⟨rfl,rfl,rfl,dK,rfl,dK,dK⟩ fun cdv A outer s H E hr=>?_;have nd9:List.Nodup (["_law_bag_here","_law_house_here","_law_most","_law_rooms","_law_moves","_law_room","_law_line","_law_letter","_law_bits"]:List Str):=by decide +kernel
 refine Aj ?_ ?_;refine AS 3 nd9 rfl (by walk_at "loc") rfl rfl ?_;refine Au Bb AQ ?_ ?_;exact Ah;refine Am Av Al rfl rfl rfl rfl rfl hr (by decide) AG dK rfl rfl rfl ?_;refine Aa rfl ?_ ?_;walk_at "v0";refine Aa rfl ?_ ?_;walk_at "v2";exact Af;refine Aj ?_ ?_;refine AS 4 nd9 rfl (by walk_at "loc") rfl rfl ?_;refine AH ?_;exact Af;refine Aj ?_ ?_;refine JV PassesOwn.never rfl ?_ ?_ ?_ (fun _=>rfl);refine E1 rfl B.range rfl ?_;walk_at "v3";exact Ke 5 nd9 rfl (by walk_at "loc") rfl;refine Aj ?_ ?_;refine AS 6 nd9 rfl (by walk_at "loc") rfl rfl ?_;refine AH ?_;exact Af;refine Aj ?_ ?_;refine JV PassesOwn.never rfl ?_ ?_ ?_ (fun _=>rfl);refine Cp ?_;refine AN AO Az (fun _ _=>rfl) ?_ ?_;walk_at "v1";exact Ah;exact Ke 7 nd9 rfl (by walk_at "loc") rfl;refine Ak ?_;refine LX 6 rfl (by walk_at "vis") dK dK rfl rfl rfl rfl ?_;refine Am Av Al rfl rfl rfl rfl rfl hr (by decide) AG dK rfl rfl rfl ?_;refine Aa rfl ?_ ?_;walk_at "v0";refine Aa rfl ?_ ?_;walk_at "v3";exact Af;refine Ak ?_;refine LX 4 rfl (by walk_at "vis") dK dK rfl rfl rfl rfl ?_;walk_at "v6";refine Aj ?_ ?_;refine AS 8 nd9 rfl (by walk_at "loc") rfl rfl ?_;refine Am Av Al rfl rfl rfl rfl rfl hr (by decide) AG dK rfl rfl rfl ?_;refine Aa rfl ?_ ?_;walk_at "v0";refine Aa rfl ?_ ?_;refine Au Mj Mm ?_ ?_;exact Ah;walk_at "v3";exact Af;refine Ak ?_;refine Aw ?_;refine A3 ?_;refine Aa rfl ?_ ?_;refine Ac ?_;walk_at "v4";refine Aa rfl ?_ ?_;refine Ac ?_;refine V6 ["_law_bag_here","_law_house_here","_law_most","_law_rooms","_law_moves","?","_law_line","_law_letter","_law_bits"] rfl rfl rfl dK rfl (fun _=>rfl) ?_ ?_ ?_
 refine E1 rfl B.range rfl ?_;walk_at "v3";refine LY fun _ _ _ _ _=>?_;refine BV C1 (BY hr) (A4 _) ?_ ?_;refine Au Pj R7 ?_ ?_;refine Au R6 Sa ?_ ?_;walk_at "v9";walk_at "v0";exact Ah;exact Ah;intro _ _ _ _ _;walk_at "v0";exact Af
def Gz{f:Addr}{fd:FuncData}(F:Fun K "_law_machine_copy" "_law_machine_copy" (top 59) f fd)(B:Blt mg K)(B2:Blt2 mg):
  FnOk P w K mg base CX0 1 f fd ["_law_machine_here"] (spJ K Br 1):=by
 refine BC (N:=["_law_machine_here"]) F ⟨rfl,rfl,rfl,dK,rfl,dK,dK⟩ fun cdv A outer s H E hr=>?_;have nd1:List.Nodup (["_law_machine_here"]:List Str):=by decide +kernel
 refine Ak ?_;refine Aw ?_;refine A3 ?_;refine Aa rfl ?_ ?_;refine Ac ?_;refine Cj (by rfl) rfl nd1 (by rfl) (fun _=>rfl) ?_ ?_ ?_;refine Cp ?_;refine AN AO Az (fun _ _=>rfl) ?_ ?_;walk_at "v0";exact Ah;exact Bx;intro _ _ _ _ _;refine CI Pl HA B.list Boot.«list» dK dK rfl rfl rfl ?_;refine Aa rfl ?_ ?_;walk_at "v0";exact Af;refine Aa rfl ?_ ?_;refine Ac ?_;refine CI Pl HA B.list Boot.«list» dK dK rfl rfl rfl ?_;refine Aa rfl ?_ ?_;refine AN AO Az (fun _ _=>rfl) ?_ ?_;walk_at "v0";exact Ah;exact Af;exact Af
def GA{f:Addr}{fd:FuncData}(F:Fun K "_law_machine_text" "_law_machine_text" (top 66) f fd)(B:Blt mg K)(B2:Blt2 mg):
  FnOk P w K mg base CX0 1 f fd ["_law_machine_here"] (spJ K BK 1):=by
 refine BC (N:=["_law_machine_here","_law_rows"]) F ⟨rfl,rfl,rfl,dK,rfl,dK,dK⟩ fun cdv A outer s H E hr=>?_;have nd2:List.Nodup (["_law_machine_here","_law_rows"]:List Str):=by decide +kernel
 have nd3:List.Nodup (["_law_line","_law_machine_here","_law_rows"]:List Str):=by decide +kernel
 refine Aj ?_ ?_;refine Np 1 nd2 rfl rfl (by rfl) rfl (by rfl) (fun _=>rfl) rfl ?_ ?_ ?_;refine Cp ?_;refine AN AO Az (fun _ _=>rfl) ?_ ?_;walk_at "v0";exact Ah;exact Bx;intro _ _ _ _ _;refine Gr rfl rfl B rfl ?_ ?_;exact AI dK;refine Au Bb AQ ?_ ?_;refine AH ?_;refine Aa rfl ?_ ?_;refine Ac ?_;exact AI dK;exact Af;refine Cj (by rfl) rfl nd3 (by rfl) (fun _=>rfl) ?_ ?_ ?_;refine Cp ?_;walk_at "v0";exact Bx;intro _ _ _ _ _;refine CI Mk Ic B.str Boot.«str» dK dK rfl rfl rfl ?_;refine Aa rfl ?_ ?_;walk_at "v0";exact Af;refine Ak ?_;refine Aw ?_;refine Gr rfl rfl B rfl ?_ ?_;exact AI dK;refine Au Bb AQ ?_ ?_;walk_at "v1";refine AH ?_;refine Aa rfl ?_ ?_;refine Ac ?_;refine Gr rfl rfl B rfl ?_ ?_;exact AI dK;refine Au Bb AQ ?_ ?_;refine AH ?_;refine Aa rfl ?_ ?_;refine Ac ?_;exact AI dK;exact Af;refine Cj (by rfl) rfl nd2 (by rfl) (fun _=>rfl) ?_ ?_ ?_;refine Cp ?_;refine AN AO Az (fun _ _=>rfl) ?_ ?_;walk_at "v0";exact Ah;exact Bx;intro _ _ _ _ _;refine CI Mk Ic B.str Boot.«str» dK dK rfl rfl rfl ?_;refine Aa rfl ?_ ?_;walk_at "v0";exact Af;exact Af
def Je{f:Addr}{fd:FuncData}(F:Fun K "need_written" "need_written" (top 47) f fd)(B:Blt mg K)(B2:Blt2 mg):
  FnOk P w K mg base CX0 1 f fd ["is_so"] (spJ K BP 1):=by
 refine BC (N:=["is_so"]) F ⟨rfl,rfl,rfl,dK,rfl,dK,dK⟩ fun cdv A outer s H E hr=>?_;refine Ak ?_;refine Bt ?_ ?_ ?_;refine By ?_;refine Bw (fun _=>rfl) ?_;walk_at "v0";refine Ak ?_;exact JX;exact AW
def IE{f:Addr}{fd:FuncData}(F:Fun K "rows_of_words" "rows_of_words" (top 46) f fd)(B:Blt mg K)(B2:Blt2 mg)(B5:Def P w K mg base CX0 1 "need_written" ["is_so"] (spJ K BP 1)):
  FnOk P w K mg base CX0 2 f fd ["text"] (spJ K C9 1):=by
 refine BC (N:=["text"]) F ⟨rfl,rfl,rfl,dK,rfl,dK,dK⟩ fun cdv A outer s H E hr=>?_;have nd1:List.Nodup (["text"]:List Str):=by decide +kernel
 refine Aj ?_ ?_;refine Hd rfl ?_;refine Am B5 Al rfl rfl rfl rfl rfl hr (by decide) AG dK rfl rfl rfl ?_;refine Aa rfl ?_ ?_;refine LV rfl rfl B rfl rfl ?_;walk_at "v0";exact Af;refine Ak ?_;refine Aw ?_;refine Cj (by rfl) rfl nd1 (by rfl) (fun _=>rfl) ?_ ?_ ?_;refine Cp ?_;refine Nk rfl rfl rfl ?_ ?_;walk_at "v0";exact AI dK;exact Bx;intro _ _ _ _ _;refine Nk rfl rfl rfl ?_ ?_;walk_at "v0";exact AI dK
def Jd{f:Addr}{fd:FuncData}(F:Fun K "need_machine" "need_machine" (top 39) f fd)(B:Blt mg K)(B2:Blt2 mg)(C4:Def P w K mg base CX0 10 "is_machine" ["house","thing"] (spJ K Ci 2)):
  FnOk P w K mg base CX0 11 f fd ["house","machine"] (spJ K B9 2):=by
 refine BC (N:=["house","machine"]) F ⟨rfl,rfl,rfl,dK,rfl,dK,dK⟩ fun cdv A outer s H E hr=>?_;refine Ak ?_;refine Bt ?_ ?_ ?_;refine By ?_;refine Bw (fun _=>rfl) ?_;refine Am C4 Al rfl rfl rfl rfl rfl hr (by decide) AG dK rfl rfl rfl ?_;refine Aa rfl ?_ ?_;walk_at "v0";refine Aa rfl ?_ ?_;walk_at "v1";exact Af;refine Ak ?_;exact JX;exact AW
def HQ{f:Addr}{fd:FuncData}(F:Fun K "is_number_word" "is_number_word" (top 44) f fd)(B:Blt mg K)(B2:Blt2 mg)(Ik:GStr mg "FIGURES" (Str.ofString "0123456789")):
  FnOk P w K mg base CX0 1 f fd ["word"] (spJ K BN 1):=by
 refine BC (N:=["word"]) F ⟨rfl,rfl,rfl,dK,rfl,dK,dK⟩ fun cdv A outer s H E hr=>?_;have nd1:List.Nodup (["word"]:List Str):=by decide +kernel
 refine Aj ?_ ?_;refine Bt ?_ ?_ ?_;refine Et ?_;refine G2 ?_ ?_;refine BV C1 (BY hr) (A4 _) ?_ ?_;walk_at "v0";exact AI dK;refine FI ?_;refine By ?_;refine Bw (fun _=>rfl) ?_;refine AF EN (CU rfl) B.all Boot.«all» dK dK rfl rfl rfl ?_;refine Aa rfl ?_ ?_;refine Cj (by rfl) rfl nd1 (by rfl) (fun _=>rfl) ?_ ?_ ?_;refine RC ?_;walk_at "v0";exact Bx;intro _ _ _ _ _;refine Dl (X9 false) Wz (by with_unfolding_all rfl) ?_ ?_;walk_at "v0";exact TX Ik rfl dK;exact Af;refine Ak ?_;refine Aw ?_;exact CZ;exact AW;refine Ak ?_;refine Aw ?_;refine X2 ?_ ?_;refine Dl C1 (BY hr) (A4 _) ?_ ?_;walk_at "v0";exact AI dK;refine Dm ?_;refine Dl Pm (OE hr) (A4 _) ?_ ?_;refine AN AO Az (fun _ _=>rfl) ?_ ?_;walk_at "v0";exact Ah;exact AI dK
def Gb{f:Addr}{fd:FuncData}(F:Fun K "are_numbers_behind" "are_numbers_behind" (top 48) f fd)(B:Blt mg K)(B2:Blt2 mg)(DV:Def P w K mg base CX0 1 "is_number_word" ["word"] (spJ K BN 1)):
  FnOk P w K mg base CX0 2 f fd ["first","words"] (spJ K BB 2):=by
 refine BC (N:=["first","words"]) F ⟨rfl,rfl,rfl,dK,rfl,dK,dK⟩ fun cdv A outer s H E hr=>?_;have nd2:List.Nodup (["first","words"]:List Str):=by decide +kernel
 refine Ak ?_;refine Aw ?_;refine CY ?_ ?_;refine Dl C1 (BY hr) (A4 _) ?_ ?_;refine AN AO Az (fun _ _=>rfl) ?_ ?_;walk_at "v1";exact Ah;walk_at "v0";refine Dm ?_;refine AF EN (CU rfl) B.all Boot.«all» dK dK rfl rfl rfl ?_;refine Aa rfl ?_ ?_;refine Cj (by rfl) rfl nd2 (by rfl) (fun _=>rfl) ?_ ?_ ?_;refine Cp ?_;refine Gs ?_ ?_;walk_at "v1";exact Ah;exact Bx;intro _ _ _ _ _;refine Am DV Al rfl rfl rfl rfl rfl hr (by decide) AG dK rfl rfl rfl ?_;refine Aa rfl ?_ ?_;walk_at "v0";exact Af;exact Af
def HS{f:Addr}{fd:FuncData}(F:Fun K "numbers_behind" "numbers_behind" (top 49) f fd)(B:Blt mg K)(B2:Blt2 mg):
  FnOk P w K mg base CX0 1 f fd ["words"] (spJ K Cf 1):=by
 refine BC (N:=["words"]) F ⟨rfl,rfl,rfl,dK,rfl,dK,dK⟩ fun cdv A outer s H E hr=>?_;have nd1:List.Nodup (["words"]:List Str):=by decide +kernel
 refine Ak ?_;refine Aw ?_;refine Cj (by rfl) rfl nd1 (by rfl) (fun _=>rfl) ?_ ?_ ?_;refine Cp ?_;refine Gs ?_ ?_;walk_at "v0";exact Ah;exact Bx;intro _ _ _ _ _;refine CI Ui Qb B.int Boot.«int» dK dK rfl rfl rfl ?_;refine Aa rfl ?_ ?_;walk_at "v0";exact Af
def Jf{f:Addr}{fd:FuncData}(F:Fun K "read_machine" "read_machine" (top 45) f fd)(B:Blt mg K)(B2:Blt2 mg)(C6:Def P w K mg base CX0 9 "need_house" ["house"] (spJ K BH 1))(Ek:Def P w K mg base CX0 2 "rows_of_words" ["text"] (spJ K C9 1))(B5:Def P w K mg base CX0 1 "need_written" ["is_so"] (spJ K BP 1))(Co:Def P w K mg base CX0 11 "need_machine" ["house","machine"] (spJ K B9 2))(Cd:Def P w K mg base CX0 2 "are_numbers_behind" ["first","words"] (spJ K BB 2))(C7:Def P w K mg base CX0 1 "numbers_behind" ["words"] (spJ K Cf 1)):
  FnOk P w K mg base CX0 12 f fd ["house","text"] (spJ K BQ 2):=by
 refine BC (N:=["house","text","rows","words","machine"]) F ⟨rfl,rfl,rfl,dK,rfl,dK,dK⟩ fun cdv A outer s H E hr=>?_;have nd5:List.Nodup (["house","text","rows","words","machine"]:List Str):=by decide +kernel
 refine Aj ?_ ?_;refine Hd rfl ?_;refine Am C6 Al rfl rfl rfl rfl rfl hr (by decide) AG dK rfl rfl rfl ?_;refine Aa rfl ?_ ?_;walk_at "v0";exact Af;refine Aj ?_ ?_;refine AS 2 nd5 rfl (by walk_at "loc") rfl rfl ?_;refine Am Ek Al rfl rfl rfl rfl rfl hr (by decide) AG dK rfl rfl rfl ?_;refine Aa rfl ?_ ?_;walk_at "v1";exact Af;refine Aj ?_ ?_;refine Hd rfl ?_;refine Am B5 Al rfl rfl rfl rfl rfl hr (by decide) AG dK rfl rfl rfl ?_;refine Aa rfl ?_ ?_;refine Am Cd Al rfl rfl rfl rfl rfl hr (by decide) AG dK rfl rfl rfl ?_;refine Aa rfl ?_ ?_;exact AI dK;refine Aa rfl ?_ ?_;refine AN AO Az (fun _ _=>rfl) ?_ ?_;walk_at "v2";refine F7 Em Ep ?_;exact Ah;exact Af;exact Af;refine Aj ?_ ?_;refine JV PassesOwn.never rfl ?_ ?_ ?_ (fun _=>rfl);refine Cp ?_;refine Fj ?_ ?_;walk_at "v2";refine F7 Em Ep ?_;exact Ah;exact Ke 3 nd5 rfl (by walk_at "loc") rfl;refine Ak ?_;refine Hd rfl ?_;refine Am B5 Al rfl rfl rfl rfl rfl hr (by decide) AG dK rfl rfl rfl ?_;refine Aa rfl ?_ ?_;refine Am Cd Al rfl rfl rfl rfl rfl hr (by decide) AG dK rfl rfl rfl ?_;refine Aa rfl ?_ ?_;exact AI dK;refine Aa rfl ?_ ?_;walk_at "v3";exact Af;exact Af;refine Aj ?_ ?_;refine AS 4 nd5 rfl (by walk_at "loc") rfl rfl ?_;refine Oq ?_;refine Aa rfl ?_ ?_;refine TY ["house","text","rows","?","machine"] rfl rfl rfl dK rfl (fun _=>rfl) ?_ ?_ ?_;refine Cp ?_;refine Fj ?_ ?_;walk_at "v2";refine F7 Em Ep ?_;exact Ah;exact Bx;intro _ _ _ _ _;refine Am C7 Al rfl rfl rfl rfl rfl hr (by decide) AG dK rfl rfl rfl ?_;refine Aa rfl ?_ ?_
 walk_at "v0";exact Af;refine Aa rfl ?_ ?_;refine Am C7 Al rfl rfl rfl rfl rfl hr (by decide) AG dK rfl rfl rfl ?_;refine Aa rfl ?_ ?_;refine AN AO Az (fun _ _=>rfl) ?_ ?_;walk_at "v2";refine F7 Em Ep ?_;exact Ah;exact Af;exact Af;refine Aj ?_ ?_;refine Hd rfl ?_;refine JU Co Al rfl rfl rfl rfl rfl hr (by decide) AG dK rfl rfl rfl ?_;refine Aa rfl ?_ ?_;walk_at "v0";refine Aa rfl ?_ ?_;walk_at "v4";exact Af;refine Ak ?_;refine Aw ?_;walk_at "v4"
def Hi{f:Addr}{fd:FuncData}(F:Fun K "_law_no_machine" "_law_no_machine" (top 65) f fd)(B:Blt mg K)(B2:Blt2 mg)(Av:Def P w K mg base CX0 1 "_law_take" ["_law_bag_here","_law_many"] (spJ K Aq 2)):
  FnOk P w K mg base CX0 2 f fd ["_law_bag_here","_law_machine_here"] (spJ K BD 2):=by
 refine BC (N:=["_law_bag_here","_law_machine_here","_law_moves","_law_good","_law_odd","_law_kind","_law_at","_law_spot","_law_which","_law_line"]) F ⟨rfl,rfl,rfl,dK,rfl,dK,dK⟩ fun cdv A outer s H E hr=>?_;have nd10:List.Nodup (["_law_bag_here","_law_machine_here","_law_moves","_law_good","_law_odd","_law_kind","_law_at","_law_spot","_law_which","_law_line"]:List Str):=by decide +kernel
 have nd11:List.Nodup (["_law_k","_law_bag_here","_law_machine_here","_law_moves","_law_good","_law_odd","_law_kind","_law_at","_law_spot","_law_which","_law_line"]:List Str):=by decide +kernel
 refine(fun h1 h2=>Aj h1 h2:_->_->_) ?_ ?_;refine(fun h1 h2=>Ov h1 rfl rfl rfl h2:_->_->_) ?_ ?_;refine(fun h1=>Mt rfl h1 rfl rfl:_->_) ?_;refine(fun h1=>Fs 2 nd10 rfl (by walk_at "loc") rfl h1 rfl:_->_) ?_;refine(fun h1=>Fs 3 nd10 rfl (by walk_at "loc") rfl h1 rfl:_->_) ?_;exact Mu;walk_at "v1";refine(fun h1 h2=>Aj h1 h2:_->_->_) ?_ ?_;refine(fun h1=>AS 4 nd10 rfl (by walk_at "loc") rfl rfl h1:_->_) ?_;refine(fun h1 h2=>AN AO Az (fun _ _=>rfl) h1 h2:_->_->_) ?_ ?_;refine(fun h1=>AH h1:_->_) ?_;refine(fun h1 h2=>Aa rfl h1 h2:_->_->_) ?_ ?_;refine(fun h1=>Ac h1:_->_) ?_;exact Fb;refine(fun h1 h2=>Aa rfl h1 h2:_->_->_) ?_ ?_;refine(fun h1=>Ac h1:_->_) ?_;exact CZ;refine(fun h1 h2=>Aa rfl h1 h2:_->_->_) ?_ ?_;refine(fun h1=>Ac h1:_->_) ?_;exact Ah;refine(fun h1 h2=>Aa rfl h1 h2:_->_->_) ?_ ?_;refine(fun h1=>Ac h1:_->_) ?_;exact AI dK;refine(fun h1 h2=>Aa rfl h1 h2:_->_->_) ?_ ?_;refine(fun h1=>Ac h1:_->_) ?_;refine(fun h1=>AH h1:_->_) ?_;exact Af;refine(fun h1 h2=>Aa rfl h1 h2:_->_->_) ?_ ?_;refine(fun h1=>Ac h1:_->_) ?_;refine(fun h1=>A3 h1:_->_) ?_;exact Af;refine(fun h1 h2=>Aa rfl h1 h2:_->_->_) ?_ ?_;refine(fun h1=>Ac h1:_->_) ?_;refine(fun h1 h2=>Au J7 J8 h1 h2:_->_->_) ?_ ?_;exact Ah;exact Ah;refine(fun h1 h2=>Aa rfl h1 h2:_->_->_) ?_ ?_;refine(fun h1=>Ac h1:_->_) ?_;refine(fun h1=>F7 Em Ep h1:_->_) ?_;exact Ah;refine(fun h1 h2=>Aa rfl h1 h2:_->_->_) ?_ ?_;refine(fun h1=>Ac h1:_->_) ?_;exact AI dK;refine(fun h1 h2=>Aa rfl h1 h2:_->_->_) ?_ ?_;refine(fun h1=>Ac h1:_->_) ?_;refine(fun h1=>AH h1:_->_) ?_
 refine(fun h1 h2=>Aa rfl h1 h2:_->_->_) ?_ ?_;refine(fun h1=>Ac h1:_->_) ?_;exact Ah;exact Af;refine(fun h1 h2=>Aa rfl h1 h2:_->_->_) ?_ ?_;refine(fun h1=>Ac h1:_->_) ?_;refine(fun h1=>A3 h1:_->_) ?_;refine(fun h1 h2=>Aa rfl h1 h2:_->_->_) ?_ ?_;refine(fun h1=>Ac h1:_->_) ?_;exact Ah;exact Af;exact Af;refine Am Av Al rfl rfl rfl rfl rfl hr (by decide) AG dK rfl rfl rfl ?_;refine(fun h1 h2=>Aa rfl h1 h2:_->_->_) ?_ ?_;walk_at "v0";refine(fun h1 h2=>Aa rfl h1 h2:_->_->_) ?_ ?_;exact Ah;exact Af;refine(fun h1 h2=>Aj h1 h2:_->_->_) ?_ ?_;refine(fun h1=>AS 5 nd10 rfl (by walk_at "loc") rfl rfl h1:_->_) ?_;refine Am Av Al rfl rfl rfl rfl rfl hr (by decide) AG dK rfl rfl rfl ?_;refine(fun h1 h2=>Aa rfl h1 h2:_->_->_) ?_ ?_;walk_at "v0";refine(fun h1 h2=>Aa rfl h1 h2:_->_->_) ?_ ?_;exact Ah;exact Af;refine(fun h1 h2=>Aj h1 h2:_->_->_) ?_ ?_;refine(fun h1=>AS 6 nd10 rfl (by walk_at "loc") rfl rfl h1:_->_) ?_;refine Am Av Al rfl rfl rfl rfl rfl hr (by decide) AG dK rfl rfl rfl ?_;refine(fun h1 h2=>Aa rfl h1 h2:_->_->_) ?_ ?_;walk_at "v0";refine(fun h1 h2=>Aa rfl h1 h2:_->_->_) ?_ ?_;refine AF Cm A7 B.len Boot.«len» dK dK rfl rfl rfl ?_;refine(fun h1 h2=>Aa rfl h1 h2:_->_->_) ?_ ?_;walk_at "v2";exact Af;exact Af;refine(fun h1 h2=>Aj h1 h2:_->_->_) ?_ ?_;refine(fun h1=>AS 7 nd10 rfl (by walk_at "loc") rfl rfl h1:_->_) ?_;refine Am Av Al rfl rfl rfl rfl rfl hr (by decide) AG dK rfl rfl rfl ?_;refine(fun h1 h2=>Aa rfl h1 h2:_->_->_) ?_ ?_;walk_at "v0";refine(fun h1 h2=>Aa rfl h1 h2:_->_->_) ?_ ?_;refine AF Cm A7 B.len Boot.«len» dK dK rfl rfl rfl ?_
 refine(fun h1 h2=>Aa rfl h1 h2:_->_->_) ?_ ?_;refine(fun h1 h2=>AN AO Az (fun _ _=>rfl) h1 h2:_->_->_) ?_ ?_;walk_at "v2";walk_at "v6";exact Af;exact Af;refine(fun h1 h2=>Aj h1 h2:_->_->_) ?_ ?_;refine(fun h1=>AS 8 nd10 rfl (by walk_at "loc") rfl rfl h1:_->_) ?_;refine Am Av Al rfl rfl rfl rfl rfl hr (by decide) AG dK rfl rfl rfl ?_;refine(fun h1 h2=>Aa rfl h1 h2:_->_->_) ?_ ?_;walk_at "v0";refine(fun h1 h2=>Aa rfl h1 h2:_->_->_) ?_ ?_;exact Ah;exact Af;refine(fun h1 h2=>Aj h1 h2:_->_->_) ?_ ?_;refine(fun h1=>AS 9 nd10 rfl (by walk_at "loc") rfl rfl h1:_->_) ?_;refine(fun h1 h2=>AN AO Az (fun _ _=>rfl) h1 h2:_->_->_) ?_ ?_;walk_at "v2";walk_at "v6";refine(fun h1 h2=>Aj h1 h2:_->_->_) ?_ ?_;refine(fun h1 h2 h3=>Bt h1 h2 h3:_->_->_->_) ?_ ?_ ?_;refine(fun h1 h2=>BV IT E3 (A4 _) h1 h2:_->_->_) ?_ ?_;walk_at "v5";exact Ah;refine(fun h1=>Ak h1:_->_) ?_;refine(fun h1=>Aw h1:_->_) ?_;refine(fun h1 h2=>AN AO Az (fun _ _=>rfl) h1 h2:_->_->_) ?_ ?_;refine(fun h1=>AH h1:_->_) ?_;refine(fun h1 h2=>Aa rfl h1 h2:_->_->_) ?_ ?_;refine(fun h1=>Ac h1:_->_) ?_;walk_at "v4";refine(fun h1 h2=>Aa rfl h1 h2:_->_->_) ?_ ?_;refine(fun h1=>Ac h1:_->_) ?_;refine(fun h1=>AH h1:_->_) ?_;refine(fun h1 h2=>Aa rfl h1 h2:_->_->_) ?_ ?_;refine(fun h1=>Ac h1:_->_) ?_;walk_at "v2";refine(fun h1 h2=>Aa rfl h1 h2:_->_->_) ?_ ?_;refine(fun h1=>Ac h1:_->_) ?_;walk_at "v3";exact Af;refine(fun h1 h2=>Aa rfl h1 h2:_->_->_) ?_ ?_;refine(fun h1=>Ac h1:_->_) ?_;refine(fun h1=>A3 h1:_->_) ?_;refine(fun h1 h2=>Aa rfl h1 h2:_->_->_) ?_ ?_;refine(fun h1=>Ac h1:_->_) ?_
 walk_at "v2";refine(fun h1 h2=>Aa rfl h1 h2:_->_->_) ?_ ?_;refine(fun h1=>Ac h1:_->_) ?_;walk_at "v3";refine(fun h1 h2=>Aa rfl h1 h2:_->_->_) ?_ ?_;refine(fun h1=>Ac h1:_->_) ?_;walk_at "v4";exact Af;exact Af;walk_at "v5";exact AW;refine(fun h1 h2=>Aj h1 h2:_->_->_) ?_ ?_;refine(fun h1 h2 h3=>Bt h1 h2 h3:_->_->_->_) ?_ ?_ ?_;refine(fun h1 h2=>BV IT E3 (A4 _) h1 h2:_->_->_) ?_ ?_;walk_at "v5";exact Ah;refine(fun h1=>Ak h1:_->_) ?_;refine(fun h1=>Aw h1:_->_) ?_;refine(fun h1 h2=>AN AO Az (fun _ _=>rfl) h1 h2:_->_->_) ?_ ?_;refine(fun h1=>AH h1:_->_) ?_;refine(fun h1 h2=>Aa rfl h1 h2:_->_->_) ?_ ?_;refine(fun h1=>Ac h1:_->_) ?_;refine(fun h1=>A3 h1:_->_) ?_;refine(fun h1 h2=>Aa rfl h1 h2:_->_->_) ?_ ?_;refine(fun h1=>Ac h1:_->_) ?_;refine CI HU EH B.tuple Boot.«tuple» dK dK rfl rfl rfl ?_;refine(fun h1 h2=>Aa rfl h1 h2:_->_->_) ?_ ?_;walk_at "v2";exact Af;refine(fun h1 h2=>Aa rfl h1 h2:_->_->_) ?_ ?_;refine(fun h1=>Ac h1:_->_) ?_;walk_at "v3";exact Af;refine(fun h1 h2=>Aa rfl h1 h2:_->_->_) ?_ ?_;refine(fun h1=>Ac h1:_->_) ?_;refine(fun h1=>A3 h1:_->_) ?_;refine(fun h1 h2=>Aa rfl h1 h2:_->_->_) ?_ ?_;refine(fun h1=>Ac h1:_->_) ?_;refine(fun h1=>AH h1:_->_) ?_;exact Af;refine(fun h1 h2=>Aa rfl h1 h2:_->_->_) ?_ ?_;refine(fun h1=>Ac h1:_->_) ?_;refine(fun h1=>AH h1:_->_) ?_;exact Af;exact Af;refine(fun h1 h2=>Aa rfl h1 h2:_->_->_) ?_ ?_;refine(fun h1=>Ac h1:_->_) ?_;refine(fun h1=>A3 h1:_->_) ?_;refine(fun h1 h2=>Aa rfl h1 h2:_->_->_) ?_ ?_;refine(fun h1=>Ac h1:_->_) ?_;refine(fun h1 h2 h3=>Cj (by rfl) rfl nd10 (by rfl) (fun _=>rfl) h1 h2 h3:_->_->_->_) ?_ ?_ ?_
 refine E1 rfl B.range rfl ?_;exact Ah;exact Bx;intro _ _ _ _ _;refine(fun h1 h2 h3=>Cj (by rfl) rfl nd11 (by rfl) (fun _=>rfl) h1 h2 h3:_->_->_->_) ?_ ?_ ?_;refine(fun h1=>Cp h1:_->_) ?_;walk_at "v10";exact Bx;intro _ _ _ _ _;exact Ah;refine(fun h1 h2=>Aa rfl h1 h2:_->_->_) ?_ ?_;refine(fun h1=>Ac h1:_->_) ?_;refine(fun h1=>AH h1:_->_) ?_;exact Af;exact Af;exact Af;refine(fun h1 h2=>Au Hl Hm h1 h2:_->_->_) ?_ ?_;walk_at "v5";exact Ah;exact AW;refine(fun h1 h2=>Aj h1 h2:_->_->_) ?_ ?_;refine(fun h1 h2 h3=>Bt h1 h2 h3:_->_->_->_) ?_ ?_ ?_;refine(fun h1 h2=>BV C1 (BY hr) (A4 _) h1 h2:_->_->_) ?_ ?_;walk_at "v5";exact Ah;refine(fun h1=>Ak h1:_->_) ?_;refine(fun h1=>Aw h1:_->_) ?_;refine(fun h1=>A3 h1:_->_) ?_;refine(fun h1 h2=>Aa rfl h1 h2:_->_->_) ?_ ?_;refine(fun h1=>Ac h1:_->_) ?_;walk_at "v2";refine(fun h1 h2=>Aa rfl h1 h2:_->_->_) ?_ ?_;refine(fun h1=>Ac h1:_->_) ?_;refine(fun h1 h2=>AN AO Az (fun _ _=>rfl) h1 h2:_->_->_) ?_ ?_;refine(fun h1=>AH h1:_->_) ?_;refine(fun h1 h2=>Aa rfl h1 h2:_->_->_) ?_ ?_;refine(fun h1=>Ac h1:_->_) ?_;refine CI HU EH B.tuple Boot.«tuple» dK dK rfl rfl rfl ?_;refine(fun h1 h2=>Aa rfl h1 h2:_->_->_) ?_ ?_;walk_at "v3";exact Af;refine(fun h1 h2=>Aa rfl h1 h2:_->_->_) ?_ ?_;refine(fun h1=>Ac h1:_->_) ?_;refine(fun h1 h2=>Au Bb AQ h1 h2:_->_->_) ?_ ?_;walk_at "v3";refine(fun h1=>AH h1:_->_) ?_;refine(fun h1 h2=>Aa rfl h1 h2:_->_->_) ?_ ?_;refine(fun h1=>Ac h1:_->_) ?_;refine AF Cm A7 B.len Boot.«len» dK dK rfl rfl rfl ?_;refine(fun h1 h2=>Aa rfl h1 h2:_->_->_) ?_ ?_
 walk_at "v2";exact Af;exact Af;refine(fun h1 h2=>Aa rfl h1 h2:_->_->_) ?_ ?_;refine(fun h1=>Ac h1:_->_) ?_;refine(fun h1 h2=>Au Bb AQ h1 h2:_->_->_) ?_ ?_;refine(fun h1=>AH h1:_->_) ?_;refine(fun h1 h2=>Aa rfl h1 h2:_->_->_) ?_ ?_;refine(fun h1=>Ac h1:_->_) ?_;refine(fun h1=>F7 Em Ep h1:_->_) ?_;exact Ah;exact Af;walk_at "v3";refine(fun h1 h2=>Aa rfl h1 h2:_->_->_) ?_ ?_;refine(fun h1=>Ac h1:_->_) ?_;refine(fun h1=>AH h1:_->_) ?_;refine(fun h1 h2=>Aa rfl h1 h2:_->_->_) ?_ ?_;refine(fun h1=>Ac h1:_->_) ?_;exact Ah;refine(fun h1 h2=>Aa rfl h1 h2:_->_->_) ?_ ?_;refine(fun h1=>Ac h1:_->_) ?_;exact Ah;exact Af;refine(fun h1 h2=>Aa rfl h1 h2:_->_->_) ?_ ?_;refine(fun h1=>Ac h1:_->_) ?_;refine(fun h1=>AH h1:_->_) ?_;refine(fun h1 h2=>Aa rfl h1 h2:_->_->_) ?_ ?_;refine(fun h1=>Ac h1:_->_) ?_;exact CZ;exact Af;refine(fun h1 h2=>Aa rfl h1 h2:_->_->_) ?_ ?_;refine(fun h1=>Ac h1:_->_) ?_;exact Fb;refine(fun h1 h2=>Aa rfl h1 h2:_->_->_) ?_ ?_;refine(fun h1=>Ac h1:_->_) ?_;exact AI dK;exact Af;walk_at "v8";exact Af;exact AW;refine(fun h1 h2=>Aj h1 h2:_->_->_) ?_ ?_;refine(fun h1 h2 h3=>Bt h1 h2 h3:_->_->_->_) ?_ ?_ ?_;refine(fun h1 h2=>BV C1 (BY hr) (A4 _) h1 h2:_->_->_) ?_ ?_;walk_at "v5";exact Ah;refine(fun h1=>Ak h1:_->_) ?_;refine(fun h1=>Aw h1:_->_) ?_;refine(fun h1=>A3 h1:_->_) ?_;refine(fun h1 h2=>Aa rfl h1 h2:_->_->_) ?_ ?_;refine(fun h1=>Ac h1:_->_) ?_;walk_at "v2";exact Af;exact AW;refine(fun h1 h2=>Aj h1 h2:_->_->_) ?_ ?_;refine(fun h1 h2 h3=>Bt h1 h2 h3:_->_->_->_) ?_ ?_ ?_;refine(fun h1 h2=>BV C1 (BY hr) (A4 _) h1 h2:_->_->_) ?_ ?_
 walk_at "v5";exact Ah;refine(fun h1=>Ak h1:_->_) ?_;refine(fun h1=>AS 9 nd10 rfl (by walk_at "loc") rfl rfl h1:_->_) ?_;refine(fun h1 h2=>AN AO Az (fun _ _=>rfl) h1 h2:_->_->_) ?_ ?_;refine(fun h1=>AH h1:_->_) ?_;refine(fun h1 h2=>Aa rfl h1 h2:_->_->_) ?_ ?_;refine(fun h1=>Ac h1:_->_) ?_;refine(fun h1 h2=>Au Bb AQ h1 h2:_->_->_) ?_ ?_;walk_at "v9";refine(fun h1=>AH h1:_->_) ?_;refine(fun h1 h2=>Aa rfl h1 h2:_->_->_) ?_ ?_;refine(fun h1=>Ac h1:_->_) ?_;exact Ah;exact Af;refine(fun h1 h2=>Aa rfl h1 h2:_->_->_) ?_ ?_;refine(fun h1=>Ac h1:_->_) ?_;refine(fun h1 h2=>Fj h1 h2:_->_->_) ?_ ?_;walk_at "v9";refine(fun h1=>F7 Em Ep h1:_->_) ?_;exact Ah;refine(fun h1 h2=>Aa rfl h1 h2:_->_->_) ?_ ?_;refine(fun h1=>Ac h1:_->_) ?_;refine CI HU EH B.tuple Boot.«tuple» dK dK rfl rfl rfl ?_;refine(fun h1 h2=>Aa rfl h1 h2:_->_->_) ?_ ?_;walk_at "v9";exact Af;exact Af;refine(fun h1 h2=>Au ID IF h1 h2:_->_->_) ?_ ?_;walk_at "v8";exact Ah;refine(fun h1=>Ak h1:_->_) ?_;refine(fun h1=>AS 9 nd10 rfl (by walk_at "loc") rfl rfl h1:_->_) ?_;refine(fun h1 h2=>Au Bb AQ h1 h2:_->_->_) ?_ ?_;refine(fun h1 h2=>Au Bb AQ h1 h2:_->_->_) ?_ ?_;refine(fun h1 h2=>Fj h1 h2:_->_->_) ?_ ?_;walk_at "v9";walk_at "v7";refine(fun h1=>AH h1:_->_) ?_;refine(fun h1 h2=>Aa rfl h1 h2:_->_->_) ?_ ?_;refine(fun h1=>Ac h1:_->_) ?_;refine(fun h1 h2=>AN AO Az (fun _ _=>rfl) h1 h2:_->_->_) ?_ ?_;refine(fun h1=>AH h1:_->_) ?_;refine(fun h1 h2=>Aa rfl h1 h2:_->_->_) ?_ ?_;refine(fun h1=>Ac h1:_->_) ?_;refine AF Cm A7 B.len Boot.«len» dK dK rfl rfl rfl ?_
 refine(fun h1 h2=>Aa rfl h1 h2:_->_->_) ?_ ?_;walk_at "v2";exact Af;refine(fun h1 h2=>Aa rfl h1 h2:_->_->_) ?_ ?_;refine(fun h1=>Ac h1:_->_) ?_;refine(fun h1=>F7 Em Ep h1:_->_) ?_;exact Ah;refine(fun h1 h2=>Aa rfl h1 h2:_->_->_) ?_ ?_;refine(fun h1=>Ac h1:_->_) ?_;exact CZ;refine(fun h1 h2=>Aa rfl h1 h2:_->_->_) ?_ ?_;refine(fun h1=>Ac h1:_->_) ?_;exact Fb;refine(fun h1 h2=>Aa rfl h1 h2:_->_->_) ?_ ?_;refine(fun h1=>Ac h1:_->_) ?_;exact AI dK;refine(fun h1 h2=>Aa rfl h1 h2:_->_->_) ?_ ?_;refine(fun h1=>Ac h1:_->_) ?_;refine(fun h1 h2=>Au J7 J8 h1 h2:_->_->_) ?_ ?_;exact Ah;exact Ah;refine(fun h1 h2=>Aa rfl h1 h2:_->_->_) ?_ ?_;refine(fun h1=>Ac h1:_->_) ?_;refine(fun h1=>AH h1:_->_) ?_;refine(fun h1 h2=>Aa rfl h1 h2:_->_->_) ?_ ?_;refine(fun h1=>Ac h1:_->_) ?_;exact Ah;exact Af;exact Af;walk_at "v8";exact Af;refine(fun h1 h2=>Gs h1 h2:_->_->_) ?_ ?_;walk_at "v9";refine(fun h1 h2=>Au Bb AQ h1 h2:_->_->_) ?_ ?_;walk_at "v7";exact Ah;refine(fun h1=>Ak h1:_->_) ?_;refine(fun h1=>Aw h1:_->_) ?_;refine(fun h1=>A3 h1:_->_) ?_;refine(fun h1 h2=>Aa rfl h1 h2:_->_->_) ?_ ?_;refine(fun h1=>Ac h1:_->_) ?_;refine(fun h1 h2=>Au Bb AQ h1 h2:_->_->_) ?_ ?_;refine(fun h1 h2=>Au Bb AQ h1 h2:_->_->_) ?_ ?_;refine(fun h1 h2=>Fj h1 h2:_->_->_) ?_ ?_;walk_at "v2";walk_at "v6";refine(fun h1=>AH h1:_->_) ?_;refine(fun h1 h2=>Aa rfl h1 h2:_->_->_) ?_ ?_;refine(fun h1=>Ac h1:_->_) ?_;walk_at "v9";exact Af;refine(fun h1 h2=>Gs h1 h2:_->_->_) ?_ ?_;walk_at "v2";refine(fun h1 h2=>Au Bb AQ h1 h2:_->_->_) ?_ ?_;walk_at "v6"
 exact Ah;refine(fun h1 h2=>Aa rfl h1 h2:_->_->_) ?_ ?_;refine(fun h1=>Ac h1:_->_) ?_;walk_at "v3";exact Af
def IC{f:Addr}{fd:FuncData}(F:Fun K "_law_no_house" "_law_no_house" (top 64) f fd)(B:Blt mg K)(B2:Blt2 mg)(Av:Def P w K mg base CX0 1 "_law_take" ["_law_bag_here","_law_many"] (spJ K Aq 2)):
  FnOk P w K mg base CX0 2 f fd ["_law_bag_here","_law_house_here"] (spJ K B4 2):=by
 refine BC (N:=["_law_bag_here","_law_house_here","_law_hands","_law_letters","_law_odd","_law_kind","_law_at","_law_letter","_law_owned","_law_which","_law_entry","_law_bad"]) F ⟨rfl,rfl,rfl,dK,rfl,dK,dK⟩ fun cdv A outer s H E hr=>?_;have nd12:List.Nodup (["_law_bag_here","_law_house_here","_law_hands","_law_letters","_law_odd","_law_kind","_law_at","_law_letter","_law_owned","_law_which","_law_entry","_law_bad"]:List Str):=by decide +kernel
 refine(fun h1 h2=>Aj h1 h2:_->_->_) ?_ ?_;refine(fun h1 h2=>Ov h1 rfl rfl rfl h2:_->_->_) ?_ ?_;refine(fun h1=>Mt rfl h1 rfl rfl:_->_) ?_;refine(fun h1=>Fs 2 nd12 rfl (by walk_at "loc") rfl h1 rfl:_->_) ?_;refine(fun h1=>Fs 3 nd12 rfl (by walk_at "loc") rfl h1 rfl:_->_) ?_;exact Mu;walk_at "v1";refine(fun h1 h2=>Aj h1 h2:_->_->_) ?_ ?_;refine(fun h1=>AS 4 nd12 rfl (by walk_at "loc") rfl rfl h1:_->_) ?_;refine(fun h1 h2=>AN AO Az (fun _ _=>rfl) h1 h2:_->_->_) ?_ ?_;refine(fun h1=>AH h1:_->_) ?_;refine(fun h1 h2=>Aa rfl h1 h2:_->_->_) ?_ ?_;refine(fun h1=>Ac h1:_->_) ?_;exact Fb;refine(fun h1 h2=>Aa rfl h1 h2:_->_->_) ?_ ?_;refine(fun h1=>Ac h1:_->_) ?_;exact CZ;refine(fun h1 h2=>Aa rfl h1 h2:_->_->_) ?_ ?_;refine(fun h1=>Ac h1:_->_) ?_;exact Ah;refine(fun h1 h2=>Aa rfl h1 h2:_->_->_) ?_ ?_;refine(fun h1=>Ac h1:_->_) ?_;exact AI dK;refine(fun h1 h2=>Aa rfl h1 h2:_->_->_) ?_ ?_;refine(fun h1=>Ac h1:_->_) ?_;refine(fun h1=>AH h1:_->_) ?_;exact Af;refine(fun h1 h2=>Aa rfl h1 h2:_->_->_) ?_ ?_;refine(fun h1=>Ac h1:_->_) ?_;refine(fun h1=>A3 h1:_->_) ?_;exact Af;refine(fun h1 h2=>Aa rfl h1 h2:_->_->_) ?_ ?_;refine(fun h1=>Ac h1:_->_) ?_;refine(fun h1 h2=>Au J7 J8 h1 h2:_->_->_) ?_ ?_;exact Ah;exact Ah;refine(fun h1 h2=>Aa rfl h1 h2:_->_->_) ?_ ?_;refine(fun h1=>Ac h1:_->_) ?_;refine(fun h1=>F7 Em Ep h1:_->_) ?_;exact Ah;refine(fun h1 h2=>Aa rfl h1 h2:_->_->_) ?_ ?_;refine(fun h1=>Ac h1:_->_) ?_;exact AI dK;refine(fun h1 h2=>Aa rfl h1 h2:_->_->_) ?_ ?_;refine(fun h1=>Ac h1:_->_) ?_;refine(fun h1=>AH h1:_->_) ?_
 refine(fun h1 h2=>Aa rfl h1 h2:_->_->_) ?_ ?_;refine(fun h1=>Ac h1:_->_) ?_;exact Ah;exact Af;refine(fun h1 h2=>Aa rfl h1 h2:_->_->_) ?_ ?_;refine(fun h1=>Ac h1:_->_) ?_;refine(fun h1=>A3 h1:_->_) ?_;refine(fun h1 h2=>Aa rfl h1 h2:_->_->_) ?_ ?_;refine(fun h1=>Ac h1:_->_) ?_;exact Ah;exact Af;exact Af;refine Am Av Al rfl rfl rfl rfl rfl hr (by decide) AG dK rfl rfl rfl ?_;refine(fun h1 h2=>Aa rfl h1 h2:_->_->_) ?_ ?_;walk_at "v0";refine(fun h1 h2=>Aa rfl h1 h2:_->_->_) ?_ ?_;exact Ah;exact Af;refine(fun h1 h2=>Aj h1 h2:_->_->_) ?_ ?_;refine(fun h1=>AS 5 nd12 rfl (by walk_at "loc") rfl rfl h1:_->_) ?_;refine Am Av Al rfl rfl rfl rfl rfl hr (by decide) AG dK rfl rfl rfl ?_;refine(fun h1 h2=>Aa rfl h1 h2:_->_->_) ?_ ?_;walk_at "v0";refine(fun h1 h2=>Aa rfl h1 h2:_->_->_) ?_ ?_;exact Ah;exact Af;refine(fun h1 h2=>Aj h1 h2:_->_->_) ?_ ?_;refine(fun h1=>AS 6 nd12 rfl (by walk_at "loc") rfl rfl h1:_->_) ?_;refine Am Av Al rfl rfl rfl rfl rfl hr (by decide) AG dK rfl rfl rfl ?_;refine(fun h1 h2=>Aa rfl h1 h2:_->_->_) ?_ ?_;walk_at "v0";refine(fun h1 h2=>Aa rfl h1 h2:_->_->_) ?_ ?_;refine AF Cm A7 B.len Boot.«len» dK dK rfl rfl rfl ?_;refine(fun h1 h2=>Aa rfl h1 h2:_->_->_) ?_ ?_;walk_at "v3";exact Af;exact Af;refine(fun h1 h2=>Aj h1 h2:_->_->_) ?_ ?_;refine(fun h1 h2=>Ov h1 rfl rfl rfl h2:_->_->_) ?_ ?_;refine(fun h1=>Mt rfl h1 rfl rfl:_->_) ?_;refine(fun h1=>Fs 7 nd12 rfl (by walk_at "loc") rfl h1 rfl:_->_) ?_;refine(fun h1=>Fs 8 nd12 rfl (by walk_at "loc") rfl h1 rfl:_->_) ?_;exact Mu;refine(fun h1 h2=>AN AO Az (fun _ _=>rfl) h1 h2:_->_->_) ?_ ?_
 walk_at "v3";walk_at "v6";refine(fun h1 h2=>Aj h1 h2:_->_->_) ?_ ?_;refine(fun h1=>AS 9 nd12 rfl (by walk_at "loc") rfl rfl h1:_->_) ?_;refine Am Av Al rfl rfl rfl rfl rfl hr (by decide) AG dK rfl rfl rfl ?_;refine(fun h1 h2=>Aa rfl h1 h2:_->_->_) ?_ ?_;walk_at "v0";refine(fun h1 h2=>Aa rfl h1 h2:_->_->_) ?_ ?_;exact Ah;exact Af;refine(fun h1 h2=>Aj h1 h2:_->_->_) ?_ ?_;refine(fun h1 h2 h3=>Bt h1 h2 h3:_->_->_->_) ?_ ?_ ?_;refine(fun h1 h2=>BV IT E3 (A4 _) h1 h2:_->_->_) ?_ ?_;walk_at "v5";exact Ah;refine(fun h1=>Ak h1:_->_) ?_;refine(fun h1=>Aw h1:_->_) ?_;refine(fun h1 h2=>AN AO Az (fun _ _=>rfl) h1 h2:_->_->_) ?_ ?_;refine(fun h1=>AH h1:_->_) ?_;refine(fun h1 h2=>Aa rfl h1 h2:_->_->_) ?_ ?_;refine(fun h1=>Ac h1:_->_) ?_;walk_at "v4";refine(fun h1 h2=>Aa rfl h1 h2:_->_->_) ?_ ?_;refine(fun h1=>Ac h1:_->_) ?_;refine(fun h1=>AH h1:_->_) ?_;refine(fun h1 h2=>Aa rfl h1 h2:_->_->_) ?_ ?_;refine(fun h1=>Ac h1:_->_) ?_;walk_at "v2";refine(fun h1 h2=>Aa rfl h1 h2:_->_->_) ?_ ?_;refine(fun h1=>Ac h1:_->_) ?_;walk_at "v3";exact Af;refine(fun h1 h2=>Aa rfl h1 h2:_->_->_) ?_ ?_;refine(fun h1=>Ac h1:_->_) ?_;refine(fun h1=>A3 h1:_->_) ?_;refine(fun h1 h2=>Aa rfl h1 h2:_->_->_) ?_ ?_;refine(fun h1=>Ac h1:_->_) ?_;walk_at "v2";refine(fun h1 h2=>Aa rfl h1 h2:_->_->_) ?_ ?_;refine(fun h1=>Ac h1:_->_) ?_;walk_at "v3";refine(fun h1 h2=>Aa rfl h1 h2:_->_->_) ?_ ?_;refine(fun h1=>Ac h1:_->_) ?_;walk_at "v4";exact Af;exact Af;walk_at "v5";exact AW;refine(fun h1 h2=>Aj h1 h2:_->_->_) ?_ ?_;refine(fun h1 h2 h3=>Bt h1 h2 h3:_->_->_->_) ?_ ?_ ?_
 refine(fun h1 h2=>BV C1 (BY hr) (A4 _) h1 h2:_->_->_) ?_ ?_;walk_at "v5";exact Ah;refine(fun h1=>Ak h1:_->_) ?_;refine(fun h1=>Aw h1:_->_) ?_;refine(fun h1=>A3 h1:_->_) ?_;refine(fun h1 h2=>Aa rfl h1 h2:_->_->_) ?_ ?_;refine(fun h1=>Ac h1:_->_) ?_;refine(fun h1 h2=>AN AO Az (fun _ _=>rfl) h1 h2:_->_->_) ?_ ?_;refine(fun h1=>AH h1:_->_) ?_;refine(fun h1 h2=>Aa rfl h1 h2:_->_->_) ?_ ?_;refine(fun h1=>Ac h1:_->_) ?_;exact Ah;refine(fun h1 h2=>Aa rfl h1 h2:_->_->_) ?_ ?_;refine(fun h1=>Ac h1:_->_) ?_;exact Ah;refine(fun h1 h2=>Aa rfl h1 h2:_->_->_) ?_ ?_;refine(fun h1=>Ac h1:_->_) ?_;exact Ah;refine(fun h1 h2=>Aa rfl h1 h2:_->_->_) ?_ ?_;refine(fun h1=>Ac h1:_->_) ?_;refine(fun h1=>F7 Em Ep h1:_->_) ?_;exact Ah;refine(fun h1 h2=>Aa rfl h1 h2:_->_->_) ?_ ?_;refine(fun h1=>Ac h1:_->_) ?_;exact CZ;refine(fun h1 h2=>Aa rfl h1 h2:_->_->_) ?_ ?_;refine(fun h1=>Ac h1:_->_) ?_;exact AI dK;refine(fun h1 h2=>Aa rfl h1 h2:_->_->_) ?_ ?_;refine(fun h1=>Ac h1:_->_) ?_;exact Fb;refine(fun h1 h2=>Aa rfl h1 h2:_->_->_) ?_ ?_;refine(fun h1=>Ac h1:_->_) ?_;refine(fun h1 h2=>Au J7 J8 h1 h2:_->_->_) ?_ ?_;exact Ah;exact Ah;exact Af;walk_at "v9";refine(fun h1 h2=>Aa rfl h1 h2:_->_->_) ?_ ?_;refine(fun h1=>Ac h1:_->_) ?_;walk_at "v3";exact Af;exact AW;refine(fun h1 h2=>Aj h1 h2:_->_->_) ?_ ?_;refine(fun h1 h2 h3=>Bt h1 h2 h3:_->_->_->_) ?_ ?_ ?_;refine(fun h1 h2=>BV IT E3 (A4 _) h1 h2:_->_->_) ?_ ?_;walk_at "v5";exact Ah;refine(fun h1=>Ak h1:_->_) ?_;refine(fun h1=>Aw h1:_->_) ?_;refine(fun h1 h2=>AN AO Az (fun _ _=>rfl) h1 h2:_->_->_) ?_ ?_
 refine(fun h1=>AH h1:_->_) ?_;refine(fun h1 h2=>Aa rfl h1 h2:_->_->_) ?_ ?_;refine(fun h1=>Ac h1:_->_) ?_;refine(fun h1=>A3 h1:_->_) ?_;refine(fun h1 h2=>Aa rfl h1 h2:_->_->_) ?_ ?_;refine(fun h1=>Ac h1:_->_) ?_;walk_at "v2";refine(fun h1 h2=>Aa rfl h1 h2:_->_->_) ?_ ?_;refine(fun h1=>Ac h1:_->_) ?_;refine CI HU EH B.tuple Boot.«tuple» dK dK rfl rfl rfl ?_;refine(fun h1 h2=>Aa rfl h1 h2:_->_->_) ?_ ?_;walk_at "v3";exact Af;exact Af;refine(fun h1 h2=>Aa rfl h1 h2:_->_->_) ?_ ?_;refine(fun h1=>Ac h1:_->_) ?_;refine(fun h1=>A3 h1:_->_) ?_;refine(fun h1 h2=>Aa rfl h1 h2:_->_->_) ?_ ?_;refine(fun h1=>Ac h1:_->_) ?_;walk_at "v2";refine(fun h1 h2=>Aa rfl h1 h2:_->_->_) ?_ ?_;refine(fun h1=>Ac h1:_->_) ?_;refine(fun h1=>AH h1:_->_) ?_;exact Af;exact Af;exact Af;refine(fun h1 h2=>Au Hl Hm h1 h2:_->_->_) ?_ ?_;walk_at "v5";exact Ah;exact AW;refine(fun h1 h2=>Aj h1 h2:_->_->_) ?_ ?_;refine(fun h1 h2 h3=>Bt h1 h2 h3:_->_->_->_) ?_ ?_ ?_;refine(fun h1 h2=>BV C1 (BY hr) (A4 _) h1 h2:_->_->_) ?_ ?_;walk_at "v5";exact Ah;refine(fun h1=>Ak h1:_->_) ?_;refine(fun h1=>Aw h1:_->_) ?_;refine(fun h1=>A3 h1:_->_) ?_;refine(fun h1 h2=>Aa rfl h1 h2:_->_->_) ?_ ?_;refine(fun h1=>Ac h1:_->_) ?_;walk_at "v2";refine(fun h1 h2=>Aa rfl h1 h2:_->_->_) ?_ ?_;refine(fun h1=>Ac h1:_->_) ?_;refine(fun h1 h2=>Au Bb AQ h1 h2:_->_->_) ?_ ?_;walk_at "v3";refine(fun h1=>AH h1:_->_) ?_;refine(fun h1 h2=>Aa rfl h1 h2:_->_->_) ?_ ?_;refine(fun h1=>Ac h1:_->_) ?_;refine(fun h1 h2=>AN AO Az (fun _ _=>rfl) h1 h2:_->_->_) ?_ ?_;walk_at "v3"
 walk_at "v6";exact Af;exact Af;exact AW;refine(fun h1 h2=>Aj h1 h2:_->_->_) ?_ ?_;refine(fun h1 h2 h3=>Bt h1 h2 h3:_->_->_->_) ?_ ?_ ?_;refine(fun h1 h2=>BV C1 (BY hr) (A4 _) h1 h2:_->_->_) ?_ ?_;walk_at "v5";exact Ah;refine(fun h1=>Ak h1:_->_) ?_;refine(fun h1=>AS 10 nd12 rfl (by walk_at "loc") rfl rfl h1:_->_) ?_;refine(fun h1=>A3 h1:_->_) ?_;refine(fun h1 h2=>Aa rfl h1 h2:_->_->_) ?_ ?_;refine(fun h1=>Ac h1:_->_) ?_;refine(fun h1 h2=>AN AO Az (fun _ _=>rfl) h1 h2:_->_->_) ?_ ?_;refine(fun h1=>AH h1:_->_) ?_;refine(fun h1 h2=>Aa rfl h1 h2:_->_->_) ?_ ?_;refine(fun h1=>Ac h1:_->_) ?_;exact AI dK;refine(fun h1 h2=>Aa rfl h1 h2:_->_->_) ?_ ?_;refine(fun h1=>Ac h1:_->_) ?_;exact AI dK;refine(fun h1 h2=>Aa rfl h1 h2:_->_->_) ?_ ?_;refine(fun h1=>Ac h1:_->_) ?_;exact AI dK;refine(fun h1 h2=>Aa rfl h1 h2:_->_->_) ?_ ?_;refine(fun h1=>Ac h1:_->_) ?_;exact AI dK;refine(fun h1 h2=>Aa rfl h1 h2:_->_->_) ?_ ?_;refine(fun h1=>Ac h1:_->_) ?_;exact AI dK;refine(fun h1 h2=>Aa rfl h1 h2:_->_->_) ?_ ?_;refine(fun h1=>Ac h1:_->_) ?_;exact Fb;refine(fun h1 h2=>Aa rfl h1 h2:_->_->_) ?_ ?_;refine(fun h1=>Ac h1:_->_) ?_;exact Ah;refine(fun h1 h2=>Aa rfl h1 h2:_->_->_) ?_ ?_;refine(fun h1=>Ac h1:_->_) ?_;refine(fun h1=>A3 h1:_->_) ?_;refine(fun h1 h2=>Aa rfl h1 h2:_->_->_) ?_ ?_;refine(fun h1=>Ac h1:_->_) ?_;exact AI dK;exact Af;exact Af;walk_at "v9";refine(fun h1 h2=>Aa rfl h1 h2:_->_->_) ?_ ?_;refine(fun h1=>Ac h1:_->_) ?_;walk_at "v8";exact Af;refine(fun h1=>Ak h1:_->_) ?_;refine(fun h1 h2 h3=>Bt h1 h2 h3:_->_->_->_) ?_ ?_ ?_
 refine(fun h1 h2=>BV C1 (BY hr) (A4 _) h1 h2:_->_->_) ?_ ?_;walk_at "v5";exact Ah;refine(fun h1 h2=>Aj h1 h2:_->_->_) ?_ ?_;refine(fun h1=>AS 11 nd12 rfl (by walk_at "loc") rfl rfl h1:_->_) ?_;refine(fun h1 h2=>AN AO Az (fun _ _=>rfl) h1 h2:_->_->_) ?_ ?_;refine(fun h1=>AH h1:_->_) ?_;refine(fun h1 h2=>Aa rfl h1 h2:_->_->_) ?_ ?_;refine(fun h1=>Ac h1:_->_) ?_;refine(fun h1=>AH h1:_->_) ?_;exact Af;refine(fun h1 h2=>Aa rfl h1 h2:_->_->_) ?_ ?_;refine(fun h1=>Ac h1:_->_) ?_;refine(fun h1 h2=>Au Bb AQ h1 h2:_->_->_) ?_ ?_;walk_at "v8";walk_at "v8";refine(fun h1 h2=>Aa rfl h1 h2:_->_->_) ?_ ?_;refine(fun h1=>Ac h1:_->_) ?_;refine(fun h1 h2=>Au Bb AQ h1 h2:_->_->_) ?_ ?_;walk_at "v8";refine(fun h1=>AH h1:_->_) ?_;refine(fun h1 h2=>Aa rfl h1 h2:_->_->_) ?_ ?_;refine(fun h1=>Ac h1:_->_) ?_;walk_at "v2";exact Af;refine(fun h1 h2=>Aa rfl h1 h2:_->_->_) ?_ ?_;refine(fun h1=>Ac h1:_->_) ?_;refine(fun h1 h2=>Au Bb AQ h1 h2:_->_->_) ?_ ?_;refine(fun h1=>AH h1:_->_) ?_;refine(fun h1 h2=>Aa rfl h1 h2:_->_->_) ?_ ?_;refine(fun h1=>Ac h1:_->_) ?_;refine(fun h1=>F7 Em Ep h1:_->_) ?_;exact Ah;exact Af;walk_at "v8";refine(fun h1 h2=>Aa rfl h1 h2:_->_->_) ?_ ?_;refine(fun h1=>Ac h1:_->_) ?_;refine CI HU EH B.tuple Boot.«tuple» dK dK rfl rfl rfl ?_;refine(fun h1 h2=>Aa rfl h1 h2:_->_->_) ?_ ?_;walk_at "v8";exact Af;refine(fun h1 h2=>Aa rfl h1 h2:_->_->_) ?_ ?_;refine(fun h1=>Ac h1:_->_) ?_;refine(fun h1=>AH h1:_->_) ?_;refine(fun h1 h2=>Aa rfl h1 h2:_->_->_) ?_ ?_;refine(fun h1=>Ac h1:_->_) ?_;exact CZ;exact Af;refine(fun h1 h2=>Aa rfl h1 h2:_->_->_) ?_ ?_
 refine(fun h1=>Ac h1:_->_) ?_;exact Fb;refine(fun h1 h2=>Aa rfl h1 h2:_->_->_) ?_ ?_;refine(fun h1=>Ac h1:_->_) ?_;exact AI dK;exact Af;walk_at "v9";refine(fun h1=>Ak h1:_->_) ?_;refine(fun h1=>AS 10 nd12 rfl (by walk_at "loc") rfl rfl h1:_->_) ?_;refine(fun h1=>A3 h1:_->_) ?_;refine(fun h1 h2=>Aa rfl h1 h2:_->_->_) ?_ ?_;refine(fun h1=>Ac h1:_->_) ?_;walk_at "v7";refine(fun h1 h2=>Aa rfl h1 h2:_->_->_) ?_ ?_;refine(fun h1=>Ac h1:_->_) ?_;walk_at "v11";exact Af;refine(fun h1=>Ak h1:_->_) ?_;refine(fun h1 h2 h3=>Bt h1 h2 h3:_->_->_->_) ?_ ?_ ?_;refine(fun h1 h2=>BV C1 (BY hr) (A4 _) h1 h2:_->_->_) ?_ ?_;walk_at "v5";exact Ah;refine(fun h1=>Ak h1:_->_) ?_;refine(fun h1=>AS 10 nd12 rfl (by walk_at "loc") rfl rfl h1:_->_) ?_;refine(fun h1 h2=>AN AO Az (fun _ _=>rfl) h1 h2:_->_->_) ?_ ?_;refine(fun h1=>AH h1:_->_) ?_;refine(fun h1 h2=>Aa rfl h1 h2:_->_->_) ?_ ?_;refine(fun h1=>Ac h1:_->_) ?_;refine(fun h1=>AH h1:_->_) ?_;refine(fun h1 h2=>Aa rfl h1 h2:_->_->_) ?_ ?_;refine(fun h1=>Ac h1:_->_) ?_;walk_at "v7";refine(fun h1 h2=>Aa rfl h1 h2:_->_->_) ?_ ?_;refine(fun h1=>Ac h1:_->_) ?_;walk_at "v8";exact Af;refine(fun h1 h2=>Aa rfl h1 h2:_->_->_) ?_ ?_;refine(fun h1=>Ac h1:_->_) ?_;refine(fun h1=>A3 h1:_->_) ?_;refine(fun h1 h2=>Aa rfl h1 h2:_->_->_) ?_ ?_;refine(fun h1=>Ac h1:_->_) ?_;walk_at "v7";exact Af;refine(fun h1 h2=>Aa rfl h1 h2:_->_->_) ?_ ?_;refine(fun h1=>Ac h1:_->_) ?_;refine(fun h1=>A3 h1:_->_) ?_;refine(fun h1 h2=>Aa rfl h1 h2:_->_->_) ?_ ?_;refine(fun h1=>Ac h1:_->_) ?_;walk_at "v7"
 refine(fun h1 h2=>Aa rfl h1 h2:_->_->_) ?_ ?_;refine(fun h1=>Ac h1:_->_) ?_;walk_at "v8";refine(fun h1 h2=>Aa rfl h1 h2:_->_->_) ?_ ?_;refine(fun h1=>Ac h1:_->_) ?_;walk_at "v4";exact Af;refine(fun h1 h2=>Aa rfl h1 h2:_->_->_) ?_ ?_;refine(fun h1=>Ac h1:_->_) ?_;walk_at "v7";refine(fun h1 h2=>Aa rfl h1 h2:_->_->_) ?_ ?_;refine(fun h1=>Ac h1:_->_) ?_;exact Fb;refine(fun h1 h2=>Aa rfl h1 h2:_->_->_) ?_ ?_;refine(fun h1=>Ac h1:_->_) ?_;exact Ah;refine(fun h1 h2=>Aa rfl h1 h2:_->_->_) ?_ ?_;refine(fun h1=>Ac h1:_->_) ?_;refine(fun h1=>A3 h1:_->_) ?_;exact Af;refine(fun h1 h2=>Aa rfl h1 h2:_->_->_) ?_ ?_;refine(fun h1=>Ac h1:_->_) ?_;refine(fun h1=>A3 h1:_->_) ?_;refine(fun h1 h2=>Aa rfl h1 h2:_->_->_) ?_ ?_;refine(fun h1=>Ac h1:_->_) ?_;walk_at "v8";refine(fun h1 h2=>Aa rfl h1 h2:_->_->_) ?_ ?_;refine(fun h1=>Ac h1:_->_) ?_;walk_at "v7";exact Af;exact Af;walk_at "v9";refine(fun h1=>Ak h1:_->_) ?_;refine(fun h1 h2 h3=>Bt h1 h2 h3:_->_->_->_) ?_ ?_ ?_;refine(fun h1 h2=>BV C1 (BY hr) (A4 _) h1 h2:_->_->_) ?_ ?_;walk_at "v5";exact Ah;refine(fun h1=>Ak h1:_->_) ?_;refine(fun h1=>Aw h1:_->_) ?_;refine(fun h1=>A3 h1:_->_) ?_;refine(fun h1 h2=>Aa rfl h1 h2:_->_->_) ?_ ?_;refine(fun h1=>Ac h1:_->_) ?_;walk_at "v2";refine(fun h1 h2=>Aa rfl h1 h2:_->_->_) ?_ ?_;refine(fun h1=>Ac h1:_->_) ?_;refine(fun h1 h2=>Au Uj L2.R9 h1 h2:_->_->_) ?_ ?_;refine(fun h1 h2=>TZ h1 h2:_->_->_) ?_ ?_;walk_at "v3";refine(fun h1=>F7 Em Ep h1:_->_) ?_;exact Ah;refine CI Uh Qa B.int Boot.«int» dK dK rfl rfl rfl ?_;refine(fun h1 h2=>Aa rfl h1 h2:_->_->_) ?_ ?_
 refine(fun h1 h2=>Dl Vg Vh (A4 _) h1 h2:_->_->_) ?_ ?_;refine AF Cm A7 B.len Boot.«len» dK dK rfl rfl rfl ?_;refine(fun h1 h2=>Aa rfl h1 h2:_->_->_) ?_ ?_;walk_at "v3";exact Af;exact Ah;exact Af;exact Af;refine(fun h1=>Ak h1:_->_) ?_;refine(fun h1=>Aw h1:_->_) ?_;refine(fun h1=>A3 h1:_->_) ?_;refine(fun h1 h2=>Aa rfl h1 h2:_->_->_) ?_ ?_;refine(fun h1=>Ac h1:_->_) ?_;walk_at "v2";refine(fun h1 h2=>Aa rfl h1 h2:_->_->_) ?_ ?_;refine(fun h1=>Ac h1:_->_) ?_;refine(fun h1 h2 h3=>Cj (by rfl) rfl nd12 (by rfl) (fun _=>rfl) h1 h2 h3:_->_->_->_) ?_ ?_ ?_;refine(fun h1=>RC h1:_->_) ?_;exact AI dK;exact Bx;intro _ _ _ _ _;refine(fun h1=>A3 h1:_->_) ?_;refine(fun h1 h2=>Aa rfl h1 h2:_->_->_) ?_ ?_;refine(fun h1=>Ac h1:_->_) ?_;walk_at "v0";refine(fun h1 h2=>Aa rfl h1 h2:_->_->_) ?_ ?_;refine(fun h1=>Ac h1:_->_) ?_;refine(fun h1=>AH h1:_->_) ?_;refine(fun h1 h2=>Aa rfl h1 h2:_->_->_) ?_ ?_;refine(fun h1=>Ac h1:_->_) ?_;exact Ah;exact Af;exact Af;exact Af;refine(fun h1=>Ak h1:_->_) ?_;refine(fun h1=>Aw h1:_->_) ?_;refine(fun h1=>A3 h1:_->_) ?_;refine(fun h1 h2=>Aa rfl h1 h2:_->_->_) ?_ ?_;refine(fun h1=>Ac h1:_->_) ?_;walk_at "v2";refine(fun h1 h2=>Aa rfl h1 h2:_->_->_) ?_ ?_;refine(fun h1=>Ac h1:_->_) ?_;refine(fun h1 h2=>Au Bb AQ h1 h2:_->_->_) ?_ ?_;refine(fun h1 h2=>Au Bb AQ h1 h2:_->_->_) ?_ ?_;refine(fun h1 h2=>Fj h1 h2:_->_->_) ?_ ?_;walk_at "v3";walk_at "v6";refine(fun h1=>AH h1:_->_) ?_;refine(fun h1 h2=>Aa rfl h1 h2:_->_->_) ?_ ?_;refine(fun h1=>Ac h1:_->_) ?_;walk_at "v10";exact Af;refine(fun h1 h2=>Gs h1 h2:_->_->_) ?_ ?_
 walk_at "v3";refine(fun h1 h2=>Au Bb AQ h1 h2:_->_->_) ?_ ?_;walk_at "v6";exact Ah;exact Af
def KN{f:Addr}{fd:FuncData}(F:Fun K "_law_whole" "_law_whole" (top 56) f fd)(B:Blt mg K)(B2:Blt2 mg):
  FnOk P w K mg base CX0 1 f fd ["_law_thing"] (spJ K BG 1):=by
 refine BC (N:=["_law_thing"]) F ⟨rfl,rfl,rfl,dK,rfl,dK,dK⟩ fun cdv A outer s H E hr=>?_;refine Ak ?_;refine Aw ?_;refine CY ?_ ?_;refine Rz rfl rfl B rfl rfl ?_;walk_at "v0";refine Dm ?_;refine RB ?_;refine Ry rfl rfl B rfl rfl ?_;walk_at "v0"
def Jc{f:Addr}{fd:FuncData}(F:Fun K "_law_numbers" "_law_numbers" (top 62) f fd)(B:Blt mg K)(B2:Blt2 mg)(BS:Def P w K mg base CX0 1 "_law_whole" ["_law_thing"] (spJ K BG 1)):
  FnOk P w K mg base CX0 2 f fd ["_law_found","_law_due"] (spJ K Dr 2):=by
 refine BC (N:=["_law_found","_law_due"]) F ⟨rfl,rfl,rfl,dK,rfl,dK,dK⟩ fun cdv A outer s H E hr=>?_;have nd2:List.Nodup (["_law_found","_law_due"]:List Str):=by decide +kernel
 refine Ak ?_;refine Aw ?_;refine CY ?_ ?_;refine Ip rfl rfl B rfl rfl ?_;walk_at "v0";refine CY ?_ ?_;refine Dl C1 (BY hr) (A4 _) ?_ ?_;walk_at "v0";walk_at "v1";refine Dm ?_;refine AF EN (CU rfl) B.all Boot.«all» dK dK rfl rfl rfl ?_;refine Aa rfl ?_ ?_;refine Cj (by rfl) rfl nd2 (by rfl) (fun _=>rfl) ?_ ?_ ?_;refine Cp ?_;walk_at "v0";exact Bx;intro _ _ _ _ _;refine Am BS Al rfl rfl rfl rfl rfl hr (by decide) AG dK rfl rfl rfl ?_;refine Aa rfl ?_ ?_;walk_at "v0";exact Af;exact Af
def Ga{f:Addr}{fd:FuncData}(F:Fun K "_law_alike_machine" "_law_alike_machine" (top 63) f fd)(B:Blt mg K)(B2:Blt2 mg)(EC:Def P w K mg base CX0 2 "_law_numbers" ["_law_found","_law_due"] (spJ K Dr 2))(BS:Def P w K mg base CX0 1 "_law_whole" ["_law_thing"] (spJ K BG 1)):
  FnOk P w K mg base CX0 3 f fd ["_law_found","_law_due"] (spJ K Ba 2):=by
 refine BC (N:=["_law_found","_law_due"]) F ⟨rfl,rfl,rfl,dK,rfl,dK,dK⟩ fun cdv A outer s H E hr=>?_;have nd2:List.Nodup (["_law_found","_law_due"]:List Str):=by decide +kernel
 have nd3:List.Nodup (["_law_line","_law_found","_law_due"]:List Str):=by decide +kernel
 refine Aj ?_ ?_;refine Bt ?_ ?_ ?_;refine Et ?_;refine G2 ?_ ?_;refine By ?_;refine Bw (fun _=>rfl) ?_;refine Oo rfl rfl B rfl rfl ?_;walk_at "v0";refine G2 ?_ ?_;refine BV Pm (OE hr) (A4 _) ?_ ?_;refine AF Cm A7 B.len Boot.«len» dK dK rfl rfl rfl ?_;refine Aa rfl ?_ ?_;walk_at "v0";exact Af;exact Ah;refine FI ?_;refine By ?_;refine Bw (fun _=>rfl) ?_;refine Ip rfl rfl B rfl rfl ?_;refine AN AO Az (fun _ _=>rfl) ?_ ?_;walk_at "v0";exact Ah;refine Ak ?_;refine Aw ?_;exact CZ;exact AW;refine Aj ?_ ?_;refine Bt ?_ ?_ ?_;refine Et ?_;refine G2 ?_ ?_;refine By ?_;refine Bw (fun _=>rfl) ?_;refine AF EN (CU rfl) B.all Boot.«all» dK dK rfl rfl rfl ?_;refine Aa rfl ?_ ?_;refine Cj (by rfl) rfl nd2 (by rfl) (fun _=>rfl) ?_ ?_ ?_;refine Cp ?_;refine AN AO Az (fun _ _=>rfl) ?_ ?_;walk_at "v0";exact Ah;exact Bx;intro _ _ _ _ _;refine Ip rfl rfl B rfl rfl ?_;walk_at "v0";exact Af;refine FI ?_;refine By ?_;refine Bw (fun _=>rfl) ?_;refine Am EC Al rfl rfl rfl rfl rfl hr (by decide) AG dK rfl rfl rfl ?_;refine Aa rfl ?_ ?_;refine AN AO Az (fun _ _=>rfl) ?_ ?_;walk_at "v0";exact Ah;refine Aa rfl ?_ ?_;refine AN AO Az (fun _ _=>rfl) ?_ ?_;walk_at "v1";exact Ah;exact Af;refine Ak ?_;refine Aw ?_;exact CZ;exact AW;refine Ak ?_;refine Aw ?_;refine CY ?_ ?_;refine Dl C1 (BY hr) (A4 _) ?_ ?_;walk_at "v0";walk_at "v1";refine Dm ?_;refine AF EN (CU rfl) B.all Boot.«all» dK dK rfl rfl rfl ?_;refine Aa rfl ?_ ?_;refine Cj (by rfl) rfl nd2 (by rfl) (fun _=>rfl) ?_ ?_ ?_;refine Cp ?_;refine AN AO Az (fun _ _=>rfl) ?_ ?_
 walk_at "v0";exact Ah;exact Bx;intro _ _ _ _ _;refine AF EN (CU rfl) B.all Boot.«all» dK dK rfl rfl rfl ?_;refine Aa rfl ?_ ?_;refine Cj (by rfl) rfl nd3 (by rfl) (fun _=>rfl) ?_ ?_ ?_;refine Cp ?_;walk_at "v0";exact Bx;intro _ _ _ _ _;refine Am BS Al rfl rfl rfl rfl rfl hr (by decide) AG dK rfl rfl rfl ?_;refine Aa rfl ?_ ?_;walk_at "v0";exact Af;exact Af;exact Af
def Me{f:Addr}{fd:FuncData}(F:Fun K "_law_cell" "_law_cell" (top 51) f fd)(B:Blt mg K)(B2:Blt2 mg):
  FnOk P w K mg base CX0 1 f fd ["_law_script","_law_k"] (spJ K DL 2):=by
 refine BC (N:=["_law_script","_law_k"]) F ⟨rfl,rfl,rfl,dK,rfl,dK,dK⟩ fun cdv A outer s H E hr=>?_;refine Aj ?_ ?_;refine Bt ?_ ?_ ?_;refine BV IT E3 (A4 _) ?_ ?_;walk_at "v1";refine AF Cm A7 B.len Boot.«len» dK dK rfl rfl rfl ?_;refine Aa rfl ?_ ?_;walk_at "v0";exact Af;refine Ak ?_;refine Aw ?_;refine AN AO Az (fun _ _=>rfl) ?_ ?_;walk_at "v0";walk_at "v1";exact AW;refine Ak ?_;refine Aw ?_;exact Ah
theorem KL{f:Addr}{fd:FuncData}:FnOk P w K mg base CX0 2 f fd ["_law_found","_law_due"] (spJ K E7 2):=⟨fun vs H Q E y=>by
 obtain⟨_,_,_,h,_⟩:=y;exact h,fun A outer s H args us vs Q E _ _ _ _ y=>by
 obtain⟨_,_,_,_,_,a,as,e,_⟩:=y;unfold E7 fnM Fc at e;split at e<;>simp at e⟩
def Mf{f:Addr}{fd:FuncData}(F:Fun K "_law_same" "_law_same" (top 57) f fd)(B:Blt mg K)(B2:Blt2 mg)(BS:Def P w K mg base CX0 1 "_law_whole" ["_law_thing"] (spJ K BG 1))(Hy:Def P w K mg base CX0 2 "_law_same" ["_law_found","_law_due"] (spJ K E7 2)):
  FnOk P w K mg base CX0 3 f fd ["_law_found","_law_due"] (spJ K DM 2):=by
 refine BC (N:=["_law_found","_law_due"]) F ⟨rfl,rfl,rfl,dK,rfl,dK,dK⟩ fun cdv A outer s H E hr=>?_;refine Aj ?_ ?_;refine Bt ?_ ?_ ?_;refine Bw (fun _=>rfl) ?_;refine Oo rfl rfl B rfl rfl ?_;walk_at "v1";exact Qk;exact AW;refine Aj ?_ ?_;refine Bt ?_ ?_ ?_;refine Bw (fun _=>rfl) ?_;refine LV rfl rfl B rfl rfl ?_;walk_at "v1";refine Ak ?_;refine Aw ?_;refine CY ?_ ?_;refine LV rfl rfl B rfl rfl ?_;walk_at "v0";refine Dm ?_;refine Dl C1 (BY hr) (A4 _) ?_ ?_;walk_at "v0";walk_at "v1";exact AW;refine Aj ?_ ?_;refine Bt ?_ ?_ ?_;refine BV R3 R8 (A4 _) ?_ ?_;walk_at "v1";exact Fb;refine Ak ?_;refine Aw ?_;refine Dl R3 R8 (A4 _) ?_ ?_;walk_at "v0";exact Fb;exact AW;refine Ak ?_;refine Aw ?_;refine CY ?_ ?_;refine Am BS Al rfl rfl rfl rfl rfl hr (by decide) AG dK rfl rfl rfl ?_;refine Aa rfl ?_ ?_;walk_at "v0";exact Af;refine Dm ?_;refine Dl C1 (BY hr) (A4 _) ?_ ?_;walk_at "v0";walk_at "v1"
def Jh{f:Addr}{fd:FuncData}(F:Fun K "with_numbers" "with_numbers" (top 43) f fd)(B:Blt mg K)(B2:Blt2 mg):
  FnOk P w K mg base CX0 1 f fd ["word","numbers"] (spJ K CH 2):=by
 refine BC (N:=["word","numbers"]) F ⟨rfl,rfl,rfl,dK,rfl,dK,dK⟩ fun cdv A outer s H E hr=>?_;have nd2:List.Nodup (["word","numbers"]:List Str):=by decide +kernel
 refine Ak ?_;refine Aw ?_;refine Gr rfl rfl B rfl ?_ ?_;exact AI dK;refine Au Bb AQ ?_ ?_;refine AH ?_;refine Aa rfl ?_ ?_;refine Ac ?_;walk_at "v0";exact Af;refine Cj (by rfl) rfl nd2 (by rfl) (fun _=>rfl) ?_ ?_ ?_;refine Cp ?_;walk_at "v1";exact Bx;intro _ _ _ _ _;refine CI Mk Ic B.str Boot.«str» dK dK rfl rfl rfl ?_;refine Aa rfl ?_ ?_;walk_at "v0";exact Af
def Jg{f:Addr}{fd:FuncData}(F:Fun K "show_machine" "show_machine" (top 42) f fd)(B:Blt mg K)(B2:Blt2 mg)(Co:Def P w K mg base CX0 11 "need_machine" ["house","machine"] (spJ K B9 2))(DE:Def P w K mg base CX0 1 "with_numbers" ["word","numbers"] (spJ K CH 2)):
  FnOk P w K mg base CX0 12 f fd ["house","machine"] (spJ K CG 2):=by
 refine BC (N:=["house","machine","rows"]) F ⟨rfl,rfl,rfl,dK,rfl,dK,dK⟩ fun cdv A outer s H E hr=>?_;have nd3:List.Nodup (["house","machine","rows"]:List Str):=by decide +kernel
 refine Aj ?_ ?_;refine Hd rfl ?_;refine Am Co Al rfl rfl rfl rfl rfl hr (by decide) AG dK rfl rfl rfl ?_;refine Aa rfl ?_ ?_;walk_at "v0";refine Aa rfl ?_ ?_;walk_at "v1";exact Af;refine Aj ?_ ?_;refine Np 2 nd3 rfl rfl (by rfl) rfl (by rfl) (fun _=>rfl) rfl ?_ ?_ ?_;refine Cp ?_;refine AN AO Az (fun _ _=>rfl) ?_ ?_;walk_at "v1";exact Ah;exact Bx;intro _ _ _ _ _;refine Am DE Al rfl rfl rfl rfl rfl hr (by decide) AG dK rfl rfl rfl ?_;refine Aa rfl ?_ ?_;exact AI dK;refine Aa rfl ?_ ?_;walk_at "v0";exact Af;refine Aj ?_ ?_;refine LX 2 rfl (by walk_at "vis") dK dK rfl rfl rfl rfl ?_;refine Am DE Al rfl rfl rfl rfl rfl hr (by decide) AG dK rfl rfl rfl ?_;refine Aa rfl ?_ ?_;exact AI dK;refine Aa rfl ?_ ?_;refine AN AO Az (fun _ _=>rfl) ?_ ?_;walk_at "v1";exact Ah;exact Af;refine Ak ?_;refine Aw ?_;refine Gr rfl rfl B rfl ?_ ?_;exact AI dK;walk_at "v2"
def J3{f:Addr}{fd:FuncData}(F:Fun K "need_house" "need_house" (top 33) f fd)(B:Blt mg K)(B2:Blt2 mg)(DU:Def P w K mg base CX0 8 "is_house" ["thing"] (spJ K Ct 1))(X_NoHouse:Exc K mg "NoHouse" (XC "NoHouse")):
  FnOk P w K mg base (Fly P w) 9 f fd ["house"] (spR K XC B3 1):=by
 refine JJ (N:=["house"]) F ⟨rfl,rfl,rfl,dK,rfl,dK,dK⟩ fun cdv A outer s H E hr=>?_;refine Eh ?_;refine Va ?_ ?_;refine By ?_;refine Bw (fun _=>rfl) ?_;refine Am DU Al rfl rfl rfl rfl rfl hr (by decide) AG dK rfl rfl rfl ?_;refine Aa rfl ?_ ?_;walk_at "v0";exact Af;refine Eh ?_;exact Nm X_NoHouse rfl hr rfl dK rfl rfl (AI dK)
def J1{f:Addr}{fd:FuncData}(F:Fun K "is_machine" "is_machine" (top 36) f fd)(B:Blt mg K)(B2:Blt2 mg)(DR_need_house:Def P w K mg base (Fly P w) 9 "need_house" ["house"] (spR K XC B3 1)):
  FnOk P w K mg base (Fly P w) 10 f fd ["house","thing"] (spR K XC CK 2):=by
 refine JJ (N:=["house","thing"]) F ⟨rfl,rfl,rfl,dK,rfl,dK,dK⟩ fun cdv A outer s H E hr=>?_;refine Eh ?_;refine LW DR_need_house FD hr (by decide) rfl dK rfl rfl rfl ?_;refine Aa rfl ?_ ?_;walk_at "v0";exact Af
def Iz{f:Addr}{fd:FuncData}(F:Fun K "need_machine" "need_machine" (top 39) f fd)(B:Blt mg K)(B2:Blt2 mg)(C4:Def P w K mg base CX0 10 "is_machine" ["house","thing"] (spJ K Ci 2))(DR_is_machine:Def P w K mg base (Fly P w) 10 "is_machine" ["house","thing"] (spR K XC CK 2))(X_NoMachine:Exc K mg "NoMachine" (XC "NoMachine")):
  FnOk P w K mg base (Fly P w) 11 f fd ["house","machine"] (spR K XC Ca 2):=by
 refine JJ (N:=["house","machine"]) F ⟨rfl,rfl,rfl,dK,rfl,dK,dK⟩ fun cdv A outer s H E hr=>?_;refine T2 ?_ ?_;refine Eh ?_;refine T1 DR_is_machine FD hr (by decide) dK rfl rfl rfl ?_;refine Aa rfl ?_ ?_;walk_at "v0";refine Aa rfl ?_ ?_;walk_at "v1";exact Af;refine Eh ?_;refine Va ?_ ?_;refine By ?_;refine Bw (fun _=>rfl) ?_;refine Am C4 Al rfl rfl rfl rfl rfl hr (by decide) AG dK rfl rfl rfl ?_;refine Aa rfl ?_ ?_;walk_at "v0";refine Aa rfl ?_ ?_;walk_at "v1";exact Af;refine Eh ?_;exact Nm X_NoMachine rfl hr rfl dK rfl rfl (AI dK)
def IB{f:Addr}{fd:FuncData}(F:Fun K "show_machine" "show_machine" (top 42) f fd)(B:Blt mg K)(B2:Blt2 mg)(DR_need_machine:Def P w K mg base (Fly P w) 11 "need_machine" ["house","machine"] (spR K XC Ca 2)):
  FnOk P w K mg base (Fly P w) 12 f fd ["house","machine"] (spR K XC Bp 2):=by
 refine JJ (N:=["house","machine","rows"]) F ⟨rfl,rfl,rfl,dK,rfl,dK,dK⟩ fun cdv A outer s H E hr=>?_;refine Eh ?_;refine LW DR_need_machine FD hr (by decide) rfl dK rfl rfl rfl ?_;refine Aa rfl ?_ ?_;walk_at "v0";refine Aa rfl ?_ ?_;walk_at "v1";exact Af
def IA{f:Addr}{fd:FuncData}(F:Fun K "read_machine" "read_machine" (top 45) f fd)(B:Blt mg K)(B2:Blt2 mg)(DR_need_house:Def P w K mg base (Fly P w) 9 "need_house" ["house"] (spR K XC B3 1)):
  FnOk P w K mg base (Fly P w) 10 f fd ["house","text"] (spR K XC Cb 2):=by
 refine JJ (N:=["house","text","rows","words","machine"]) F ⟨rfl,rfl,rfl,dK,rfl,dK,dK⟩ fun cdv A outer s H E hr=>?_;refine Eh ?_;refine LW DR_need_house FD hr (by decide) rfl dK rfl rfl rfl ?_;refine Aa rfl ?_ ?_;walk_at "v0";exact Af
def Pn{f C:Addr}{fd:FuncData}{wd:Str}{j:Nat}(F:Fun K "_law_word" "_law_word" (top 58) f fd)(B:Blt mg K)(W:XW K mg C wd)(hj:∀i,i<15->(MW.getD i "" == wd)=(i==j)):
  FnOkM P w K mg base CX0 1 f fd ["_law_e"] (spJ K (GL C j) 1):=by
 refine VS (N:=["_law_e","_law_named","_law_words","_law_some"]) F ⟨rfl,rfl,rfl,dK,rfl,dK,dK⟩ fun cdv A outer s H E hr hmk=>?_;have nd4:List.Nodup (["_law_e","_law_named","_law_words","_law_some"]:List Str):=by decide +kernel
 refine Aj ?_ ?_;refine AS 1 nd4 rfl (by walk_at "loc") rfl rfl ?_;refine AH ?_;refine Aa rfl ?_ ?_;refine Ac ?_;refine Du _ W dK (hj 0 (by decide)) dK rfl rfl B rfl rfl ?_;walk_at "v0";refine Aa rfl ?_ ?_;refine Ac ?_;refine Du _ W dK (hj 1 (by decide)) dK rfl rfl B rfl rfl ?_;walk_at "v0";refine Aa rfl ?_ ?_;refine Ac ?_;refine Du _ W dK (hj 2 (by decide)) dK rfl rfl B rfl rfl ?_;walk_at "v0";refine Aa rfl ?_ ?_;refine Ac ?_;refine Du _ W dK (hj 3 (by decide)) dK rfl rfl B rfl rfl ?_;walk_at "v0";exact Af;refine Aj ?_ ?_;refine AS 1 nd4 rfl (by walk_at "loc") rfl rfl ?_;refine Au Bb AQ ?_ ?_;walk_at "v1";refine AH ?_;refine Aa rfl ?_ ?_;refine Ac ?_;refine Du _ W dK (hj 4 (by decide)) dK rfl rfl B rfl rfl ?_;walk_at "v0";refine Aa rfl ?_ ?_;refine Ac ?_;refine Du _ W dK (hj 5 (by decide)) dK rfl rfl B rfl rfl ?_;walk_at "v0";refine Aa rfl ?_ ?_;refine Ac ?_;refine Du _ W dK (hj 6 (by decide)) dK rfl rfl B rfl rfl ?_;walk_at "v0";refine Aa rfl ?_ ?_;refine Ac ?_;refine Du _ W dK (hj 7 (by decide)) dK rfl rfl B rfl rfl ?_;walk_at "v0";exact Af;refine Aj ?_ ?_;refine AS 1 nd4 rfl (by walk_at "loc") rfl rfl ?_;refine Au Bb AQ ?_ ?_;walk_at "v1";refine AH ?_;refine Aa rfl ?_ ?_;refine Ac ?_;refine Du _ W dK (hj 8 (by decide)) dK rfl rfl B rfl rfl ?_;walk_at "v0";refine Aa rfl ?_ ?_;refine Ac ?_;refine Du _ W dK (hj 9 (by decide)) dK rfl rfl B rfl rfl ?_;walk_at "v0";refine Aa rfl ?_ ?_;refine Ac ?_;refine Du _ W dK (hj 10 (by decide)) dK rfl rfl B rfl rfl ?_;walk_at "v0";refine Aa rfl ?_ ?_
 refine Ac ?_;refine Du _ W dK (hj 11 (by decide)) dK rfl rfl B rfl rfl ?_;walk_at "v0";exact Af;refine Aj ?_ ?_;refine AS 1 nd4 rfl (by walk_at "loc") rfl rfl ?_;refine Au Bb AQ ?_ ?_;walk_at "v1";refine AH ?_;refine Aa rfl ?_ ?_;refine Ac ?_;refine Du _ W dK (hj 12 (by decide)) dK rfl rfl B rfl rfl ?_;walk_at "v0";refine Aa rfl ?_ ?_;refine Ac ?_;refine Du _ W dK (hj 13 (by decide)) dK rfl rfl B rfl rfl ?_;walk_at "v0";refine Aa rfl ?_ ?_;refine Ac ?_;refine Du _ W dK (hj 14 (by decide)) dK rfl rfl B rfl rfl ?_;walk_at "v0";exact Af;refine Aj ?_ ?_;refine AS 2 nd4 rfl (by walk_at "loc") rfl rfl ?_;refine AH ?_;refine Aa rfl ?_ ?_;refine Ac ?_;exact AI dK;refine Aa rfl ?_ ?_;refine Ac ?_;exact AI dK;refine Aa rfl ?_ ?_;refine Ac ?_;exact AI dK;refine Aa rfl ?_ ?_;refine Ac ?_;exact AI dK;refine Aa rfl ?_ ?_;refine Ac ?_;exact AI dK;refine Aa rfl ?_ ?_;refine Ac ?_;exact AI dK;refine Aa rfl ?_ ?_;refine Ac ?_;exact AI dK;refine Aa rfl ?_ ?_;refine Ac ?_;exact AI dK;refine Aa rfl ?_ ?_;refine Ac ?_;exact AI dK;refine Aa rfl ?_ ?_;refine Ac ?_;exact AI dK;exact Af;refine Aj ?_ ?_;refine AS 2 nd4 rfl (by walk_at "loc") rfl rfl ?_;refine Au Bb AQ ?_ ?_;walk_at "v2";refine AH ?_;refine Aa rfl ?_ ?_;refine Ac ?_;exact AI dK;refine Aa rfl ?_ ?_;refine Ac ?_;exact AI dK;refine Aa rfl ?_ ?_;refine Ac ?_;exact AI dK;refine Aa rfl ?_ ?_;refine Ac ?_;exact AI dK;refine Aa rfl ?_ ?_;refine Ac ?_;exact AI dK;exact Af;refine Aj ?_ ?_;refine Qj 3 nd4 rfl rfl (by rfl) hmk (by rfl) (fun _=>rfl) rfl ?_ ?_ ?_
 refine RD rfl B.range rfl ?_;exact Ah;refine LY fun _ _ _ _ _=>?_;refine Bw (fun _=>rfl) ?_;refine AN AO Az (fun _ _=>rfl) ?_ ?_;walk_at "v2";walk_at "v0";intro _ _ _ _ _;refine AN AO Az (fun _ _=>rfl) ?_ ?_;walk_at "v3";walk_at "v0";refine Aj ?_ ?_;refine Bt ?_ ?_ ?_;refine Et ?_;refine G2 ?_ ?_;refine BV Pm (Um hr) (A4 _) ?_ ?_;refine AF Cm A7 B.len Boot.«len» dK dK rfl rfl rfl ?_;refine Aa rfl ?_ ?_;walk_at "v3";exact Af;exact Ah;refine FI ?_;refine By ?_;refine Bw (fun _=>rfl) ?_;refine V5 W rfl rfl B rfl rfl ?_;walk_at "v0";refine Ak ?_;refine Aw ?_;exact AI dK;exact AW;refine Ak ?_;refine Aw ?_;refine AN AO Az (fun _ _=>rfl) ?_ ?_;walk_at "v3";exact Ah
theorem MZ{f C HE:Addr}{fd:FuncData}{wd:Str}{j:Nat}(F:Fun K "_law_answer" "_law_answer" (top 60) f fd)(hm:mg "_law_answer" = some (.ref f))(hHE:mg "HandError" = some (.ref HE))(hab:Above base C HE)(W:DefM P w K mg base CX0 1 "_law_word" ["_law_e"] (spJ K (GL C j) 1))(hΦ:∀a o,o.cls=.ref C->GL C j [(.lent,.opq a o)]=some (.fz (.str wd),[.opq a o])):
  Ans P w K mg base 15 13 C wd:=
 ⟨f,hm,F.kp,fun A outer s H fv hr e0 clo=>OJ F ⟨rfl,rfl,rfl,dK,rfl,dK,dK⟩ (F.binds fun _ _ _ _ _ _ us hl=>match us,hl with | [_],_=>rfl) rfl rfl rfl rfl rfl hHE hab W Al hΦ (by decide) (by decide) hr e0 clo⟩
theorem NK{f C:Addr}{fd:FuncData}{wd:Str}(F:Fun K "_law_refuses" "_law_refuses" (top 61) f fd)(hw:wd.length<=sizeLine)(hm:mg "_law_refuses" = some (.ref f))(An:Ans P w K mg base 15 13 C wd):
  Rfs P w K mg base 16 13 C wd:=
 ⟨f,hm,F.kp,fun A outer s H fv t hr e0 clo=>NQ F ⟨rfl,rfl,rfl,dK,rfl,dK,dK⟩ (F.binds fun _ _ _ _ _ _ us hl=>match us,hl with | [_,_],_=>rfl) rfl rfl rfl rfl An hw (by decide) hr e0 clo⟩
def Wu{f c b:Addr}{fd:FuncData}(F:Fun K "law" "law" (top 67) f fd)(hn:PySem.W.nsIn K mainGlobals "law" = some (some (.ref f)))(ht:PySem.W.tabIn K "law" = some (c,b))(hh:PySem.W.codeHdIn K c b=true)(B:Blt mg K)(B2:Blt2 mg)(G3:Def P w K mg base CX0 1 "_law_bag" ["_law_cell_here"] (spJ K Eg 1))(Fx:Def P w K mg base CX0 2 "_law_house" ["_law_bag_here"] (spJ K CJ 1))(EB:Def P w K mg base CX0 2 "_law_machine" ["_law_bag_here","_law_house_here","_law_most"] (spJ K B8 3))(Dd:Def P w K mg base CX0 1 "_law_machine_copy" ["_law_machine_here"] (spJ K Br 1))(De:Def P w K mg base CX0 1 "_law_machine_text" ["_law_machine_here"] (spJ K BK 1))(DD:Def P w K mg base CX0 12 "read_machine" ["house","text"] (spJ K BQ 2))(DA:Def P w K mg base CX0 2 "_law_no_machine" ["_law_bag_here","_law_machine_here"] (spJ K BD 2))(Ej:Def P w K mg base CX0 2 "_law_no_house" ["_law_bag_here","_law_house_here"] (spJ K B4 2))(Cc:Def P w K mg base CX0 3 "_law_alike_machine" ["_law_found","_law_due"] (spJ K Ba 2))(Gd:Def P w K mg base CX0 1 "_law_cell" ["_law_script","_law_k"] (spJ K DL 2))(Ge:Def P w K mg base CX0 3 "_law_same" ["_law_found","_law_due"] (spJ K DM 2))(Av:Def P w K mg base CX0 1 "_law_take" ["_law_bag_here","_law_many"] (spJ K Aq 2))(ED:Def P w K mg base CX0 12 "show_machine" ["house","machine"] (spJ K CG 2))(DR_show_machine:Def P w K mg base (Fly P w) 12 "show_machine" ["house","machine"] (spR K XC Bp 2))(DR_read_machine:Def P w K mg base (Fly P w) 10 "read_machine" ["house","text"] (spR K XC Cb 2))(R_NoMachine:Rfs P w K mg base 16 13 (XC "NoMachine") "NoMachine")(R_NoHouse:Rfs P w K mg base 16 13 (XC "NoHouse") "NoHouse"):
  FnOk P w K mg base CX0 17 f fd ["_law_script"] (spJ K Ij 1):=by
 refine VR (N:=["_law_script","_law_k","_law_bag_here","_law_house_here","_law_machine_here","_law_handed","_law_text","_law_found","_law_bad","_law_none"]) F hn ht ⟨rfl,rfl,rfl,dK,rfl,dK,dK⟩ fun A outer s H E hr=>?_;have nd10:List.Nodup (["_law_script","_law_k","_law_bag_here","_law_house_here","_law_machine_here","_law_handed","_law_text","_law_found","_law_bad","_law_none"]:List Str):=by decide +kernel
 refine(fun h1 h2=>Aj h1 h2:_->_->_) ?_ ?_;refine(fun h1 h2 h3=>JV PassesOwn.never rfl h1 h2 h3 (fun _=>rfl):_->_->_->_) ?_ ?_ ?_;refine E1 rfl B.range rfl ?_;refine AF Wv (Qc rfl) B.max Boot.«max» dK dK rfl rfl rfl ?_;refine(fun h1 h2=>Aa rfl h1 h2:_->_->_) ?_ ?_;exact Ah;refine(fun h1 h2=>Aa rfl h1 h2:_->_->_) ?_ ?_;refine AF R5 (Le rfl) B.min Boot.«min» dK dK rfl rfl rfl ?_;refine(fun h1 h2=>Aa rfl h1 h2:_->_->_) ?_ ?_;refine AF Cm A7 B.len Boot.«len» dK dK rfl rfl rfl ?_;refine(fun h1 h2=>Aa rfl h1 h2:_->_->_) ?_ ?_;walk_at "v0";exact Af;refine(fun h1 h2=>Aa rfl h1 h2:_->_->_) ?_ ?_;exact Ah;exact Af;exact Af;exact Ke 1 nd10 rfl (by walk_at "loc") rfl;refine(fun h1 h2=>Aj h1 h2:_->_->_) ?_ ?_;refine(fun h1=>AS 2 nd10 rfl (by walk_at "loc") rfl rfl h1:_->_) ?_;refine Am G3 Al rfl rfl rfl rfl rfl hr (by decide) AG dK rfl rfl rfl ?_;refine(fun h1 h2=>Aa rfl h1 h2:_->_->_) ?_ ?_;refine(fun h1 h2=>Au Bb AQ h1 h2:_->_->_) ?_ ?_;refine Am Gd Al rfl rfl rfl rfl rfl hr (by decide) AG dK rfl rfl rfl ?_;refine(fun h1 h2=>Aa rfl h1 h2:_->_->_) ?_ ?_;walk_at "v0";refine(fun h1 h2=>Aa rfl h1 h2:_->_->_) ?_ ?_;walk_at "v1";exact Af;walk_at "v1";exact Af;refine(fun h1 h2=>Aj h1 h2:_->_->_) ?_ ?_;refine(fun h1=>AS 3 nd10 rfl (by walk_at "loc") rfl rfl h1:_->_) ?_;refine Am Fx Al rfl rfl rfl rfl rfl hr (by decide) AG dK rfl rfl rfl ?_;refine(fun h1 h2=>Aa rfl h1 h2:_->_->_) ?_ ?_;walk_at "v2";exact Af;refine(fun h1 h2=>Aj h1 h2:_->_->_) ?_ ?_;refine(fun h1=>AS 4 nd10 rfl (by walk_at "loc") rfl rfl h1:_->_) ?_
 refine Am EB Al rfl rfl rfl rfl rfl hr (by decide) AG dK rfl rfl rfl ?_;refine(fun h1 h2=>Aa rfl h1 h2:_->_->_) ?_ ?_;walk_at "v2";refine(fun h1 h2=>Aa rfl h1 h2:_->_->_) ?_ ?_;walk_at "v3";refine(fun h1 h2=>Aa rfl h1 h2:_->_->_) ?_ ?_;refine(fun h1 h2=>AN AO Az (fun _ _=>rfl) h1 h2:_->_->_) ?_ ?_;refine(fun h1=>AH h1:_->_) ?_;refine(fun h1 h2=>Aa rfl h1 h2:_->_->_) ?_ ?_;refine(fun h1=>Ac h1:_->_) ?_;exact Ah;refine(fun h1 h2=>Aa rfl h1 h2:_->_->_) ?_ ?_;refine(fun h1=>Ac h1:_->_) ?_;exact Ah;exact Af;refine AF R5 (Le rfl) B.min Boot.«min» dK dK rfl rfl rfl ?_;refine(fun h1 h2=>Aa rfl h1 h2:_->_->_) ?_ ?_;exact Ah;refine(fun h1 h2=>Aa rfl h1 h2:_->_->_) ?_ ?_;refine Am Av Al rfl rfl rfl rfl rfl hr (by decide) AG dK rfl rfl rfl ?_;refine(fun h1 h2=>Aa rfl h1 h2:_->_->_) ?_ ?_;walk_at "v2";refine(fun h1 h2=>Aa rfl h1 h2:_->_->_) ?_ ?_;exact Ah;exact Af;exact Af;exact Af;refine(fun h1 h2=>Aj h1 h2:_->_->_) ?_ ?_;refine(fun h1=>AS 5 nd10 rfl (by walk_at "loc") rfl rfl h1:_->_) ?_;refine Am Dd Al rfl rfl rfl rfl rfl hr (by decide) AG dK rfl rfl rfl ?_;refine(fun h1 h2=>Aa rfl h1 h2:_->_->_) ?_ ?_;walk_at "v4";exact Af;refine(fun h1 h2=>Aj h1 h2:_->_->_) ?_ ?_;refine(fun h1=>AS 6 nd10 rfl (by walk_at "loc") rfl rfl h1:_->_) ?_;refine Am De Al rfl rfl rfl rfl rfl hr (by decide) AG dK rfl rfl rfl ?_;refine(fun h1 h2=>Aa rfl h1 h2:_->_->_) ?_ ?_;walk_at "v4";exact Af;refine(fun h1 h2=>Aj h1 h2:_->_->_) ?_ ?_;refine(fun h1 h2 h3=>Bt h1 h2 h3:_->_->_->_) ?_ ?_ ?_;refine(fun h1=>Et h1:_->_) ?_;refine(fun h1 h2=>G2 h1 h2:_->_->_) ?_ ?_
 refine(fun h1=>By h1:_->_) ?_;refine(fun h1=>Bw (fun _=>rfl) h1:_->_) ?_;refine Am Ge Al rfl rfl rfl rfl rfl hr (by decide) AG dK rfl rfl rfl ?_;refine(fun h1 h2=>Aa rfl h1 h2:_->_->_) ?_ ?_;refine Am ED Al rfl rfl rfl rfl rfl hr (by decide) AG dK rfl rfl rfl ?_;refine(fun h1 h2=>Aa rfl h1 h2:_->_->_) ?_ ?_;walk_at "v3";refine(fun h1 h2=>Aa rfl h1 h2:_->_->_) ?_ ?_;walk_at "v5";exact Af;refine(fun h1 h2=>Aa rfl h1 h2:_->_->_) ?_ ?_;walk_at "v6";exact Af;refine(fun h1=>FI h1:_->_) ?_;refine(fun h1 h2=>BV Pm (OE hr) (A4 _) h1 h2:_->_->_) ?_ ?_;walk_at "v5";walk_at "v4";refine(fun h1=>Ak h1:_->_) ?_;refine(fun h1=>Aw h1:_->_) ?_;exact CZ;exact AW;refine(fun h1 h2=>Aj h1 h2:_->_->_) ?_ ?_;refine(fun h1=>AS 7 nd10 rfl (by walk_at "loc") rfl rfl h1:_->_) ?_;refine Am DD Al rfl rfl rfl rfl rfl hr (by decide) AG dK rfl rfl rfl ?_;refine(fun h1 h2=>Aa rfl h1 h2:_->_->_) ?_ ?_;walk_at "v3";refine(fun h1 h2=>Aa rfl h1 h2:_->_->_) ?_ ?_;walk_at "v6";exact Af;refine(fun h1 h2=>Aj h1 h2:_->_->_) ?_ ?_;refine(fun h1 h2 h3=>Bt h1 h2 h3:_->_->_->_) ?_ ?_ ?_;refine(fun h1=>By h1:_->_) ?_;refine(fun h1=>Bw (fun _=>rfl) h1:_->_) ?_;refine JU Cc Al rfl rfl rfl rfl rfl hr (by decide) AG dK rfl rfl rfl ?_;refine(fun h1 h2=>Aa rfl h1 h2:_->_->_) ?_ ?_;walk_at "v7";refine(fun h1 h2=>Aa rfl h1 h2:_->_->_) ?_ ?_;walk_at "v4";exact Af;refine(fun h1=>Ak h1:_->_) ?_;refine(fun h1=>Aw h1:_->_) ?_;exact CZ;exact AW;refine(fun h1 h2=>Aj h1 h2:_->_->_) ?_ ?_;exact RG 7 [0,0] (RE 0 (RE 0 (RF 7 rfl (by walk_at "vis") dK dK))) rfl rfl rfl
 refine(fun h1 h2=>Aj h1 h2:_->_->_) ?_ ?_;exact RG 7 [1] (RE 1 (RF 7 rfl (by walk_at "vis") dK dK)) rfl rfl rfl;refine(fun h1 h2=>Aj h1 h2:_->_->_) ?_ ?_;refine(fun h1 h2 h3=>Bt h1 h2 h3:_->_->_->_) ?_ ?_ ?_;refine(fun h1=>By h1:_->_) ?_;refine(fun h1=>Bw (fun _=>rfl) h1:_->_) ?_;refine JU Cc Al rfl rfl rfl rfl rfl hr (by decide) AG dK rfl rfl rfl ?_;refine(fun h1 h2=>Aa rfl h1 h2:_->_->_) ?_ ?_;refine Am DD Al rfl rfl rfl rfl rfl hr (by decide) AG dK rfl rfl rfl ?_;refine(fun h1 h2=>Aa rfl h1 h2:_->_->_) ?_ ?_;walk_at "v3";refine(fun h1 h2=>Aa rfl h1 h2:_->_->_) ?_ ?_;walk_at "v6";exact Af;refine(fun h1 h2=>Aa rfl h1 h2:_->_->_) ?_ ?_;walk_at "v4";exact Af;refine(fun h1=>Ak h1:_->_) ?_;refine(fun h1=>Aw h1:_->_) ?_;exact CZ;exact AW;refine(fun h1 h2=>Aj h1 h2:_->_->_) ?_ ?_;refine(fun h1=>AS 8 nd10 rfl (by walk_at "loc") rfl rfl h1:_->_) ?_;refine Am DA Al rfl rfl rfl rfl rfl hr (by decide) AG dK rfl rfl rfl ?_;refine(fun h1 h2=>Aa rfl h1 h2:_->_->_) ?_ ?_;walk_at "v2";refine(fun h1 h2=>Aa rfl h1 h2:_->_->_) ?_ ?_;walk_at "v4";exact Af;refine(fun h1 h2=>Aj h1 h2:_->_->_) ?_ ?_;refine(fun h1 h2 h3=>Bt h1 h2 h3:_->_->_->_) ?_ ?_ ?_;refine(fun h1=>By h1:_->_) ?_;refine(fun h1=>Bw (fun _=>rfl) h1:_->_) ?_;exact Iq rfl rfl rfl rfl rfl R_NoMachine (Def.mono DR_show_machine (by decide)) FD hr (by decide) ht hh rfl rfl rfl rfl rfl (fun _ _ _ _=>rfl) rfl rfl rfl dK rfl dK (fun _=>rfl) ⟨⟨rfl,rfl,rfl,dK,dK⟩,⟨rfl,rfl,rfl,dK,dK⟩,trivial⟩;refine(fun h1=>Ak h1:_->_) ?_;refine(fun h1=>Aw h1:_->_) ?_;exact CZ
 exact AW;refine(fun h1 h2=>Aj h1 h2:_->_->_) ?_ ?_;refine(fun h1=>AS 9 nd10 rfl (by walk_at "loc") rfl rfl h1:_->_) ?_;refine Am Ej Al rfl rfl rfl rfl rfl hr (by decide) AG dK rfl rfl rfl ?_;refine(fun h1 h2=>Aa rfl h1 h2:_->_->_) ?_ ?_;walk_at "v2";refine(fun h1 h2=>Aa rfl h1 h2:_->_->_) ?_ ?_;walk_at "v3";exact Af;refine(fun h1 h2=>Aj h1 h2:_->_->_) ?_ ?_;refine(fun h1 h2 h3=>Bt h1 h2 h3:_->_->_->_) ?_ ?_ ?_;refine(fun h1=>By h1:_->_) ?_;refine(fun h1=>Bw (fun _=>rfl) h1:_->_) ?_;exact Iq rfl rfl rfl rfl rfl R_NoHouse (Def.mono DR_show_machine (by decide)) FD hr (by decide) ht hh rfl rfl rfl rfl rfl (fun _ _ _ _=>rfl) rfl rfl rfl dK rfl dK (fun _=>rfl) ⟨⟨rfl,rfl,rfl,dK,dK⟩,⟨rfl,rfl,rfl,dK,dK⟩,trivial⟩;refine(fun h1=>Ak h1:_->_) ?_;refine(fun h1=>Aw h1:_->_) ?_;exact CZ;exact AW;refine(fun h1=>Ak h1:_->_) ?_;refine(fun h1 h2 h3=>Bt h1 h2 h3:_->_->_->_) ?_ ?_ ?_;refine(fun h1=>By h1:_->_) ?_;refine(fun h1=>Bw (fun _=>rfl) h1:_->_) ?_;exact Iq rfl rfl rfl rfl rfl R_NoHouse (Def.mono DR_read_machine (by decide)) FD hr (by decide) ht hh rfl rfl rfl rfl rfl (fun _ _ _ _=>rfl) rfl rfl rfl dK rfl dK (fun _=>rfl) ⟨⟨rfl,rfl,rfl,dK,dK⟩,⟨rfl,rfl,rfl,rfl,dK,dK⟩,trivial⟩;refine(fun h1=>Ak h1:_->_) ?_;refine(fun h1=>Aw h1:_->_) ?_;exact CZ;exact AW;refine(fun h1=>Ak h1:_->_) ?_;refine(fun h1=>Aw h1:_->_) ?_;exact CZ
end
end Gk62
end
section
namespace Gk62
open PySem L2 J St
local macro_rules | `(tactic| walk_at "ev")=>do
 let l <- ("on1 on2 on3 KC Ja Bv C2 fzU Dz FX AA ifS AJ opM m1L m2L Ab Ai Ad Ag peeks peek er ers EE J.andM J.notM To orT BR Gh Ae share move moves keep CD mkT lstM vals fzs BO HC A5 K0 Dw FP F9 retS Bc Fc free NH IX YS F6 Ao Dj Gg refs back ON Hn CQ isInt isBool Dc isTup isStr Bk HZ Hb L9 L8 Nd ND Ks MG K4 Tr Hg QW BX ixA Bv C2 fzU Dz FX Option.some_or Option.none_or Option.bind_none A0 CS atI ixN eqA neA ltA leA gtA geA Ni Cr nameOf lock unlock shB IK El YO GV X3 VW Y3 Y4 slF own GZ Lh Nb Jz IQ EA Nj Pb Rn inA Ef".splitOn " ").mapM fun s=>`(Lean.Parser.Tactic.simpLemma| $(Lean.mkIdent s.toName):ident)
 let l:=l.toArray
 `(tactic| simp [-List.map_map,$l,*, *])
structure Hs where
 n:Int
 ls:List (Nat×List Int)
def chD(c:Nat):D:=.str ⟨#[c]⟩
def ld(p:Nat×List Int):D:=.tup [chD p.1,.lst (iL p.2)]
def Hs.d(h:Hs):D:=.tup [.int h.n,.lst (h.ls.map ld)]
structure Hs.Ok (h:Hs):Prop where
 n1:2<=h.n
 n2:h.n<=4
 l1:1<=h.ls.length
 l2:h.ls.length<=6
 ch:∀p∈h.ls,97<=p.1/\p.1<=122
 ri:(h.ls.map (·.1)).Pairwise (· < ·)
 hs:∀p∈h.ls,p.2≠[]/\p.2.Pairwise (· < ·)/\∀x∈p.2,0<=x/\x<h.n
@[simp] theorem OL(st:Own)(d:D):CW [(st,.fz d)]=some (.fz (.bl (isInt d&&!isBool d)),[.fz d]):=by
 simp only[CW,fnM,HB];cases d<;>walk_at "ev"
@[simp] theorem HW(s1 s2:Own)(i b:Int):Bf [(s1,.fz (.int i)),(s2,.fz (.int b))]=some (.fz (.bl (decide (0<=i)&&decide (i<b))),[.fz (.int i),.fz (.int b)]):=by
 simp only[Bf,fnM,Er];by_cases h0:0<=i<;>walk_at "ev" <;> simp[h0]
@[simp] theorem GR(st:Own)(x y:D):Bq [(st,.fz (.tup [x,y]))]=some (.fz (.bl true),[.fz (.tup [x,y])]):=by
 simp only[Bq,fnM,EX];walk_at "ev"
def N5{α:Type}(xs:List α)(f:α -> Bool):(xs.map f).all id=xs.all f:=by simp[List.all_map]
def KW(s1 s2:Own)(xs:List Int)(b:Int)(hl:xs.length<=LIM):BL [(s1,.fz (.lst (iL xs))),(s2,.fz (.int b))]=some (.fz (.bl (xs.all fun i=>decide (0<=i)&&decide (i<b))),[.fz (.lst (iL xs)),.fz (.int b)]):=by
 have hc:=DZ (it:=Cr (Ad 0)) (e:=Ao Bf (Ab (Ad 0) (Ab (Ad 2) Ai))) (Z:=[some (s1,.fz (.lst (iL xs))),some (s2,.fz (.int b))]) (Z1:=[some (s1,.fz (.lst (iL xs))),some (s2,.fz (.int b))]) (ds:=iL xs) (n:=none) (f:=fun d=>.bl (decide (0<=nD d)&&decide (nD d<b))) (by walk_at "ev") (by simpa using hl) (fun d hd=>by
  obtain⟨i,_,rfl⟩:=Wh.mp hd;refine⟨.val (.fz (.bl (decide (0<=i)&&decide (i<b)))),?_,?_⟩<;>walk_at "ev" <;> rfl)
 rw[Wf (fun i=>D.bl (decide (0<=i)&&decide (i<b)))] at hc;refine A2 (Z:=[some (s1,.fz (.lst (iL xs))),some (s2,.fz (.int b))]) rfl ?_;show BA [some (s1,.fz (.lst (iL xs))),some (s2,.fz (.int b))]=_;unfold BA;refine Bl ?_;simp only[on1,on2,on3,KC,Ja,Bv,C2,fzU,Dz,FX,opM,Ab,Ai,hc,Option.bind_some,Option.map_some,peeks,peek,El,CS,BO,EA,N5]
@[simp] theorem Ey(s1 s2:Own)(xs:List Int)(b:Int)(hl:xs.length<=LIM):Ax [(s1,.fz (.lst (iL xs))),(s2,.fz (.int b))]=some (.fz (.bl (xs.all fun i=>decide (0<=i)&&decide (i<b))),[.fz (.lst (iL xs)),.fz (.int b)]):=by
 have e1:=KW .own .own xs b hl;simp only[Ax,fnM,AD];clear hl;walk_at "ev"
def QX{xs:List Int}{k:Nat}(h:k<xs.length):atI (iL xs) (k:Int)=some (.int xs[k]):=by
 simp[atI,ixN,h,iL]
def Cv{α:Type}{xs:List α}{k:Nat}{i:Int}(hi:i=k)(h:k<xs.length):atI xs i=some xs[k]:=by
 subst hi;simp[atI,ixN,h]
theorem SI{xs:List Int}(h:xs.Pairwise (· < ·)){k:Nat}(hk:k+1<xs.length):xs[k]'(by lia)<xs[k+1]:=List.pairwise_iff_getElem.mp h k (k+1) (by lia) hk (by lia)
def YN{ds:List D}(h:∀d∈ds,d=.bl true):∃bs:List Bool,DY ds=some bs/\bs.all id=true:=by
 induction ds with
 | nil=>exact⟨[],rfl,rfl⟩
 | cons d ds ih =>
  obtain⟨bs,h1,h2⟩:=ih fun x hx=>h x (List.mem_cons_of_mem _ hx);have:=h d List.mem_cons_self;subst this;exact⟨true::bs,by simp[DY,h1],by simpa using h2⟩
def all_true{it:MI}{e:ME}{Z Z1:Ro}{ds:List D}{n:Option Nat}(hi:it Z=some (ds,n,Z1))(hl:ds.length<=LIM)(he:∀d∈ds,e (J.own d::lock Z1 n)=some (.val (.fz (.bl true)),J.own d::lock Z1 n)):
  opM El (Ab (Bh it 0 CO e) Ai) Z=some (.val (.fz (.bl true)),Z1):=by
 have hc:=DZ (f:=fun _=>.bl true) hi hl fun d hd=>⟨_,he d hd,by simp[share,er]⟩;obtain⟨bs,h1,h2⟩:=YN (ds:=ds.map fun _=>D.bl true) (by simp);simp only[on1,on2,on3,KC,Ja,Bv,C2,fzU,Dz,FX,opM,Ab,Ai,hc,Option.bind_some,Option.map_some,peeks,peek,El,CS,BO,h1,h2]
def Kn(s1 s2:Own)(xs:List Int)(b:Int)(hl:xs.length<=1000)(hr:xs.Pairwise (· < ·))(hb:∀x∈xs,0<=x/\x<b):AR [(s1,.fz (.lst (iL xs))),(s2,.fz (.int b))]=some (.fz (.bl true),[.fz (.lst (iL xs)),.fz (.int b)]):=by
 have hL:xs.length<=LIM:=Nat.le_trans hl (by decide);simp only[AR,fnM,A8];have h1:(xs.all fun i=>decide (0<=i)&&decide (i<b))=true:=by simpa[List.all_eq_true] using hb
 have hc:=all_true (it:=CP (opM HZ (m2L (opM BX (Ab (Ad 0) Ai)) (Ag (.int 1))))) (e:=opM ltA (m2L (opM ixA (m2L (Ad 1) (Ad 0))) (opM ixA (m2L (Ad 1) (opM Bk (m2L (Ad 0) (Ag (.int 1)))))))) (Z:=[some (s1,.fz (.lst (iL xs))),some (s2,.fz (.int b))]) (ds:=ET 0 ((xs.length:Int)-1).toNat) (n:=none) (Z1:=[some (s1,.fz (.lst (iL xs))),some (s2,.fz (.int b))])
  (by
   have : -(2 ^ 62)<=(xs.length:Int)-1/\(xs.length:Int)-1<2 ^ 62:=by lia
   simp only[CP]; walk_at "ev"; lia) (by rw[GK]; lia) (fun d hd=>by
   obtain⟨j,hj⟩:=List.mem_iff_getElem?.mp hd;obtain⟨rfl,hj⟩:=F1 hj;have hk:j+1<xs.length:=by lia
   have e1:=Cv (xs:=iL xs) (i:=0+(j:Int)) (k:=j) (by lia) (by simpa using(by lia:j<xs.length));have e2:=Cv (xs:=iL xs) (i:=0+(j:Int)+1) (k:=j+1) (by lia) (by simpa using hk);have e3:=SI hr hk;simp only[iL,List.getElem_map] at e1 e2;simp only[on1,on2,on3,KC,Ja,Bv,C2,fzU,Dz,FX,Qo,opM,m2L,Ab,Ai,Ad,Ag,J.own,peeks,peek,ixA,Bv,C2,fzU,Dz,FX,Option.some_or,Option.none_or,Option.bind_none,A0,Bk,ltA,List.getElem?_cons_zero,List.getElem?_cons_succ,Option.bind_some,Option.map_some,iL,e1,e2,e3,decide_true])
 simp only[AA,ifS,BR,AJ,retS,Ao,Ab,Ai,Ad,List.map_cons,List.map_nil,List.getElem?_cons_zero,List.getElem?_cons_succ,Option.bind_some,Option.map_some,Dj,Gg,refs,List.nodup_nil,if_true,Ey _ _ xs b hL,h1,back,peek,EE,Bool.not_true,Bool.false_eq_true,if_false,Bc,List.append_nil,List.length_cons,List.length_nil,Nat.sub_self,List.replicate_zero];simp[hc,move,Hn]
def call_of{Φ:Fn}{ms:MA}{Z Z1 Z2:Ro}{rs:List R}{as:List (Own×A)}{a:A}{os:List A}(h1:ms Z=some (rs,Z1))(h2:Dj Z1 rs=some as)(hn:decide (refs rs).Nodup=true)(h3 : Φ as=some (a,os))(hb:back rs os Z1=Z2):Ao Φ ms Z=some (.val a,Z2):=by
 subst hb;simp only[Ao,h1,h2,h3,Option.bind_some,Option.map_some,if_pos (of_decide_eq_true hn)]
def AX{f:List A->Option A}{ms:MA}{Z Z1:Ro}{rs:List R}{as:List A}{c:A}(h1:ms Z=some (rs,Z1))(h2:peeks Z1 rs=some as)(h3:f as=some c):opM f ms Z=some (.val c,Z1):=by
 simp only[opM,h1,h2,h3,Option.bind_some,Option.map_some]
def ixL{T:List D}{i:Int}{d:D}(h:atI T i=some d):ixA [.lst (T.map A.fz),.fz (.int i)]=some (.fz d):=by
 simp only[on1,on2,on3,KC,Ja,ixA,Bv,fzU,Dz,A0,C2,FX,BO,h,Option.bind_some,Option.map_some,Option.some_or,Option.none_or,Option.bind_none]
def ixF{T:List D}{i:Int}{d:D}(h:atI T i=some d):ixA [.fz (.lst T),.fz (.int i)]=some (.fz d):=by
 simp only[on1,on2,on3,KC,Ja,ixA,Bv,fzU,Dz,A0,C2,FX,h,Option.bind_some,Option.map_some,Option.some_or,Option.none_or,Option.bind_none]
def ixS{z:Str}{i:Int}{c:Nat}(h:atI z.cps.toList i=some c):ixA [.fz (.str z),.fz (.int i)]=some (.fz (chD c)):=by
 simp only[on1,on2,on3,KC,Ja,ixA,Bv,fzU,Dz,A0,C2,FX,h,chD,Option.bind_some,Option.map_some,Option.some_or,Option.none_or,Option.bind_none,Option.map_none]
def SR{i j:Int}(h:decide (0<=j/\j<=1000000/\i.natAbs<2 ^ 64)=true):Ks [.fz (.int i),.fz (.int j)]=some (.fz (.int (i*2 ^ j.toNat))):=by
 simp only[on1,on2,on3,KC,Ja,Ks,Hb,Bv,fzU,Dz,Option.bind_some,h,if_true]
def SS{i j:Int}(h:decide (0<=j)=true):MG [.fz (.int i),.fz (.int j)]=some (.fz (.int (i / 2 ^ j.toNat))):=by
 simp only[on1,on2,on3,KC,Ja,MG,Hb,Bv,fzU,Dz,Option.bind_some,h,if_true]
def B1{m1 m2:ME}{Z Z1 Z2:Ro}{r1 r2:R}(h1:m1 Z=some (r1,Z1))(h2:m2 Z1=some (r2,Z2)):m2L m1 m2 Z=some ([r1,r2],Z2):=by
 simp only[m2L,Ab,Ai,h1,h2,Option.bind_some,Option.map_some]
def NO{m:ME}{Z Z1:Ro}{n:Int}(h:m Z=some (.val (.fz (.int n)),Z1))(h0 : -1000<=n)(h1:n<=1000000):CP m Z=some (ET 0 n.toNat,none,Z1):=by
 have e0:(-(2 ^ 62)<=n/\n<2 ^ 62)=True:=by simp; lia
 simp only[CP,h,Option.bind_some,e0,if_true]
abbrev oI(i:Int):Slot:=some (.own,.fz (.int i))
local macro_rules | `(tactic| walk_at "eo")=>do
 let l <- ("AA ifS Wg RQ Ll TJ AJ opM m1L m2L Ab Ai Ad Ag peeks peek er ers EE J.andM J.notM orT BR Gh Ae share move moves keep CD mkT lstM vals fzs BO HC A5 K0 Dw FP F9 retS Bc Fc free NH IX F6 Ao Dj Gg refs back ON Hn CQ isInt isBool Dc isTup isStr Bk HZ Hb L9 L8 Nd ND Ks MG K4 Tr Hg QW BX ixA Bv C2 fzU Dz FX Option.some_or Option.none_or Option.bind_none A0 CS eqA neA ltA leA gtA geA Ni Cr nameOf lock unlock MO shB IK El GV slF J.own GZ Lh Nb Jz IQ EA Nj Pb Rn Bs inA Ef CP NU YV on1 on2 on3 KC Ja E9 TM VC List.getElem?_cons_zero List.getElem?_cons_succ List.getElem?_nil Option.bind_some Option.bind_none Option.map_some Option.map_none List.map_cons List.map_nil List.cons_append List.nil_append List.append_nil List.length_cons List.length_nil List.length_map List.replicate_zero List.replicate_succ List.nodup_nil List.set_cons_zero List.set_cons_succ List.take_succ_cons List.take_zero if_true if_false Bool.not_true Bool.not_false Bool.false_eq_true reduceIte reduceCtorEq Nat.reduceSub Nat.reduceAdd Nat.sub_self Bool.true_and Bool.and_true Bool.false_and Bool.and_false Bool.true_or Bool.or_true Bool.false_or Bool.or_false decide_true decide_false beq_self_eq_true and_self and_true true_and Nat.zero_add List.nodup_cons List.not_mem_nil not_false_eq_true".splitOn " ").mapM fun s=>`(Lean.Parser.Tactic.simpLemma| $(Lean.mkIdent s.toName):ident)
 let l:=l.toArray
 `(tactic| simp only [$l,*, *])
def XN:(Str.ofString "a").cps.toList=[97]:=by decide +kernel
def XO:(Str.ofString "z").cps.toList=[122]:=by decide +kernel
def L7(a b:Nat):([a] < [b])↔a<b:=by
 rw[List.cons_lt_cons_iff];constructor
 .rintro (h|⟨_,h⟩)
  .exact h
  .exact absurd h (List.not_lt_nil _)
 .intro h; exact .inl h
def at0{α:Type}(a:α)(xs:List α):atI (a::xs) 0=some a:=by simp[atI,ixN]
def at1{α:Type}(a b:α)(xs:List α):atI (a::b::xs) 1=some b:=by
 have:(1:Int)<((xs.length:Int)+1+1):=by lia
 simp[atI,ixN,this]
def PF(st:Own)(c:Nat)(h:97<=c/\c<=122):Bg [(st,.fz (chD c))]=some (.fz (.bl true),[.fz (chD c)]):=by
 have e1:decide ([c] < [97])=false:=by rw[decide_eq_false_iff_not,L7]; lia
 have e2:decide ([122] < [c])=false:=by rw[decide_eq_false_iff_not,L7]; lia
 have e3:((Str.length ⟨#[c]⟩:Nat):Int)=1:=rfl;have e4:=XN;have e5:=XO;simp only[Bg,fnM,Es,chD];walk_at "eo"
def PD(s1 s2:Own)(n:Int)(p:Nat×List Int)(h:97<=p.1/\p.1<=122)(hl:p.2.length<=1000)(h0:p.2≠[])(hr:p.2.Pairwise (· < ·))(hb:∀x∈p.2,0<=x/\x<n):Bm [(s1,.fz (.int n)),(s2,.fz (ld p))]=some (.fz (.bl true),[.fz (.int n),.fz (ld p)]):=by
 have hp:decide ((0:Int)<(p.2.length:Int))=true:=by
  have:=List.length_pos_iff.mpr h0;simpa using this
 have e1:=at0 (chD p.1) [.lst (iL p.2)];have e2:=at1 (chD p.1) (.lst (iL p.2)) [];have e3:=PF .own p.1 h;have e4:=Kn .own .own p.2 n hl hr hb;have e5:=GR .own (chD p.1) (.lst (iL p.2));clear hb hr h0 h hl;simp only[Bm,fnM,BF,ld];walk_at "eo"
def PC(st:Own)(n:Int)(h1:2<=n)(h2:n<=4):Be [(st,.fz (.int n))]=some (.fz (.bl true),[.fz (.int n)]):=by
 have e1:=OL .own (.int n);simp only[Be,fnM,DR];walk_at "eo"
def Fu{n lo:Int}:∀{xs:List Int},xs.Pairwise (· < ·)->(∀x∈xs,lo<=x/\x<n)->(xs.length:Int)<=max 0 (n-lo):=by
 intro xs;induction xs generalizing lo with
 | nil=>intro _ _; simp; lia
 | cons x xs ih =>
  intro hp hb;have:=ih (lo:=x+1) (List.pairwise_cons.mp hp).2 fun y hy=>⟨by have:=(List.pairwise_cons.mp hp).1 y hy; lia,(hb y (List.mem_cons_of_mem _ hy)).2⟩;have:=hb x List.mem_cons_self;simp only[List.length_cons];lia
theorem Hs.Ok.hl{h:Hs}(ok:h.Ok):∀p∈h.ls,p.2.length<=4:=fun p hp=>by
 obtain⟨_,r,b⟩:=ok.hs p hp;have n2:=ok.n2;have:=Fu r b;lia
def QJ(s1 s2:Own)(h:Hs)(ok:h.Ok):CV [(s1,.fz (.int h.n)),(s2,.fz (.lst (h.ls.map ld)))]=some (.fz (.bl true),[.fz (.int h.n),.fz (.lst (h.ls.map ld))]):=by
 have l1:=ok.l1;have l2:=ok.l2;have hlim:1000<=LIM:=by decide
 have hc1:=all_true (it:=Cr (Ad 1)) (e:=Ao Bm (Ab (Ad 1) (Ab (Ad 0) Ai))) (Z:=[some (s1,.fz (.int h.n)),some (s2,.fz (.lst (h.ls.map ld)))]) (ds:=h.ls.map ld) (n:=none) (Z1:=[some (s1,.fz (.int h.n)),some (s2,.fz (.lst (h.ls.map ld)))])
  (by walk_at "eo") (by simp; lia) (fun d hd=>by
   obtain⟨p,hp,rfl⟩:=List.mem_map.mp hd;obtain⟨h0,hr,hb⟩:=ok.hs p hp;have e1:=PD .own .own h.n p (ok.ch p hp) (by have:=ok.hl p hp; lia) h0 hr hb;clear hb hr h0 hd hp;walk_at "eo")
 have hc2:=all_true (it:=CP (opM HZ (m2L (opM BX (Ab (Ad 1) Ai)) (Ag (.int 1))))) (e:=opM ltA (m2L (opM ixA (m2L (opM ixA (m2L (Ad 2) (Ad 0))) (Ag (.int 0)))) (opM ixA (m2L (opM ixA (m2L (Ad 2) (opM Bk (m2L (Ad 0) (Ag (.int 1)))))) (Ag (.int 0)))))) (Z:=[some (s1,.fz (.int h.n)),some (s2,.fz (.lst (h.ls.map ld)))]) (ds:=ET 0 ((h.ls.length:Int)-1).toNat) (n:=none) (Z1:=[some (s1,.fz (.int h.n)),some (s2,.fz (.lst (h.ls.map ld)))])
  (by
   have e0:(-(2 ^ 62)<=(h.ls.length:Int)-1/\(h.ls.length:Int)-1<2 ^ 62)=True:=by simp; lia
   clear hc1;walk_at "eo") (by rw[GK]; lia) (fun d hd=>by
   obtain⟨j,hj⟩:=List.mem_iff_getElem?.mp hd;obtain⟨rfl,hj⟩:=F1 hj;have hk:j+1<h.ls.length:=by lia
   have e1:=Cv (xs:=h.ls.map ld) (i:=0+(j:Int)) (k:=j) (by lia) (by simpa using(by lia:j<h.ls.length));have e2:=Cv (xs:=h.ls.map ld) (i:=0+(j:Int)+1) (k:=j+1) (by lia) (by simpa using hk);have e3:(h.ls[j]'(by lia)).1<(h.ls[j+1]).1:=by
    have:=List.pairwise_iff_getElem.mp ok.ri j (j+1) (by simp; lia) (by simpa using hk) (by lia);simpa using this
   simp only[List.getElem_map,ld,chD] at e1 e2;have e4:decide ([(h.ls[j]'(by lia)).1] < [(h.ls[j+1]).1])=true:=by rw[decide_eq_true_iff]; exact(L7 _ _).mpr e3
   have e5:=at0 (D.str ⟨#[(h.ls[j]'(by lia)).1]⟩) [.lst (iL (h.ls[j]'(by lia)).2)];have e6:=at0 (D.str ⟨#[(h.ls[j+1]).1]⟩) [.lst (iL (h.ls[j+1]).2)];clear hc1 hd e3 hj l1 l2 hlim;walk_at "eo")
 have e5:decide ((1:Int)<=(h.ls.length:Int))=true:=by simp; lia
 have e6:decide ((h.ls.length:Int)<=6)=true:=by simp; lia
 clear l1 l2 hlim;refine A2 (Z:=[some (s1,.fz (.int h.n)),some (s2,.fz (.lst (h.ls.map ld)))]) rfl ?_;show A6 [some (s1,.fz (.int h.n)),some (s2,.fz (.lst (h.ls.map ld)))]=_;unfold A6;rw[AY (Z1:=[some (s1,.fz (.int h.n)),some (s2,.fz (.lst (h.ls.map ld)))]) (by clear hc1 hc2; walk_at "eo"),AY (HH (not_of (B6 hc1)))];exact Bl hc2
def Km(st:Own)(h:Hs)(ok:h.Ok):Ct [(st,.fz h.d)]=some (.fz (.bl true),[.fz h.d]):=by
 have e1:=QJ .own .own h ok;have e2:=PC .own h.n ok.n1 ok.n2;have e3:=GR .own (.int h.n) (.lst (h.ls.map ld));have e4:=at0 (D.int h.n) [.lst (h.ls.map ld)];have e5:=at1 (D.int h.n) (.lst (h.ls.map ld)) [];simp only[Ct,fnM,Ce,Hs.d];walk_at "eo"
def FT(st:Own)(h:Hs)(ok:h.Ok):BH [(st,.fz h.d)]=some (.fz .non,[.fz h.d]):=by
 have e1:=Km .own h ok;simp only[BH,fnM,Gm];walk_at "eo"
def Hs.text(h:Hs):Str:=⟨(h.ls.map (·.1)).toArray⟩
def Hs.hands(h:Hs)(c:Nat):List Int:=((h.ls.find? fun p=>p.1==c).map (·.2)).getD []
def hL(xs:List Int):A:=.lst ((iL xs).map A.fz)
def Hs.at(h:Hs)(z:Str)(i:Nat):List Int:=h.hands (z.cps.toList.getD i 0)
def Bag(n:Nat)(as:List A):Prop:=∃x y:Int,as=[.fz (.int x),.fz (.int y)]/\0<=y/\y<=n
def Bag.mono{n m:Nat}{as:List A}(h:Bag n as)(hm:n<=m):Bag m as:=by
 obtain⟨x,y,e,h1,h2⟩:=h;exact⟨x,y,e,h1,by lia⟩
def Yt(st:Own)(x:Int):∃as a1,Bag 1 as/\Eg [(st,.fz (.int x))]=some (.lst as,[a1]):=by
 have p1:decide ((0:Int)<=18/\(18:Int)<=1000000/\Int.natAbs 10<2 ^ 64)=true:=by decide
 have l2:((2:Nat)<=LIM)=True:=by simp[LIM,sizeLine]
 have p2:decide ((0:Int)<2147483647)=true:=by decide
 by_cases h:(10:Int) ^ (18:Int).toNat<=(if x<0 then -x else x)
 .refine⟨_,_,⟨(if x<0 then -x else x),0,rfl,by lia,by lia⟩,A2 (Z:=[some (st,.fz (.int x))]) rfl ?_⟩
  show DG [some (st,.fz (.int x))]=_;unfold DG;have h':=decide_eq_true h;clear h;walk_at "eo"
 .refine⟨_,_,⟨x % 2147483647,1,rfl,by lia,by lia⟩,A2 (Z:=[some (st,.fz (.int x))]) rfl ?_⟩
  show DG [some (st,.fz (.int x))]=_;unfold DG;have h':=decide_eq_false h;clear h;walk_at "eo"
def Cq{n:Nat}{as:List A}(hb:Bag n as)(hn:n<=1000000)(m:Int)(hm:0<m)(hm2:m<1099511627776):∃(d:Int) (as':List A),0<=d/\d<m/\Bag (n+1) as'/\Aq [(.lent,.lst as),(.own,.fz (.int m))]=some (.fz (.int d),[.lst as',.fz (.int m)]):=by
 obtain⟨x,y,rfl,h1,h2⟩:=hb;have m1:decide (0<m)=true:=decide_eq_true hm;have m2:decide (0<m/\m<1099511627776)=true:=decide_eq_true ⟨hm,hm2⟩;have i0:ixN 2 0=some 0:=by rfl
 have i1:ixN 2 1=some 1:=by rfl
 by_cases hy:y=0
 .subst hy
  refine⟨x % m,[.fz (.int (x / m)),.fz (.int 0)],Int.emod_nonneg _ (by lia),Int.emod_lt_of_pos _ hm,⟨_,_,rfl,by lia,by lia⟩,A2 (Z:=[some (.lent,.lst [.fz (.int (x / m)),.fz (.int 0)]),some (.own,.fz (.int m)),some (.own,.fz (.int (x % m)))]) rfl ?_⟩;show Dp [some (.lent,.lst [.fz (.int x),.fz (.int 0)]),some (.own,.fz (.int m)),none]=_;unfold Dp;have a0:=at0 (D.int x) [D.int 0];have a1:=at1 (D.int x) (D.int 0) [];clear hm hm2 h1 h2 hn;walk_at "eo"
 .let x':=(x*48271+7919*y*y+17) % 2147483647
  have e1:eqD (.int y) (.int 0)=false:=by simp[GZ,Lh,Nb,Jz,IQ,hy]
  have c1:(-(2 ^ 64)<x/\x<2 ^ 64 \/ -(2 ^ 64)<(48271:Int)/\(48271:Int)<2 ^ 64)=True:=by simp
  have c2:(-(2 ^ 64)<(7919:Int)/\(7919:Int)<2 ^ 64 \/ -(2 ^ 64)<y/\y<2 ^ 64)=True:=by simp
  have c3:(-(2 ^ 64)<7919*y/\7919*y<2 ^ 64 \/ -(2 ^ 64)<y/\y<2 ^ 64)=True:=by simp; lia
  have c4:(-(2 ^ 64)<x'/\x'<2 ^ 64 \/ -(2 ^ 64)<(69621:Int)/\(69621:Int)<2 ^ 64)=True:=by simp
  have d1:decide ((0:Int)<2147483647)=true:=by decide
  have d2:decide ((0:Int)<2147483629)=true:=by decide
  have d3:decide ((0:Int)<5/\(5:Int)<1099511627776)=true:=by decide
  have hx:(x*48271+7919*y*y+17) % 2147483647=x':=rfl;refine⟨x'*69621 % 2147483629 / 5 % m,[.fz (.int x'),.fz (.int (y+1))],Int.emod_nonneg _ (by lia),Int.emod_lt_of_pos _ hm,⟨_,_,rfl,by lia,by lia⟩,A2 (Z:=[some (.lent,.lst [.fz (.int x'),.fz (.int (y+1))]),some (.own,.fz (.int m)),none]) rfl ?_⟩;show Dp [some (.lent,.lst [.fz (.int x),.fz (.int y)]),some (.own,.fz (.int m)),none]=_;unfold Dp;have a0:=at0 (D.int x) [D.int y];have a1:=at1 (D.int x) (D.int y) [];have a2:=at1 (D.int x') (D.int y) [];have a3:=at0 (D.int x') [D.int (y+1)];rw[AY (Z1:=[some (.lent,.lst [.fz (.int x),.fz (.int y)]),some (.own,.fz (.int m)),none]) (by
   simp only[GZ,Lh,Nb,Jz,IQ] at e1;clear hm hm2 h1 h2 hn c1 c2 c3 c4 hx hy;walk_at "eo"),AY (Z1:=[some (.lent,.lst [.fz (.int x'),.fz (.int y)]),some (.own,.fz (.int m)),none]) (by
   clear hm hm2 h1 h2 hn c4 hy e1;walk_at "eo"),AY (Z1:=[some (.lent,.lst [.fz (.int x'),.fz (.int (y+1))]),some (.own,.fz (.int m)),none]) (by
   clear hm hm2 h1 h2 hn c4 hy e1 c1 c2 c3 hx;walk_at "eo")]
  refine Bl ?_;clear hm hm2 h1 h2 hn hy e1 c1 c2 c3 hx;walk_at "eo"
def GX(b:Int)(i:Nat):Bool:=eqD (.int (Builtin.bitAnd (b / 2 ^ i) 1)) (.int 1)
def F2(n:Nat)(b:Int):List Int:=((List.range n).filter (GX b)).map fun(i:Nat)=>(i:Int)
def Ld(n:Nat)(b:Int):(F2 n b).Pairwise (· < ·):=by
 unfold F2;rw[List.pairwise_map];have:((List.range n).filter (GX b)).Pairwise (· < ·):=List.Pairwise.filter _ List.pairwise_lt_range;exact this.imp fun h=>by lia
def O4{n:Nat}{b:Int}:∀x∈F2 n b,0<=x/\x<n:=by
 intro x hx;simp only[F2,List.mem_map,List.mem_filter,List.mem_range] at hx;obtain⟨i,⟨hi,_⟩,rfl⟩:=hx;lia
def M5:∀n∈[2,3,4],∀b∈List.range 16,1<=b->b<2 ^ n->F2 n (b:Int)≠[]:=by decide +kernel
def WA:∀n∈[2,3,4],∀a∈List.range n,∀b∈List.range n,1<=Builtin.bitOr (1*2 ^ a) (1*2 ^ b)/\Builtin.bitOr (1*2 ^ a) (1*2 ^ b)<2 ^ n:=by decide +kernel
def Tq{n:Nat}{b:Int}(hn:n=2\/n=3\/n=4)(h1:1<=b)(h2:b<2 ^ n):F2 n b≠[]:=by
 obtain⟨k,rfl⟩:∃k:Nat,b=k:=⟨b.toNat,by lia⟩;have h16:(2:Int) ^ n<=16:=by rcases hn with rfl|rfl|rfl<;>decide
 refine M5 n (by rcases hn with rfl|rfl|rfl<;>simp) k (by simp; lia) (by lia) ?_;have:((k:Nat):Int)<((2 ^ n:Nat):Int):=by simpa using h2
 lia
local macro_rules | `(tactic| walk_at "wp1")=>`(tactic| first
 | (with_reducible refine CC ?_)|(with_reducible refine AE ?_)|(with_reducible refine Hh ?_)|(with_reducible refine Fd ?_)|(with_reducible refine Ff ?_)|(with_reducible refine GI ?_)|(with_reducible refine GJ ?_)|(with_reducible refine FY ?_)|(with_reducible refine Hv ?_)|(with_reducible refine Hu ?_)|(with_reducible refine Ht ?_)|(with_reducible refine Fz ?_)|(with_reducible refine EK ?_)
 | (with_reducible refine EY ?_)|(with_reducible refine Fy ?_)|(with_reducible refine Ee ?_)|(with_reducible refine DK ?_)|(with_reducible refine G6 ?_)|(with_reducible refine JD ?_)|(with_reducible refine G8 ?_)|(with_reducible refine G7 ?_)|(with_reducible refine Gn ?_)|(with_reducible refine G9 ?_)
 | (with_reducible refine Ia ?_)|(with_reducible refine M4 ?_)|(with_reducible refine BU ?_)|(with_reducible refine DF ?_)
 | (with_reducible refine F0 ?_)|(with_reducible refine ER ?_)|(with_reducible refine EO ?_)|(with_reducible refine Ky ?_)|(with_reducible refine Hx ?_)
 | (with_reducible refine EF ?_)|(with_reducible refine FH ?_)|(with_reducible refine E8 ?_)|(with_reducible refine FU ?_)
 | ((with_reducible apply Dq); · rfl)
 | ((with_reducible refine Exists.intro _ (And.intro (D9 ?_) ?_)); · rfl)
 | ((with_reducible apply ex1); · rfl)|((with_reducible apply ex2); · rfl)|((with_reducible apply ex3); · rfl)|((with_reducible apply ex0); · rfl)|((with_reducible refine And.intro ?_ ?_); · rfl)|((with_reducible refine IS ?_ ?_); · rfl)|((with_reducible refine JQ ?_ ?_); · rfl))
local macro_rules | `(tactic| walk_at "wp")=>`(tactic| repeat walk_at "wp1")
def AL(Z:Ro)(ds:List D):share Z (.val (.lst (ds.map A.fz)))=some (.lst ds,Z):=by
 simp[share,er,HC]
def Tn:∀k∈List.range 26,atI (Str.ofString "abcdefghijklmnopqrstuvwxyz").cps.toList (k:Int)=some (97+k):=by decide +kernel
def O3(n:Nat)(b:Int):(ET 0 n).filterMap (fun d=>match d with | .int i=>if GX b i.toNat then some (.int i) else none|_=>none)=iL (F2 n b):=by
 have eu:ET 0 n=(List.range n).map fun(j:Nat)=>D.int (j:Int):=by
  unfold ET;exact List.map_congr_left fun j _=>by simp
 rw[eu,List.filterMap_map,iL,F2,List.map_map,<- List.filterMap_eq_map,<- List.filterMap_eq_filter,List.filterMap_filterMap];refine congrArg (fun g=>List.filterMap g _) (funext fun j=>?_);show(if GX b (Int.toNat (j:Int))=true then some (D.int (j:Int)) else none)=(Option.guard (GX b) j).bind _;rw[Int.toNat_natCast];unfold Option.guard;by_cases hp:GX b j=true
 .rw[if_pos hp,if_pos hp]; rfl
 .rw[if_neg hp,if_neg hp]; rfl
structure HI (n:Int) (M j:Nat) (ls:List (Nat×List Int)) (a:Int):Prop where
 len:ls.length=j
 a0:0<=a
 a1:a<=26-M+j
 ch:∀p∈ls,97<=p.1/\(p.1:Int)<97+a
 ri:(ls.map (·.1)).Pairwise (· < ·)
 hs:∀p∈ls,p.2≠[]/\p.2.Pairwise (· < ·)/\∀x∈p.2,0<=x/\x<n
def HI.step{n:Int}{M j:Nat}{ls:List (Nat×List Int)}{a d:Int}{hl:List Int}(h:HI n M j ls a)(d0:0<=d)(d1:d<27-M+(0+(j:Int))-a)(hl0:hl≠[])(hl1:hl.Pairwise (· < ·))(hl2:∀x∈hl,0<=x/\x<n):HI n M (j+1) (ls++[(97+(a+d).toNat,hl)]) (a+d+1):=by
 have a0:=h.a0;refine⟨by simp[h.len],by lia,by lia,?_,?_,?_⟩
 .intro p hp
  rcases List.mem_append.mp hp with hp|hp
  .have:=h.ch p hp; lia
  .simp only[List.mem_singleton] at hp; subst hp; simp only; lia
 .rw[List.map_append,List.pairwise_append]
  refine⟨h.ri,by simp,?_⟩;intro x hx y hy;obtain⟨p,hp,rfl⟩:=List.mem_map.mp hx;simp only[List.map_cons,List.map_nil,List.mem_singleton] at hy;subst hy;have:=(h.ch p hp).2;lia
 .intro p hp
  rcases List.mem_append.mp hp with hp|hp
  .exact h.hs p hp
  .simp only[List.mem_singleton] at hp; subst hp; exact⟨hl0,hl1,hl2⟩
abbrev oF(d:D):Slot:=some (.own,.fz d)
abbrev eK(as:List A)(n M S:Int)(ls:List (Nat×List Int))(a:Int)(x6 x7:Slot):Ro:=[some (.lent,.lst as),oF (.int n),oF (.int M),oF (.int S),some (.own,.lst ((ls.map ld).map A.fz)),oF (.int a),x6,x7]
def JN{R:List A->Option A}(sr:∀b j:Int,0<=j->R [.fz (.int b),.fz (.int j)]=some (.fz (.int (b / 2 ^ j.toNat)))){n M S a c1 b:Int}{Mn j N':Nat}{as':List A}{ls:List (Nat×List Int)}(hn:n=2\/n=3\/n=4)(hi:HI n Mn j ls a)(hcx:atI (Str.ofString "abcdefghijklmnopqrstuvwxyz").cps.toList (a+c1)=some (97+(a+c1).toNat))(d0:0<=c1)(d1:c1<27-Mn+(0+(j:Int))-a)(hj:j<=100)(hb:Bag N' as')(b1:1<=b)(b2:b<2 ^ n.toNat){T:Fl->Prop}(hT:∀Z,(∃as' ls' a' x6 x7,Fr x6/\Fr x7/\Bag N' as'/\HI n Mn (j+1) ls' a'/\Z=eK as' n M S ls' a' x6 x7)->T (.next Z)):
  SV (IX 4 (CD (Ab (Ae (opM ixA (m2L (Ag (.str (Str.ofString "abcdefghijklmnopqrstuvwxyz"))) (Ad 5)))) (Ab (Ae (Bh (CP (Ad 1)) 0 (AJ (opM eqA (m2L (opM K4 (m2L (opM R (m2L (Ad 8) (Ad 0))) (Ag (.int 1)))) (Ag (.int 1))))) (Ad 0))) Ai)))) (eK as' n M S ls (a+c1) (oF (.int (0+(j:Int)))) (oF (.int b))) (nxt (fun Z1=>SV (A5 5 (opM Bk (m2L (Ad 5) (Ag (.int 1))))) Z1 T) T):=by
 have hL:1000<=LIM:=by decide
 have hlen:=hi.len;have hbits:=Tq (n:=n.toNat) (b:=b) (by lia) b1 b2;refine MJ ⟨_,rfl⟩ ?_;walk_at "wp";refine⟨_,ixS hcx,?_⟩;walk_at "wp";refine JC (fun d=>match d with | .int i=>if GX b i.toNat then some (.int i) else none|_=>none) (iL (F2 n.toNat b)) (Io ?_);walk_at "wp";refine⟨⟨by lia,by lia⟩,by rw[GK]; lia,O3 _ _,fun d hd=>?_,?_⟩
 .obtain⟨i,hi⟩:=List.mem_iff_getElem?.mp hd
  obtain⟨rfl,hi⟩:=F1 hi;refine⟨[.int (0+(i:Int))],rfl,?_⟩;walk_at "wp";refine⟨_,sr _ _ (by lia),?_⟩;walk_at "wp";refine Rv (fun e=>?_) fun e=>?_
  .walk_at "wp"
   exact if_pos e
  .exact if_neg (by rw[show GX b (0+(i:Int)).toNat=false from e]; decide)
 walk_at "wp";refine⟨_,_,AL _ _,?_⟩;walk_at "wp";refine⟨?_,AE ?_⟩
 .rw[List.length_map,List.length_map]; lia
 walk_at "wp";refine hT _ ⟨as',ls++[(97+(a+c1).toNat,F2 n.toNat b)],a+c1+1,oF (.int (0+(j:Int))),oF (.int b),rfl,rfl,hb,hi.step d0 d1 hbits (Ld _ _) (fun x hx=>by have:=O4 x hx; lia),?_⟩;unfold eK;rw[List.map_append,List.map_append];rfl
def UP{N:Nat}{as:List A}(hb:Bag N as)(hN:N<=1000):∃h:Hs,∃as',h.Ok/\Bag (N+30) as'/\CJ [(.lent,.lst as)]=some (.fz h.d,[.lst as']):=by
 suffices hh:FV CJ [(.lent,.lst as)] fun a os=>∃h:Hs,∃as',h.Ok/\Bag (N+30) as'/\a=.fz h.d/\os=[.lst as'] by
  obtain⟨a,os,e,h,as',h1,h2,rfl,rfl⟩:=hh;exact⟨h,as',h1,h2,e⟩
 have hL:1000<=LIM:=by decide
 obtain⟨d1,as1,g1,g2,b1,t1⟩:=Cq hb (by lia) 3 (by lia) (by lia);obtain⟨d2,as2,g3,g4,b2,t2⟩:=Cq b1 (by lia) 6 (by lia) (by lia);obtain⟨d3,as3,g5,g6,b3,t3⟩:=Cq b2 (by lia) 2 (by lia) (by lia);have hn:2+d1=2\/2+d1=3\/2+d1=4:=by lia
 refine DS rfl rfl ?_;show SV EI [some (.lent,.lst as),none,none,none,none,none,none,none] _;unfold EI;generalize hS:Ks=S;have sl:∀j:Int,0<=j->j<=4->S [.fz (.int 1),.fz (.int j)]=some (.fz (.int (1*2 ^ j.toNat))):=fun j j0 j1=>hS ▸ SR (by simp; lia);clear hS;generalize hR:MG=R;have sr:∀b j:Int,0<=j->R [.fz (.int b),.fz (.int j)]=some (.fz (.int (b / 2 ^ j.toNat))):=fun b j j0=>hR ▸ SS (decide_eq_true j0);clear hR;walk_at "wp";refine B0 t1 ?_;walk_at "wp";refine B0 t2 ?_;walk_at "wp";refine B0 t3 ?_;clear t1 t2 t3;walk_at "wp";show SV _ (eK as3 (2+d1) (1+d2) d3 [] 0 none none) _;refine Kv (Io ?_);walk_at "wp";refine⟨⟨by lia,by lia⟩,fun j Z=>∃as' ls' a' x6 x7,Fr x6/\Fr x7/\Bag (N+3+4*j) as'/\HI (2+d1) (1+d2).toNat j ls' a'/\Z=eK as' (2+d1) (1+d2) d3 ls' a' x6 x7,⟨as3,[],0,none,none,rfl,rfl,b3,⟨rfl,by lia,by lia,by simp,by simp,by simp⟩,rfl⟩,fun j d Z hd hI=>?_,fun Z hI=>?_⟩
 .obtain⟨as,ls,a,x6,x7,h6,h7,hb,hi,rfl⟩:=hI
  obtain⟨rfl,hj⟩:=F1 hd;have a0:=hi.a0;have a1:=hi.a1;have hlen:=hi.len;have hp:(1:Int)*2 ^ (2+d1).toNat-1<=15/\0<(1:Int)*2 ^ (2+d1).toNat-1:=by rcases hn with e|e|e<;>rw[e]<;>decide
  obtain⟨c1,bs1,k1,k2,q1,u1⟩:=Cq hb (by lia) (27-(1+d2)+(0+(j:Int))-a) (by lia) (by lia);obtain⟨c2,bs2,k3,k4,q2,u2⟩:=Cq q1 (by lia) ((1:Int)*2 ^ (2+d1).toNat-1) (by lia) (by lia);obtain⟨c3,bs3,k5,k6,q3,u3⟩:=Cq q2 (by lia) (2+d1) (by lia) (by lia);obtain⟨c4,bs4,k7,k8,q4,u4⟩:=Cq q3 (by lia) (2+d1) (by lia) (by lia);have ho:=WA (2+d1).toNat (by rcases hn with e|e|e<;>rw[e]<;>simp) c3.toNat (by simp; lia) c4.toNat (by simp; lia);have hcx:atI (Str.ofString "abcdefghijklmnopqrstuvwxyz").cps.toList (a+c1)=some (97+(a+c1).toNat):=by
   have ha:=Tn (a+c1).toNat (by simp; lia)
   rwa [show(((a+c1).toNat:Nat):Int)=a+c1 by lia] at ha
  clear hd;refine⟨_,Ju h6,?_⟩;show SV _ (eK as (2+d1) (1+d2) d3 ls a (oF (.int (0+(j:Int)))) x7) _;walk_at "wp";refine B0 u1 ?_;walk_at "wp";refine⟨_,sl _ (by lia) (by lia),?_⟩;walk_at "wp";refine B0 u2 ?_;walk_at "wp";refine⟨h7,AE ?_⟩;show SV _ (eK bs2 (2+d1) (1+d2) d3 ls (a+c1) (oF (.int (0+(j:Int)))) (oF (.int (1+c2)))) _;walk_at "wp";refine Rv (fun e=>?_) fun e=>?_
  .walk_at "wp"
   refine B0 u3 ?_;walk_at "wp";refine⟨_,sl _ (by lia) (by lia),?_⟩;walk_at "wp";refine B0 u4 ?_;walk_at "wp";refine⟨_,sl _ (by lia) (by lia),?_⟩;walk_at "wp";exact JN (N':=N+3+4*(j+1)) sr hn hi hcx k1 (by lia) (by lia) (q4.mono (by lia)) ho.1 ho.2 fun _ h=>h
  .walk_at "wp"
   exact JN (N':=N+3+4*(j+1)) sr hn hi hcx k1 (by lia) (by lia) (q2.mono (by lia)) (by lia) (Int.lt_of_lt_of_le (Int.add_lt_add_left k4 1) (by rw[Int.one_mul]; lia)) fun _ h=>h
 obtain⟨as',ls',a',x6,x7,h6,h7,hb',hi,rfl⟩:=hI;have hln:(ET 0 (1+d2).toNat).length=(1+d2).toNat:=GK ..;rw[hln] at hb' hi;have ha1:=hi.a1;have hlen:=hi.len;walk_at "wp";refine⟨_,_,GS rfl,?_⟩;walk_at "wp";exact⟨⟨2+d1,ls'⟩,as',⟨by simp only; lia,by simp only; lia,by simp only; lia,by simp only; lia,fun p hp=>by have:=hi.ch p hp; lia,hi.ri,hi.hs⟩,hb'.mono (by lia),rfl,rfl⟩
local macro_rules | `(tactic| walk_at "wp1")=>`(tactic| first
 | (with_reducible refine CC ?_)|(with_reducible refine AE ?_)|(with_reducible refine Hh ?_)|(with_reducible refine Fd ?_)|(with_reducible refine Ff ?_)|(with_reducible refine GI ?_)|(with_reducible refine GJ ?_)|(with_reducible refine FY ?_)|(with_reducible refine Hv ?_)|(with_reducible refine Hu ?_)|(with_reducible refine Ht ?_)|(with_reducible refine Fz ?_)|(with_reducible refine EK ?_)
 | (with_reducible refine EY ?_)|(with_reducible refine Fy ?_)|(with_reducible refine Ee ?_)|(with_reducible refine DK ?_)|(with_reducible refine G6 ?_)|(with_reducible refine JD ?_)|(with_reducible refine G8 ?_)|(with_reducible refine G7 ?_)|(with_reducible refine Gn ?_)|(with_reducible refine G9 ?_)
 | (with_reducible refine Ia ?_)|(with_reducible refine M4 ?_)|(with_reducible refine BU ?_)|(with_reducible refine DF ?_)
 | (with_reducible refine F0 ?_)|(with_reducible refine ER ?_)|(with_reducible refine EO ?_)|(with_reducible refine Ky ?_)|(with_reducible refine Hx ?_)
 | (with_reducible refine EF ?_)|(with_reducible refine FH ?_)|(with_reducible refine E8 ?_)|(with_reducible refine FU ?_)
 | ((with_reducible apply Dq); · rfl)
 | ((with_reducible refine Exists.intro _ (And.intro (D9 ?_) ?_)); · rfl)
 | ((with_reducible apply ex1); · rfl)|((with_reducible apply ex2); · rfl)|((with_reducible apply ex3); · rfl)|((with_reducible apply ex0); · rfl)|((with_reducible refine And.intro ?_ ?_); · rfl)|((with_reducible refine IS ?_ ?_); · rfl)|((with_reducible refine JQ ?_ ?_); · rfl))
local macro_rules | `(tactic| walk_at "wp")=>`(tactic| repeat walk_at "wp1")
def U3{n j:Nat}{d:D}(h:(ET 0 n)[j]? = some d):d=.int j/\j<n:=by
 obtain⟨h1,h2⟩:=F1 h;rw[Int.zero_add] at h1;exact⟨h1,h2⟩
theorem nil_of(Z:Ro):Ai Z=some ([],Z):=rfl
theorem PJ:∀(n:Nat) (xs:List Int),IK n (iL xs)=true
 | n,[]=>rfl
 | n,x::xs=>by
  have ih:=PJ n xs;simp only[iL,List.map_cons,IK,shB,Bool.true_and] at ih |-;exact ih
def W5(ns:List Int)(k:Nat):∃c a2,DL [(.ro,.scr ns),(.own,.fz (.int k))]=some (.fz (.int c),[.scr ns,a2]):=by
 by_cases h:k<ns.length
 .obtain⟨c,e2⟩:∃c,atI (ns.map D.int) (k:Int)=some (.int c):=⟨ns[k],by
   have e2:=Cv (xs:=ns.map D.int) (i:=(k:Int)) (k:=k) rfl (by simpa using h);simpa using e2⟩
  refine⟨c,_,A2 (Z:=[some (.ro,.scr ns),some (.own,.fz (.int k))]) rfl ?_⟩;show Dn [some (.ro,.scr ns),some (.own,.fz (.int k))]=_;unfold Dn;have e1:decide ((k:Int)<(ns.length:Int))=true:=by simpa using h
  clear h;walk_at "eo"
 .refine⟨0,_,A2 (Z:=[some (.ro,.scr ns),some (.own,.fz (.int k))]) rfl ?_⟩
  show Dn [some (.ro,.scr ns),some (.own,.fz (.int k))]=_;unfold Dn;have e1:decide ((k:Int)<(ns.length:Int))=false:=by simpa using h
  clear h;walk_at "eo"
def tx(cs:List Nat):Str:=⟨cs.toArray⟩
local macro_rules | `(tactic| walk_at "wp1")=>`(tactic| first
 | (with_reducible refine CC ?_)|(with_reducible refine AE ?_)|(with_reducible refine Hh ?_)|(with_reducible refine Fd ?_)|(with_reducible refine Ff ?_)|(with_reducible refine GI ?_)|(with_reducible refine GJ ?_)|(with_reducible refine FY ?_)|(with_reducible refine Hv ?_)|(with_reducible refine Hu ?_)|(with_reducible refine Ht ?_)|(with_reducible refine Fz ?_)|(with_reducible refine EK ?_)
 | (with_reducible refine EY ?_)|(with_reducible refine Fy ?_)|(with_reducible refine Ee ?_)|(with_reducible refine DK ?_)|(with_reducible refine G6 ?_)|(with_reducible refine JD ?_)|(with_reducible refine G8 ?_)|(with_reducible refine G7 ?_)|(with_reducible refine Gn ?_)|(with_reducible refine G9 ?_)
 | (with_reducible refine Ia ?_)|(with_reducible refine M4 ?_)|(with_reducible refine BU ?_)|(with_reducible refine DF ?_)
 | (with_reducible refine F0 ?_)|(with_reducible refine ER ?_)|(with_reducible refine EO ?_)|(with_reducible refine Ky ?_)|(with_reducible refine Hx ?_)
 | (with_reducible refine EF ?_)|(with_reducible refine FH ?_)|(with_reducible refine E8 ?_)|(with_reducible refine FU ?_)
 | ((with_reducible apply Dq); · rfl)
 | ((with_reducible refine Exists.intro _ (And.intro (D9 ?_) ?_)); · rfl)
 | ((with_reducible apply ex1); · rfl)|((with_reducible apply ex2); · rfl)|((with_reducible apply ex3); · rfl)|((with_reducible apply ex0); · rfl)|((with_reducible refine And.intro ?_ ?_); · rfl)|((with_reducible refine IS ?_ ?_); · rfl)|((with_reducible refine JQ ?_ ?_); · rfl))
local macro_rules | `(tactic| walk_at "wp")=>`(tactic| repeat walk_at "wp1")
def cons_of{m:ME}{ms:MA}{Z Z1 Z2:Ro}{r:R}{rs:List R}(h1:m Z=some (r,Z1))(h2:ms Z1=some (rs,Z2)):Ab m ms Z=some (r::rs,Z2):=by simp[Ab,h1,h2]
def Sm{m:ME}{Z Z1 Z2:Ro}{r:R}{d:D}(h1:m Z=some (r,Z1))(h2:share Z1 r=some (d,Z2)):Ae m Z=some (.val (.fz d),Z2):=by simp[Ae,h1,h2]
def J9{a b:MT}{Z Z1 Z2:Ro}(h1:a Z=some (false,Z1))(h2:b Z1=some (false,Z2)):orT a b Z=some (false,Z2):=by simp[orT,h1,h2]
def DN{ms:MA}{Z Z1:Ro}{rs:List R}{as:List A}(h1:ms Z=some (rs,Z1))(h2:vals rs=some as)(h3:decide (as.length<=LIM)=true):lstM ms Z=some (.val (.lst as),Z1):=by
 simp only[lstM,h1,h2,Option.bind_some,if_pos (of_decide_eq_true h3)]
def Lz{xs ys:List D}(h:decide (xs.length+ys.length<=LIM)=true):Bk [.lst (xs.map A.fz),.lst (ys.map A.fz)]=some (.lst ((xs++ys).map A.fz)):=by
 have h:=of_decide_eq_true h;simp only[Bk,on2,Bv,Dz,C2,FX,fzU,CS,BO,Option.bind_none,Option.none_or,Option.bind_some,if_pos h]
def K3{a b:ME}{Z Z1:Ro}{r:Option (R×Ro)}(h1:a Z=some (.val (.fz (.bl true)),Z1))(h2:b Z1=r):J.andM a b Z=r:=by
 rw[<- h2];simp only[J.andM,B6 h1,Option.bind_some,if_true]
def K2{a b:ME}{Z Z1:Ro}(h1:a Z=some (.val (.fz (.bl false)),Z1)):J.andM a b Z=some (.val (.fz (.bl false)),Z1):=by
 simp only[J.andM,B6 h1,Option.bind_some,Bool.false_eq_true,if_false]
def HL{L:List D}{w:Int}(h0:0<=w)(h1:w<(L.length:Int)):∃d∈L,ixA [.lst (L.map A.fz),.fz (.int w)]=some (.fz d):=by
 have hk:w.toNat<L.length:=by lia
 exact⟨L[w.toNat],List.getElem_mem hk,ixL (Cv (by lia) hk)⟩
abbrev sL(l:List D):Slot:=some (.own,.lst (l.map A.fz))
abbrev eW(a:Addr)(o:Obj)(x y z:Slot):Ro:=[some (.lent,.opq a o),x,y,z]
abbrev v10:List D:=[.str (Str.ofString "NoHouse"),.str (Str.ofString "NoRow"),.str (Str.ofString "NoMachine"),.str (Str.ofString "NoRoom"),.str (Str.ofString "NoHand"),.str (Str.ofString "Unlike"),.str (Str.ofString "NoPast"),.str (Str.ofString "TooMany"),.str (Str.ofString "Torn"),.str (Str.ofString "NoTable")]
abbrev v15:List D:=[.str (Str.ofString "NoHouse"),.str (Str.ofString "NoRow"),.str (Str.ofString "NoMachine"),.str (Str.ofString "NoRoom"),.str (Str.ofString "NoHand"),.str (Str.ofString "Unlike"),.str (Str.ofString "NoPast"),.str (Str.ofString "TooMany"),.str (Str.ofString "Torn"),.str (Str.ofString "NoTable"),.str (Str.ofString "NoSet"),.str (Str.ofString "Falls"),.str (Str.ofString "Whole"),.str (Str.ofString "NoText"),.str (Str.ofString "NoWord")]
abbrev q0(j:Nat):List D:=[.bl (0==j),.bl (1==j),.bl (2==j),.bl (3==j)]
abbrev p1(j:Nat):List D:=[.bl (4==j),.bl (5==j),.bl (6==j),.bl (7==j)]
abbrev q1(j:Nat):List D:=q0 j++p1 j
abbrev p2(j:Nat):List D:=[.bl (8==j),.bl (9==j),.bl (10==j),.bl (11==j)]
abbrev q2(j:Nat):List D:=q1 j++p2 j
abbrev p3(j:Nat):List D:=[.bl (12==j),.bl (13==j),.bl (14==j)]
abbrev q3(j:Nat):List D:=q2 j++p3 j
def VY{C:Addr}{b:Bool}{a:Addr}{o:Obj}(h:o.cls=.ref C):BM C b [.opq a o]=some (.fz (.bl b)):=by
 have e:(o.cls==.ref C)=true:=by rw[h]; exact beq_self_eq_true _
 simp only[BM,on1,VX,e,if_true]
def SQ{C a:Addr}{o:Obj}{j:Nat}{wd:Str}(h:o.cls=.ref C)(h6:A5 3 (Bh (CP (Ag (.int 15))) 0 (AJ (opM ixA (m2L (Ad 2) (Ad 0)))) (opM ixA (m2L (Ad 3) (Ad 0)))) (eW a o (sL (q3 j)) (sL v15) none)=some (.next (eW a o (sL (q3 j)) (sL v15) (sL [.str wd])))):GL C j [(.lent,.opq a o)]=some (.fz (.str wd),[.opq a o]):=by
 have ix:∀(b:Bool) (x y z:Slot),opM (BM C b) (m1L (Ad 0)) (eW a o x y z)=some (.val (.fz (.bl b)),eW a o x y z):=fun b x y z=>AX rfl rfl (VY h);have ip:∀(b:Bool) (x y z:Slot),Ae (opM (BM C b) (m1L (Ad 0))) (eW a o x y z)=some (.val (.fz (.bl b)),eW a o x y z):=fun b x y z=>Sm (ix b x y z) rfl;have st0:A5 1 (lstM (Ab (Ae (opM (BM C (0==j)) (m1L (Ad 0)))) (Ab (Ae (opM (BM C (1==j)) (m1L (Ad 0)))) (Ab (Ae (opM (BM C (2==j)) (m1L (Ad 0)))) (Ab (Ae (opM (BM C (3==j)) (m1L (Ad 0)))) Ai))))) (eW a o none none none)=some (.next (eW a o (sL (q0 j)) none none)):=LD (DN (cons_of (ip _ _ _ _) (cons_of (ip _ _ _ _) (cons_of (ip _ _ _ _) (cons_of (ip _ _ _ _) (nil_of _))))) rfl rfl) rfl;have l1:(lstM (Ab (Ae (opM (BM C (4==j)) (m1L (Ad 0)))) (Ab (Ae (opM (BM C (5==j)) (m1L (Ad 0)))) (Ab (Ae (opM (BM C (6==j)) (m1L (Ad 0)))) (Ab (Ae (opM (BM C (7==j)) (m1L (Ad 0)))) Ai))))) (eW a o (sL (q0 j)) none none)=some (.val (.lst ((p1 j).map A.fz)),(eW a o (sL (q0 j)) none none)):=(DN (cons_of (ip _ _ _ _) (cons_of (ip _ _ _ _) (cons_of (ip _ _ _ _) (cons_of (ip _ _ _ _) (nil_of _))))) rfl rfl);have st1:A5 1 (opM Bk (m2L (Ad 1) (lstM (Ab (Ae (opM (BM C (4==j)) (m1L (Ad 0)))) (Ab (Ae (opM (BM C (5==j)) (m1L (Ad 0)))) (Ab (Ae (opM (BM C (6==j)) (m1L (Ad 0)))) (Ab (Ae (opM (BM C (7==j)) (m1L (Ad 0)))) Ai))))))) (eW a o (sL (q0 j)) none none)=some (.next (eW a o (sL (q1 j)) none none)):=LD (AX (B1 (r1:=.ref 1) rfl l1) rfl (Lz (xs:=q0 j) (ys:=p1 j) rfl)) rfl;have l2:(lstM (Ab (Ae (opM (BM C (8==j)) (m1L (Ad 0)))) (Ab (Ae (opM (BM C (9==j)) (m1L (Ad 0)))) (Ab (Ae (opM (BM C (10==j)) (m1L (Ad 0)))) (Ab (Ae (opM (BM C (11==j)) (m1L (Ad 0)))) Ai))))) (eW a o (sL (q1 j)) none none)=some (.val (.lst ((p2 j).map A.fz)),(eW a o (sL (q1 j)) none none)):=(DN (cons_of (ip _ _ _ _) (cons_of (ip _ _ _ _) (cons_of (ip _ _ _ _) (cons_of (ip _ _ _ _) (nil_of _))))) rfl rfl)
 have st2:A5 1 (opM Bk (m2L (Ad 1) (lstM (Ab (Ae (opM (BM C (8==j)) (m1L (Ad 0)))) (Ab (Ae (opM (BM C (9==j)) (m1L (Ad 0)))) (Ab (Ae (opM (BM C (10==j)) (m1L (Ad 0)))) (Ab (Ae (opM (BM C (11==j)) (m1L (Ad 0)))) Ai))))))) (eW a o (sL (q1 j)) none none)=some (.next (eW a o (sL (q2 j)) none none)):=LD (AX (B1 (r1:=.ref 1) rfl l2) rfl (Lz (xs:=q1 j) (ys:=p2 j) rfl)) rfl;have l3:(lstM (Ab (Ae (opM (BM C (12==j)) (m1L (Ad 0)))) (Ab (Ae (opM (BM C (13==j)) (m1L (Ad 0)))) (Ab (Ae (opM (BM C (14==j)) (m1L (Ad 0)))) Ai)))) (eW a o (sL (q2 j)) none none)=some (.val (.lst ((p3 j).map A.fz)),(eW a o (sL (q2 j)) none none)):=(DN (cons_of (ip _ _ _ _) (cons_of (ip _ _ _ _) (cons_of (ip _ _ _ _) (nil_of _)))) rfl rfl);have st3:A5 1 (opM Bk (m2L (Ad 1) (lstM (Ab (Ae (opM (BM C (12==j)) (m1L (Ad 0)))) (Ab (Ae (opM (BM C (13==j)) (m1L (Ad 0)))) (Ab (Ae (opM (BM C (14==j)) (m1L (Ad 0)))) Ai)))))) (eW a o (sL (q2 j)) none none)=some (.next (eW a o (sL (q3 j)) none none)):=LD (AX (B1 (r1:=.ref 1) rfl l3) rfl (Lz (xs:=q2 j) (ys:=p3 j) rfl)) rfl;have st4:A5 2 (lstM (Ab (Ae (Ag (.str (Str.ofString "NoHouse")))) (Ab (Ae (Ag (.str (Str.ofString "NoRow")))) (Ab (Ae (Ag (.str (Str.ofString "NoMachine")))) (Ab (Ae (Ag (.str (Str.ofString "NoRoom")))) (Ab (Ae (Ag (.str (Str.ofString "NoHand")))) (Ab (Ae (Ag (.str (Str.ofString "Unlike")))) (Ab (Ae (Ag (.str (Str.ofString "NoPast")))) (Ab (Ae (Ag (.str (Str.ofString "TooMany")))) (Ab (Ae (Ag (.str (Str.ofString "Torn")))) (Ab (Ae (Ag (.str (Str.ofString "NoTable")))) Ai))))))))))) (eW a o (sL (q3 j)) none none)=some (.next (eW a o (sL (q3 j)) (sL v10) none)):=rfl
 have st5:A5 2 (opM Bk (m2L (Ad 2) (lstM (Ab (Ae (Ag (.str (Str.ofString "NoSet")))) (Ab (Ae (Ag (.str (Str.ofString "Falls")))) (Ab (Ae (Ag (.str (Str.ofString "Whole")))) (Ab (Ae (Ag (.str (Str.ofString "NoText")))) (Ab (Ae (Ag (.str (Str.ofString "NoWord")))) Ai)))))))) (eW a o (sL (q3 j)) (sL v10) none)=some (.next (eW a o (sL (q3 j)) (sL v15) none)):=rfl;have c2:(orT (AJ (opM neA (m2L (opM BX (Ab (Ad 3) Ai)) (Ag (.int 1))))) (BR (AJ (opM (BM C true) (m1L (Ad 0)))))) (eW a o (sL (q3 j)) (sL v15) (sL [.str wd]))=some (false,(eW a o (sL (q3 j)) (sL v15) (sL [.str wd]))):=J9 rfl (not_of (B6 (ix true _ _ _)));refine A2 (Z:=(eW a o (sL (q3 j)) (sL v15) (sL [.str wd]))) rfl ?_;show Jx C j (eW a o none none none)=_;unfold Jx;exact(AY st0).trans ((AY st1).trans ((AY st2).trans ((AY st3).trans ((AY st4).trans ((AY st5).trans ((AY h6).trans ((AY ((HH c2).trans rfl)).trans (Bl rfl))))))))
abbrev oLs(ds:List D):Slot:=some (.own,.lst (ds.map A.fz))
def Pe{ds:List D}(h:ds.length<=1000):Ll [.fz (.lst ds)]=some (.lst (ds.map A.fz)):=by
 have hL:1000<=LIM:=by decide
 simp only[Ll,on1,A0,Option.bind_some];rw[if_pos (by lia)]
def LG(as:List A):∀(os:List A) (Z:Ro),back (as.map R.val) os Z=Z:=by
 induction as with
 | nil=>intro os Z; cases os<;>rfl
 | cons a as ih =>
  intro os Z;cases os with
  | nil=>rfl
  | cons o os=>exact ih os Z
def Iv(ds:List D):BX [.fz (.lst ds)]=some (.fz (.int (ds.length:Int))):=by
 simp only[BX,on1,C2,FX,fzU,A0,Option.bind_none,Option.map_none,Option.none_or,Option.bind_some,Option.map_some]
def N9{f g:List A->Option A}{a b c:ME}{Z:Ro}{x y w:A}{k l:Bool}(h1:a Z=some (.val x,Z))(h2:b Z=some (.val y,Z))(h3:c Z=some (.val w,Z))(e1:f [x,y]=some (.fz (.bl k)))(e2:g [y,w]=some (.fz (.bl l))):AJ (Gh f g a b c) Z=some (k&&l,Z):=by
 refine B6 ?_;cases k<;>simp only[Gh,h1,h2,h3,peeks,peek,Option.bind_some,Option.map_some,e1,e2,EE,if_true,Bool.false_eq_true,if_false,Bool.true_and,Bool.false_and]
def EG{Ψ:FnR}{ms:MA}{Z Z1:Ro}{rs:List R}{as:List (Own×A)}{o:Option Str}(h1:ms Z=some (rs,Z1))(h2:Dj Z1 rs=some as)(h3:Ex as=true)(h4 : Ψ as=o):F5 Ψ ms Z=o:=by
 simp only[F5,h1,h2,h3,h4,Option.bind_some,if_true]
abbrev O(d:D):Own×A:=(.own,.fz d)
theorem KY{C a:Addr}{o:Obj}(h:o.cls=.ref C):GL C 0 [(.lent,.opq a o)]=some (.fz (.str "NoHouse"),[.opq a o]):=SQ h rfl
theorem Ji{C a:Addr}{o:Obj}(h:o.cls=.ref C):GL C 2 [(.lent,.opq a o)]=some (.fz (.str "NoMachine"),[.opq a o]):=SQ h rfl
def Uo{a b:MT}{Z Z1:Ro}(h1:a Z=some (true,Z1)):orT a b Z=some (true,Z1):=by simp[orT,h1]
def Qi(a:D)(ds:List D):ixA [.fz (.tup (a::ds)),.fz (.int 0)]=some (.fz a):=by
 have e:=at0 a ds;simp only[ixA,on2,Bv,fzU,Dz,A0,C2,FX,e,Option.bind_some,Option.map_some,Option.none_or,Option.bind_none]
def Rw(a b:D)(ds:List D):ixA [.fz (.tup (a::b::ds)),.fz (.int 1)]=some (.fz b):=by
 have e:=at1 a b ds;simp only[ixA,on2,Bv,fzU,Dz,A0,C2,FX,e,Option.bind_some,Option.map_some,Option.none_or,Option.bind_none]
def LC{m:ME}{Z:Ro}{ds:List D}{g:D->Bool}(h:m Z=some (.val (.lst ((ds.map fun d=>D.bl (g d)).map A.fz)),Z))(hx:∃d∈ds,g d=false):opM El (Ab m Ai) Z=some (.val (.fz (.bl false)),Z):=by
 have eb:=EA ds g;have ea:(ds.map g).all id=false:=by
  obtain⟨d,hd,e⟩:=hx;rw[List.all_eq_false];exact⟨g d,List.mem_map.mpr ⟨d,hd,rfl⟩,by simp[e]⟩
 exact AX (cons_of h (nil_of _)) rfl (by simp only[El,on1,CS,BO,eb,Option.bind_some,Option.map_some,ea])
def isP:D->Bool
 | .tup ds=>decide (ds.length=2)
 | .non | .bl _ | .int _ | .str _ | .lst _=>false
def Hr(st:Own)(d:D):Bq [(st,.fz d)]=some (.fz (.bl (isP d)),[.fz d]):=by
 cases d with
 | tup ds =>
  have e:((ds.length:Int)==2)=decide (ds.length=2):=by
   show decide ((ds.length:Int)=2)=_;exact decide_eq_decide.mpr (by lia)
  refine A2 (Z:=[some (st,.fz (.tup ds))]) rfl ?_;show EX [some (st,.fz (.tup ds))]=_;unfold EX;refine Bl (K3 (AX (cons_of (r:=.val (.fz (.tup ds))) rfl (nil_of _)) rfl rfl) ?_);have l:opM BX (Ab (Ad 0) Ai) [some (st,.fz (.tup ds))]=some (.val (.fz (.int (ds.length:Int))),[some (st,.fz (.tup ds))]):=AX (cons_of (r:=.val (.fz (.tup ds))) rfl (nil_of _)) rfl rfl;exact AX (B1 l (r2:=.val (.fz (.int 2))) rfl) rfl (by simp only[eqA,on2,J.er,Option.bind_some,shB,if_true,GZ,e,isP])
 | _=>cases st<;>rfl
def NRi(n:Int)(b:D):Prop:=AR [(.own,.fz b),(.own,.fz (.int n))]=some (.fz (.bl false),[.fz b,.fz (.int n)])
def RX{n:Int}{b:D}{os:List A}(h:Ax [(.own,.fz b),(.own,.fz (.int n))]=some (.fz (.bl false),os)):NRi n b:=by
 refine A2 (Z:=[oF b,oI n]) rfl ?_;show A8 [oF b,oI n]=_;unfold A8;exact DQ ((JO (not_of (B6 (b:=false) (call_of (cons_of (r:=.val (.fz b)) rfl (cons_of (r:=.val (.fz (.int n))) rfl (nil_of _))) rfl rfl h (LG [.fz b,.fz (.int n)] os _))))).trans (Bl rfl))
def Iy{n:Int}{b:D}(h:Dc b=false):NRi n b:=by
 refine RX (os:=[.fz b,.fz (.int n)]) (A2 (Z:=[oF b,oI n]) rfl ?_);show AD [oF b,oI n]=_;unfold AD;exact Bl (K2 (AX (cons_of (r:=.val (.fz b)) rfl (nil_of _)) rfl (by simp only[CQ,on1,J.er,Option.map_some,h])))
def Mb{n:Int}{xs:List Int}(hl:xs.length<=1000)(h:∃x∈xs,¬(0<=x/\x<n)):NRi n (.lst (iL xs)):=by
 have hlim:1000<=LIM:=by decide
 have e:=Ey .own .own xs n (by lia);have ea:(xs.all fun i=>decide (0<=i)&&decide (i<n))=false:=by
  obtain⟨x,hx,e⟩:=h;rw[List.all_eq_false];refine⟨x,hx,fun z=>e ?_⟩;rw[Bool.and_eq_true,decide_eq_true_iff,decide_eq_true_iff] at z;exact z
 rw[ea] at e;exact RX e
def Vf{n:Int}:NRi n (.lst [.bl true]):=by
 refine RX (os:=[.fz (.lst [.bl true]),.fz (.int n)]) (A2 (Z:=[oF (.lst [.bl true]),oI n]) rfl ?_);rfl
def Pg{n:Int}{xs:List Int}(hl:xs.length<=1000){k:Nat}(hk:k+1<xs.length)(h:¬xs[k]'(by lia)<xs[k+1])(hb:∀x∈xs,0<=x/\x<n):NRi n (.lst (iL xs)):=by
 have hlim:1000<=LIM:=by decide
 have e:=Ey .own .own xs n (by lia);have ea:(xs.all fun i=>decide (0<=i)&&decide (i<n))=true:=by
  rw[List.all_eq_true];intro x hx;have:=hb x hx;rw[Bool.and_eq_true,decide_eq_true_iff,decide_eq_true_iff]; exact this
 rw[ea] at e;have w1:=B6 (b:=true) (call_of (cons_of (m:=Ad 0) (Z:=[oF (.lst (iL xs)),oI n]) (r:=.val (.fz (.lst (iL xs)))) rfl (cons_of (m:=Ad 1) (r:=.val (.fz (.int n))) rfl (nil_of _))) rfl rfl e rfl);have l1:opM BX (Ab (Ad 0) Ai) [oF (.lst (iL xs)),oI n]=some (.val (.fz (.int (xs.length:Int))),[oF (.lst (iL xs)),oI n]):=AX (cons_of (r:=.val (.fz (.lst (iL xs)))) rfl (nil_of _)) rfl (by rw[Iv,Bs]);have l2:=AX (f:=HZ) (B1 l1 (m2:=Ag (.int 1)) (r2:=.val (.fz (.int 1))) rfl) rfl rfl;have rg:=NO l2 (by lia) (by lia);have cm:=DZ (e:=(opM ltA (m2L (opM ixA (m2L (Ad 1) (Ad 0))) (opM ixA (m2L (Ad 1) (opM Bk (m2L (Ad 0) (Ag (.int 1))))))))) (f:=fun d=>.bl (decide ((xs.getD (nD d).toNat 0)<xs.getD ((nD d).toNat+1) 0))) rg (by rw[GK]; lia) (fun d hd=>by
  obtain⟨i,hi⟩:=List.mem_iff_getElem?.mp hd;obtain⟨rfl,hi⟩:=F1 hi;have h1:i+1<xs.length:=by lia
  have z0:(0:Int)+(i:Int)=(i:Int):=by lia
  rw[z0];have a1:=QX (xs:=xs) (k:=i) (by lia);have a2:=QX (xs:=xs) (k:=i+1) h1;have c2:((i+1:Nat):Int)=(i:Int)+1:=by lia
  rw[c2] at a2;have x1:opM ixA (m2L (Ad 1) (Ad 0)) (J.own (.int (i:Int))::[oF (.lst (iL xs)),oI n])=some (.val (.fz (.int xs[i])),J.own (.int (i:Int))::[oF (.lst (iL xs)),oI n]):=AX (B1 (r1:=.val (.fz (.lst (iL xs)))) rfl (r2:=.val (.fz (.int (i:Int)))) rfl) rfl (ixF a1);have x2:opM Bk (m2L (Ad 0) (Ag (.int 1))) (J.own (.int (i:Int))::[oF (.lst (iL xs)),oI n])=some (.val (.fz (.int ((i:Int)+1))),J.own (.int (i:Int))::[oF (.lst (iL xs)),oI n]):=AX (B1 (r1:=.val (.fz (.int (i:Int)))) rfl (r2:=.val (.fz (.int 1))) rfl) rfl rfl;have x3:=AX (f:=ixA) (B1 (m1:=Ad 1) (Z:=J.own (.int (i:Int))::[oF (.lst (iL xs)),oI n]) (r1:=.val (.fz (.lst (iL xs)))) rfl x2) rfl (ixF a2);refine⟨_,AX (B1 x1 x3) rfl (c:=.fz (.bl (decide (xs[i]<xs[i+1])))) (by simp only[ltA,on2,Bv,fzU,Dz,Option.bind_some,Option.map_some,Option.some_or]),?_⟩;simp only[share,J.er,Option.map_some,nD,Int.toNat_natCast,List.getD_eq_getElem?_getD,List.getElem?_eq_getElem h1,List.getElem?_eq_getElem (show i<xs.length by lia),Option.getD_some])
 have al:=LC (g:=fun d=>decide ((xs.getD (nD d).toNat 0)<xs.getD ((nD d).toNat+1) 0)) cm ⟨.int (0+(k:Int)),List.mem_map.mpr ⟨k,List.mem_range.mpr (by lia),rfl⟩,by
  have z0:(nD (.int (0+(k:Int)))).toNat=k:=by show((0:Int)+(k:Int)).toNat=k; lia
  rw[z0];simp only[List.getD_eq_getElem?_getD,List.getElem?_eq_getElem hk,List.getElem?_eq_getElem (show k<xs.length by lia),Option.getD_some];exact decide_eq_false h⟩
 refine A2 (Z:=[oF (.lst (iL xs)),oI n]) rfl ?_;show A8 [oF (.lst (iL xs)),oI n]=_;unfold A8;exact(AY ((HH (not_of w1)).trans rfl)).trans (Bl al)
def NE(n:Int)(d:D):Prop:=∃os,Bm [(.own,.fz (.int n)),(.own,.fz d)]=some (.fz (.bl false),os)
theorem OY(n:Int)(d:D):AJ (Ao Bq (Ab (Ad 1) Ai)) [oI n,oF d]=some (isP d,[oI n,oF d]):=B6 (call_of (cons_of (r:=.val (.fz d)) rfl (nil_of _)) rfl rfl (Hr .own d) rfl)
def FK{n:Int}{d:D}(h:isP d=false):NE n d:=by
 have p:=OY n d;rw[h] at p;refine⟨_,A2 (Z:=[oI n,oF d]) rfl ?_⟩;show BF [oI n,oF d]=_;unfold BF;exact DQ ((JO (Uo (not_of p))).trans (Bl rfl))
abbrev SM(a:D)(b:Bool):Prop:=Bg [(.own,.fz a)]=some (.fz (.bl b),[.fz a])
def P5{n:Int}{a b:D}{v:Bool}(h:SM a v):AJ (Ao Bg (Ab (opM ixA (m2L (Ad 1) (Ag (.int 0)))) Ai)) [oI n,oF (.tup [a,b])]=some (v,[oI n,oF (.tup [a,b])]):=by
 have x0:opM ixA (m2L (Ad 1) (Ag (.int 0))) [oI n,oF (.tup [a,b])]=some (.val (.fz a),[oI n,oF (.tup [a,b])]):=AX (B1 (r1:=.val (.fz (.tup [a,b]))) rfl (r2:=.val (.fz (.int 0))) rfl) rfl (Qi _ _);exact B6 (call_of (cons_of x0 (nil_of _)) rfl rfl h rfl)
def Nu{n:Int}{a b:D}(h:SM a false):NE n (.tup [a,b]):=by
 have p:=OY n (.tup [a,b]);refine⟨_,A2 (Z:=[oI n,oF (.tup [a,b])]) rfl ?_⟩;show BF [oI n,oF (.tup [a,b])]=_;unfold BF;refine DQ ((JO (Z1:=[oI n,oF (.tup [a,b])]) ?_).trans (Bl rfl));have q:=not_of p;have q2:=not_of (P5 (n:=n) (b:=b) h);simp only[orT,q,q2,Option.bind_some];rfl
theorem Vw{n:Int}{a b:D}(h:SM a true):orT (BR (AJ (Ao Bq (Ab (Ad 1) Ai)))) (BR (AJ (Ao Bg (Ab (opM ixA (m2L (Ad 1) (Ag (.int 0)))) Ai)))) [oI n,oF (.tup [a,b])]=some (false,[oI n,oF (.tup [a,b])]):=J9 (not_of (OY n (.tup [a,b]))) (not_of (P5 h))
def FL{n:Int}{a b:D}(h:SM a true)(hr:NRi n b):NE n (.tup [a,b]):=by
 have x1:opM ixA (m2L (Ad 1) (Ag (.int 1))) [oI n,oF (.tup [a,b])]=some (.val (.fz b),[oI n,oF (.tup [a,b])]):=AX (B1 (r1:=.val (.fz (.tup [a,b]))) rfl (r2:=.val (.fz (.int 1))) rfl) rfl (Rw _ _ _);refine⟨_,A2 (Z:=[oI n,oF (.tup [a,b])]) rfl ?_⟩;show BF [oI n,oF (.tup [a,b])]=_;unfold BF;refine(AY ((HH (Vw h)).trans rfl)).trans (Bl (K2 ?_));exact call_of (cons_of x1 (cons_of (r:=.val (.fz (.int n))) rfl (nil_of _))) rfl rfl hr rfl
def X7{n:Int}{a:D}(h:SM a true):NE n (.tup [a,.lst []]):=by
 have hr:=Kn .own .own [] n (by simp) (by simp) (by simp);have x1:opM ixA (m2L (Ad 1) (Ag (.int 1))) [oI n,oF (.tup [a,.lst []])]=some (.val (.fz (.lst [])),[oI n,oF (.tup [a,.lst []])]):=AX (B1 (r1:=.val (.fz (.tup [a,.lst []]))) rfl (r2:=.val (.fz (.int 1))) rfl) rfl (Rw _ _ _);refine⟨_,A2 (Z:=[oI n,oF (.tup [a,.lst []])]) rfl ?_⟩;show BF [oI n,oF (.tup [a,.lst []])]=_;unfold BF;refine(AY ((HH (Vw h)).trans rfl)).trans (Bl (K3 (Z1:=[oI n,oF (.tup [a,.lst []])]) ?_ ?_))
 .exact call_of (cons_of x1 (cons_of (r:=.val (.fz (.int n))) rfl (nil_of _))) rfl rfl hr rfl
 .exact AX (B1 (AX (cons_of x1 (nil_of _)) rfl (Iv [])) (r2:=.val (.fz (.int 0))) rfl) rfl rfl
def NT(n:Int)(e:D):Prop:=CV [(.own,.fz (.int n)),(.own,.fz e)]=some (.fz (.bl false),[.fz (.int n),.fz e])
def Wl{n:Int}{e:D}(h:Dc e=false):NT n e:=by
 have p:AJ (opM (CQ Dc) (m1L (Ad 1))) [oI n,oF e]=some (false,[oI n,oF e]):=B6 (AX (cons_of (r:=.val (.fz e)) rfl (nil_of _)) rfl (by simp only[CQ,on1,J.er,Option.map_some,h]));refine A2 (Z:=[oI n,oF e]) rfl ?_;show A6 [oI n,oF e]=_;unfold A6;exact DQ ((JO (Uo (not_of p))).trans (Bl rfl))
theorem Vv(n:Int)(ds:List D):AJ (opM (CQ Dc) (m1L (Ad 1))) [oI n,oF (.lst ds)]=some (true,[oI n,oF (.lst ds)]):=B6 (AX (cons_of (r:=.val (.fz (.lst ds))) rfl (nil_of _)) rfl rfl)
theorem Vu(n:Int)(ds:List D):opM BX (Ab (Ad 1) Ai) [oI n,oF (.lst ds)]=some (.val (.fz (.int (ds.length:Int))),[oI n,oF (.lst ds)]):=AX (cons_of (r:=.val (.fz (.lst ds))) rfl (nil_of _)) rfl (Iv ds)
theorem Vt(n:Int)(ds:List D):AJ (Gh leA leA (Ag (.int 1)) (opM BX (Ab (Ad 1) Ai)) (Ag (.int 6))) [oI n,oF (.lst ds)]=some (decide ((1:Int)<=(ds.length:Int))&&decide ((ds.length:Int)<=6),[oI n,oF (.lst ds)]):=
 N9 (x:=.fz (.int 1)) rfl (Vu n ds) (w:=.fz (.int 6)) rfl (by simp only[leA,on2,Bv,fzU,Dz,Option.bind_some,Option.map_some,Option.some_or]) (by simp only[leA,on2,Bv,fzU,Dz,Option.bind_some,Option.map_some,Option.some_or])
def Md{n:Int}{ds:List D}(h:ds.length=0\/6<ds.length):NT n (.lst ds):=by
 have c:=Vt n ds;have e:(decide ((1:Int)<=(ds.length:Int))&&decide ((ds.length:Int)<=6))=false:=by
  rw[Bool.eq_false_iff];intro z;rw[Bool.and_eq_true,decide_eq_true_iff,decide_eq_true_iff] at z;lia
 rw[e] at c;refine A2 (Z:=[oI n,oF (.lst ds)]) rfl ?_;show A6 [oI n,oF (.lst ds)]=_;unfold A6;refine DQ ((JO (Z1:=[oI n,oF (.lst ds)]) ?_).trans (Bl rfl));simp only[orT,not_of (Vv n ds),not_of c,Option.bind_some];rfl
def PZ{n:Int}{ds:List D}(l1:1<=ds.length)(l2:ds.length<=6):orT (BR (AJ (opM (CQ Dc) (m1L (Ad 1))))) (BR (AJ (Gh leA leA (Ag (.int 1)) (opM BX (Ab (Ad 1) Ai)) (Ag (.int 6))))) [oI n,oF (.lst ds)]=some (false,[oI n,oF (.lst ds)]):=by
 have c:=Vt n ds;have e:(decide ((1:Int)<=(ds.length:Int))&&decide ((ds.length:Int)<=6))=true:=by
  rw[Bool.and_eq_true,decide_eq_true_iff,decide_eq_true_iff]; lia
 rw[e] at c;exact J9 (not_of (Vv n ds)) (not_of c)
def Te{n:Int}{ds:List D}{g:D->Bool}(l2:ds.length<=6)(he:∀d∈ds,∃os,Bm [(.own,.fz (.int n)),(.own,.fz d)]=some (.fz (.bl (g d)),os)):Bh (Cr (Ad 1)) 0 CO (Ao Bm (Ab (Ad 1) (Ab (Ad 0) Ai))) [oI n,oF (.lst ds)]=some (.val (.lst ((ds.map fun d=>D.bl (g d)).map A.fz)),[oI n,oF (.lst ds)]):=by
 have hlim:1000<=LIM:=by decide
 have it:Cr (Ad 1) [oI n,oF (.lst ds)]=some (ds,none,[oI n,oF (.lst ds)]):=rfl;refine DZ (e:=(Ao Bm (Ab (Ad 1) (Ab (Ad 0) Ai)))) (f:=fun d=>.bl (g d)) it (by lia) fun d hd=>?_;obtain⟨os,e⟩:=he d hd;exact⟨.val (.fz (.bl (g d))),call_of (cons_of (r:=.val (.fz (.int n))) rfl (cons_of (r:=.val (.fz d)) rfl (nil_of _))) rfl rfl e (LG [.fz (.int n),.fz d] os _),rfl⟩
def Wk{n:Int}{ds:List D}{g:D->Bool}(l1:1<=ds.length)(l2:ds.length<=6)(he:∀d∈ds,∃os,Bm [(.own,.fz (.int n)),(.own,.fz d)]=some (.fz (.bl (g d)),os))(hx:∃d∈ds,g d=false):NT n (.lst ds):=by
 have al:=LC (Te l2 he) hx;refine A2 (Z:=[oI n,oF (.lst ds)]) rfl ?_;show A6 [oI n,oF (.lst ds)]=_;unfold A6;refine(AY ((HH (PZ l1 l2)).trans rfl)).trans ?_;exact DQ ((JO (not_of (B6 al))).trans (Bl rfl))
def Ph{n:Int}{ls:List (Nat×List Int)}(l2:ls.length<=6)(he:∀p∈ls,∃os,Bm [(.own,.fz (.int n)),(.own,.fz (ld p))]=some (.fz (.bl true),os)){k:Nat}(hk:k+1<ls.length)(h:¬(ls[k]'(by lia)).1<(ls[k+1]).1):NT n (.lst (ls.map ld)):=by
 have hlim:1000<=LIM:=by decide
 have cm:=Te (n:=n) (ds:=ls.map ld) (g:=fun _=>true) (by simpa using l2) (fun d hd=>by
  obtain⟨p,hp,rfl⟩:=List.mem_map.mp hd;exact he p hp)
 have al:opM El (Ab (Bh (Cr (Ad 1)) 0 CO (Ao Bm (Ab (Ad 1) (Ab (Ad 0) Ai)))) Ai) [oI n,oF (.lst (ls.map ld))]=some (.val (.fz (.bl true)),[oI n,oF (.lst (ls.map ld))]):=by
  have eb:=EA (ls.map ld) fun _=>true;have ea:((ls.map ld).map fun _=>true).all id=true:=by simp
  exact AX (cons_of cm (nil_of _)) rfl (by simp only[El,on1,CS,BO,eb,Option.bind_some,Option.map_some,ea])
 have l2':=AX (f:=HZ) (B1 (Vu n (ls.map ld)) (m2:=Ag (.int 1)) (r2:=.val (.fz (.int 1))) rfl) rfl rfl;rw[List.length_map] at l2';have rg:=NO l2' (by lia) (by lia);have cm2:=DZ (e:=(opM ltA (m2L (opM ixA (m2L (opM ixA (m2L (Ad 2) (Ad 0))) (Ag (.int 0)))) (opM ixA (m2L (opM ixA (m2L (Ad 2) (opM Bk (m2L (Ad 0) (Ag (.int 1)))))) (Ag (.int 0))))))) (f:=fun d=>.bl (decide ([((ls.map (·.1)).getD (nD d).toNat 0)] < [(ls.map (·.1)).getD ((nD d).toNat+1) 0]))) rg (by rw[GK]; lia) (fun d hd=>by
  obtain⟨i,hi⟩:=List.mem_iff_getElem?.mp hd;obtain⟨rfl,hi⟩:=F1 hi;have h1:i+1<ls.length:=by lia
  have h0:i<ls.length:=by lia
  have z0:(0:Int)+(i:Int)=(i:Int):=by lia
  rw[z0];have a1:=Cv (xs:=ls.map ld) (i:=(i:Int)) (k:=i) rfl (by simpa using h0);have a2:=Cv (xs:=ls.map ld) (i:=(i:Int)+1) (k:=i+1) (by lia) (by simpa using h1);rw[List.getElem_map] at a1 a2;have x1:opM ixA (m2L (Ad 2) (Ad 0)) (J.own (.int (i:Int))::[oI n,oF (.lst (ls.map ld))])=some (.val (.fz (ld ls[i])),J.own (.int (i:Int))::[oI n,oF (.lst (ls.map ld))]):=AX (B1 (r1:=.val (.fz (.lst (ls.map ld)))) rfl (r2:=.val (.fz (.int (i:Int)))) rfl) rfl (ixF a1);have x2:opM Bk (m2L (Ad 0) (Ag (.int 1))) (J.own (.int (i:Int))::[oI n,oF (.lst (ls.map ld))])=some (.val (.fz (.int ((i:Int)+1))),J.own (.int (i:Int))::[oI n,oF (.lst (ls.map ld))]):=AX (B1 (r1:=.val (.fz (.int (i:Int)))) rfl (r2:=.val (.fz (.int 1))) rfl) rfl rfl;have x3:=AX (f:=ixA) (B1 (m1:=Ad 2) (Z:=J.own (.int (i:Int))::[oI n,oF (.lst (ls.map ld))]) (r1:=.val (.fz (.lst (ls.map ld)))) rfl x2) rfl (ixF a2);have y1:=AX (f:=ixA) (B1 x1 (m2:=Ag (.int 0)) (r2:=.val (.fz (.int 0))) rfl) rfl (Qi (chD (ls[i]).1) [.lst (iL (ls[i]).2)]);have y3:=AX (f:=ixA) (B1 x3 (m2:=Ag (.int 0)) (r2:=.val (.fz (.int 0))) rfl) rfl (Qi (chD (ls[i+1]).1) [.lst (iL (ls[i+1]).2)]);refine⟨_,AX (B1 y1 y3) rfl (c:=.fz (.bl (decide ([(ls[i]).1] < [(ls[i+1]).1])))) (by simp only[ltA,on2,Bv,C2,FX,fzU,Dz,chD,Option.bind_some,Option.bind_none,Option.map_some,Option.none_or]),?_⟩;simp only[share,J.er,Option.map_some,nD,Int.toNat_natCast,List.getD_eq_getElem?_getD,List.getElem?_map,List.getElem?_eq_getElem h1,List.getElem?_eq_getElem h0,Option.getD_some])
 have al2:=LC (g:=fun d=>decide ([((ls.map (·.1)).getD (nD d).toNat 0)] < [(ls.map (·.1)).getD ((nD d).toNat+1) 0])) cm2 ⟨.int (0+(k:Int)),List.mem_map.mpr ⟨k,List.mem_range.mpr (by lia),rfl⟩,by
  have z0:(nD (.int (0+(k:Int)))).toNat=k:=by show((0:Int)+(k:Int)).toNat=k; lia
  rw[z0];simp only[List.getD_eq_getElem?_getD,List.getElem?_map,List.getElem?_eq_getElem hk,List.getElem?_eq_getElem (show k<ls.length by lia),Option.map_some,Option.getD_some];exact decide_eq_false fun z=>h ((L7 _ _).mp z)⟩
 refine A2 (Z:=[oI n,oF (.lst (ls.map ld))]) rfl ?_;show A6 [oI n,oF (.lst (ls.map ld))]=_;unfold A6;refine(AY ((HH (PZ (by simp only[List.length_map]; lia) (by simpa using l2))).trans rfl)).trans ?_;exact(AY ((HH (not_of (B6 al))).trans rfl)).trans (Bl al2)
def NHs(d:D):Prop:=Ct [(.own,.fz d)]=some (.fz (.bl false),[.fz d])
def Ma{d:D}(h:isP d=false):NHs d:=by
 have p:=Hr .own d;rw[h] at p;refine A2 (Z:=[oF d]) rfl ?_;show Ce [oF d]=_;unfold Ce;exact DQ ((JO (not_of (B6 (b:=false) (call_of (cons_of (r:=.val (.fz d)) rfl (nil_of _)) rfl rfl p rfl)))).trans (Bl rfl))
theorem P4(x e:D):ifS (BR (AJ (Ao Bq (Ab (Ad 0) Ai)))) (retS (Ag (.bl false))) Bc [oF (.tup [x,e])]=some (.next [oF (.tup [x,e])]):=(HH (not_of (B6 (b:=true) (call_of (cons_of (r:=.val (.fz (.tup [x,e]))) rfl (nil_of _)) rfl rfl (GR .own x e) rfl)))).trans rfl
theorem XA(x e:D):opM ixA (m2L (Ad 0) (Ag (.int 0))) [oF (.tup [x,e])]=some (.val (.fz x),[oF (.tup [x,e])]):=AX (B1 (r1:=.val (.fz (.tup [x,e]))) rfl (r2:=.val (.fz (.int 0))) rfl) rfl (Qi _ _)
def RU{x e:D}(h:Be [(.own,.fz x)]=some (.fz (.bl false),[.fz x])):NHs (.tup [x,e]):=by
 refine A2 (Z:=[oF (.tup [x,e])]) rfl ?_;show Ce [oF (.tup [x,e])]=_;unfold Ce;exact(AY (P4 x e)).trans (Bl (K2 (call_of (cons_of (XA x e) (nil_of _)) rfl rfl h rfl)))
def E2{n:Int}{e:D}(n1:2<=n)(n2:n<=4)(h:NT n e):NHs (.tup [.int n,e]):=by
 have c:=PC .own n n1 n2;have x1:opM ixA (m2L (Ad 0) (Ag (.int 1))) [oF (.tup [.int n,e])]=some (.val (.fz e),[oF (.tup [.int n,e])]):=AX (B1 (r1:=.val (.fz (.tup [.int n,e]))) rfl (r2:=.val (.fz (.int 1))) rfl) rfl (Rw _ _ _);refine A2 (Z:=[oF (.tup [.int n,e])]) rfl ?_;show Ce [oF (.tup [.int n,e])]=_;unfold Ce;refine(AY (P4 _ e)).trans (Bl (K3 (call_of (cons_of (XA _ e) (nil_of _)) rfl rfl c rfl) ?_));exact call_of (cons_of (XA _ e) (cons_of x1 (nil_of _))) rfl rfl h rfl
def Uc:List D:=[.non,.bl true,.int 0,.str (Str.ofString ""),.lst [],.tup [],.int (10 ^ 39),.int (-1),.str (Str.ofString "a"),.lst [.int 0],.tup [.int 0]]
def R0:∀o∈Uc,isP o=false:=by
 intro o ho;simp only[Uc,List.mem_cons,List.not_mem_nil,or_false] at ho;rcases ho with rfl|rfl|rfl|rfl|rfl|rfl|rfl|rfl|rfl|rfl|rfl<;>rfl
abbrev eNh(as:List A)(h:Hs)(o:D)(k:Int)(a:Nat)(p:Nat×List Int)(w:Int)(x10 x11:Slot):Ro:=[some (.lent,.lst as),oF h.d,oI h.n,oF (.lst (h.ls.map ld)),oF o,oI k,oI (a:Int),oF (chD p.1),oF (.lst (iL p.2)),oI w,x10,x11]
def EU{a b:A}{xs ys:List D}(ha:CS a=some xs)(hb:CS b=some ys)(hi:Bv a=none)(hs:C2 a=none)(hl:xs.length+ys.length<=1000):Bk [a,b]=some (.lst ((xs++ys).map A.fz)):=by
 have hlim:1000<=LIM:=by decide
 have hc:xs.length+ys.length<=LIM:=by lia
 simp only[Bk,on2,hi,hs,ha,hb,Option.bind_none,Option.none_or,Option.bind_some,if_pos hc]
def FZ{ds:List D}(hl:ds.length<=1000):MN [.fz (.lst ds)]=some (.fz (.tup ds)):=by
 have hlim:1000<=LIM:=by decide
 have hc:ds.length<=LIM:=by lia
 simp only[MN,on1,CS,Option.bind_some,if_pos hc]
def Oa(ds:List D)(k:Nat):cutD ds none (some (k:Int))=ds.take k:=by
 unfold cutD;rw[HT.Pz,HT.Kl,List.drop_zero,Nat.sub_zero];by_cases q:k<=ds.length
 .rw[Nat.min_eq_left q]
 .rw[Nat.min_eq_right (by lia),List.take_of_length_le (by lia),List.take_of_length_le (by lia)]
def Q5(ds:List D)(k:Nat):cutD ds (some (k:Int)) none=ds.drop k:=by
 unfold cutD;rw[HT.Pz,HT.Kl];by_cases q:k<=ds.length
 .rw[Nat.min_eq_left q,List.take_of_length_le (by rw[List.length_drop]; lia)]
 .rw[Nat.min_eq_right (by lia),Nat.sub_self,List.take_zero,List.drop_of_length_le (by lia)]
section
variable{as:List A}{h:Hs}{o:D}{k:Int}{a:Nat}{p:Nat×List Int}{w:Int}
theorem J5(ok:h.Ok):∀q∈h.ls,∃os,Bm [(.own,.fz (.int h.n)),(.own,.fz (ld q))]=some (.fz (.bl true),os):=fun q hq=>by
 obtain⟨h0,hr,hb⟩:=ok.hs q hq;exact⟨_,PD .own .own h.n q (ok.ch q hq) (by have:=ok.hl q hq; lia) h0 hr hb⟩
def OA(ok:h.Ok)(ha:a<h.ls.length){e:D}(he:NE h.n e):NT h.n (.lst ((h.ls.map ld).take a++[e]++(h.ls.map ld).drop (a+1))):=by
 classical
 have l1:=ok.l1;have l2:=ok.l2;have ll:((h.ls.map ld).take a++[e]++(h.ls.map ld).drop (a+1)).length=h.ls.length:=by simp; lia
 refine Wk (g:=fun d=>!decide (d=e)) (by rw[ll]; lia) (by rw[ll]; lia) (fun d hd=>?_) ⟨e,by simp,by simp⟩;by_cases q:d=e
 .subst q
  obtain⟨os,z⟩:=he;exact⟨os,by simpa using z⟩
 .have:d∈h.ls.map ld:=by
   simp only[List.append_assoc,List.mem_append,List.mem_singleton] at hd;rcases hd with z|z|z
   .exact List.mem_of_mem_take z
   .exact absurd z q
   .exact List.mem_of_mem_drop z
  obtain⟨r,hr,rfl⟩:=List.mem_map.mp this;obtain⟨os,z⟩:=J5 ok r hr;exact⟨os,by simpa[q] using z⟩
theorem Yw(ok:h.Ok){q:Nat×List Int}(hq:q∈h.ls):SM (chD q.1) true:=PF .own q.1 (ok.ch q hq)
def smL:List D:=[.str (Str.ofString ""),.str (Str.ofString "A"),.str (Str.ofString "ab"),.str (Str.ofString "-"),.str (Str.ofString "1"),.non,.int 5,.tup [.str (Str.ofString "a")]]
def Yx:∀x∈smL,SM x false:=by
 intro x hx;simp only[smL,List.mem_cons,List.not_mem_nil,or_false] at hx;rcases hx with rfl|rfl|rfl|rfl|rfl|rfl|rfl|rfl<;>rfl
def ctL:List D:=[.int 1,.int 5,.int 0,.int (-1),.bl true,.str (Str.ofString "2"),.non,.int (10 ^ 39)]
def XQ:∀x∈ctL,Be [(.own,.fz x)]=some (.fz (.bl false),[.fz x]):=by
 intro x hx;simp only[ctL,List.mem_cons,List.not_mem_nil,or_false] at hx;rcases hx with rfl|rfl|rfl|rfl|rfl|rfl|rfl|rfl<;>rfl
def VG(n:Int)(xs:List Int):List D:=[.lst [],.lst (iL (xs++xs)),.lst (iL (xs++[n])),.lst (iL (-1::xs)),.tup (iL xs),.lst [.bl true],.non,.str (Str.ofString "0")]
def VH(ok:h.Ok)(hp:p∈h.ls):∀b∈VG h.n p.2,NE h.n (.tup [chD p.1,b]):=by
 obtain⟨h0,hr,hb⟩:=ok.hs p hp;have hl:=ok.hl p hp;have n1:=ok.n1;have sm:=Yw ok hp;have pos:=List.length_pos_iff.mpr h0;intro b hb';simp only[VG,List.mem_cons,List.not_mem_nil,or_false] at hb';rcases hb' with rfl|rfl|rfl|rfl|rfl|rfl|rfl|rfl
 .exact X7 sm
 .refine FL sm (Pg (by simp; lia) (k:=p.2.length-1) (by simp; lia) ?_ (fun x hx=>hb x (by simpa using hx)))
  rw[List.getElem_append_left (by lia),List.getElem_append_right (by lia)];intro z;by_cases q:p.2.length=1
  .have e1:(p.2.length-1+1-p.2.length)=p.2.length-1:=by lia
   simp only[e1] at z;exact Int.lt_irrefl _ z
  .have:=List.pairwise_iff_getElem.mp hr (p.2.length-1+1-p.2.length) (p.2.length-1) (by lia) (by lia) (by lia)
   lia
 .exact FL sm (Mb (by simp; lia) ⟨h.n,by simp,by lia⟩)
 .exact FL sm (Mb (by simp; lia) ⟨-1,by simp,by lia⟩)
 .exact FL sm (Iy rfl)
 .exact FL sm Vf
 .exact FL sm (Iy rfl)
 .exact FL sm (Iy rfl)
def Wq(o:D)(p:Nat×List Int):List D:=[.lst [chD p.1,.lst (iL p.2)],.tup [chD p.1],.tup [chD p.1,.lst (iL p.2),o],chD p.1,.non,.int 3,.tup [],.tup [.lst (iL p.2),chD p.1]]
def Ud(n:Int):∀e∈Wq o p,NE n e:=by
 intro e he;simp only[Wq,List.mem_cons,List.not_mem_nil,or_false] at he;rcases he with rfl|rfl|rfl|rfl|rfl|rfl|rfl|rfl
 .exact FK rfl
 .exact FK rfl
 .exact FK rfl
 .exact FK rfl
 .exact FK rfl
 .exact FK rfl
 .exact FK rfl
 .exact Nu rfl
end
section
variable{as:List A}{h:Hs}{o:D}{a:Nat}{p:Nat×List Int}{w:Int}
theorem DX{xs ys:List D}(hl:xs.length+ys.length<=1000):Bk [.lst (xs.map A.fz),.lst (ys.map A.fz)]=some (.lst ((xs++ys).map A.fz)):=EU (by simp only[CS,BO]) (by simp only[CS,BO]) rfl rfl hl
theorem LM(ds:List D)(k:Nat):cutD ds (some ((k:Int)+1)) none=ds.drop (k+1):=Q5 ds (k+1)
end
def OM{N:Nat}{as:List A}{h:Hs}(ok:h.Ok)(hb:Bag N as)(hN:N<=1000):∃d as' a2,NHs d/\Bag (N+4) as'/\B4 [(.lent,.lst as),(.own,.fz h.d)]=some (.fz d,[.lst as',a2]):=by
 have l1:=ok.l1;have l2:=ok.l2
 suffices hh:FV B4 [(.lent,.lst as),(.own,.fz h.d)] fun x os=>∃d as' a2,NHs d/\Bag (N+4) as'/\x=.fz d/\os=[.lst as',a2] by
  obtain⟨x,os,e,d,as',a2,h1,h2,rfl,rfl⟩:=hh;exact⟨d,as',a2,h1,h2,e⟩
 obtain⟨o1,as1,g1,g2,b1,t1⟩:=Cq hb (by lia) 11 (by lia) (by lia);obtain⟨k0,as2,k1,k2,b2,t2⟩:=Cq b1 (by lia) 12 (by lia) (by lia);obtain⟨a0,as3,a1,a2,b3,t3⟩:=Cq b2 (by lia) ((h.ls.map ld).length:Int) (by rw[List.length_map]; lia) (by rw[List.length_map]; lia);rw[List.length_map] at a2;obtain⟨w,as4,w0,w1,b4,t4⟩:=Cq b3 (by lia) 8 (by lia) (by lia);obtain⟨a,rfl⟩:∃a:Nat,a0=(a:Int):=⟨a0.toNat,by lia⟩;obtain⟨k,rfl⟩:∃k:Nat,k0=(k:Int):=⟨k0.toNat,by lia⟩;have ha:a<h.ls.length:=by lia
 obtain⟨o,ho,e1⟩:=HL (L:=Uc) g1 g2;refine DS rfl rfl ?_;show SV DH [some (.lent,.lst as),oF h.d,none,none,none,none,none,none,none,none,none,none] _;unfold DH;walk_at "wp";refine B0 t1 ?_;walk_at "wp";refine⟨_,e1,?_⟩;refine⟨_,_,rfl,rfl,AE ?_⟩;show SV _ [some (.lent,.lst as1),oF h.d,oI h.n,oF (.lst (h.ls.map ld)),oF o,none,none,none,none,none,none,none] _;walk_at "wp";refine B0 t2 ?_;refine⟨_,_,rfl,rfl,AE ?_⟩;show SV _ [some (.lent,.lst as2),oF h.d,oI h.n,oF (.lst (h.ls.map ld)),oF o,oI (k:Int),none,none,none,none,none,none] _;walk_at "wp";refine B0 t3 ?_;refine⟨_,_,rfl,rfl,AE ?_⟩;show SV _ [some (.lent,.lst as3),oF h.d,oI h.n,oF (.lst (h.ls.map ld)),oF o,oI (k:Int),oI (a:Int),none,none,none,none,none] _;walk_at "wp";refine⟨_,ixF (by rw[Cv (k:=a) rfl (by simpa using ha),List.getElem_map]),?_⟩;refine⟨_,_,rfl,_,rfl,_,rfl,AE ?_⟩;show SV _ [some (.lent,.lst as3),oF h.d,oI h.n,oF (.lst (h.ls.map ld)),oF o,oI (k:Int),oI (a:Int),oF (chD (h.ls[a]).1),oF (.lst (iL (h.ls[a]).2)),none,none,none] _;walk_at "wp";refine B0 t4 ?_;refine⟨_,_,rfl,rfl,AE ?_⟩;show SV _ (eNh as4 h o (k:Int) a h.ls[a] w none none) _;obtain⟨p,hp⟩:∃p,h.ls[a]=p:=⟨_,rfl⟩;rw[hp];refine PR (QS:=fun f=>∃d x10 x11,NHs d/\f=.ret (.fz d) (eNh as4 h o (k:Int) a p w x10 x11)) ?_ fun f hf=>?_
 .have n1:=ok.n1
  have n2:=ok.n2;have hpm:p∈h.ls:=hp ▸ List.getElem_mem ha;have hpl:=ok.hl p hpm;have tl:MN [.fz (.lst (h.ls.map ld))]=some (.fz (.tup (h.ls.map ld))):=FZ (by simp; lia);clear t1 t2 t3 t4 e1 b1 b2 b3 g1 g2;have c1:=Oa (h.ls.map ld) a;have c2:=LM (h.ls.map ld) a
  match k,(show k<12 by lia) with
  | 0,_ =>
   walk_at "wp";exact⟨_,_,_,Ma (R0 o ho),rfl⟩
  | 1,_ =>
   walk_at "wp";exact⟨_,_,_,Ma rfl,rfl⟩
  | 2,_ =>
   walk_at "wp";exact⟨_,_,_,Ma rfl,rfl⟩
  | 3,_ =>
   obtain⟨d,hd,e⟩:=HL (L:=ctL) w0 w1;walk_at "wp";refine⟨_,e,?_⟩;walk_at "wp";exact⟨_,_,_,RU (XQ d hd),rfl⟩
  | 4,_ =>
   walk_at "wp";refine⟨_,tl,?_⟩;walk_at "wp";exact⟨_,_,_,E2 n1 n2 (Wl rfl),rfl⟩
  | 5,_ =>
   walk_at "wp";refine⟨_,tl,?_⟩;walk_at "wp";exact⟨_,_,_,E2 n1 n2 (Md (.inl rfl)),rfl⟩
  | 6,_ =>
   walk_at "wp";refine⟨_,ixF (by rw[Cv (k:=a) rfl (by simpa using ha),List.getElem_map,hp]),?_⟩;walk_at "wp";refine⟨_,(EU rfl rfl rfl rfl (by simp; lia):Bk [.fz (.lst (h.ls.map ld)),.lst [.fz (ld p)]]=some (.lst ((h.ls.map ld++[ld p]).map A.fz))),?_⟩;refine⟨_,_,AL _ _,?_⟩;walk_at "wp";refine⟨_,_,_,E2 n1 n2 ?_,rfl⟩;have ea:h.ls.map ld++[ld p]=(h.ls++[p]).map ld:=by rw[List.map_append]; rfl
   rw[ea];by_cases q5:h.ls.length=6
   .exact Md (.inr (by simp; lia))
   .refine Ph (k:=h.ls.length-1) (by simp; lia) (fun r hr=>J5 ok r (by rcases List.mem_append.mp hr with z|z; exact z; simp only[List.mem_singleton] at z; subst z; exact hpm)) (by simp; lia) ?_
    rw[List.getElem_append_left (by lia)];have e1:(h.ls++[p])[h.ls.length-1+1]'(by simp; lia)=p:=by
     rw[List.getElem_append_right (by lia)]; simp
    rw[e1];intro z;by_cases q6:a=h.ls.length-1
    .subst q6; rw[hp] at z; lia
    .have:=List.pairwise_iff_getElem.mp ok.ri a (h.ls.length-1) (by simp; lia) (by simp; lia) (by lia)
     simp only[List.getElem_map,hp] at this;lia
  | 7,_ =>
   obtain⟨d,hd,e⟩:=HL (L:=smL) w0 w1;walk_at "wp";refine⟨_,e,?_⟩;walk_at "wp";refine⟨_,DX (xs:=cutD (h.ls.map ld) none (some (a:Int))) (ys:=[_]) (by rw[c1]; simp; lia),?_⟩;walk_at "wp";refine⟨_,DX (ys:=cutD (h.ls.map ld) (some ((a:Int)+1)) none) (by rw[c1,c2]; simp; lia),?_⟩;refine⟨_,_,AL _ _,?_⟩;rw[c1,c2];walk_at "wp";exact⟨_,_,_,E2 n1 n2 (OA ok ha (Nu (b:=.lst (iL p.2)) (Yx d hd))),rfl⟩
  | 8,_ =>
   have il:∀xs ys:List Int,iL xs++iL ys=iL (xs++ys):=fun xs ys=>by simp[iL]
   obtain⟨d,hd,e⟩:=HL (L:=VG h.n p.2) w0 w1;walk_at "wp";refine⟨_,(EU rfl rfl rfl rfl (by rw[Bs]; lia):Bk [.fz (.lst (iL p.2)),.fz (.lst (iL p.2))]=some (.lst ((iL p.2++iL p.2).map A.fz))),?_⟩;rw[il];refine⟨_,_,AL _ _,?_⟩;walk_at "wp";refine⟨_,(EU rfl rfl rfl rfl (by rw[Bs]; simp; lia):Bk [.fz (.lst (iL p.2)),.lst [.fz (.int h.n)]]=some (.lst ((iL p.2++iL [h.n]).map A.fz))),?_⟩;rw[il];refine⟨_,_,AL _ _,?_⟩;walk_at "wp";refine⟨_,(EU rfl rfl rfl rfl (by rw[Bs]; simp; lia):Bk [.lst [.fz (.int (-1))],.fz (.lst (iL p.2))]=some (.lst ((iL [-1]++iL p.2).map A.fz))),?_⟩;rw[il];refine⟨_,_,AL _ _,?_⟩;walk_at "wp";refine⟨_,FZ (by rw[Bs]; lia),?_⟩;walk_at "wp";refine⟨_,e,?_⟩;walk_at "wp";refine⟨_,DX (xs:=cutD (h.ls.map ld) none (some (a:Int))) (ys:=[_]) (by rw[c1]; simp; lia),?_⟩;walk_at "wp";refine⟨_,DX (ys:=cutD (h.ls.map ld) (some ((a:Int)+1)) none) (by rw[c1,c2]; simp; lia),?_⟩;refine⟨_,_,AL _ _,?_⟩;rw[c1,c2];walk_at "wp";exact⟨_,_,_,E2 n1 n2 (OA ok ha (VH ok hpm d hd)),rfl⟩
  | 9,_ =>
   obtain⟨d,hd,e⟩:=HL (L:=Wq o p) w0 w1;walk_at "wp";refine⟨_,e,?_⟩;walk_at "wp";refine⟨_,DX (xs:=cutD (h.ls.map ld) none (some (a:Int))) (ys:=[_]) (by rw[c1]; simp; lia),?_⟩;walk_at "wp";refine⟨_,DX (ys:=cutD (h.ls.map ld) (some ((a:Int)+1)) none) (by rw[c1,c2]; simp; lia),?_⟩;refine⟨_,_,AL _ _,?_⟩;rw[c1,c2];walk_at "wp";exact⟨_,_,_,E2 n1 n2 (OA ok ha (Ud h.n d hd)),rfl⟩
  | 10,_ =>
   have hr:∀c:Bool,Pf [.lst ((h.ls.map ld).reverse.map A.fz),.fz (.int (if c then 1 else 0))]=some (.lst ((if c then (h.ls.map ld).reverse else []).map A.fz)):=fun c=>by
    have hc:0<=(if c then (1:Int) else 0)/\(if c then (1:Int) else 0)<=1000/\(h.ls.map ld).reverse.length<=1000:=⟨by split<;>lia,by split<;>lia,by simp; lia⟩;simp only[Pf,on2,Bv,fzU,Dz,CS,BO,Option.bind_some];rw[if_pos hc];cases c<;>simp
   walk_at "wp";refine⟨_,hr _,?_⟩;refine⟨_,_,AL _ _,?_⟩;walk_at "wp";refine⟨_,_,_,E2 n1 n2 ?_,rfl⟩;by_cases qb:1<h.ls.length
   .rw[if_pos (by simp; lia)]
    rw[<- List.map_reverse];refine Ph (k:=0) (by simpa using l2) (fun r hr=>J5 ok r (by simpa using hr)) (by simpa using qb) ?_;rw[List.getElem_reverse,List.getElem_reverse];intro z;have:=List.pairwise_iff_getElem.mp ok.ri (h.ls.length-1-(0+1)) (h.ls.length-1-0) (by simp; lia) (by simp; lia) (by lia);simp only[List.getElem_map] at this;lia
   .rw[if_neg (by simp; lia)]
    exact Md (.inl rfl)
  | 11,_ =>
   walk_at "wp";refine JC (fun d=>some (.tup [d,.lst [.int 0]])) ((IL (Str.ofString "abcdefg")).map fun d=>.tup [d,.lst [.int 0]]) (V1 ?_);walk_at "wp";refine⟨by decide,by rw[<- List.filterMap_eq_map]; rfl,fun d hd=>⟨[d],rfl,?_⟩,?_⟩
   .walk_at "wp"
    rfl
   refine⟨_,_,AL _ _,?_⟩;walk_at "wp";exact⟨_,_,_,E2 n1 n2 (Md (.inr dK)),rfl⟩
 .obtain⟨d,x10,x11,hd,rfl⟩:=hf
  walk_at "wp";exact⟨d,as4,_,hd,b4,rfl,rfl⟩
local macro_rules | `(tactic| walk_at "wp1")=>`(tactic| first
 | (with_reducible refine CC ?_)|(with_reducible refine AE ?_)|(with_reducible refine Hh ?_)|(with_reducible refine Fd ?_)|(with_reducible refine Ff ?_)|(with_reducible refine GI ?_)|(with_reducible refine GJ ?_)|(with_reducible refine FY ?_)|(with_reducible refine Hv ?_)|(with_reducible refine Hu ?_)|(with_reducible refine Ht ?_)|(with_reducible refine Fz ?_)|(with_reducible refine EK ?_)
 | (with_reducible refine EY ?_)|(with_reducible refine Fy ?_)|(with_reducible refine Ee ?_)|(with_reducible refine DK ?_)|(with_reducible refine G6 ?_)|(with_reducible refine JD ?_)|(with_reducible refine G8 ?_)|(with_reducible refine G7 ?_)|(with_reducible refine Gn ?_)|(with_reducible refine G9 ?_)
 | (with_reducible refine Ia ?_)|(with_reducible refine M4 ?_)|(with_reducible refine BU ?_)|(with_reducible refine DF ?_)
 | (with_reducible refine F0 ?_)|(with_reducible refine ER ?_)|(with_reducible refine EO ?_)|(with_reducible refine Ky ?_)|(with_reducible refine Hx ?_)
 | (with_reducible refine EF ?_)|(with_reducible refine FH ?_)|(with_reducible refine E8 ?_)|(with_reducible refine FU ?_)
 | ((with_reducible apply Dq); · rfl)
 | ((with_reducible refine Exists.intro _ (And.intro (D9 ?_) ?_)); · rfl)
 | ((with_reducible apply ex1); · rfl)|((with_reducible apply ex2); · rfl)|((with_reducible apply ex3); · rfl)|((with_reducible apply ex0); · rfl)|((with_reducible refine And.intro ?_ ?_); · rfl)|((with_reducible refine IS ?_ ?_); · rfl)|((with_reducible refine JQ ?_ ?_); · rfl))
local macro_rules | `(tactic| walk_at "wp")=>`(tactic| repeat walk_at "wp1")
structure Mc where
 mv:List (List Int)
 gd:List Int
def mvD(mv:List (List Int)):List D:=mv.map fun l=>.lst (iL l)
def Mc.d(m:Mc):D:=.tup [.lst (mvD m.mv),.lst (iL m.gd)]
structure Mc.Ok (h:Hs) (m:Mc):Prop where
 r1:1<=m.mv.length
 r2:m.mv.length<=30
 ln:∀l∈m.mv,l.length=h.ls.length/\∀x∈l,0<=x/\x<(m.mv.length:Int)
 rg:m.gd.Pairwise (· < ·)
 bg:∀x∈m.gd,0<=x/\x<(m.mv.length:Int)
abbrev eM(as:List A)(h:Hs)(q:Int)(x3 x4 x5 x6 x7 x8:Slot):Ro:=[some (.lent,.lst as),oF h.d,oI q,x3,x4,x5,x6,x7,x8]
def QK{N:Nat}{as:List A}{h:Hs}(ok:h.Ok)(hb:Bag N as)(hN:N<=1000){q:Int}(q1:1<=q)(q2:q<=30):∃(m:Mc) (as':List A) (a2 a3:A),m.Ok h/\Bag (N+300) as'/\B8 [(.lent,.lst as),(.own,.fz h.d),(.own,.fz (.int q))]=some (.fz m.d,[.lst as',a2,a3]):=by
 suffices hh:FV B8 [(.lent,.lst as),(.own,.fz h.d),(.own,.fz (.int q))] fun x os=>∃(m:Mc) (as':List A) (a2 a3:A),m.Ok h/\Bag (N+300) as'/\x=.fz m.d/\os=[.lst as',a2,a3] by
  obtain⟨x,os,e,m,as',a2,a3,h1,h2,rfl,rfl⟩:=hh;exact⟨m,as',a2,a3,h1,h2,e⟩
 have hL:1000<=LIM:=by decide
 have l1:=ok.l1;have l2:=ok.l2;obtain⟨d,as1,g1,g2,b1,t1⟩:=Cq hb (by lia) q (by lia) (by lia);obtain⟨n,hn⟩:∃n:Nat,1+d=(n:Int):=⟨(1+d).toNat,by lia⟩;have n1:1<=n:=by lia
 have n2:n<=30:=by lia
 refine DS rfl rfl ?_;show SV D0 (eM as h q none none none none none none) _;unfold D0;generalize hS:Ks=S;have sl:∀j:Int,0<=j->j<=30->S [.fz (.int 1),.fz (.int j)]=some (.fz (.int (1*2 ^ j.toNat))):=fun j j0 j1=>hS ▸ SR (by simp; lia);clear hS;generalize hR:MG=R;have sr:∀b j:Int,0<=j->R [.fz (.int b),.fz (.int j)]=some (.fz (.int (b / 2 ^ j.toNat))):=fun b j j0=>hR ▸ SS (decide_eq_true j0);clear hR;walk_at "wp";refine B0 t1 ?_;walk_at "wp";show SV _ (eM as1 h q (oI (1+d)) (oLs []) none none none none) _;rw[hn];clear t1;refine Kv (Io ?_);walk_at "wp";refine⟨⟨by lia,by lia⟩,fun j Z=>∃as' mv x5 x6 x7,Fr x5/\Fr x6/\Fr x7/\Bag (N+1+6*j) as'/\mv.length=j/\(∀l∈mv,l.length=h.ls.length/\∀x∈l,0<=x/\x<(n:Int))/\Z=eM as' h q (oI n) (oLs (mvD mv)) x5 x6 x7 none,⟨as1,[],none,none,none,rfl,rfl,rfl,b1,rfl,by simp,rfl⟩,fun j d Z hd hI=>?_,fun Z hI=>?_⟩
 .obtain⟨as,mv,x5,x6,x7,h5,h6,h7,hb,hl,hm,rfl⟩:=hI
  obtain⟨rfl,hj⟩:=F1 hd;have hj:j<n:=by simpa using hj
  refine⟨_,Ju h5,?_⟩;show SV _ (eM as h q (oI n) (oLs (mvD mv)) (oF (.int (0+(j:Int)))) x6 x7 none) _;walk_at "wp";refine⟨h6,AE ?_⟩;show SV _ (eM as h q (oI n) (oLs (mvD mv)) (oF (.int (0+(j:Int)))) (oLs []) x7 none) _;refine CC (Kv (Ol ?_));walk_at "wp";refine⟨fun i Z=>∃as' l x7,Fr x7/\Bag (N+1+6*j+i) as'/\l.length=i/\(∀x∈l,0<=x/\x<(n:Int))/\Z=eM as' h q (oI n) (oLs (mvD mv)) (oF (.int (0+(j:Int)))) (oLs (iL l)) x7 none,⟨as,[],x7,h7,hb,rfl,by simp,rfl⟩,fun i d Z hd hI=>?_,fun Z hI=>?_⟩
  .obtain⟨as',l,x7,h7,hb,hll,hx,rfl⟩:=hI
   have hi:i<h.ls.length:=by simpa using(List.getElem?_eq_some_iff.mp hd).1
   obtain⟨c,as2,c1,c2,b2,t2⟩:=Cq hb (by lia) (n:Int) (by lia) (by lia);refine⟨_,Ju h7,?_⟩;show SV _ (eM as' h q (oI n) (oLs (mvD mv)) (oF (.int (0+(j:Int)))) (oLs (iL l)) (oF d) none) _;refine MJ ⟨_,rfl⟩ ?_;walk_at "wp";refine B0 t2 ?_;refine⟨_,_,rfl,_,_,rfl,by rw[List.length_map,iL,List.length_map]; lia,Js ⟨as2,l++[c],oF d,rfl,b2,by simp[hll],fun x hx'=>?_,?_⟩⟩
   .rcases List.mem_append.mp hx' with z|z
    .exact hx x z
    .rw[List.mem_singleton.mp z]; exact⟨c1,c2⟩
   .show _=eM as2 h q (oI n) (oLs (mvD mv)) (oF (.int (0+(j:Int)))) (some (.own,.lst ((iL (l++[c])).map A.fz))) (oF d) none
    rw[show iL (l++[c])=iL l++[D.int c] by simp[iL],List.map_append];rfl
  obtain⟨as',l,x7,h7,hb,hll,hx,rfl⟩:=hI;rw[List.length_map] at hb hll;refine AE (MJ ⟨_,rfl⟩ ?_);walk_at "wp";refine⟨_,_,RI rfl,?_⟩;refine⟨_,_,rfl,by rw[List.length_map,mvD,List.length_map]; lia,Js ⟨as',mv++[l],oF (.int (0+(j:Int))),oF (.lst (iL l)),x7,rfl,rfl,h7,hb.mono (by lia),by simp[hl],fun y hy=>?_,?_⟩⟩
  .rcases List.mem_append.mp hy with z|z
   .exact hm y z
   .rw[List.mem_singleton.mp z]; exact⟨hll,hx⟩
  .show _=eM as' h q (oI n) (some (.own,.lst ((mvD (mv++[l])).map A.fz))) (oF (.int (0+(j:Int)))) (oF (.lst (iL l))) x7 none
   rw[show mvD (mv++[l])=mvD mv++[D.lst (iL l)] by simp[mvD],List.map_append];rfl
 obtain⟨as,mv,x5,x6,x7,h5,h6,h7,hb,hl,hm,rfl⟩:=hI;rw[GK] at hb hl;have hl:mv.length=n:=by simpa using hl
 have p0:(0:Int)<1*2 ^ (n:Int).toNat:=by
  rw[Int.one_mul]; exact Int.pow_pos (by decide)
 have p1:(1:Int)*2 ^ (n:Int).toNat<1099511627776:=by
  have h1:2 ^ n<=2 ^ 30:=Nat.pow_le_pow_right (by decide) n2;have h2:((2 ^ n:Nat):Int)=(2:Int) ^ n:=by simp
  have h3:(2:Nat) ^ 30=1073741824:=by decide
  rw[Int.one_mul,Int.toNat_natCast,<- h2];lia
 obtain⟨b,as2,c1,c2,b3,t2⟩:=Cq hb (by lia) (1*2 ^ (n:Int).toNat) p0 p1;refine AE ?_;walk_at "wp";refine⟨_,sl _ (by lia) (by lia),?_⟩;walk_at "wp";refine B0 t2 ?_;refine⟨_,_,rfl,rfl,AE ?_⟩;show SV _ (eM as2 h q (oI n) (oLs (mvD mv)) x5 x6 x7 (oI b)) _;walk_at "wp";refine⟨_,_,GS (ds:=mvD mv) rfl,?_⟩;walk_at "wp";refine JC (fun d=>match d with | .int i=>if GX b i.toNat then some (.int i) else none|_=>none) (iL (F2 n b)) (Io ?_);walk_at "wp";refine⟨⟨by lia,by lia⟩,by rw[GK]; lia,by rw[Int.toNat_natCast]; exact O3 _ _,fun d hd=>?_,?_⟩
 .obtain⟨i,hi⟩:=List.mem_iff_getElem?.mp hd
  obtain⟨rfl,hi⟩:=F1 hi;refine⟨[.int (0+(i:Int))],rfl,?_⟩;walk_at "wp";refine⟨_,sr _ _ (by lia),?_⟩;walk_at "wp";refine Rv (fun e=>?_) fun e=>?_
  .walk_at "wp"
   exact if_pos e
  .exact if_neg (by rw[show GX b (0+(i:Int)).toNat=false from e]; decide)
 walk_at "wp";refine⟨_,_,AL _ _,?_⟩;walk_at "wp";exact⟨⟨mv,F2 n b⟩,as2,_,_,⟨by rw[hl]; exact n1,by rw[hl]; exact n2,by rw[hl]; exact hm,Ld _ _,fun x hx=>by rw[hl]; exact O4 x hx⟩,b3.mono (by rw[Int.toNat_natCast]; lia),rfl,rfl⟩
def W6(h:Hs)(okh:h.Ok)(m:Mc)(ok:m.Ok h):FV Br [(.own,.fz m.d)] fun x _=>x=.fz m.d:=by
 have r2:=ok.r2;have l2:=okh.l2;refine DS rfl rfl ?_;show SV CL [oF m.d] _;unfold CL;walk_at "wp";refine C8 (mvD m.mv) (fun d=>d) ?_;walk_at "wp";refine⟨by rw[mvD,List.length_map]; lia,fun d hd=>?_,?_⟩
 .obtain⟨l,hl,rfl⟩:=List.mem_map.mp hd
  have:=ok.ln l hl;walk_at "wp";refine⟨_,Pe (by rw[iL,List.length_map]; lia),?_⟩;walk_at "wp";exact⟨_,AL _ _,rfl,rfl⟩
 rw[List.map_id'];refine⟨_,_,AL _ _,?_⟩;walk_at "wp";refine⟨_,Pe (by rw[iL,List.length_map]; have:=Fu ok.rg ok.bg; lia),?_⟩;refine⟨_,_,AL _ _,?_⟩;walk_at "wp";rfl
def YT(a b:D):ixA [.fz (.tup [a,b]),.fz (.int 0)]=some (.fz a):=by
 have e:=at0 a [b];simp only[ixA,on2,Bv,fzU,Dz,A0,C2,FX,e,Option.bind_some,Option.map_some,Option.none_or,Option.bind_none]
def V2(a b:D):ixA [.fz (.tup [a,b]),.fz (.int 1)]=some (.fz b):=by
 have e:=at1 a b [];simp only[ixA,on2,Bv,fzU,Dz,A0,C2,FX,e,Option.bind_some,Option.map_some,Option.none_or,Option.bind_none]
def HX(k r:Int)(l:List Int)(hl:l.length<=100)(hk:(l.length:Int)=k)(hb:∀x∈l,0<=x/\x<r):A1 [(.own,.fz (.int k)),(.own,.fz (.int r)),(.own,.fz (.lst (iL l)))]=some (.fz (.bl true),[.fz (.int k),.fz (.int r),.fz (.lst (iL l))]):=by
 have hlim:1000<=LIM:=by decide
 have e:=Ey .own .own l r (by lia);have ea:(l.all fun i=>decide (0<=i)&&decide (i<r))=true:=by
  rw[List.all_eq_true];intro x hx;have:=hb x hx;rw[Bool.and_eq_true,decide_eq_true_iff,decide_eq_true_iff]; exact this
 rw[ea] at e;refine A2 (Z:=[oI k,oI r,some (.own,.fz (.lst (iL l)))]) rfl ?_;show A9 [oI k,oI r,some (.own,.fz (.lst (iL l)))]=_;unfold A9;refine Bl (K3 (call_of (cons_of (r:=.val (.fz (.lst (iL l)))) rfl (cons_of (r:=.val (.fz (.int r))) rfl (nil_of _))) rfl rfl e rfl) ?_);have v1:opM BX (Ab (Ad 2) Ai) [oI k,oI r,some (.own,.fz (.lst (iL l)))]=some (.val (.fz (.int k)),[oI k,oI r,some (.own,.fz (.lst (iL l)))]):=AX (cons_of (r:=.val (.fz (.lst (iL l)))) rfl (nil_of _)) rfl (by rw[Iv,Bs,hk]);exact AX (B1 v1 (r2:=.val (.fz (.int k))) rfl) rfl (by simp only[eqA,on2,J.er,Option.bind_some,shB,if_true,GZ,beq_self_eq_true])
section
variable{h:Hs}{m:Mc}
def Gw(m:Mc):(mvD m.mv).length=m.mv.length:=by simp[mvD]
def IW(okh:h.Ok)(ok:m.Ok h):Cz [(.own,.fz (.int (h.ls.length:Int))),(.own,.fz (.lst (mvD m.mv)))]=some (.fz (.bl true),[.fz (.int (h.ls.length:Int)),.fz (.lst (mvD m.mv))]):=by
 have hlim:1000<=LIM:=by decide
 have r1:=ok.r1;have r2:=ok.r2;have l2:=okh.l2;have ml:=Gw m;have v1:opM BX (Ab (Ad 1) Ai) [oI (h.ls.length:Int),some (.own,.fz (.lst (mvD m.mv)))]=some (.val (.fz (.int (m.mv.length:Int))),[oI (h.ls.length:Int),some (.own,.fz (.lst (mvD m.mv)))]):=AX (cons_of (r:=.val (.fz (.lst (mvD m.mv)))) rfl (nil_of _)) rfl (by rw[Iv,ml]);have c1:AJ (Gh leA leA (Ag (.int 1)) (opM BX (Ab (Ad 1) Ai)) (Ag (.int 30))) [oI (h.ls.length:Int),some (.own,.fz (.lst (mvD m.mv)))]=some (true,[oI (h.ls.length:Int),some (.own,.fz (.lst (mvD m.mv)))]):=by
  have d1:decide ((1:Int)<=(m.mv.length:Int))=true:=decide_eq_true (by lia);have d2:decide ((m.mv.length:Int)<=30)=true:=decide_eq_true (by lia);exact N9 (k:=true) (l:=true) (x:=.fz (.int 1)) rfl v1 (w:=.fz (.int 30)) rfl (by simp only[leA,on2,Bv,fzU,Dz,Option.bind_some,Option.map_some,Option.some_or,d1]) (by simp only[leA,on2,Bv,fzU,Dz,Option.bind_some,Option.map_some,Option.some_or,d2])
 have t1:AJ (opM (CQ Dc) (m1L (Ad 1))) [oI (h.ls.length:Int),some (.own,.fz (.lst (mvD m.mv)))]=some (true,[oI (h.ls.length:Int),some (.own,.fz (.lst (mvD m.mv)))]):=B6 (AX (cons_of (r:=.val (.fz (.lst (mvD m.mv)))) rfl (nil_of _)) rfl rfl);have it:Cr (Ad 1) [oI (h.ls.length:Int),some (.own,.fz (.lst (mvD m.mv)))]=some (mvD m.mv,none,[oI (h.ls.length:Int),some (.own,.fz (.lst (mvD m.mv)))]):=rfl;have al:=all_true (e:=(Ao A1 (Ab (Ad 1) (Ab (opM BX (Ab (Ad 2) Ai)) (Ab (Ad 0) Ai))))) it (by lia) (fun d hd=>by
  obtain⟨l,hl,rfl⟩:=List.mem_map.mp hd;obtain⟨g1,g2⟩:=ok.ln l hl;have e:=HX (h.ls.length:Int) (m.mv.length:Int) l (by lia) (by lia) g2;have v2:opM BX (Ab (Ad 2) Ai) (J.own (.lst (iL l))::[oI (h.ls.length:Int),some (.own,.fz (.lst (mvD m.mv)))])=some (.val (.fz (.int (m.mv.length:Int))),J.own (.lst (iL l))::[oI (h.ls.length:Int),some (.own,.fz (.lst (mvD m.mv)))]):=AX (cons_of (r:=.val (.fz (.lst (mvD m.mv)))) rfl (nil_of _)) rfl (by rw[Iv,ml]);exact call_of (cons_of (r:=.val (.fz (.int (h.ls.length:Int)))) rfl (cons_of v2 (cons_of (r:=.val (.fz (.lst (iL l)))) rfl (nil_of _)))) rfl rfl e rfl)
 refine A2 (Z:=[oI (h.ls.length:Int),some (.own,.fz (.lst (mvD m.mv)))]) rfl ?_;show BE [oI (h.ls.length:Int),some (.own,.fz (.lst (mvD m.mv)))]=_;unfold BE;exact(AY ((HH (J9 (not_of t1) (not_of c1))).trans rfl)).trans (Bl al)
abbrev eI(h:Hs)(m:Mc):Ro:=[some (.own,.fz h.d),some (.own,.fz m.d)]
def MC(okh:h.Ok)(ok:m.Ok h):Ci [(.own,.fz h.d),(.own,.fz m.d)]=some (.fz (.bl true),[.fz h.d,.fz m.d]):=by
 have e1:=FT .own h okh;have e2:=GR .own (.lst (mvD m.mv)) (.lst (iL m.gd));have e3:=IW okh ok;have r2:=ok.r2;have gl:=Fu ok.rg ok.bg;have e4:=Kn .own .own m.gd (m.mv.length:Int) (by lia) ok.rg ok.bg;have w1:F9 (Ao BH (Ab (Ad 0) Ai)) (eI h m)=some (.next (eI h m)):=Rc (call_of (cons_of (r:=.val (.fz h.d)) rfl (nil_of _)) rfl rfl e1 rfl);have h1:opM ixA (m2L (Ad 0) (Ag (.int 1))) (eI h m)=some (.val (.fz (.lst (h.ls.map ld))),eI h m):=AX (B1 (r1:=.val (.fz h.d)) rfl (r2:=.val (.fz (.int 1))) rfl) rfl (V2 _ _);have l0:(opM BX (Ab (opM ixA (m2L (Ad 0) (Ag (.int 1)))) Ai)) (eI h m)=some (.val (.fz (.int (h.ls.length:Int))),eI h m):=AX (cons_of h1 (nil_of _)) rfl (by rw[Iv,List.length_map]);have m0:opM ixA (m2L (Ad 1) (Ag (.int 0))) (eI h m)=some (.val (.fz (.lst (mvD m.mv))),eI h m):=AX (B1 (r1:=.val (.fz m.d)) rfl (r2:=.val (.fz (.int 0))) rfl) rfl (YT _ _);have m1:opM ixA (m2L (Ad 1) (Ag (.int 1))) (eI h m)=some (.val (.fz (.lst (iL m.gd))),eI h m):=AX (B1 (r1:=.val (.fz m.d)) rfl (r2:=.val (.fz (.int 1))) rfl) rfl (V2 _ _);have l1:(opM BX (Ab (opM ixA (m2L (Ad 1) (Ag (.int 0)))) Ai)) (eI h m)=some (.val (.fz (.int (m.mv.length:Int))),eI h m):=AX (cons_of m0 (nil_of _)) rfl (by rw[Iv,Gw]);have p1:Ao Bq (Ab (Ad 1) Ai) (eI h m)=some (.val (.fz (.bl true)),eI h m):=call_of (cons_of (r:=.val (.fz m.d)) rfl (nil_of _)) rfl rfl e2 rfl;have p2:=call_of (cons_of l0 (cons_of m0 (nil_of _))) rfl rfl e3 rfl;refine A2 (Z:=eI h m) rfl ?_;show Bu (eI h m)=_;unfold Bu;refine(AY w1).trans ((AY ((HH (J9 (not_of (B6 p1)) (not_of (B6 p2)))).trans rfl)).trans (Bl ?_))
 exact call_of (cons_of m1 (cons_of l1 (nil_of _))) rfl rfl e4 rfl
def GH(okh:h.Ok)(ok:m.Ok h):B9 [(.own,.fz h.d),(.own,.fz m.d)]=some (.fz .non,[.fz h.d,.fz m.d]):=by
 have e1:=MC okh ok;refine TB (Z:=eI h m) rfl ?_;show D2 (eI h m)=_;unfold D2;exact(HH (not_of (B6 (b:=true) (call_of (cons_of (r:=.val (.fz h.d)) rfl (cons_of (r:=.val (.fz m.d)) rfl (nil_of _))) rfl rfl e1 rfl)))).trans rfl
end
def nbB(r:Int):D->Bool
 | .int i=>decide (0<=i)&&decide (i<r)
 | .non | .bl _ | .str _ | .lst _ | .tup _=>false
def SN(d:D)(r:Int):Bf [(.own,.fz d),(.own,.fz (.int r))]=some (.fz (.bl (nbB r d)),[.fz d,.fz (.int r)]):=by
 cases d with
 | int i=>exact HW .own .own i r
 | _=>rfl
def SK(ds:List D)(r:Int)(hl:ds.length<=1000):Ax [(.own,.fz (.lst ds)),(.own,.fz (.int r))]=some (.fz (.bl (ds.all (nbB r))),[.fz (.lst ds),.fz (.int r)]):=by
 have hlim:1000<=LIM:=by decide
 have it:Cr (Ad 0) [oF (.lst ds),oI r]=some (ds,none,[oF (.lst ds),oI r]):=rfl;have cm:=DZ (e:=Ao Bf (Ab (Ad 0) (Ab (Ad 2) Ai))) (f:=fun d=>.bl (nbB r d)) it (by lia) (fun d hd=>⟨.val (.fz (.bl (nbB r d))),call_of (cons_of (r:=.val (.fz d)) rfl (cons_of (r:=.val (.fz (.int r))) rfl (nil_of _))) rfl rfl (SN d r) rfl,rfl⟩);have eb:=EA ds (nbB r);have ea:(ds.map (nbB r)).all id=ds.all (nbB r):=by simp[List.all_map]
 have e1:BL [(.own,.fz (.lst ds)),(.own,.fz (.int r))]=some (.fz (.bl (ds.all (nbB r))),[.fz (.lst ds),.fz (.int r)]):=by
  refine A2 (Z:=[oF (.lst ds),oI r]) rfl ?_;show BA [oF (.lst ds),oI r]=_;unfold BA;exact Bl (AX (cons_of cm (nil_of _)) rfl (by simp only[El,on1,CS,BO,eb,Option.bind_some,Option.map_some,ea]))
 refine A2 (Z:=[oF (.lst ds),oI r]) rfl ?_;show AD [oF (.lst ds),oI r]=_;unfold AD;exact Bl (K3 (AX (cons_of (r:=.val (.fz (.lst ds))) rfl (nil_of _)) rfl rfl) (call_of (cons_of (r:=.val (.fz (.lst ds))) rfl (cons_of (r:=.val (.fz (.int r))) rfl (nil_of _))) rfl rfl e1 rfl))
def NL(k r:Int)(e:D):Prop:=∃os,A1 [(.own,.fz (.int k)),(.own,.fz (.int r)),(.own,.fz e)]=some (.fz (.bl false),os)
def Wi{k r:Int}{e:D}(h:Dc e=false):NL k r e:=by
 have e1:Ax [(.own,.fz e),(.own,.fz (.int r))]=some (.fz (.bl false),[.fz e,.fz (.int r)]):=by
  refine A2 (Z:=[oF e,oI r]) rfl ?_;show AD [oF e,oI r]=_;unfold AD;exact Bl (K2 (AX (cons_of (r:=.val (.fz e)) rfl (nil_of _)) rfl (by simp only[CQ,on1,J.er,Option.map_some,h])))
 refine⟨_,A2 (Z:=[oI k,oI r,oF e]) rfl ?_⟩;show A9 [oI k,oI r,oF e]=_;unfold A9;exact Bl (K2 (call_of (cons_of (r:=.val (.fz e)) rfl (cons_of (r:=.val (.fz (.int r))) rfl (nil_of _))) rfl rfl e1 rfl))
def Oz{k r:Int}{ds:List D}(hl:ds.length<=1000)(h:ds.all (nbB r)=true->(ds.length:Int)≠k):NL k r (.lst ds):=by
 have e1:=SK ds r hl;have c1:=call_of (cons_of (m:=Ad 2) (Z:=[oI k,oI r,oF (.lst ds)]) (r:=.val (.fz (.lst ds))) rfl (cons_of (m:=Ad 1) (r:=.val (.fz (.int r))) rfl (nil_of _))) rfl rfl e1 rfl;refine⟨_,A2 (Z:=[oI k,oI r,oF (.lst ds)]) rfl ?_⟩;show A9 [oI k,oI r,oF (.lst ds)]=_;unfold A9;refine Bl ?_;cases q:ds.all (nbB r) with
 | false=>rw[q] at c1; exact K2 c1
 | true =>
  rw[q] at c1;have v1:opM BX (Ab (Ad 2) Ai) [oI k,oI r,oF (.lst ds)]=some (.val (.fz (.int (ds.length:Int))),[oI k,oI r,oF (.lst ds)]):=AX (cons_of (r:=.val (.fz (.lst ds))) rfl (nil_of _)) rfl (Iv ds);have ne:((ds.length:Int)==k)=false:=beq_eq_false_iff_ne.mpr (h q);exact K3 c1 (AX (B1 v1 (r2:=.val (.fz (.int k))) rfl) rfl (by simp only[eqA,on2,J.er,Option.bind_some,shB,if_true,GZ,ne]))
def NV(k:Int)(x:D):Prop:=Cz [(.own,.fz (.int k)),(.own,.fz x)]=some (.fz (.bl false),[.fz (.int k),.fz x])
def Wn{k:Int}{x:D}(h:Dc x=false):NV k x:=by
 have p:AJ (opM (CQ Dc) (m1L (Ad 1))) [oI k,oF x]=some (false,[oI k,oF x]):=B6 (AX (cons_of (r:=.val (.fz x)) rfl (nil_of _)) rfl (by simp only[CQ,on1,J.er,Option.map_some,h]));refine A2 (Z:=[oI k,oF x]) rfl ?_;show BE [oI k,oF x]=_;unfold BE;exact DQ ((JO (Uo (not_of p))).trans (Bl rfl))
theorem Vy(k:Int)(ds:List D):AJ (opM (CQ Dc) (m1L (Ad 1))) [oI k,oF (.lst ds)]=some (true,[oI k,oF (.lst ds)]):=B6 (AX (cons_of (r:=.val (.fz (.lst ds))) rfl (nil_of _)) rfl rfl)
theorem Tg(k:Int)(ds:List D):opM BX (Ab (Ad 1) Ai) [oI k,oF (.lst ds)]=some (.val (.fz (.int (ds.length:Int))),[oI k,oF (.lst ds)]):=AX (cons_of (r:=.val (.fz (.lst ds))) rfl (nil_of _)) rfl (Iv ds)
theorem Vx(k:Int)(ds:List D):AJ (Gh leA leA (Ag (.int 1)) (opM BX (Ab (Ad 1) Ai)) (Ag (.int 30))) [oI k,oF (.lst ds)]=some (decide ((1:Int)<=(ds.length:Int))&&decide ((ds.length:Int)<=30),[oI k,oF (.lst ds)]):=
 N9 (x:=.fz (.int 1)) rfl (Tg k ds) (w:=.fz (.int 30)) rfl (by simp only[leA,on2,Bv,fzU,Dz,Option.bind_some,Option.map_some,Option.some_or]) (by simp only[leA,on2,Bv,fzU,Dz,Option.bind_some,Option.map_some,Option.some_or])
def RY{k:Int}{ds:List D}(h:ds.length=0\/30<ds.length):NV k (.lst ds):=by
 have c:=Vx k ds;have e:(decide ((1:Int)<=(ds.length:Int))&&decide ((ds.length:Int)<=30))=false:=by
  rw[Bool.eq_false_iff];intro z;rw[Bool.and_eq_true,decide_eq_true_iff,decide_eq_true_iff] at z;lia
 rw[e] at c;refine A2 (Z:=[oI k,oF (.lst ds)]) rfl ?_;show BE [oI k,oF (.lst ds)]=_;unfold BE;refine DQ ((JO (Z1:=[oI k,oF (.lst ds)]) ?_).trans (Bl rfl));simp only[orT,not_of (Vy k ds),not_of c,Option.bind_some];rfl
def Wm{k:Int}{ds:List D}{g:D->Bool}(l1:1<=ds.length)(l2:ds.length<=30)(he:∀d∈ds,∃os,A1 [(.own,.fz (.int k)),(.own,.fz (.int (ds.length:Int))),(.own,.fz d)]=some (.fz (.bl (g d)),os))(hx:∃d∈ds,g d=false):NV k (.lst ds):=by
 have hlim:1000<=LIM:=by decide
 have c:=Vx k ds;have e:(decide ((1:Int)<=(ds.length:Int))&&decide ((ds.length:Int)<=30))=true:=by
  rw[Bool.and_eq_true,decide_eq_true_iff,decide_eq_true_iff]; lia
 rw[e] at c;have it:Cr (Ad 1) [oI k,oF (.lst ds)]=some (ds,none,[oI k,oF (.lst ds)]):=rfl;have cm:=DZ (e:=(Ao A1 (Ab (Ad 1) (Ab (opM BX (Ab (Ad 2) Ai)) (Ab (Ad 0) Ai))))) (f:=fun d=>.bl (g d)) it (by lia) (fun d hd=>by
  obtain⟨os,z⟩:=he d hd;have v2:opM BX (Ab (Ad 2) Ai) (J.own d::[oI k,oF (.lst ds)])=some (.val (.fz (.int (ds.length:Int))),J.own d::[oI k,oF (.lst ds)]):=AX (cons_of (r:=.val (.fz (.lst ds))) rfl (nil_of _)) rfl (Iv ds);exact⟨.val (.fz (.bl (g d))),call_of (cons_of (r:=.val (.fz (.int k))) rfl (cons_of v2 (cons_of (r:=.val (.fz d)) rfl (nil_of _)))) rfl rfl z (LG [.fz (.int k),.fz (.int (ds.length:Int)),.fz d] os _),rfl⟩)
 refine A2 (Z:=[oI k,oF (.lst ds)]) rfl ?_;show BE [oI k,oF (.lst ds)]=_;unfold BE;exact(AY ((HH (J9 (not_of (Vy k ds)) (not_of c))).trans rfl)).trans (Bl (LC cm hx))
def NM(h:Hs)(d:D):Prop:=Ci [(.own,.fz h.d),(.own,.fz d)]=some (.fz (.bl false),[.fz h.d,.fz d])
section
variable{h:Hs}
theorem XB(okh:h.Ok)(d:D):F9 (Ao BH (Ab (Ad 0) Ai)) [oF h.d,oF d]=some (.next [oF h.d,oF d]):=Rc (call_of (cons_of (r:=.val (.fz h.d)) rfl (nil_of _)) rfl rfl (FT .own h okh) rfl)
theorem OZ(d:D):AJ (Ao Bq (Ab (Ad 1) Ai)) [oF h.d,oF d]=some (isP d,[oF h.d,oF d]):=B6 (call_of (cons_of (r:=.val (.fz d)) rfl (nil_of _)) rfl rfl (Hr .own d) rfl)
def Jn(okh:h.Ok){d:D}(hd:isP d=false):NM h d:=by
 have p:=OZ (h:=h) d;rw[hd] at p;refine A2 (Z:=[oF h.d,oF d]) rfl ?_;show Bu [oF h.d,oF d]=_;unfold Bu;exact(AY (XB okh d)).trans (DQ ((JO (Uo (not_of p))).trans (Bl rfl)))
def P6{x g:D}{b:Bool}{os:List A}(hv:Cz [(.own,.fz (.int (h.ls.length:Int))),(.own,.fz x)]=some (.fz (.bl b),os)):AJ (Ao Cz (Ab (opM BX (Ab (opM ixA (m2L (Ad 0) (Ag (.int 1)))) Ai)) (Ab (opM ixA (m2L (Ad 1) (Ag (.int 0)))) Ai))) [oF h.d,oF (.tup [x,g])]=some (b,[oF h.d,oF (.tup [x,g])]):=by
 have h1:opM ixA (m2L (Ad 0) (Ag (.int 1))) [oF h.d,oF (.tup [x,g])]=some (.val (.fz (.lst (h.ls.map ld))),[oF h.d,oF (.tup [x,g])]):=AX (B1 (r1:=.val (.fz h.d)) rfl (r2:=.val (.fz (.int 1))) rfl) rfl (Rw _ _ _);have l0:(opM BX (Ab (opM ixA (m2L (Ad 0) (Ag (.int 1)))) Ai)) [oF h.d,oF (.tup [x,g])]=some (.val (.fz (.int (h.ls.length:Int))),[oF h.d,oF (.tup [x,g])]):=AX (cons_of h1 (nil_of _)) rfl (by rw[Iv,List.length_map]);have m0:opM ixA (m2L (Ad 1) (Ag (.int 0))) [oF h.d,oF (.tup [x,g])]=some (.val (.fz x),[oF h.d,oF (.tup [x,g])]):=AX (B1 (r1:=.val (.fz (.tup [x,g]))) rfl (r2:=.val (.fz (.int 0))) rfl) rfl (Qi _ _);exact B6 (call_of (cons_of l0 (cons_of m0 (nil_of _))) rfl rfl hv (LG [.fz (.int (h.ls.length:Int)),.fz x] os _))
def Gx(okh:h.Ok){x g:D}(hv:NV (h.ls.length:Int) x):NM h (.tup [x,g]):=by
 have p:=OZ (h:=h) (.tup [x,g]);have v:=P6 (g:=g) hv;refine A2 (Z:=[oF h.d,oF (.tup [x,g])]) rfl ?_;show Bu [oF h.d,oF (.tup [x,g])]=_;unfold Bu;refine(AY (XB okh _)).trans (DQ ((JO (Z1:=[oF h.d,oF (.tup [x,g])]) ?_).trans (Bl rfl)));simp only[orT,not_of p,not_of v,Option.bind_some];rfl
def Ua(okh:h.Ok){m:Mc}(om:m.Ok h){g:D}(hg:NRi (m.mv.length:Int) g):NM h (.tup [.lst (mvD m.mv),g]):=by
 have p:=OZ (h:=h) (.tup [.lst (mvD m.mv),g]);have v:=P6 (g:=g) (IW okh om);have m0:opM ixA (m2L (Ad 1) (Ag (.int 0))) [oF h.d,oF (.tup [.lst (mvD m.mv),g])]=some (.val (.fz (.lst (mvD m.mv))),[oF h.d,oF (.tup [.lst (mvD m.mv),g])]):=AX (B1 (r1:=.val (.fz (.tup [.lst (mvD m.mv),g]))) rfl (r2:=.val (.fz (.int 0))) rfl) rfl (Qi _ _);have m1:opM ixA (m2L (Ad 1) (Ag (.int 1))) [oF h.d,oF (.tup [.lst (mvD m.mv),g])]=some (.val (.fz g),[oF h.d,oF (.tup [.lst (mvD m.mv),g])]):=AX (B1 (r1:=.val (.fz (.tup [.lst (mvD m.mv),g]))) rfl (r2:=.val (.fz (.int 1))) rfl) rfl (Rw _ _ _);have l1:(opM BX (Ab (opM ixA (m2L (Ad 1) (Ag (.int 0)))) Ai)) [oF h.d,oF (.tup [.lst (mvD m.mv),g])]=some (.val (.fz (.int (m.mv.length:Int))),[oF h.d,oF (.tup [.lst (mvD m.mv),g])]):=AX (cons_of m0 (nil_of _)) rfl (by rw[Iv,Gw]);refine A2 (Z:=[oF h.d,oF (.tup [.lst (mvD m.mv),g])]) rfl ?_;show Bu [oF h.d,oF (.tup [.lst (mvD m.mv),g])]=_;unfold Bu;refine(AY (XB okh _)).trans ((AY ((HH (J9 (not_of p) (not_of v))).trans rfl)).trans (Bl ?_));exact call_of (cons_of m1 (cons_of l1 (nil_of _))) rfl rfl hg rfl
end
section
variable{h:Hs}{m:Mc}{a:Nat}
def RZ(okh:h.Ok)(om:m.Ok h)(ha:a<m.mv.length){e:D}(he:NL (h.ls.length:Int) (m.mv.length:Int) e):NV (h.ls.length:Int) (.lst ((mvD m.mv).take a++[e]++(mvD m.mv).drop (a+1))):=by
 classical
 have r1:=om.r1;have r2:=om.r2;have l2:=okh.l2;have ll:((mvD m.mv).take a++[e]++(mvD m.mv).drop (a+1)).length=m.mv.length:=by simp[mvD]; lia
 refine Wm (g:=fun d=>!decide (d=e)) (by rw[ll]; lia) (by rw[ll]; lia) (fun d hd=>?_) ⟨e,by simp,by simp⟩;rw[ll];by_cases q:d=e
 .subst q
  obtain⟨os,z⟩:=he;exact⟨os,by simpa using z⟩
 .have:d∈mvD m.mv:=by
   simp only[List.append_assoc,List.mem_append,List.mem_singleton] at hd;rcases hd with z|z|z
   .exact List.mem_of_mem_take z
   .exact absurd z q
   .exact List.mem_of_mem_drop z
  obtain⟨l,hl,rfl⟩:=List.mem_map.mp this;obtain⟨g1,g2⟩:=om.ln l hl;have z:=HX (h.ls.length:Int) (m.mv.length:Int) l (by lia) (by lia) g2;exact⟨_,by simpa[q] using z⟩
def gdM(r:Int)(xs:List Int):List D:=[.tup (iL xs),.lst (iL (xs++[r])),.lst (iL (-1::xs)),.lst (iL [0,0]),.lst [.bl true],.non,.str (Str.ofString "0")]
def XY(om:m.Ok h):∀g∈gdM (m.mv.length:Int) m.gd,NRi (m.mv.length:Int) g:=by
 have r1:=om.r1;have r2:=om.r2;have gl:=Fu om.rg om.bg;intro g hg;simp only[gdM,List.mem_cons,List.not_mem_nil,or_false] at hg;rcases hg with rfl|rfl|rfl|rfl|rfl|rfl|rfl
 .exact Iy rfl
 .exact Mb (by simp; lia) ⟨(m.mv.length:Int),by simp,by lia⟩
 .exact Mb (by simp; lia) ⟨-1,by simp,by lia⟩
 .exact Pg (by simp) (k:=0) (by simp) (by simp) (fun x hx=>by simp at hx; lia)
 .exact Vf
 .exact Iy rfl
 .exact Iy rfl
def spL(r:Int):List D:=[.int r,.int (-1),.bl true,.non,.str (Str.ofString "0"),.int (10 ^ 39),.lst [.int 0]]
def Yy{r:Int}(h1:r<=30):∀x∈spL r,nbB r x=false:=by
 intro x hx;simp only[spL,List.mem_cons,List.not_mem_nil,or_false] at hx;rcases hx with rfl|rfl|rfl|rfl|rfl|rfl|rfl
 .simp[nbB]
 .simp[nbB]
 .rfl
 .rfl
 .rfl
 .have:¬((10:Int) ^ 39<r):=by lia
  simp only[nbB,decide_eq_false this,Bool.and_false]
 .rfl
def lnL(l:List Int):List D:=[.lst (iL (l++[0])),.lst ((iL l).take (l.length-1)),.tup (iL l)]
def X6{r:Int}{l:List Int}{n:Nat}(hl:l.length=n)(h1:1<=n)(h2:n<=6):∀e∈lnL l,NL (n:Int) r e:=by
 intro e he;simp only[lnL,List.mem_cons,List.not_mem_nil,or_false] at he;rcases he with rfl|rfl|rfl
 .exact Oz (by rw[Bs]; simp; lia) fun _=>by rw[Bs]; simp; lia
 .exact Oz (by rw[List.length_take,Bs]; lia) fun _=>by rw[List.length_take,Bs]; lia
 .exact Wi rfl
def O6(ds:List D)(h1:1<=ds.length):cutD ds none (some (-1))=ds.take (ds.length-1):=by
 unfold cutD;have e:HT.sIx ds.length ds.length (some (-1))=ds.length-1:=by
  show(if (-1:Int)<0 then ((-1:Int)+(ds.length:Int)).toNat else min (-1:Int).toNat ds.length)=_;rw[if_pos (by decide)]; lia
 rw[e,HT.Kl,List.drop_zero,Nat.sub_zero]
end
abbrev eP(as:List A)(m:Mc)(o:D)(k:Int)(a s:Nat)(w:Int)(x9:Slot):Ro:=[some (.lent,.lst as),oF m.d,oF (.lst (mvD m.mv)),oF (.lst (iL m.gd)),oF o,oI k,oI (a:Int),oI (s:Int),oI w,x9]
def MD{N:Nat}{as:List A}{h:Hs}(okh:h.Ok){m:Mc}(om:m.Ok h)(hb:Bag N as)(hN:N<=1000):∃d as' a2,NM h d/\Bag (N+5) as'/\BD [(.lent,.lst as),(.own,.fz m.d)]=some (.fz d,[.lst as',a2]):=by
 have r1:=om.r1;have r2:=om.r2;have l1:=okh.l1;have l2:=okh.l2;have ml:=Gw m
 suffices hh:FV BD [(.lent,.lst as),(.own,.fz m.d)] fun x os=>∃d as' a2,NM h d/\Bag (N+5) as'/\x=.fz d/\os=[.lst as',a2] by
  obtain⟨x,os,e,d,as',a2,h1,h2,rfl,rfl⟩:=hh;exact⟨d,as',a2,h1,h2,e⟩
 obtain⟨o1,as1,g1,g2,b1,t1⟩:=Cq hb (by lia) 11 (by lia) (by lia);obtain⟨k0,as2,k1,k2,b2,t2⟩:=Cq b1 (by lia) 10 (by lia) (by lia);obtain⟨a0,as3,a1,a2,b3,t3⟩:=Cq b2 (by lia) ((mvD m.mv).length:Int) (by lia) (by lia);obtain⟨a,rfl⟩:∃a:Nat,a0=(a:Int):=⟨a0.toNat,by lia⟩;obtain⟨k,rfl⟩:∃k:Nat,k0=(k:Int):=⟨k0.toNat,by lia⟩;have ha:a<m.mv.length:=by lia
 obtain⟨l,hl⟩:∃l,m.mv[a]=l:=⟨_,rfl⟩;obtain⟨ll,lb⟩:=om.ln l (hl ▸ List.getElem_mem ha);have il0:=Bs l;obtain⟨s0,as4,s1,s2,b4,t4⟩:=Cq b3 (by lia) ((iL l).length:Int) (by lia) (by lia);obtain⟨s,rfl⟩:∃s:Nat,s0=(s:Int):=⟨s0.toNat,by lia⟩;obtain⟨w,as5,w0,w1,b5,t5⟩:=Cq b4 (by lia) 7 (by lia) (by lia);obtain⟨o,ho,e1⟩:=HL (L:=Uc) g1 g2;have ixa:ixA [.fz (.lst (mvD m.mv)),.fz (.int (a:Int))]=some (.fz (.lst (iL l))):=ixF (by rw[Cv (k:=a) rfl (by simpa[mvD] using ha)]; simp[mvD,hl]);refine DS rfl rfl ?_;show SV Dk [some (.lent,.lst as),oF m.d,none,none,none,none,none,none,none,none] _;unfold Dk;walk_at "wp";refine B0 t1 ?_;walk_at "wp";refine⟨_,e1,?_⟩;refine⟨_,_,rfl,rfl,AE ?_⟩;show SV _ [some (.lent,.lst as1),oF m.d,oF (.lst (mvD m.mv)),oF (.lst (iL m.gd)),oF o,none,none,none,none,none] _;walk_at "wp";refine B0 t2 ?_;refine⟨_,_,rfl,rfl,AE ?_⟩;show SV _ [some (.lent,.lst as2),oF m.d,oF (.lst (mvD m.mv)),oF (.lst (iL m.gd)),oF o,oI (k:Int),none,none,none,none] _;walk_at "wp";refine B0 t3 ?_;refine⟨_,_,rfl,rfl,AE ?_⟩;show SV _ [some (.lent,.lst as3),oF m.d,oF (.lst (mvD m.mv)),oF (.lst (iL m.gd)),oF o,oI (k:Int),oI (a:Int),none,none,none] _;walk_at "wp";refine⟨_,ixa,?_⟩;walk_at "wp";refine B0 t4 ?_;refine⟨_,_,rfl,rfl,AE ?_⟩;show SV _ [some (.lent,.lst as4),oF m.d,oF (.lst (mvD m.mv)),oF (.lst (iL m.gd)),oF o,oI (k:Int),oI (a:Int),oI (s:Int),none,none] _;walk_at "wp";refine B0 t5 ?_;refine⟨_,_,rfl,rfl,AE ?_⟩;show SV _ (eP as5 m o (k:Int) a s w none) _;walk_at "wp";refine⟨_,ixa,?_⟩
 refine⟨_,_,rfl,rfl,AE ?_⟩;show SV _ (eP as5 m o (k:Int) a s w (oF (.lst (iL l)))) _;refine PR (QS:=fun f=>∃d x9,NM h d/\f=.ret (.fz d) (eP as5 m o (k:Int) a s w x9)) ?_ fun f hf=>?_
 .clear t1 t2 t3 t4 t5 e1 b1 b2 b3 b4 b5 g1 g2 hb
  have gl:=Fu om.rg om.bg;have gi:=Bs m.gd;have c1:=Oa (mvD m.mv) a;have c2:=LM (mvD m.mv) a;have il:∀xs ys:List Int,iL xs++iL ys=iL (xs++ys):=fun xs ys=>by simp[iL]
  match k,(show k<10 by lia) with
  | 0,_ =>
   walk_at "wp";exact⟨_,_,Jn okh (R0 o ho),rfl⟩
  | 1,_ =>
   walk_at "wp";exact⟨_,_,Jn okh rfl,rfl⟩
  | 2,_ =>
   walk_at "wp";exact⟨_,_,Jn okh rfl,rfl⟩
  | 3,_ =>
   walk_at "wp";refine⟨_,FZ (ds:=mvD m.mv) (by lia),?_⟩;walk_at "wp";refine LP 31 (fun _=>.lst ((iL l).map fun _=>D.int 0)) ?_;walk_at "wp";refine⟨by lia,fun q hq=>?_,?_⟩
   .refine C8 (iL l) (fun _=>D.int 0) ?_
    walk_at "wp";refine⟨by lia,fun d hd=>?_,?_⟩
    .walk_at "wp"
     rfl
    refine⟨_,AL _ _,?_⟩;walk_at "wp";rfl
   refine⟨_,_,AL _ _,?_⟩;walk_at "wp";exact⟨_,_,Gx okh (Wn rfl),rfl⟩
  | 4,_ =>
   walk_at "wp";refine⟨_,FZ (ds:=mvD m.mv) (by lia),?_⟩;walk_at "wp";refine LP 31 (fun _=>.lst ((iL l).map fun _=>D.int 0)) ?_;walk_at "wp";refine⟨by lia,fun q hq=>?_,?_⟩
   .refine C8 (iL l) (fun _=>D.int 0) ?_
    walk_at "wp";refine⟨by lia,fun d hd=>?_,?_⟩
    .walk_at "wp"
     rfl
    refine⟨_,AL _ _,?_⟩;walk_at "wp";rfl
   refine⟨_,_,AL _ _,?_⟩;walk_at "wp";exact⟨_,_,Gx okh (RY (.inl rfl)),rfl⟩
  | 5,_ =>
   walk_at "wp";refine⟨_,FZ (ds:=mvD m.mv) (by lia),?_⟩;walk_at "wp";refine LP 31 (fun _=>.lst ((iL l).map fun _=>D.int 0)) ?_;walk_at "wp";refine⟨by lia,fun q hq=>?_,?_⟩
   .refine C8 (iL l) (fun _=>D.int 0) ?_
    walk_at "wp";refine⟨by lia,fun d hd=>?_,?_⟩
    .walk_at "wp"
     rfl
    refine⟨_,AL _ _,?_⟩;walk_at "wp";rfl
   refine⟨_,_,AL _ _,?_⟩;walk_at "wp";exact⟨_,_,Gx okh (RY (.inr (by rw[List.length_map,List.length_range]; decide))),rfl⟩
  | 8,_ =>
   obtain⟨d,hd,e⟩:=HL (L:=gdM (m.mv.length:Int) m.gd) w0 w1;walk_at "wp";refine⟨_,FZ (by lia),?_⟩;walk_at "wp";rw[ml];refine⟨_,(EU rfl rfl rfl rfl (by rw[gi]; simp; lia):Bk [.fz (.lst (iL m.gd)),.lst [.fz (.int (m.mv.length:Int))]]=some (.lst ((iL m.gd++iL [(m.mv.length:Int)]).map A.fz))),?_⟩;rw[il];refine⟨_,_,AL _ _,?_⟩;walk_at "wp";refine⟨_,(EU rfl rfl rfl rfl (by rw[gi]; simp; lia):Bk [.lst [.fz (.int (-1))],.fz (.lst (iL m.gd))]=some (.lst ((iL [-1]++iL m.gd).map A.fz))),?_⟩;rw[il];refine⟨_,_,AL _ _,?_⟩;walk_at "wp";refine⟨_,e,?_⟩;walk_at "wp";exact⟨_,_,Ua okh om (XY om d hd),rfl⟩
  | 9,_ =>
   walk_at "wp";exact⟨_,_,Jn okh rfl,rfl⟩
  | 6,_ =>
   obtain⟨d,hd,e⟩:=HL (L:=lnL l) (w:=w % 3) (by lia) (by simp[lnL]; lia);have z:=O6 (iL l) (by lia);rw[il0] at z;walk_at "wp";refine⟨_,(EU rfl rfl rfl rfl (by rw[il0]; simp; lia):Bk [.fz (.lst (iL l)),.lst [.fz (.int 0)]]=some (.lst ((iL l++iL [0]).map A.fz))),?_⟩;rw[il];refine⟨_,_,AL _ _,?_⟩;walk_at "wp";refine⟨_,_,AL _ _,?_⟩;rw[z];walk_at "wp";refine⟨_,FZ (by lia),?_⟩;walk_at "wp";refine⟨_,e,?_⟩;refine⟨_,_,rfl,rfl,AE ?_⟩;show SV _ (eP as5 m o (6:Int) a s w (oF d)) _;walk_at "wp";refine⟨_,DX (xs:=cutD (mvD m.mv) none (some (a:Int))) (ys:=[_]) (by rw[c1]; simp; lia),?_⟩;walk_at "wp";refine⟨_,DX (ys:=cutD (mvD m.mv) (some ((a:Int)+1)) none) (by rw[c1,c2]; simp; lia),?_⟩;refine⟨_,_,AL _ _,?_⟩;rw[c1,c2];walk_at "wp";exact⟨_,_,Gx okh (RZ okh om ha (X6 ll l1 l2 d hd)),rfl⟩
  | 7,_ =>
   obtain⟨d,hd,e⟩:=HL (L:=spL (m.mv.length:Int)) w0 w1;have c3:=Oa (iL l) s;have c4:=LM (iL l) s;walk_at "wp";rw[ml];refine⟨_,e,?_⟩;walk_at "wp";refine⟨_,DX (xs:=cutD (iL l) none (some (s:Int))) (ys:=[_]) (by rw[c3]; simp; lia),?_⟩;walk_at "wp";refine⟨_,DX (ys:=cutD (iL l) (some ((s:Int)+1)) none) (by rw[c3,c4]; simp; lia),?_⟩;rw[c3,c4];refine⟨_,_,rfl,rfl,AE ?_⟩;show SV _ (eP as5 m o (7:Int) a s w (some (.own,.lst (((iL l).take s++[d]++(iL l).drop (s+1)).map A.fz)))) _;have nl:NL (h.ls.length:Int) (m.mv.length:Int) (.lst ((iL l).take s++[d]++(iL l).drop (s+1))):=Oz (by simp; lia) fun q=>by
    exfalso;have z:=List.all_eq_true.mp q d (by simp);rw[Yy (by lia) d hd] at z;cases z
   generalize (iL l).take s++[d]++(iL l).drop (s+1)=e7 at nl;walk_at "wp";refine⟨_,_,GS rfl,?_⟩;walk_at "wp";refine⟨_,DX (xs:=cutD (mvD m.mv) none (some (a:Int))) (ys:=[_]) (by rw[c1]; simp; lia),?_⟩;walk_at "wp";refine⟨_,DX (ys:=cutD (mvD m.mv) (some ((a:Int)+1)) none) (by rw[c1,c2]; simp; lia),?_⟩;refine⟨_,_,AL _ _,?_⟩;rw[c1,c2];walk_at "wp";exact⟨_,_,Gx okh (RZ okh om ha nl),rfl⟩
 obtain⟨d,x9,nm,rfl⟩:=hf;exact⟨d,as5,_,nm,b5,rfl,rfl⟩
local macro_rules | `(tactic| walk_at "wp1")=>`(tactic| first
 | (with_reducible refine CC ?_)|(with_reducible refine AE ?_)|(with_reducible refine Hh ?_)|(with_reducible refine Fd ?_)|(with_reducible refine Ff ?_)|(with_reducible refine GI ?_)|(with_reducible refine GJ ?_)|(with_reducible refine FY ?_)|(with_reducible refine Hv ?_)|(with_reducible refine Hu ?_)|(with_reducible refine Ht ?_)|(with_reducible refine Fz ?_)|(with_reducible refine EK ?_)
 | (with_reducible refine EY ?_)|(with_reducible refine Fy ?_)|(with_reducible refine Ee ?_)|(with_reducible refine DK ?_)|(with_reducible refine G6 ?_)|(with_reducible refine JD ?_)|(with_reducible refine G8 ?_)|(with_reducible refine G7 ?_)|(with_reducible refine Gn ?_)|(with_reducible refine G9 ?_)
 | (with_reducible refine Ia ?_)|(with_reducible refine M4 ?_)|(with_reducible refine BU ?_)|(with_reducible refine DF ?_)
 | (with_reducible refine F0 ?_)|(with_reducible refine ER ?_)|(with_reducible refine EO ?_)|(with_reducible refine Ky ?_)|(with_reducible refine Hx ?_)
 | (with_reducible refine EF ?_)|(with_reducible refine FH ?_)|(with_reducible refine E8 ?_)|(with_reducible refine FU ?_)
 | ((with_reducible apply Dq); · rfl)
 | ((with_reducible refine Exists.intro _ (And.intro (D9 ?_) ?_)); · rfl)
 | ((with_reducible apply ex1); · rfl)|((with_reducible apply ex2); · rfl)|((with_reducible apply ex3); · rfl)|((with_reducible apply ex0); · rfl)|((with_reducible refine And.intro ?_ ?_); · rfl)|((with_reducible refine IS ?_ ?_); · rfl)|((with_reducible refine JQ ?_ ?_); · rfl))
local macro_rules | `(tactic| walk_at "wp")=>`(tactic| repeat walk_at "wp1")
def VP{m e:ME}{Z:Ro}{Q:R->Ro->Prop}(xs:List D)(G:D->A)(h:EV m Z fun r Z1=>∃x,peek Z1 r=some x/\A0 x=some xs/\xs.length<=100000/\(∀d,d∈xs->EV e (J.own d::lock Z1 (nameOf r)) fun r2 Z3=>r2=.val (G d)/\Z3=J.own d::lock Z1 (nameOf r))/\Q (.val (.lst (xs.map G))) (unlock Z1 (lock Z1 (nameOf r)) (nameOf r))):EV (Lf (Cr m) 0 CO e) Z Q:=by
 obtain⟨r,Z1,e1,x,hx,hi,hl,hs,q⟩:=h;have hL:100000<=LIM:=by decide
 have key:∀ys:List D,(∀d∈ys,d∈xs)->Gj 0 CO e ys (lock Z1 (nameOf r))=some (ys.map G,lock Z1 (nameOf r)):=by
  intro ys;induction ys with
  | nil=>intro _; rfl
  | cons d ys ih =>
   intro hy;obtain⟨r2,Z3,e3,rfl,rfl⟩:=hs d (hy d List.mem_cons_self);have ih:=ih fun k hk=>hy k (List.mem_cons_of_mem _ hk);simp only[Gj,Mp,Option.bind_some,CO,if_true,List.map_cons,List.map_nil,List.cons_append,List.nil_append,e3,List.length_cons,List.length_nil,Nat.zero_add,List.drop_succ_cons,List.drop_zero,ih,Option.map_some]
 have hk:=key xs fun d hd=>hd;have hl2:xs.length<=LIM:=by lia
 refine⟨_,_,?_,q⟩;simp only[Lf,Cr,e1,hx,hi,Option.bind_some,Option.map_some,hl2,if_true,hk]
def M0{α:Type}{xs:List α}{x:α}(h:xs.getLast? = some x):atI xs (-1)=some x:=by
 have hl:0<xs.length:=by
  cases xs with
  | nil=>simp at h
  | cons _ _=>simp
 have e:ixN xs.length (-1)=some (xs.length-1):=by
  unfold ixN;rw[if_neg (by decide)];have : -(xs.length:Int) <= -1:=by lia
  simp[this];lia
 rw[atI,e,Option.bind_some,<- List.getLast?_eq_getElem?];exact h
def JF{f:Str->List A->Option A}{m m2:ME}{Z:Ro}{Q:R->Ro->Prop}(h:EV m Z fun r Z1=>∃z,r=.val (.fz (.str z))/\EV m2 Z1 fun r2 Z2=>∃a,peek Z2 r2=some a/\∃x,f z [a]=some x/\Q (.val x) Z2):EV (GV f m (m1L m2)) Z Q:=by
 obtain⟨r,Z1,e,z,rfl,r2,Z2,e2,a,e3,x,e4,q⟩:=h;exact⟨_,_,by simp only[GV,e,m1L,Ab,Ai,e2,Option.bind_some,Option.map_some,peeks,e3,e4],q⟩
def Yv:∀(n:Nat) (mv:List (List Int)),IK (n+1) (mvD mv)=true:=by
 intro n mv;induction mv with
 | nil=>rfl
 | cons l mv ih =>
  show(shB (n+1) (.lst (iL l))&&IK (n+1) (mvD mv))=true;rw[ih,Bool.and_true];exact PJ n l
def dg(i:Int):Str:=Str.ofString (toString i)
def O7:∀n∈List.range 31,intText? (Str.ofString (toString ((n:Nat):Int)))=some (n:Int)/\32∉(Str.ofString (toString ((n:Nat):Int))).cps.toList/\10∉(Str.ofString (toString ((n:Nat):Int))).cps.toList/\(Str.ofString (toString ((n:Nat):Int))).length<=5:=by decide +kernel
def US{i:Int}(h:0<=i/\i<1000000000):strN [.fz (.int i)]=some (.fz (.str (Str.ofString (toString i)))):=by
 have e:Bv (A.fz (D.int i))=some i:=rfl;show((Bv (.fz (.int i))).bind fun i=>if 0<=i/\i<1000000000 then _ else none)=_;rw[e,Option.bind_some,if_pos h]
theorem UR{i:Int}(h:0<=i/\i<=30):strN [.fz (.int i)]=some (.fz (.str (dg i))):=US ⟨h.1,by lia⟩
def FG{i:Int}(h:0<=i/\i<=30):intText? (dg i)=some i:=by
 obtain⟨n,rfl⟩:=Int.eq_ofNat_of_zero_le h.1;exact(O7 n (List.mem_range.mpr (by have:=h.2; lia))).1
def Wd(z:Str):Prop:=32∉z.cps.toList/\10∉z.cps.toList/\z.length<=5
def Tb{i:Int}(h:0<=i/\i<=30):Wd (dg i):=by
 obtain⟨n,rfl⟩:=Int.eq_ofNat_of_zero_le h.1;exact(O7 n (List.mem_range.mpr (by have:=h.2; lia))).2
def TL{i:Int}(h:0<=i/\i<=30):TK [.fz (.str (dg i))]=some (.fz (.int i)):=by
 have e2:=FG h;have c:(dg i).length<=640:=Nat.le_trans (Tb h).2.2 (by decide);simp only[TK,on1,C2,fzU,FX,Option.bind_some,if_pos c,e2,Option.map_some]
def Wo:∀n∈List.range 31,(match BN [(.own,.fz (.str (Str.ofString (toString ((n:Nat):Int)))))] with|some (.fz (.bl true),_)=>true|_=>false)=true:=by
 have:(List.range 31).all (fun n=>match BN [(.own,.fz (.str (Str.ofString (toString ((n:Nat):Int)))))] with|some (.fz (.bl true),_)=>true|_=>false)=true:=by kernel_rfl
 exact fun n hn=>List.all_eq_true.mp this n hn
def Y2{i:Int}(h:0<=i/\i<=30):FV BN [O (.str (dg i))] fun x _=>x=.fz (.bl true):=by
 obtain⟨n,rfl⟩:=Int.eq_ofNat_of_zero_le h.1;have e:=Wo n (List.mem_range.mpr (by have:=h.2; lia));split at e
 .rename_i os he
  exact⟨_,_,he,rfl⟩
 .cases e
def wR(l:List Int):List Str:=Str.ofString "room" :: l.map dg
def wG(l:List Int):List Str:=Str.ofString "good" :: l.map dg
def rws(m:Mc):List (List Str):=m.mv.map wR++[wG m.gd]
def line(ws:List Str):Str:=Txt.join (Str.ofString " ") ws
def HT(m:Mc):Str:=Txt.join (Str.ofString "\n") ((rws m).map line)
def SU:Str.ofString " " = ⟨#[32]⟩:=by decide +kernel
def Ve:Str.ofString "\n" = ⟨#[10]⟩:=by decide +kernel
def MQ:Wd (Str.ofString "room"):=by
 have e:(Str.ofString "room").cps.toList=[114,111,111,109]:=by decide +kernel
 exact⟨by rw[e]; decide,by rw[e]; decide,dK⟩
def MP:Wd (Str.ofString "good"):=by
 have e:(Str.ofString "good").cps.toList=[103,111,111,100]:=by decide +kernel
 exact⟨by rw[e]; decide,by rw[e]; decide,dK⟩
section
variable{h:Hs}{m:Mc}
theorem Hf(om:m.Ok h){l:List Int}(hl:l∈m.mv):∀i∈l,0<=i/\i<=30:=fun i hi=>by
 have:=(om.ln l hl).2 i hi;have:=om.r2;lia
theorem JK(om:m.Ok h):∀i∈m.gd,0<=i/\i<=30:=fun i hi=>by
 have:=om.bg i hi;have:=om.r2;lia
def Ha(om:m.Ok h):m.gd.length<=30:=by
 have:=Fu (lo:=0) om.rg om.bg;have:=om.r2;lia
def FJ(okh:h.Ok)(om:m.Ok h){l:List Int}(hl:l∈m.mv):l.length<=30:=by
 have:=(om.ln l hl).1;have:=okh.l2;lia
theorem Tc{w:Str}{l:List Int}(hw:Wd w)(hl:∀i∈l,0<=i/\i<=30):∀z∈w::l.map dg,Wd z:=fun z hz=>by
 rcases List.mem_cons.mp hz with rfl|hz
 .exact hw
 .obtain⟨i,hi,rfl⟩:=List.mem_map.mp hz
  exact Tb (hl i hi)
def Ez(okh:h.Ok)(om:m.Ok h):∀ws∈rws m,(∀w∈ws,Wd w)/\ws≠[]/\ws.length<=31:=by
 intro ws hw;rcases List.mem_append.mp hw with hw|hw
 .obtain⟨l,hl,rfl⟩:=List.mem_map.mp hw
  refine⟨Tc MQ (Hf om hl),by simp[wR],?_⟩;have:=FJ okh om hl;simp only[wR,List.length_cons,List.length_map];lia
 .rw[List.mem_singleton.mp hw]
  refine⟨Tc MP (JK om),by simp[wG],?_⟩;have:=Ha om;simp only[wG,List.length_cons,List.length_map];lia
def L6{ws:List Str}(hw:∀w∈ws,Wd w)(hl:ws.length<=31):(line ws).length<=200:=by
 have:=St.join_le (c:=32) (b:=5) (ps:=ws) fun w h=>(hw w h).2.2;rw[line,SU];lia
theorem T6{ws:List Str}(hw:∀w∈ws,Wd w):10∉(line ws).cps.toList:=fun z=>by
 rw[line,SU,St.N1] at z;rcases St.mem_join z with h|⟨p,hp,hx⟩
 .cases h
 .exact(hw p hp).2.1 hx
def SW{ws:List Str}(hw:∀w∈ws,Wd w)(ne:ws≠[]):Txt.split (line ws) (Str.ofString " ")=ws:=by
 rw[line,SU];exact St.NS ne fun p hp=>(hw p hp).1
def Xc(okh:h.Ok)(om:m.Ok h):Txt.split (HT m) (Str.ofString "\n")=(rws m).map line:=by
 rw[HT,Ve];refine St.NS (by simp[rws]) fun p hp=>?_;obtain⟨ws,hw,rfl⟩:=List.mem_map.mp hp;exact T6 (Ez okh om ws hw).1
def HV(om:m.Ok h):((rws m).map line).length<=31:=by
 have:=om.r2;simp only[rws,List.length_map,List.length_append,List.length_cons,List.length_nil];lia
def U5(okh:h.Ok)(om:m.Ok h):(HT m).length<=10000:=by
 have:=HV om;have:=St.join_le (c:=10) (b:=200) (ps:=(rws m).map line) fun w hw=>by
  obtain⟨ws,hw2,rfl⟩:=List.mem_map.mp hw;exact L6 (Ez okh om ws hw2).1 (Ez okh om ws hw2).2.2
 rw[HT,Ve];lia
theorem Kj(okh:h.Ok)(om:m.Ok h):∀z∈(rws m).map line,z.length<=1000:=fun z hz=>by
 obtain⟨ws,hw,rfl⟩:=List.mem_map.mp hz;have:=L6 (Ez okh om ws hw).1 (Ez okh om ws hw).2.2;lia
theorem Ku:∀(zs:List Str),HY (CB zs)=some zs
 | []=>rfl
 | z::zs=>by
  have:=Ku zs;simp only[CB] at this;simp only[CB,List.map_cons,HY,this,Option.map_some]
def Ir{sep:Str}{zs:List Str}(hs:sep.length<=1)(hz:∀z∈zs,z.length<=1000)(hl:zs.length<=100):G1 sep [.lst ((CB zs).map A.fz)]=some (.fz (.str (Txt.join sep zs))):=by
 have h1:=St.SX hz;have h2:zs.length*sep.length<=zs.length*1:=Nat.mul_le_mul_left _ hs;have c:(zs.map (·.length)).sum+zs.length*sep.length<=16777216:=by lia
 simp only[G1,on1,CS,BO,Option.bind_some,Ku,if_pos c]
def MY{xs ys:List Str}(hl:xs.length+ys.length<=1000):Bk [.lst ((CB xs).map A.fz),.lst ((CB ys).map A.fz)]=some (.lst ((CB (xs++ys)).map A.fz)):=by
 have:=DX (xs:=CB xs) (ys:=CB ys) (by simp only[CB,List.length_map]; exact hl);rw[this];simp[CB]
def sp1:(Str.ofString " ").length<=1:=by decide +kernel
def nl1:(Str.ofString "\n").length<=1:=by decide +kernel
abbrev oS(zs:List Str):Slot:=some (.own,.lst ((CB zs).map A.fz))
def UT{α:Type}(xs:List Int):(iL xs).map (fun d=>match d with | .int i=>D.str (dg i)|_=>.non)=CB (xs.map dg):=by
 simp only[iL,CB,List.map_map];exact List.map_congr_left fun i _=>rfl
def Oe{Z:Ro}{Q:R->Ro->Prop}{m:ME}{mi:ME}{w:Str}(xs:List Int)(hx:∀i∈xs,0<=i/\i<=30)(hl:xs.length<=30)(hw:w.length<=5)(h1:lstM (Ab (Ae m) Ai) Z=some (.val (.lst ((CB [w]).map A.fz)),Z))(h2:∃r x,mi Z=some (r,Z)/\peek Z r=some x/\A0 x=some (iL xs)/\unlock Z (lock Z (nameOf r)) (nameOf r)=Z)(q:Q (.val (.fz (.str (line (w::xs.map dg))))) Z):
  EV (GV G1 (Ag (.str (Str.ofString " "))) (m1L (opM Bk (m2L (lstM (Ab (Ae m) Ai)) (Bh (Cr mi) 0 CO (opM strN (Ab (Ad 0) Ai))))))) Z Q:=by
 obtain⟨r,x,e1,e2,e3,e4⟩:=h2;refine JF (DK ⟨_,rfl,EY (Ia (Li h1 (C8 (iL xs) (fun d=>match d with | .int i=>D.str (dg i)|_=>.non) (Li e1 ⟨x,e2,e3,?_,fun d hd=>?_,?_⟩))))⟩)
 .rw[Bs]; lia
 .obtain⟨i,hi,rfl⟩:=List.mem_map.mp hd
  walk_at "wp";refine⟨_,UR (hx i hi),?_⟩;walk_at "wp";rfl
 .rw[UT (α:=Unit),e4]
  refine⟨_,rfl,_,MY (xs:=[w]) (by simp only[List.length_cons,List.length_nil,List.length_map]; lia),⟨_,rfl,_,Ir sp1 (fun z hz=>?_) ?_,q⟩⟩
  .rcases List.mem_append.mp hz with hz|hz
   .rw[List.mem_singleton.mp hz]; lia
   .obtain⟨i,hi,rfl⟩:=List.mem_map.mp hz
    exact Nat.le_trans (Tb (hx i ‹_›)).2.2 (by decide)
  .simp only[List.length_append,List.length_cons,List.length_nil,List.length_map]; lia
def PH{w:Str}{xs:List Int}(hw:w.length<=5)(hx:∀i∈xs,0<=i/\i<=30)(hl:xs.length<=30):FV CH [O (.str w),O (.lst (iL xs))] fun x _=>x=.fz (.str (line (w::xs.map dg))):=by
 refine DS rfl rfl ?_;show SV D6 [oF (.str w),oF (.lst (iL xs))] _;unfold D6;refine Ff (Oe (w:=w) xs hx hl hw rfl ⟨_,_,rfl,rfl,rfl,rfl⟩ ?_);walk_at "wp";rfl
theorem UO(okh:h.Ok)(om:m.Ok h):FV Br [O m.d] fun x _=>x=.fz m.d:=W6 h okh m om
def NP(m:Mc):(mvD m.mv).map (fun d=>match d with | .lst ds=>D.str (line (Str.ofString "room" :: ds.map fun d=>match d with | .int i=>dg i|_=>Str.ofString "room"))|_=>.non)=CB ((m.mv.map wR).map line):=by
 simp only[mvD,CB,List.map_map];refine List.map_congr_left fun l hl=>?_;simp only[Function.comp,iL,List.map_map,wR];rfl
def Xa(okh:h.Ok)(om:m.Ok h):FV BK [O m.d] fun x _=>x=.fz (.str (HT m)):=by
 have hLIM:1000<=LIM:=by decide
 have r2:=om.r2;refine DS rfl rfl ?_;show SV CM [oF m.d,none] _;unfold CM;refine CC (Fd (C8 (mvD m.mv) (fun d=>match d with | .lst ds=>D.str (line (Str.ofString "room" :: ds.map fun d=>match d with | .int i=>dg i|_=>Str.ofString "room"))|_=>.non) ?_));walk_at "wp";refine⟨by rw[Gw]; lia,fun d hd=>?_,?_⟩
 .obtain⟨l,hl,rfl⟩:=List.mem_map.mp hd
  refine Oe (w:=Str.ofString "room") l (Hf om hl) (FJ okh om hl) MQ.2.2 rfl ⟨_,_,rfl,rfl,rfl,rfl⟩ ?_;refine⟨_,rfl,rfl,?_⟩;simp only[iL,List.map_map];rfl
 rw[NP];refine⟨_,_,rfl,rfl,AE ?_⟩;show SV _ [oF m.d,oS ((m.mv.map wR).map line)] _;refine Ff (JF (DK ⟨_,rfl,?_⟩));refine EY ?_;refine Ia ?_;refine Dq rfl ?_;refine Gn ?_;refine BU ?_;refine Ee ?_;refine Oe (w:=Str.ofString "good") m.gd (JK om) (Ha om) MP.2.2 rfl ⟨.val (.fz (.lst (iL m.gd))),.fz (.lst (iL m.gd)),?_,rfl,rfl,rfl⟩ ?_
 .exact AX (B1 (r1:=.val (.fz m.d)) rfl (r2:=.val (.fz (.int 1))) rfl) rfl (V2 _ _)
 refine⟨_,_,rfl,DF ⟨_,rfl,rfl,_,rfl,_,MY (xs:=(m.mv.map wR).map line) (ys:=[line (wG m.gd)]) (by simp only[List.length_map,List.length_cons,List.length_nil]; lia),?_⟩⟩;have et:(m.mv.map wR).map line++[line (wG m.gd)]=(rws m).map line:=by simp[rws]
 rw[et];refine⟨_,rfl,_,Ir nl1 (Kj okh om) (by have:=HV om; lia),?_⟩;walk_at "wp";rfl
def W9(okh:h.Ok)(om:m.Ok h):FV CG [O h.d,O m.d] fun x _=>x=.fz (.str (HT m)):=by
 have hLIM:1000<=LIM:=by decide
 have r2:=om.r2;refine DS rfl rfl ?_;show SV D5 [oF h.d,oF m.d,none] _;unfold D5;walk_at "wp";refine B0 (GH okh om) ?_;refine AE ?_;show SV _ [oF h.d,oF m.d,none] _;refine CC (Fd (C8 (mvD m.mv) (fun d=>match d with | .lst ds=>D.str (line (Str.ofString "room" :: ds.map fun d=>match d with | .int i=>dg i|_=>Str.ofString "room"))|_=>.non) ?_));walk_at "wp";refine⟨by rw[Gw]; lia,fun d hd=>?_,?_⟩
 .obtain⟨l,hl,rfl⟩:=List.mem_map.mp hd
  walk_at "wp";refine BI (PH (w:=Str.ofString "room") MQ.2.2 (Hf om hl) (FJ okh om hl)) fun x _ e=>?_;subst e;refine⟨_,rfl,rfl,?_⟩;simp only[iL,List.map_map];rfl
 rw[NP];refine⟨_,_,rfl,rfl,AE ?_⟩;show SV _ [oF h.d,oF m.d,oS ((m.mv.map wR).map line)] _;refine CC (MJ ⟨_,rfl⟩ ?_);walk_at "wp";refine BI (PH (w:=Str.ofString "good") MP.2.2 (JK om) (Ha om)) fun x _ e=>?_;subst e;refine⟨_,_,rfl,_,_,rfl,by rw[List.length_map,CB,List.length_map,List.length_map,List.length_map]; lia,AE ?_⟩;have et:(CB ((m.mv.map wR).map line)).map A.fz++[A.fz (D.str (line (Str.ofString "good" :: m.gd.map dg)))]=(CB ((rws m).map line)).map A.fz:=by simp[rws,CB,wG]
 rw[et];show SV _ [oF h.d,oF m.d,oS ((rws m).map line)] _;refine Ff (JF (DK ⟨_,rfl,Dq rfl ⟨_,rfl,_,Ir nl1 (Kj okh om) (by have:=HV om; lia),?_⟩⟩));walk_at "wp";rfl
end
local macro_rules | `(tactic| walk_at "wp1")=>`(tactic| first
 | (with_reducible refine CC ?_)|(with_reducible refine AE ?_)|(with_reducible refine Hh ?_)|(with_reducible refine Fd ?_)|(with_reducible refine Ff ?_)|(with_reducible refine GI ?_)|(with_reducible refine GJ ?_)|(with_reducible refine FY ?_)|(with_reducible refine Hv ?_)|(with_reducible refine Hu ?_)|(with_reducible refine Ht ?_)|(with_reducible refine Fz ?_)|(with_reducible refine EK ?_)
 | (with_reducible refine EY ?_)|(with_reducible refine Fy ?_)|(with_reducible refine Ee ?_)|(with_reducible refine DK ?_)|(with_reducible refine G6 ?_)|(with_reducible refine JD ?_)|(with_reducible refine G8 ?_)|(with_reducible refine G7 ?_)|(with_reducible refine Gn ?_)|(with_reducible refine G9 ?_)
 | (with_reducible refine Ia ?_)|(with_reducible refine M4 ?_)|(with_reducible refine BU ?_)|(with_reducible refine DF ?_)
 | (with_reducible refine F0 ?_)|(with_reducible refine ER ?_)|(with_reducible refine EO ?_)|(with_reducible refine Ky ?_)|(with_reducible refine Hx ?_)
 | (with_reducible refine EF ?_)|(with_reducible refine FH ?_)|(with_reducible refine E8 ?_)|(with_reducible refine FU ?_)
 | ((with_reducible apply Dq); · rfl)
 | ((with_reducible refine Exists.intro _ (And.intro (D9 ?_) ?_)); · rfl)
 | ((with_reducible apply ex1); · rfl)|((with_reducible apply ex2); · rfl)|((with_reducible apply ex3); · rfl)|((with_reducible apply ex0); · rfl)|((with_reducible refine And.intro ?_ ?_); · rfl)|((with_reducible refine IS ?_ ?_); · rfl)|((with_reducible refine JQ ?_ ?_); · rfl))
local macro_rules | `(tactic| walk_at "wp")=>`(tactic| repeat walk_at "wp1")
def lsA(l:List Int):A:=.lst ((iL l).map A.fz)
def mA(m:Mc):A:=.tup [.lst (m.mv.map lsA),lsA m.gd]
def U7(l:List Int):er (lsA l)=some (.lst (iL l)):=by
 simp only[lsA,er,HC,Option.map_some]
theorem Rb:∀(mv:List (List Int)),ers (mv.map lsA)=some (mvD mv)
 | []=>rfl
 | l::mv=>by
  have e:=U7 l;have:=Rb mv;rw[List.map_cons,ers,e,Option.bind_some,this,Option.map_some];rfl
def Ra(m:Mc):er (mA m)=some m.d:=by
 have e:=Rb m.mv;have e2:=U7 m.gd;unfold mA Mc.d;rw[er,ers,er,e,Option.map_some,Option.bind_some,ers,e2,Option.bind_some,ers,Option.map_some,Option.map_some,Option.map_some]
def Tz{ms:MA}{Z:Ro}{Q:R->Ro->Prop}(h:AV ms Z fun rs Z1=>∃as,vals rs=some as/\decide (as.length<=LIM)=true/\Q (.val (mkT as)) Z1):EV (Jk ms) Z Q:=by
 obtain⟨rs,Z1,e,as,e2,hl,q⟩:=h;exact⟨_,_,by simp only[Jk,e,e2,Option.bind_some,if_pos (of_decide_eq_true hl)],q⟩
def PM{z y:Str}(hy:(y.length==0)=false)(hz:z.length<=100000):QM z [.fz (.str y)]=some (.lst ((CB (Txt.split z y)).map A.fz)):=by
 have hs:200000<=sizeLine:=by decide
 have c:(y.length==0)=false/\z.length+2<=sizeLine:=⟨hy,by lia⟩;have e:C2 (A.fz (D.str y))=some y:=rfl;show((C2 (.fz (.str y))).bind fun y=>if (y.length==0)=false/\z.length+2<=sizeLine then _ else none)=_;rw[e,Option.bind_some,if_pos c]
def sp0:((Str.ofString " ").length==0)=false:=by decide +kernel
def nl0:((Str.ofString "\n").length==0)=false:=by decide +kernel
def LB{α:Type}(xs:List α):El [.lst ((xs.map fun _=>D.bl true).map A.fz)]=some (.fz (.bl true)):=by
 have e:DY (xs.map fun _=>D.bl true)=some (xs.map fun _=>true):=by
  induction xs with
  | nil=>rfl
  | cons x xs ih=>simp only[List.map_cons,DY,ih,Option.map_some]
 have e2:(xs.map fun _=>true).all id=true:=by simp
 simp only[El,on1,CS,BO,Option.bind_some,e,Option.map_some,e2]
def eq_str(z:Str):eqA [.fz (.str z),.fz (.str z)]=some (.fz (.bl true)):=by
 have e:=DJ (.str z);simp only[eqA,on2,J.er,Option.bind_some,shB,if_true,e]
def RP(d:D)(ds:List D):HN [.fz (.lst (d::ds)),.fz (.int 1)]=some (.lst (ds.map A.fz)):=by
 have e:=Q5 (d::ds) 1;have e1:((1:Nat):Int)=1:=rfl;rw[e1] at e;simp only[HN,on2,Bv,fzU,Dz,Option.bind_some,CS,Option.map_some,e,List.drop_succ_cons,List.drop_zero]
def IJ:FV BP [O (.bl true)] fun x _=>x=.fz .non:=by
 refine DS rfl rfl ?_;show SV D3 [oF (.bl true)] _;unfold D3;walk_at "wp";rfl
def s_same(z:Str):FV DM [O (.str z),O (.str z)] fun x _=>x=.fz (.bl true):=by
 refine DS rfl rfl ?_;show SV E6 [oF (.str z),oF (.str z)] _;unfold E6;walk_at "wp";show A.fz (.bl (eqD (.str z) (.str z)))=_;rw[DJ]
def TC(ds:List D)(d:D):Gv [.lst ((ds++[d]).map A.fz),.fz (.int (-1))]=some (.lst (ds.map A.fz)):=by
 have e:=O6 (ds++[d]) (by simp);have e2:(ds++[d]).take ((ds++[d]).length-1)=ds:=by simp
 rw[e2] at e;simp only[Gv,on2,Bv,fzU,Dz,Option.bind_some,CS,BO,Option.map_some,e]
abbrev wD(ws:List Str):D:=.lst (CB ws)
theorem YU(w:Str)(ws:List Str):ixA [.fz (wD (w::ws)),.fz (.int 0)]=some (.fz (.str w)):=ixF (at0 _ _)
section
variable{h:Hs}{m:Mc}
abbrev rD(m:Mc):List D:=(rws m).map wD
abbrev tD(m:Mc):List D:=(m.mv.map wR).map wD
def Vj(m:Mc):rD m=tD m++[wD (wG m.gd)]:=by simp[rD,tD,rws]
theorem Pd(m:Mc):ixA [.lst ((rD m).map A.fz),.fz (.int (-1))]=some (.fz (wD (wG m.gd))):=ixL (M0 (by rw[Vj]; simp))
def Pa(m:Mc):Gv [.lst ((rD m).map A.fz),.fz (.int (-1))]=some (.lst ((tD m).map A.fz)):=by
 rw[Vj]; exact TC _ _
def W8(okh:h.Ok)(om:m.Ok h):FV C9 [O (.str (HT m))] fun x _=>x=.lst ((rD m).map A.fz):=by
 have hl:=U5 okh om;have e1:QM (HT m) [.fz (.str (Str.ofString "\n"))]=some (.lst ((CB ((rws m).map line)).map A.fz)):=by rw[PM nl0 (by lia),Xc okh om]
 refine DS rfl rfl ?_;show SV DI [oF (.str (HT m))] _;unfold DI;walk_at "wp";refine BI IJ fun x _ e=>?_;subst e;walk_at "wp";refine C8 (CB ((rws m).map line)) (fun d=>match d with | .str z=>wD (Txt.split z (Str.ofString " "))|_=>.non) (JF (Dq rfl ⟨_,rfl,DK ⟨_,rfl,_,e1,_,rfl,?_,?_,fun d hd=>?_,?_⟩⟩))
 .simp only[A0,BO]
 .have:=HV om
  simp only[CB,List.length_map] at this |-;lia
 .obtain⟨z,hz,rfl⟩:=List.mem_map.mp hd
  obtain⟨ws,hw,rfl⟩:=List.mem_map.mp hz;have:=L6 (Ez okh om ws hw).1 (Ez okh om ws hw).2.2;refine JF (Dq rfl ⟨_,rfl,DK ⟨_,rfl,_,PM sp0 (by lia),?_⟩⟩);exact⟨_,AL _ _,rfl,rfl⟩
 .have em:(CB ((rws m).map line)).map (fun d=>match d with | .str z=>wD (Txt.split z (Str.ofString " "))|_=>.non)=rD m:=by
   simp only[CB,List.map_map];refine List.map_congr_left fun ws hw=>?_;show wD (Txt.split (line ws) (Str.ofString " "))=wD ws;rw[SW (Ez okh om ws hw).1 (Ez okh om ws hw).2.1]
  rw[em];walk_at "wp";rfl
def NR{w:Str}{xs:List Int}(hx:∀i∈xs,0<=i/\i<=30)(hl:xs.length<=30):FV BB [O (.str w),O (wD (w::xs.map dg))] fun x _=>x=.fz (.bl true):=by
 refine DS rfl rfl ?_;show SV Cy [oF (.str w),oF (wD (w::xs.map dg))] _;unfold Cy;walk_at "wp";refine⟨_,YU _ _,Dq rfl ⟨_,rfl,_,eq_str w,?_⟩⟩;walk_at "wp";refine C8 (CB (xs.map dg)) (fun _=>.bl true) (EY (Ia (Dq rfl (DK ⟨_,rfl,_,RP _ _,?_⟩))));refine⟨_,rfl,by simp only[A0,BO]; rfl,by simp only[CB,List.length_map]; lia,fun d hd=>?_,?_⟩
 .obtain⟨z,hz,rfl⟩:=List.mem_map.mp hd
  obtain⟨i,hi,rfl⟩:=List.mem_map.mp hz;walk_at "wp";refine BI (Y2 (hx i hi)) fun x _ e=>?_;subst e;walk_at "wp";rfl
 walk_at "wp";refine⟨_,LB _,?_⟩;walk_at "wp";rfl
def Lp{w:Str}{xs:List Int}(hx:∀i∈xs,0<=i/\i<=30)(hl:xs.length<=30):FV Cf [O (wD (w::xs.map dg))] fun x _=>x=lsA xs:=by
 refine DS rfl rfl ?_;show SV Dt [oF (wD (w::xs.map dg))] _;unfold Dt;walk_at "wp";refine C8 (CB (xs.map dg)) (fun d=>match d with | .str z=>.int ((intText? z).getD 0)|_=>.non) (EY (Ia (Dq rfl (DK ⟨_,rfl,_,RP _ _,?_⟩))));refine⟨_,rfl,by simp only[A0,BO]; rfl,by simp only[CB,List.length_map]; lia,fun d hd=>?_,?_⟩
 .obtain⟨z,hz,rfl⟩:=List.mem_map.mp hd
  obtain⟨i,hi,rfl⟩:=List.mem_map.mp hz;have e:=TL (hx i hi);have e2:=FG (hx i hi);walk_at "wp";refine⟨_,e,?_⟩;walk_at "wp";simp only[e2,Option.getD_some]
 have em:(CB (xs.map dg)).map (fun d=>match d with | .str z=>D.int ((intText? z).getD 0)|_=>.non)=iL xs:=by
  simp only[CB,iL,List.map_map];refine List.map_congr_left fun i hi=>?_;show D.int ((intText? (dg i)).getD 0)=D.int i;rw[FG (hx i hi)]; rfl
 rw[em];walk_at "wp";rfl
abbrev eR(h:Hs)(m:Mc)(x2 x3 x4:Slot):Ro:=[oF h.d,oF (.str (HT m)),x2,x3,x4]
def VM:D->A
 | .lst (.str _::ds)=>.lst ((ds.map fun d=>match d with | .str y=>D.int ((intText? y).getD 0)|_=>.non).map A.fz)
 | d=>.fz d
def Q6{l:List Int}(hx:∀i∈l,0<=i/\i<=30):VM (wD (wR l))=lsA l:=by
 have em:(CB (l.map dg)).map (fun d=>match d with | .str z=>D.int ((intText? z).getD 0)|_=>.non)=iL l:=by
  simp only[CB,iL,List.map_map];refine List.map_congr_left fun i hi=>?_;show D.int ((intText? (dg i)).getD 0)=D.int i;rw[FG (hx i hi)]; rfl
 show A.lst (((CB (l.map dg)).map fun d=>match d with | .str y=>D.int ((intText? y).getD 0)|_=>.non).map A.fz)=_;rw[em];rfl
def Tv(om:m.Ok h):(tD m).map VM=m.mv.map lsA:=by
 simp only[tD,List.map_map];exact List.map_congr_left fun l hl=>Q6 (Hf om hl)
def SO(okh:h.Ok)(om:m.Ok h):FV BQ [O h.d,O (.str (HT m))] fun x _=>x=mA m:=by
 have r2:=om.r2;refine DS rfl rfl ?_;show SV D4 (eR h m none none none) _;unfold D4;walk_at "wp";refine B0 (FT .own h okh) ?_;walk_at "wp";refine BI (W8 okh om) fun x _ e=>?_;subst e;refine⟨_,_,rfl,rfl,AE ?_⟩;show SV _ (eR h m (oLs (rD m)) none none) _;walk_at "wp";refine⟨_,Pd m,?_⟩;walk_at "wp";refine BI (NR (w:=Str.ofString "good") (JK om) (Ha om)) fun x _ e=>?_;subst e;walk_at "wp";refine BI IJ fun x _ e=>?_;subst e;walk_at "wp";show SV _ (eR h m (oLs (rD m)) none none) _;refine Kv ?_;refine Ol ?_;refine EY ?_;refine Ia ?_;refine Dq rfl ?_;walk_at "wp";refine⟨_,Pa m,?_⟩;refine⟨_,rfl,tD m,by simp only[A0,BO],fun j Z=>∃x3,Fr x3/\Z=eR h m (oLs (rD m)) x3 none,⟨none,rfl,rfl⟩,fun j d Z hd hI=>?_,fun Z hI=>?_⟩
 .obtain⟨x3,h3,rfl⟩:=hI
  obtain⟨ws,hw,rfl⟩:=List.mem_map.mp (List.mem_of_getElem? hd);obtain⟨l,hl,rfl⟩:=List.mem_map.mp hw;refine⟨_,Ju h3,?_⟩;show SV _ (eR h m (oLs (rD m)) (oF (wD (wR l))) none) _;walk_at "wp";refine BI (NR (w:=Str.ofString "room") (Hf om hl) (FJ okh om hl)) fun x _ e=>?_;subst e;walk_at "wp";refine BI IJ fun x _ e=>?_;subst e;walk_at "wp";exact Js ⟨_,rfl,rfl⟩
 .obtain⟨x3,h3,rfl⟩:=hI
  refine AE ?_;show SV _ (eR h m (oLs (rD m)) x3 none) _;refine CC (Fd (Tz (BU ?_)));refine VP (tD m) VM ?_;refine EY ?_;refine Ia ?_;refine Dq rfl ?_;walk_at "wp";refine⟨_,Pa m,?_⟩;refine⟨_,rfl,by simp only[A0,BO],by simp only[tD,List.length_map]; lia,fun d hd=>?_,?_⟩
  .obtain⟨ws,hw,rfl⟩:=List.mem_map.mp hd
   obtain⟨l,hl,rfl⟩:=List.mem_map.mp hw;walk_at "wp";refine BI (Lp (w:=Str.ofString "room") (Hf om hl) (FJ okh om hl)) fun x _ e=>?_;subst e;rw[Q6 (Hf om hl)];exact⟨rfl,rfl⟩
  rw[Tv om];refine BU ?_;walk_at "wp";refine⟨_,Pd m,?_⟩;walk_at "wp";refine BI (Lp (w:=Str.ofString "good") (JK om) (Ha om)) fun x _ e=>?_;subst e;refine DF ?_;refine⟨_,rfl,rfl,_,_,rfl,rfl,AE ?_⟩;show SV _ (eR h m (oLs (rD m)) x3 (some (.own,mA m))) _;refine CC (GI (JB (BU (Dq rfl (BU (Dq rfl (DF ⟨[h.d,m.d],?_,?_⟩)))))))
  .show((er (A.fz h.d)).bind fun d=>((er (mA m)).bind fun d=>(P9 (eR h m (oLs (rD m)) x3 (some (.own,mA m))) []).map (d :: ·)).map (d :: ·))=_
   rw[Ra];rfl
  refine B0 (GH okh om) ⟨rfl,AE ?_⟩;walk_at "wp";rfl
def PK(m:Mc):shB 16 m.d=true:=by
 show(IK 14 (mvD m.mv)&&(IK 14 (iL m.gd)&&true))=true;rw[Yv 13,PJ]; rfl
def Tw(m:Mc):eqA [.fz m.d,.fz m.d]=some (.fz (.bl true)):=by
 have sh:=PK m;have er:=DJ m.d;simp only[eqA,on2,J.er,Option.bind_some,sh,if_true,er]
def T9(m:Mc):neA [.fz m.d,.fz m.d]=some (.fz (.bl false)):=by
 have sh:=PK m;have er:=DJ m.d;simp only[neA,on2,J.er,Option.bind_some,sh,if_true,er,Bool.not_true]
def XR(l:List Int):eqA [.fz (.lst (iL l)),.fz (.lst (iL l))]=some (.fz (.bl true)):=by
 have sh:shB 16 (.lst (iL l))=true:=PJ 15 l;have er:=DJ (.lst (iL l));simp only[eqA,on2,J.er,Option.bind_some,sh,if_true,er]
def UQ(i:Int):FV BG [O (.int i)] fun x _=>x=.fz (.bl true):=by
 refine DS rfl rfl ?_;show SV EJ [oF (.int i)] _;unfold EJ;walk_at "wp";rfl
def Lj{m:ME}{Z:Ro}{Q:R->Ro->Prop}{l:List Int}(hl:l.length<=1000)(h1:m Z=some (.val (.fz (.lst (iL l))),Z))(q:Q (.val (.fz (.bl true))) Z):EV (opM El (Ab (Bh (Cr m) 0 CO (Ao BG (Ab (Ad 0) Ai))) Ai)) Z Q:=by
 refine EY (BU (C8 (iL l) (fun _=>.bl true) (Li h1 ⟨_,rfl,rfl,by rw[Bs]; lia,fun d hd=>?_,?_⟩)))
 .obtain⟨i,hi,rfl⟩:=List.mem_map.mp hd
  walk_at "wp";refine BI (UQ i) fun x _ e=>?_;subst e;walk_at "wp";rfl
 .exact DF ⟨_,rfl,_,LB _,q⟩
def W7(l:List Int)(hl:l.length<=1000):FV Dr [O (.lst (iL l)),O (.lst (iL l))] fun x _=>x=.fz (.bl true):=by
 refine DS rfl rfl ?_;show SV D1 [oF (.lst (iL l)),oF (.lst (iL l))] _;unfold D1;walk_at "wp";refine⟨_,XR l,?_⟩;refine⟨_,rfl,_,rfl,IS rfl ?_⟩;refine Lj hl rfl ?_;walk_at "wp";rfl
def PB(okh:h.Ok)(om:m.Ok h):FV Ba [O m.d,O m.d] fun x _=>x=.fz (.bl true):=by
 have r2:=om.r2;have gl:=Ha om;refine DS rfl rfl ?_;show SV Cw [oF m.d,oF m.d] _;unfold Cw;walk_at "wp";refine C8 (mvD m.mv) (fun _=>.bl true) ?_;walk_at "wp";refine⟨by rw[Gw]; lia,fun d hd=>?_,?_⟩
 .obtain⟨l,hl,rfl⟩:=List.mem_map.mp hd
  walk_at "wp";rfl
 walk_at "wp";refine⟨_,LB _,?_⟩;walk_at "wp";refine BI (W7 m.gd (by lia)) fun x _ e=>?_;subst e;walk_at "wp";refine⟨_,Tw m,?_⟩;walk_at "wp";refine C8 (mvD m.mv) (fun _=>.bl true) ?_;walk_at "wp";refine⟨by rw[Gw]; lia,fun d hd=>?_,?_⟩
 .obtain⟨l,hl,rfl⟩:=List.mem_map.mp hd
  have:=FJ okh om hl;refine Lj (l:=l) (by lia) rfl ?_;walk_at "wp";rfl
 walk_at "wp";refine⟨_,LB _,?_⟩;walk_at "wp";rfl
end
local macro_rules | `(tactic| walk_at "wp1")=>`(tactic| first
 | (with_reducible refine CC ?_)|(with_reducible refine AE ?_)|(with_reducible refine Hh ?_)|(with_reducible refine Fd ?_)|(with_reducible refine Ff ?_)|(with_reducible refine GI ?_)|(with_reducible refine GJ ?_)|(with_reducible refine FY ?_)|(with_reducible refine Hv ?_)|(with_reducible refine Hu ?_)|(with_reducible refine Ht ?_)|(with_reducible refine Fz ?_)|(with_reducible refine EK ?_)
 | (with_reducible refine EY ?_)|(with_reducible refine Fy ?_)|(with_reducible refine Ee ?_)|(with_reducible refine DK ?_)|(with_reducible refine G6 ?_)|(with_reducible refine JD ?_)|(with_reducible refine G8 ?_)|(with_reducible refine G7 ?_)|(with_reducible refine Gn ?_)|(with_reducible refine G9 ?_)
 | (with_reducible refine Ia ?_)|(with_reducible refine M4 ?_)|(with_reducible refine BU ?_)|(with_reducible refine DF ?_)
 | (with_reducible refine F0 ?_)|(with_reducible refine ER ?_)|(with_reducible refine EO ?_)|(with_reducible refine Ky ?_)|(with_reducible refine Hx ?_)
 | (with_reducible refine EF ?_)|(with_reducible refine FH ?_)|(with_reducible refine E8 ?_)|(with_reducible refine FU ?_)
 | ((with_reducible apply Dq); · rfl)
 | ((with_reducible refine Exists.intro _ (And.intro (D9 ?_) ?_)); · rfl)
 | ((with_reducible apply ex1); · rfl)|((with_reducible apply ex2); · rfl)|((with_reducible apply ex3); · rfl)|((with_reducible apply ex0); · rfl)|((with_reducible refine And.intro ?_ ?_); · rfl)|((with_reducible refine IS ?_ ?_); · rfl)|((with_reducible refine JQ ?_ ?_); · rfl))
local macro_rules | `(tactic| walk_at "wp")=>`(tactic| repeat walk_at "wp1")
def OI{Ψ:FnR}{ls:List LA}{wd:Str}{Z:Ro}{as:List (Own×A)}(h1:Qm Z ls=some as)(h2 : Ψ as=some wd):KS Ψ ls wd Z=some (.val (.fz (.bl true)),Z):=by
 simp only[KS,h1,h2,Option.bind_some,if_true]
section
variable{h:Hs}{m:Mc}
def Ys{d:D}(hd:NHs d):B3 [O d]=some (Str.ofString "NoHouse"):=by
 refine FC (Z:=[oF d]) rfl rfl (E8 ?_);walk_at "wp";refine B0 (show _=_ from(show NHs d from hd)) ?_;walk_at "wp";rfl
def UI(ok:h.Ok):B3 [O h.d]=none:=by
 refine FC (Z:=[oF h.d]) rfl rfl (E8 ?_);walk_at "wp";refine B0 (Km .own h ok) ?_;walk_at "wp";rfl
theorem Yr{d e:D}(hd:NHs d):CK [O d,O e]=some (Str.ofString "NoHouse"):=FC (Z:=[oF d,oF e]) rfl rfl (EG rfl rfl rfl (Ys hd))
theorem Sy(ok:h.Ok){e:D}:CK [O h.d,O e]=none:=FC (Z:=[oF h.d,oF e]) rfl rfl (EG rfl rfl rfl (UI ok))
theorem UG{d e:D}(hd:NHs d):Ca [O d,O e]=some (Str.ofString "NoHouse"):=FC (Z:=[oF d,oF e]) rfl rfl (VD (EG rfl rfl rfl (Yr hd)))
def UH(ok:h.Ok){e:D}(he:NM h e):Ca [O h.d,O e]=some (Str.ofString "NoMachine"):=by
 refine FC (Z:=[oF h.d,oF e]) rfl rfl (VE (EG rfl rfl rfl (Sy ok)) (E8 ?_));walk_at "wp";refine B0 (show _=_ from(show NM h e from he)) ?_;walk_at "wp";rfl
theorem UJ{d e:D}(hd:NHs d):Bp [O d,O e]=some (Str.ofString "NoHouse"):=FC (Z:=[oF d,oF e,none]) rfl rfl (EG rfl rfl rfl (UG hd))
theorem UK(ok:h.Ok){e:D}(he:NM h e):Bp [O h.d,O e]=some (Str.ofString "NoMachine"):=FC (Z:=[oF h.d,oF e,none]) rfl rfl (EG rfl rfl rfl (UH ok he))
theorem W0{d e:D}(hd:NHs d):Cb [O d,O e]=some (Str.ofString "NoHouse"):=FC (Z:=[oF d,oF e,none,none,none]) rfl rfl (EG rfl rfl rfl (Ys hd))
end
abbrev oB(as:List A):Slot:=some (.own,.lst as)
abbrev eL(ns:List Int)(x1 x2 x3 x4 x5 x6 x7 x8 x9:Slot):Ro:=[some (.ro,.scr ns),x1,x2,x3,x4,x5,x6,x7,x8,x9]
def RS{d:Int}(d0:0<=d)(d1:d<8):∃q:Int,1<=q/\q<=30/\ixA [.lst [.fz (.int 30),.fz (.int 8)],.fz (.int (if d<(1:Int) then d else 1))]=some (.fz (.int q)):=by
 have:d=0\/¬d<1:=by lia
 rcases this with rfl|h
 .exact⟨30,by decide,by decide,rfl⟩
 .rw[if_neg h]
  exact⟨8,by decide,by decide,rfl⟩
section
variable{ns:List Int}{k:Nat}{x2 x3 x4 x5 x6 x7 x8 x9:Slot}
def S6(h2:Fr x2)(h3:Fr x3)(h4:Fr x4)(h5:Fr x5)(h6:Fr x6)(h7:Fr x7)(h8:Fr x8)(h9:Fr x9){Q:Fl->Prop}(q:∀y2 y3 y4 y5 y6 y7 y8 y9,Fr y2->Fr y3->Fr y4->Fr y5->Fr y6->Fr y7->Fr y8->Fr y9->Q (.next (eL ns (oF (.int (k:Int))) y2 y3 y4 y5 y6 y7 y8 y9))):
  SV (AA (A5 2 (Ao Eg (Ab (opM Bk (m2L (Ao DL (Ab (Ad 0) (Ab (Ad 1) Ai))) (Ad 1))) Ai))) (AA (A5 3 (Ao CJ (Ab (Ad 2) Ai))) (AA (A5 4 (Ao B8 (Ab (Ad 2) (Ab (Ad 3) (Ab (opM ixA (m2L (lstM (Ab (Ae (Ag (.int 30))) (Ab (Ae (Ag (.int 8))) Ai))) (opM RQ (Ab (Ag (.int 1)) (Ab (Ao Aq (Ab (Ad 2) (Ab (Ag (.int 8)) Ai))) Ai))))) Ai))))) (AA (A5 5 (Ao Br (Ab (Ad 4) Ai))) (AA (A5 6 (Ao BK (Ab (Ad 4) Ai))) (AA (ifS (orT (BR (AJ (Ao DM (Ab (Ao CG (Ab (Ad 3) (Ab (Ad 5) Ai))) (Ab (Ad 6) Ai))))) (AJ (opM neA (m2L (Ad 5) (Ad 4))))) (retS (Ag (.bl false))) Bc) (AA (A5 7 (Ao BQ (Ab (Ad 3) (Ab (Ad 6) Ai)))) (AA (ifS (BR (AJ (GY Ba (Ab (Ad 7) (Ab (Ad 4) Ai))))) (retS (Ag (.bl false))) Bc) (AA (Mo 7 [0,0] 9) (AA (Mo 7 [1] 99) (AA (ifS (BR (AJ (GY Ba (Ab (Ao BQ (Ab (Ad 3) (Ab (Ad 6) Ai))) (Ab (Ad 4) Ai))))) (retS (Ag (.bl false))) Bc) (AA (A5 8 (Ao BD (Ab (Ad 2) (Ab (Ad 4) Ai)))) (AA (ifS (BR (AJ (KS Bp [.nm 3,.nm 8] "NoMachine"))) (retS (Ag (.bl false))) Bc) (AA (A5 9 (Ao B4 (Ab (Ad 2) (Ab (Ad 3) Ai)))) (AA (ifS (BR (AJ (KS Bp [.nm 9,.nm 8] "NoHouse"))) (retS (Ag (.bl false))) Bc) (ifS (BR (AJ (KS Cb [.nm 9,.nt 6 "?"] "NoHouse"))) (retS (Ag (.bl false))) Bc)))))))))))))))) (eL ns (oF (.int (k:Int))) x2 x3 x4 x5 x6 x7 x8 x9) Q:=by
 have hLIM:100000<=LIM:=by decide
 obtain⟨c,c2,t1⟩:=W5 ns k;obtain⟨as,q1,hb,t2⟩:=Yt .own (c+k);obtain⟨h,as1,ok,hb1,t3⟩:=UP hb (by lia);obtain⟨d,as2,d0,d1,hb2,t4⟩:=Cq hb1 (by lia) 8 (by lia) (by lia);obtain⟨mo,m0,m1,em⟩:=RS d0 d1;obtain⟨m,as3,a4,a5,om,hb3,t5⟩:=QK ok hb2 (by lia) m0 m1;obtain⟨bd,as4,a6,nm,hb4,t6⟩:=MD ok om hb3 (by lia);obtain⟨nd,as5,a7,nh,hb5,t7⟩:=OM ok hb4 (by lia);obtain⟨l,ls,hls⟩:∃l ls,m.mv=l::ls:=by
  have:=om.r1;cases e:m.mv with
  | nil=>rw[e] at this; exact absurd this (by decide)
  | cons l ls=>exact⟨l,ls,rfl⟩
 have ll:l.length<=30:=FJ ok om (by rw[hls]; simp);have gl:=Ha om;walk_at "wp";refine B0 t1 ?_;walk_at "wp";refine B0 t2 ?_;refine⟨_,_,rfl,h2,AE ?_⟩;show SV _ (eL ns (oF (.int (k:Int))) (oB as) x3 x4 x5 x6 x7 x8 x9) _;walk_at "wp";refine B0 t3 ?_;refine⟨_,_,rfl,h3,AE ?_⟩;show SV _ (eL ns (oF (.int (k:Int))) (oB as1) (oF h.d) x4 x5 x6 x7 x8 x9) _;walk_at "wp";refine B0 t4 ?_;walk_at "wp";refine⟨_,em,?_⟩;walk_at "wp";refine B0 t5 ?_;refine⟨_,_,rfl,h4,AE ?_⟩;show SV _ (eL ns (oF (.int (k:Int))) (oB as3) (oF h.d) (oF m.d) x5 x6 x7 x8 x9) _;walk_at "wp";refine BI (UO ok om) fun x _ e=>?_;subst e;refine⟨_,_,rfl,h5,AE ?_⟩;show SV _ (eL ns (oF (.int (k:Int))) (oB as3) (oF h.d) (oF m.d) (oF m.d) x6 x7 x8 x9) _;walk_at "wp";refine BI (Xa ok om) fun x _ e=>?_;subst e;refine⟨_,_,rfl,h6,AE ?_⟩;show SV _ (eL ns (oF (.int (k:Int))) (oB as3) (oF h.d) (oF m.d) (oF m.d) (oF (.str (HT m))) x7 x8 x9) _;walk_at "wp";refine BI (W9 ok om) fun x _ e=>?_;subst e;walk_at "wp";refine BI (s_same _) fun x _ e=>?_;subst e;walk_at "wp";refine⟨_,T9 m,?_⟩;walk_at "wp";refine BI (SO ok om) fun x _ e=>?_;subst e;refine⟨_,_,rfl,h7,AE ?_⟩;show SV _ (eL ns (oF (.int (k:Int))) (oB as3) (oF h.d) (oF m.d) (oF m.d) (oF (.str (HT m))) (some (.own,mA m)) x8 x9) _;refine CC (GJ (EO (ER (JB (BU (Dq rfl (BU (Dq rfl (DF ⟨[m.d,m.d],?_,?_⟩)))))))))
 .show(er (mA m)).bind _=_
  rw[Ra];rfl
 refine BI (PB ok om) fun x _ e=>?_;subst e;refine⟨rfl,?_⟩;walk_at "wp";have g1:Nh (eL ns (oF (.int (k:Int))) (oB as3) (oF h.d) (oF m.d) (oF m.d) (oF (.str (HT m))) (some (.own,mA m)) x8 x9) 7 [0,0]=some (.own,mA m,(iL l).map A.fz):=by
  show(match Il [0,0] (mA m) with|some (.lst bs)=>some (Own.own,mA m,bs)|_=>none)=_;unfold mA;rw[hls];rfl
 refine SY g1 (by rw[List.length_map,Bs]; lia) (AE ?_);have eB:Jj [0,0] (.lst ((iL l).map A.fz++[.fz (.int 9)])) (mA m)=.tup [.lst (.lst ((iL l).map A.fz++[.fz (.int 9)])::ls.map lsA),lsA m.gd]:=by
  unfold mA;rw[hls];rfl
 show SV _ (eL ns (oF (.int (k:Int))) (oB as3) (oF h.d) (oF m.d) (oF m.d) (oF (.str (HT m))) (some (.own,Jj [0,0] (.lst ((iL l).map A.fz++[.fz (.int 9)])) (mA m))) x8 x9) _;rw[eB];refine CC (SY (st:=.own) rfl (show((iL m.gd).map A.fz).length<LIM by rw[List.length_map,Bs]; lia) (AE ?_));generalize Jj [1] (.lst (_++[.fz (.int 99)])) _=C;clear g1 eB;show SV _ (eL ns (oF (.int (k:Int))) (oB as3) (oF h.d) (oF m.d) (oF m.d) (oF (.str (HT m))) (some (.own,C)) x8 x9) _;refine CC (GJ (EO (ER (JB (BU ?_)))));walk_at "wp";refine BI (SO ok om) fun x _ e=>?_;subst e;refine BU (Dq rfl (DF ⟨[m.d,m.d],?_,?_⟩))
 .show(er (mA m)).bind _=_
  rw[Ra];rfl
 refine BI (PB ok om) fun x _ e=>?_;subst e;refine⟨rfl,?_⟩;walk_at "wp";refine B0 t6 ?_;refine⟨_,_,rfl,h8,AE ?_⟩;show SV _ (eL ns (oF (.int (k:Int))) (oB as4) (oF h.d) (oF m.d) (oF m.d) (oF (.str (HT m))) (some (.own,C)) (oF bd) x9) _;refine CC (GJ (EO (ER (Li (OI rfl (UK ok nm)) ?_))));walk_at "wp";refine B0 t7 ?_;refine⟨_,_,rfl,h9,AE ?_⟩;show SV _ (eL ns (oF (.int (k:Int))) (oB as5) (oF h.d) (oF m.d) (oF m.d) (oF (.str (HT m))) (some (.own,C)) (oF bd) (oF nd)) _;refine CC (GJ (EO (ER (Li (OI rfl (UJ nh)) ?_))));walk_at "wp";have hl:=U5 ok om;have e9:Qm (eL ns (oF (.int (k:Int))) (oB as5) (oF h.d) (oF m.d) (oF m.d) (oF (.str (HT m))) (some (.own,C)) (oF bd) (oF nd)) [.nm 9,.nt 6 "?"]=some [O nd,O (.str (HT m ++ "?"))]:=by
  have c:(HT m).length+("?" : Str).length<=sizeLine:=by
   have:("?" : Str).length<=1:=by decide +kernel
   have:100000<=sizeLine:=by decide
   lia
  show(some (Own.own,A.fz nd)).bind (fun a=>((if (HT m).length+("?" : Str).length<=sizeLine then some (Own.own,A.fz (.str (HT m ++ "?"))) else none).bind fun b=>(some []).map (b :: ·)).map (a :: ·))=_;rw[if_pos c];rfl
 refine Li (OI e9 (W0 nh)) ?_;walk_at "wp";exact q _ _ _ _ _ _ _ _ rfl rfl rfl rfl rfl rfl rfl rfl
end
def RO(ns:List Int)(hl:ns.length<=63):∃as',Ij [(.ro,.scr ns)]=some (.fz (.bl true),as'):=by
 suffices hh:FV Ij [(.ro,.scr ns)] fun a _=>a=.fz (.bl true) by
  obtain⟨a,os,e,rfl⟩:=hh;exact⟨os,e⟩
 refine DS rfl rfl ?_;show SV LN (eL ns none none none none none none none none none) _;unfold LN;refine CC (Kv (Io ?_));walk_at "wp";refine⟨⟨by split<;>split<;>lia,by split<;>split<;>lia⟩,fun _ Z=>∃x1 x2 x3 x4 x5 x6 x7 x8 x9,Fr x1/\Fr x2/\Fr x3/\Fr x4/\Fr x5/\Fr x6/\Fr x7/\Fr x8/\Fr x9/\Z=eL ns x1 x2 x3 x4 x5 x6 x7 x8 x9,⟨none,none,none,none,none,none,none,none,none,rfl,rfl,rfl,rfl,rfl,rfl,rfl,rfl,rfl,rfl⟩,fun j d Z hd hI=>?_,fun Z hI=>?_⟩
 .obtain⟨x1,x2,x3,x4,x5,x6,x7,x8,x9,h1,h2,h3,h4,h5,h6,h7,h8,h9,rfl⟩:=hI
  obtain⟨rfl,hj⟩:=U3 hd;clear hd hj;refine⟨_,Ju h1,?_⟩;show SV _ (eL ns (oF (.int (j:Int))) x2 x3 x4 x5 x6 x7 x8 x9) _;exact S6 h2 h3 h4 h5 h6 h7 h8 h9 fun y2 y3 y4 y5 y6 y7 y8 y9 k2 k3 k4 k5 k6 k7 k8 k9=>Js ⟨_,_,_,_,_,_,_,_,_,rfl,k2,k3,k4,k5,k6,k7,k8,k9,rfl⟩
 obtain⟨x1,x2,x3,x4,x5,x6,x7,x8,x9,h1,h2,h3,h4,h5,h6,h7,h8,h9,rfl⟩:=hI;refine AE ?_;walk_at "wp";rfl
end Gk62
end
section
namespace Gk62
open PySem PySem.Spec PyProof.Rows L2 J
def Fe(K:Frag)(n:Str)(st:Stmt):Prop:=∃(f:Addr) (fd:FuncData),PySem.W.nsIn K mainGlobals n=some (some (.ref f))/\Fun K n n st f fd
theorem XS{K:Frag}{n:Str}{st:Stmt}{f:Addr}{oc:Value}{od an:Option Addr}{sl:Array (Option Value)}{kV dc pm cd ct:Value}(a:PySem.W.nsIn K mainGlobals n=some (some (.ref f)))(l:K.lookup f=some ⟨oc,od,.func (PySem.W.fnOf n n (EW st) (Cn st) (As st) .none kV dc pm an cd ct),sl⟩)(c:PySem.W.codeIn K cd n=true)(k:PySem.W.keepIn K (.ref f)=true):Fe K n st:=⟨f,_,a,VT l c k⟩
def df{CX:CXT}(P:Program)(w:World){K:Frag}{h:Heap}{mg:Str->Option Value}{N:Nat}{n:Str}{st:Stmt}{ps:List Str}{sp:Sp}(X:K.In h)(G:h.Ns mainGlobals mg)(e:Fe K n st)(ok:∀{f fd},Fun K n n st f fd->∀base,FnOk P w K mg base CX N f fd ps sp)(hb:∀(kV doc pm:Value) (an:Option Addr) (cdv ct:Value) (us:List Value),us.length=ps.length->bindArgs (PySem.W.fnOf n n (EW st) (Cn st) (As st) .none kV doc pm an cdv ct) ⟨us,[]⟩=pure (ps.zip us)):∀base,Def P w K mg base CX N n ps sp:=by
 obtain⟨f,fd,a,F⟩:=e;exact fun base=>⟨f,fd,PySem.W.mg_of X G a,F.kp,F.binds hb,ok F base⟩
def ar1{α:Type}{P:List α -> Prop}(h:∀a,P [a])(us:List α)(e:us.length=1):P us:=by
 obtain⟨a,rfl⟩:=We e;exact h a
def ar2{α:Type}{P:List α -> Prop}(h:∀a b,P [a,b])(us:List α)(e:us.length=2):P us:=by
 obtain⟨a,b,rfl⟩:=YX e;exact h a b
def ar3{α:Type}{P:List α -> Prop}(h:∀a b c,P [a,b,c])(us:List α)(e:us.length=3):P us:=by
 cases us with
 | nil=>cases e
 | cons a t=>exact ar2 (P:=fun t=>P (a::t)) (h a) t (Nat.succ.inj e)
def xok(K:Frag)(C HE:Addr)(wd:Str):Bool:=
 PySem.W.nsIn K mainGlobals wd==some (some (.ref C))&&PySem.W.excIn K C Ta "ValueError.__new__" && PySem.W.nsIn K mainGlobals "HandError" == some (some (.ref HE))&&PySem.W.excIn K HE Ta "ValueError.__new__" && PySem.W.mroIn K C (.ref HE)==some true&&!(C==HE)
 && PySem.W.findIn K (.ref C) "__getattribute__" == some (some (.builtin "BaseException.__getattribute__"))&&PySem.W.findIn K (.ref C) "__getattr__" == some none&&PySem.W.findIn K (.ref C) "__class__" == some (some (.builtin "object.__class__"))&&PySem.W.mroIn K C (.type "object")==some true&&PySem.W.mroIn K C (.type "BaseException")==some true
 && (PySem.W.clsIn K C).isSome&&(MW.all fun y=>match PySem.W.nsIn K mainGlobals y with|some (some (.ref a))=>PySem.W.kitOne K (.ref C) (.ref a)==some (y==wd)|_=>false)&&PySem.W.nsIn K mainGlobals "ValueError" == some none&&PySem.W.kitOne K (.ref C) (.type "ValueError")==some true
def Tf{K:Frag}{h:Heap}{mg:Str->Option Value}{C HE:Addr}{wd:Str}(X:K.In h)(G:h.Ns mainGlobals mg)(e:xok K C HE wd=true):Exc K mg wd C/\mg "HandError" = some (.ref HE)/\(∀base,K.In base->Above base C HE)/\XW K mg C wd:=by
 simp only[xok,Bool.and_eq_true,beq_iff_eq,Bool.not_eq_true',List.all_eq_true] at e;obtain⟨⟨⟨⟨⟨⟨⟨⟨⟨⟨⟨⟨⟨⟨e1,e2⟩,e3⟩,e4⟩,e5⟩,e6⟩,e7⟩,e8⟩,e9⟩,e10⟩,e11⟩,e12⟩,e13⟩,e14⟩,e15⟩:=e;refine⟨⟨PySem.W.mg_of X G e1,e2⟩,PySem.W.mg_of X G e3,fun base hK=>QV hK e2 e4 e5 (by simpa using e6),⟨e7,e8,e9,e10,e11⟩,e12,fun y hy=>?_,PySem.W.mg_none_of X G e14,e15⟩;have q:=e13 y hy;split at q
 .rename_i a ha
  exact⟨a,PySem.W.mg_of X G ha,by simpa using q⟩
 .cases q
def all_mk{l:PySem.W.OpenLaw}{w:World}{K:Frag}{h:Heap}{mg:Str->Option Value}{fa:Addr}(X:K.In h)(G:h.Ns mainGlobals mg)(hfa:mg "law" = some (.ref fa))(e0:Fe K "is_pair" (top 20))(e1:Fe K "is_whole" (top 18))(e2:Fe K "is_count_of_hands" (top 29))(e3:Fe K "is_number_below" (top 19))(e4:Fe K "are_numbers_below" (top 22))(e5:Fe K "is_list_of_numbers_below" (top 21))(e6:Fe K "is_rising_list_below" (top 23))(e7:Fe K "is_small_letter" (top 32))(e8:Fe K "is_entry" (top 31))(e9:Fe K "are_entries" (top 30))(e10:Fe K "is_house" (top 28))(e11:Fe K "need_house" (top 33))(e12:Fe K "are_moves_of_room" (top 38))(e13:Fe K "are_moves" (top 37))(e14:Fe K "is_machine" (top 36))(e15:Fe K "_law_bag" (top 52))(e16:Fe K "_law_take" (top 53))(e17:Fe K "_law_house" (top 54))(e18:Fe K "_law_machine" (top 55))(e19:Fe K "_law_machine_copy" (top 59))(e20:Fe K "_law_machine_text" (top 66))(e21:Fe K "need_written" (top 47))(e22:Fe K "rows_of_words" (top 46))(e23:Fe K "need_machine" (top 39))(e24:Fe K "is_number_word" (top 44))(e25:Fe K "are_numbers_behind" (top 48))(e26:Fe K "numbers_behind" (top 49))(e27:Fe K "read_machine" (top 45))(e28:Fe K "_law_no_machine" (top 65))(e29:Fe K "_law_no_house" (top 64))(e30:Fe K "_law_whole" (top 56))(e31:Fe K "_law_numbers" (top 62))(e32:Fe K "_law_alike_machine" (top 63))(e33:Fe K "_law_cell" (top 51))(e34:Fe K "_law_same" (top 57))(e35:Fe K "with_numbers" (top 43))(e36:Fe K "show_machine" (top 42))(e37:Fe K "law" (top 67))(e__law_word:Fe K "_law_word" (top 58))(e__law_answer:Fe K "_law_answer" (top 60))(e__law_refuses:Fe K "_law_refuses" (top 61)){t_FEWEST_HANDS:Tok}(i_FEWEST_HANDS:PySem.W.nsIn K mainGlobals "FEWEST_HANDS" = some (some (.int 2 t_FEWEST_HANDS))){t_MOST_HANDS:Tok}(i_MOST_HANDS:PySem.W.nsIn K mainGlobals "MOST_HANDS" = some (some (.int 4 t_MOST_HANDS))){t_MOST_LETTERS:Tok}(i_MOST_LETTERS:PySem.W.nsIn K mainGlobals "MOST_LETTERS" = some (some (.int 6 t_MOST_LETTERS))){t_MOST_ROOMS:Tok}(i_MOST_ROOMS:PySem.W.nsIn K mainGlobals "MOST_ROOMS" = some (some (.int 30 t_MOST_ROOMS)))(z_isinstance:PySem.W.nsIn K mainGlobals "isinstance" = some none)(Tg:PySem.W.nsIn K mainGlobals "len" = some none)(z_all:PySem.W.nsIn K mainGlobals "all" = some none)(z_any:PySem.W.nsIn K mainGlobals "any" = some none)(z_range:PySem.W.nsIn K mainGlobals "range" = some none)(z_list:PySem.W.nsIn K mainGlobals "list" = some none)(z_int:PySem.W.nsIn K mainGlobals "int" = some none)(z_bool:PySem.W.nsIn K mainGlobals "bool" = some none)(z_tuple:PySem.W.nsIn K mainGlobals "tuple" = some none)(z_str:PySem.W.nsIn K mainGlobals "str" = some none)(z_abs:PySem.W.nsIn K mainGlobals "abs" = some none)(z_max:PySem.W.nsIn K mainGlobals "max" = some none)(z_min:PySem.W.nsIn K mainGlobals "min" = some none)(z_dict:PySem.W.nsIn K mainGlobals "dict" = some none)(z_sorted:PySem.W.nsIn K mainGlobals "sorted" = some none)(z_set:PySem.W.nsIn K mainGlobals "set" = some none)(z_enumerate:PySem.W.nsIn K mainGlobals "enumerate" = some none)(z_zip:PySem.W.nsIn K mainGlobals "zip" = some none)(z_reversed:PySem.W.nsIn K mainGlobals "reversed" = some none){c_law b_law:Addr}(ht_law:PySem.W.tabIn K "law" = some (c_law,b_law))(hh_law:PySem.W.codeHdIn K c_law b_law=true)(j_FIGURES:GS0 K "FIGURES" (Str.ofString "0123456789")){HE:Addr}{C_NoMachine:Addr}(hx_NoMachine:xok K C_NoMachine HE "NoMachine" = true){C_NoHouse:Addr}(hx_NoHouse:xok K C_NoHouse HE "NoHouse" = true): ∃fd:FuncData,(∀(s:Shared) (v:Value),BindsTo s fd ⟨[v],[]⟩ [("_law_script",v)])/\∀base:Heap,K.In base->base.Ns mainGlobals mg->FnOk l.prog w K mg base CX0 17 fa fd ["_law_script"] (spJ K Ij 1):=by
 have z {n:Str} (e:PySem.W.nsIn K mainGlobals n=some none):=PySem.W.mg_none_of X G e;have B:Blt mg K:=⟨z z_isinstance,z Tg,z z_all,z z_any,z z_range,z z_list,z z_int,z z_bool,z z_tuple,z z_str,z z_abs,z z_max,z z_min,z z_dict⟩;have B2:Blt2 mg:=⟨z z_sorted,z z_set,z z_enumerate,z z_zip,z z_reversed⟩;have Ik:=XZ X G j_FIGURES;have EL:GInt mg "FEWEST_HANDS" 2:=⟨⟨_,PySem.W.mg_of X G i_FEWEST_HANDS⟩⟩;have FE:GInt mg "MOST_HANDS" 4:=⟨⟨_,PySem.W.mg_of X G i_MOST_HANDS⟩⟩;have EM:GInt mg "MOST_LETTERS" 6:=⟨⟨_,PySem.W.mg_of X G i_MOST_LETTERS⟩⟩;have FF:GInt mg "MOST_ROOMS" 30:=⟨⟨_,PySem.W.mg_of X G i_MOST_ROOMS⟩⟩;have C5:=df l.prog w X G e0 (fun F s=>OB F B B2) fun _ _ _ _ _ _=>ar1 fun _=>rfl;have DW:=df l.prog w X G e1 (fun F s=>NA F B B2) fun _ _ _ _ _ _=>ar1 fun _=>rfl;have Di:=df l.prog w X G e2 (fun F s=>GD F B B2 (DW s) EL FE) fun _ _ _ _ _ _=>ar1 fun _=>rfl;have DB:=df l.prog w X G e3 (fun F s=>Hj F B B2 (DW s)) fun _ _ _ _ _ _=>ar2 fun _ _=>rfl;have Dh:=df l.prog w X G e4 (fun F s=>GC F B B2 (DB s)) fun _ _ _ _ _ _=>ar2 fun _ _=>rfl;have AZ:=df l.prog w X G e5 (fun F s=>Eu F B B2 (Dh s)) fun _ _ _ _ _ _=>ar2 fun _ _=>rfl;have Bi:=df l.prog w X G e6 (fun F s=>Fq F B B2 (AZ s)) fun _ _ _ _ _ _=>ar2 fun _ _=>rfl;have DC:=df l.prog w X G e7 (fun F s=>Hk F B B2) fun _ _ _ _ _ _=>ar1 fun _=>rfl;have G4:=df l.prog w X G e8 (fun F s=>Ny F B B2 (Bi s) (C5 s) (DC s)) fun _ _ _ _ _ _=>ar2 fun _ _=>rfl;have E4:=df l.prog w X G e9 (fun F s=>J4 F B B2 (G4 s) EM) fun _ _ _ _ _ _=>ar2 fun _ _=>rfl
 have DU:=df l.prog w X G e10 (fun F s=>Nz F B B2 (C5 s) (Di s) (E4 s)) fun _ _ _ _ _ _=>ar1 fun _=>rfl;have C6:=df l.prog w X G e11 (fun F s=>KP F B B2 (DU s)) fun _ _ _ _ _ _=>ar1 fun _=>rfl;have Df:=df l.prog w X G e12 (fun F s=>GB F B B2 (AZ s)) fun _ _ _ _ _ _=>ar3 fun _ _ _=>rfl;have Gf:=df l.prog w X G e13 (fun F s=>Mh F B B2 (Df s) FF) fun _ _ _ _ _ _=>ar2 fun _ _=>rfl;have C4:=df l.prog w X G e14 (fun F s=>KO F B B2 (C6 s) (Bi s) (C5 s) (Gf s)) fun _ _ _ _ _ _=>ar2 fun _ _=>rfl;have G3:=df l.prog w X G e15 (fun F s=>Nw F B B2) fun _ _ _ _ _ _=>ar1 fun _=>rfl;have Av:=df l.prog w X G e16 (fun F s=>Mg F B B2) fun _ _ _ _ _ _=>ar2 fun _ _=>rfl;have Fx:=df l.prog w X G e17 (fun F s=>KJ F B B2 (Av s)) fun _ _ _ _ _ _=>ar1 fun _=>rfl;have EB:=df l.prog w X G e18 (fun F s=>Jb F B B2 (Av s)) fun _ _ _ _ _ _=>ar3 fun _ _ _=>rfl;have Dd:=df l.prog w X G e19 (fun F s=>Gz F B B2) fun _ _ _ _ _ _=>ar1 fun _=>rfl;have De:=df l.prog w X G e20 (fun F s=>GA F B B2) fun _ _ _ _ _ _=>ar1 fun _=>rfl;have B5:=df l.prog w X G e21 (fun F s=>Je F B B2) fun _ _ _ _ _ _=>ar1 fun _=>rfl;have Ek:=df l.prog w X G e22 (fun F s=>IE F B B2 (B5 s)) fun _ _ _ _ _ _=>ar1 fun _=>rfl;have Co:=df l.prog w X G e23 (fun F s=>Jd F B B2 (C4 s)) fun _ _ _ _ _ _=>ar2 fun _ _=>rfl;have DV:=df l.prog w X G e24 (fun F s=>HQ F B B2 Ik) fun _ _ _ _ _ _=>ar1 fun _=>rfl;have Cd:=df l.prog w X G e25 (fun F s=>Gb F B B2 (DV s)) fun _ _ _ _ _ _=>ar2 fun _ _=>rfl;have C7:=df l.prog w X G e26 (fun F s=>HS F B B2) fun _ _ _ _ _ _=>ar1 fun _=>rfl
 have DD:=df l.prog w X G e27 (fun F s=>Jf F B B2 (C6 s) (Ek s) (B5 s) (Co s) (Cd s) (C7 s)) fun _ _ _ _ _ _=>ar2 fun _ _=>rfl;have DA:=df l.prog w X G e28 (fun F s=>Hi F B B2 (Av s)) fun _ _ _ _ _ _=>ar2 fun _ _=>rfl;have Ej:=df l.prog w X G e29 (fun F s=>IC F B B2 (Av s)) fun _ _ _ _ _ _=>ar2 fun _ _=>rfl;have BS:=df l.prog w X G e30 (fun F s=>KN F B B2) fun _ _ _ _ _ _=>ar1 fun _=>rfl;have EC:=df l.prog w X G e31 (fun F s=>Jc F B B2 (BS s)) fun _ _ _ _ _ _=>ar2 fun _ _=>rfl;have Cc:=df l.prog w X G e32 (fun F s=>Ga F B B2 (EC s) (BS s)) fun _ _ _ _ _ _=>ar2 fun _ _=>rfl;have Gd:=df l.prog w X G e33 (fun F s=>Me F B B2) fun _ _ _ _ _ _=>ar2 fun _ _=>rfl;have Hy:=df l.prog w X G e34 (fun _ _=>KL) fun _ _ _ _ _ _=>ar2 fun _ _=>rfl;have Ge:=df l.prog w X G e34 (fun F s=>Mf F B B2 (BS s) (Hy s)) fun _ _ _ _ _ _=>ar2 fun _ _=>rfl;have DE:=df l.prog w X G e35 (fun F s=>Jh F B B2) fun _ _ _ _ _ _=>ar2 fun _ _=>rfl;have ED:=df l.prog w X G e36 (fun F s=>Jg F B B2 (Co s) (DE s)) fun _ _ _ _ _ _=>ar2 fun _ _=>rfl;obtain⟨X_NoMachine,hHE,hab_NoMachine,W_NoMachine⟩:=Tf X G hx_NoMachine;obtain⟨X_NoHouse,hHE,hab_NoHouse,W_NoHouse⟩:=Tf X G hx_NoHouse;obtain⟨fw,fdw,aw,Fw⟩:=e__law_word;obtain⟨fA,fdA,aA,FA⟩:=e__law_answer;obtain⟨fR,fdR,aR,FR⟩:=e__law_refuses;have R_NoMachine:∀base,K.In base->Rfs l.prog w K mg base 16 13 C_NoMachine "NoMachine" := fun base hK=>NK FR dK (PySem.W.mg_of X G aR) (MZ (j:=2) FA (PySem.W.mg_of X G aA) hHE (hab_NoMachine base hK) ⟨fw,fdw,PySem.W.mg_of X G aw,Fw.kp,Fw.binds (fun _ _ _ _ _ _=>ar1 fun _=>rfl),Pn Fw B W_NoMachine dK⟩ fun a o q=>Ji q)
 have R_NoHouse:∀base,K.In base->Rfs l.prog w K mg base 16 13 C_NoHouse "NoHouse" := fun base hK=>NK FR dK (PySem.W.mg_of X G aR) (MZ (j:=0) FA (PySem.W.mg_of X G aA) hHE (hab_NoHouse base hK) ⟨fw,fdw,PySem.W.mg_of X G aw,Fw.kp,Fw.binds (fun _ _ _ _ _ _=>ar1 fun _=>rfl),Pn Fw B W_NoHouse dK⟩ fun a o q=>KY q);have DR_need_house:=df (sp:=spR K (fun(y:Str)=>if y = "NoMachine" then C_NoMachine else C_NoHouse) B3 1) l.prog w X G e11 (fun F s=>J3 F B B2 (DU s) X_NoHouse) (fun _ _ _ _ _ _=>ar1 fun _=>rfl);have DR_is_machine:=df (sp:=spR K (fun(y:Str)=>if y = "NoMachine" then C_NoMachine else C_NoHouse) CK 2) l.prog w X G e14 (fun F s=>J1 F B B2 (DR_need_house s)) (fun _ _ _ _ _ _=>ar2 fun _ _=>rfl);have DR_need_machine:=df (sp:=spR K (fun(y:Str)=>if y = "NoMachine" then C_NoMachine else C_NoHouse) Ca 2) l.prog w X G e23 (fun F s=>Iz F B B2 (C4 s) (DR_is_machine s) X_NoMachine) (fun _ _ _ _ _ _=>ar2 fun _ _=>rfl);have DR_show_machine:=df (sp:=spR K (fun(y:Str)=>if y = "NoMachine" then C_NoMachine else C_NoHouse) Bp 2) l.prog w X G e36 (fun F s=>IB F B B2 (DR_need_machine s)) (fun _ _ _ _ _ _=>ar2 fun _ _=>rfl);have DR_read_machine:=df (sp:=spR K (fun(y:Str)=>if y = "NoMachine" then C_NoMachine else C_NoHouse) Cb 2) l.prog w X G e27 (fun F s=>IA F B B2 (DR_need_house s)) (fun _ _ _ _ _ _=>ar2 fun _ _=>rfl);obtain⟨f,fd,a,F⟩:=e37;cases hfa.symm.trans (PySem.W.mg_of X G a);refine⟨fd,?_,fun s hK _=>Wu (XC:=fun(y:Str)=>if y = "NoMachine" then C_NoMachine else C_NoHouse) F a ht_law hh_law B B2 (G3 s) (Fx s) (EB s) (Dd s) (De s) (DD s) (DA s) (Ej s) (Cc s) (Gd s) (Ge s) (Av s) (ED s) (DR_show_machine s) (DR_read_machine s) (R_NoMachine s hK) (R_NoHouse s hK)⟩
 obtain⟨_,_,_,_,_,_,_,_,_,rfl,_,_⟩:=F.ex;exact fun s v=>.of_eq rfl
theorem walk{l:PySem.W.OpenLaw}{q:Program}{loose:List Str}{XP:(Str->Option Value)->Heap->Prop}{YP:World->Heap->Prop}{d:DefRec}{K:Params->Frag}(hn:l.most=some 63)(hdf:d.params.defaults=[])(hY:∀(w:World) (h:Heap),YP w h->(K w.params).In h)(F:∀(w:World) (mg:Str->Option Value) (fa:Addr) (h:Heap),(K w.params).In h->h.Ns mainGlobals mg->mg d.name=some (.ref fa) ->
   ∃fd:FuncData,(∀(s:Shared) (u:Value),BindsTo s fd ⟨[u],[]⟩ [("_law_script",u)])/\∀base:Heap,(K w.params).In base->base.Ns mainGlobals mg->FnOk l.prog w (K w.params) mg base CX0 17 fa fd ["_law_script"] (spJ (K w.params) Ij 1))(hT:∀(w:World) (n qn:Str),(n,qn)∈JY->∀(c b:Addr),PySem.W.tabIn (K w.params) n=some (c,b)->(∃d2,(recsOf q).find? (fun e=>e.name==n)=some d2)/\(K w.params).lookup b=none)(hU:∀w:World,QR (K w.params)):
  PySem.W.WalkO q loose XP YP l.row.toRowW d [] (fun f vs=>PySem.call f vs):=
 L2.U4 (n:=63) (k:=17) (x := "_law_script") (CX:=fun _=>CX0) (sp:=fun w=>spJ (K w.params) Ij 1) hn (by decide) hdf ⟨rfl,by decide,by decide⟩ hY F (fun _ H a ns hl hO hS=>let⟨_,e⟩:=RO ns hl; Wc hl hO hS e) (fun _ _ _ _ _ z=>z) hT hU
def fo(n:Str)(i:Nat)(m:Str)(t:Tok)(c:Addr):Obj:={ cls:=.type "function",data:=.func (PySem.W.fnOf n n (EW (top i)) (Cn (top i)) (As (top i)) .none .none .none (.str m t) none (.ref c) .none) }
def co(n:Str)(t:Nat)(l k:Int)(r:Nat)(x y:Value)(q:Nat)(u:Int)(v:Nat):Obj:={ cls:=.type "code",data:=.fields #[.str n t,.str n (t+1),.str "/claim/cut.py" (t+2),.int l 0,.int k 0,.int 0 0,.int 0 0,.int 3 0,.ref r,.bool true,.int 181 0,.ref (r+1),.none,x,y,.ref q,.int u 0,.int l 0,.str "/claim/cut.py" v] }
def en(P:Params)(n:Str)(t:Tok)(v:Value):DictEntry:=⟨PyData.keyHash P n,.str n t,v⟩
def kc(n:Str)(bs m:List Value)(ns:Addr)(sb:List Value)(b:Addr)(t u:Tok):Obj:={ cls:=.type "type",data:=.cls { name:=n,bases:=bs,mro:=m++[.type "ValueError",.type "Exception",.type "BaseException",.type "object"],ns:=ns,qualname:=n,subclasses:=sb },slots:=#[some (.ref b),none,some (.str n t),some (.str n u),some (.builtin "ValueError.__new__"),some (.bool true)] }
def nd(es:Array DictEntry)(ep:Nat):Obj:={ cls:=.type "dict",data:=.dict es ep }
def gE(P:Params):List DictEntry:=[en P "__name__" 165 (.str "law_handsapart_k62_machines_written" 649),
 en P "__doc__" 166 .none,
 en P "__package__" 167 .none,
 en P "__loader__" 168 (.builtin "__main__.__loader__#opaque"),
 en P "__spec__" 169 .none,
 en P "__annotations__" 170 (.ref 6),
 en P "__builtins__" 171 (.ref 4),
 en P "__file__" 173 (.str "/claim/cut.py" 172),
 en P "__cached__" 174 .none,
 en P "HandError" 206 (.ref 24),
 en P "NoHouse" 222 (.ref 37),
 en P "NoRow" 238 (.ref 49),
 en P "NoMachine" 254 (.ref 61),
 en P "NoRoom" 270 (.ref 73),
 en P "NoHand" 286 (.ref 85),
 en P "Unlike" 302 (.ref 97),
 en P "NoPast" 318 (.ref 109),
 en P "TooMany" 334 (.ref 121),
 en P "Torn" 361 (.ref 140),
 en P "NoTable" 377 (.ref 152),
 en P "NoSet" 393 (.ref 164),
 en P "Falls" 418 (.ref 183),
 en P "Whole" 434 (.ref 195),
 en P "NoText" 450 (.ref 207),
 en P "NoWord" 466 (.ref 219),
 en P "is_whole" 475 (.ref 228),
 en P "is_number_below" 483 (.ref 235),
 en P "is_pair" 490 (.ref 242),
 en P "is_list_of_numbers_below" 498 (.ref 249),
 en P "are_numbers_below" 504 (.ref 254),
 en P "is_rising_list_below" 510 (.ref 259),
 en P "FEWEST_HANDS" 514 (.int 2 513),
 en P "MOST_HANDS" 516 (.int 4 515),
 en P "MOST_LETTERS" 518 (.int 6 517),
 en P "is_house" 525 (.ref 266),
 en P "is_count_of_hands" 532 (.ref 273),
 en P "are_entries" 538 (.ref 278),
 en P "is_entry" 546 (.ref 285),
 en P "is_small_letter" 553 (.ref 292),
 en P "need_house" 560 (.ref 299),
 en P "MOST_ROOMS" 564 (.int 30 563),
 en P "is_machine" 572 (.ref 306),
 en P "are_moves" 578 (.ref 311),
 en P "are_moves_of_room" 587 (.ref 318),
 en P "need_machine" 595 (.ref 325),
 en P "FIGURES" 599 (.str "0123456789" 598),
 en P "show_machine" 605 (.ref 330),
 en P "with_numbers" 611 (.ref 335),
 en P "is_number_word" 617 (.ref 340),
 en P "read_machine" 623 (.ref 345),
 en P "rows_of_words" 629 (.ref 350),
 en P "need_written" 636 (.ref 357),
 en P "are_numbers_behind" 642 (.ref 362),
 en P "numbers_behind" 648 (.ref 367),
 en P "_law_cell" 658 (.ref 374),
 en P "_law_bag" 665 (.ref 381),
 en P "_law_take" 674 (.ref 388),
 en P "_law_house" 680 (.ref 393),
 en P "_law_machine" 686 (.ref 398),
 en P "_law_whole" 693 (.ref 405),
 en P "_law_same" 699 (.ref 410),
 en P "_law_word" 705 (.ref 415),
 en P "_law_machine_copy" 711 (.ref 420),
 en P "_law_answer" 719 (.ref 427),
 en P "_law_refuses" 727 (.ref 434),
 en P "_law_numbers" 733 (.ref 439),
 en P "_law_alike_machine" 739 (.ref 444),
 en P "_law_no_house" 745 (.ref 449),
 en P "_law_no_machine" 751 (.ref 454),
 en P "_law_machine_text" 757 (.ref 459),
 en P "law" 773 (.ref 466)]
def gD(P:Params):Obj:={ cls:=.type "dict",data:=.dict (gE P).toArray 71 }
def Kf:Params->Frag:=fun P=>(nat_lit 3,gD P) ::
 (nat_lit 23,nd #[en P "__module__" 196 (.str "handsapart.errors" 187),en P "__firstlineno__" 200 (.int 2 199),en P "__static_attributes__" 201 (.ref 22),en P "__weakref__" 203 (.ref 25),en P "__doc__" 204 .none] 3) ::
 (nat_lit 24,kc "HandError" [.type "ValueError"] [.ref 24] 23 [.ref 37,.ref 49,.ref 61,.ref 73,.ref 85,.ref 97,.ref 109,.ref 121,.ref 140,.ref 152,.ref 164,.ref 183,.ref 195,.ref 207,.ref 219] 15 189 197) ::
 (nat_lit 36,nd #[en P "__module__" 214 (.str "handsapart.errors" 187),en P "__firstlineno__" 218 (.int 4 217),en P "__static_attributes__" 219 (.ref 35),en P "__doc__" 220 .none] 2) ::
 (nat_lit 37,kc "NoHouse" [.ref 24] [.ref 37,.ref 24] 36 [] 28 207 215) ::
 (nat_lit 49,kc "NoRow" [.ref 24] [.ref 49,.ref 24] 48 [] 40 223 231) ::
 (nat_lit 60,nd #[en P "__module__" 246 (.str "handsapart.errors" 187),en P "__firstlineno__" 250 (.int 8 249),en P "__static_attributes__" 251 (.ref 59),en P "__doc__" 252 .none] 2) ::
 (nat_lit 61,kc "NoMachine" [.ref 24] [.ref 61,.ref 24] 60 [] 52 239 247) ::
 (nat_lit 73,kc "NoRoom" [.ref 24] [.ref 73,.ref 24] 72 [] 64 255 263) ::
 (nat_lit 85,kc "NoHand" [.ref 24] [.ref 85,.ref 24] 84 [] 76 271 279) ::
 (nat_lit 97,kc "Unlike" [.ref 24] [.ref 97,.ref 24] 96 [] 88 287 295) ::
 (nat_lit 109,kc "NoPast" [.ref 24] [.ref 109,.ref 24] 108 [] 100 303 311) ::
 (nat_lit 121,kc "TooMany" [.ref 24] [.ref 121,.ref 24] 120 [] 112 319 327) ::
 (nat_lit 140,kc "Torn" [.ref 24] [.ref 140,.ref 24] 139 [] 124 335 343) ::
 (nat_lit 152,kc "NoTable" [.ref 24] [.ref 152,.ref 24] 151 [] 143 362 370) ::
 (nat_lit 164,kc "NoSet" [.ref 24] [.ref 164,.ref 24] 163 [] 155 378 386) ::
 (nat_lit 183,kc "Falls" [.ref 24] [.ref 183,.ref 24] 182 [] 167 394 402) ::
 (nat_lit 195,kc "Whole" [.ref 24] [.ref 195,.ref 24] 194 [] 186 419 427) ::
 (nat_lit 207,kc "NoText" [.ref 24] [.ref 207,.ref 24] 206 [] 198 435 443) ::
 (nat_lit 219,kc "NoWord" [.ref 24] [.ref 219,.ref 24] 218 [] 210 451 459) ::
 (nat_lit 227,co "is_whole" 469 40 1 222 (.ref 224) (.ref 225) 226 473 474) ::
 (nat_lit 228,fo "is_whole" 18 "handsapart.checks" 467 227) ::
 (nat_lit 234,co "is_number_below" 476 42 2 229 (.ref 231) (.ref 232) 233 481 482) ::
 (nat_lit 235,fo "is_number_below" 19 "handsapart.checks" 467 234) ::
 (nat_lit 241,co "is_pair" 484 44 1 236 (.ref 238) (.ref 239) 240 488 489) ::
 (nat_lit 242,fo "is_pair" 20 "handsapart.checks" 467 241) ::
 (nat_lit 248,co "is_list_of_numbers_below" 491 46 2 243 (.ref 245) (.ref 246) 247 496 497) ::
 (nat_lit 249,fo "is_list_of_numbers_below" 21 "handsapart.checks" 467 248) ::
 (nat_lit 253,co "are_numbers_below" 499 48 2 250 .none .none 252 502 503) ::
 (nat_lit 254,fo "are_numbers_below" 22 "handsapart.checks" 467 253) ::
 (nat_lit 258,co "is_rising_list_below" 505 50 2 255 .none .none 257 508 509) ::
 (nat_lit 259,fo "is_rising_list_below" 23 "handsapart.checks" 467 258) ::
 (nat_lit 265,co "is_house" 519 58 1 260 (.ref 262) (.ref 263) 264 523 524) ::
 (nat_lit 266,fo "is_house" 28 "handsapart.houses" 511 265) ::
 (nat_lit 272,co "is_count_of_hands" 526 62 1 267 (.ref 269) (.ref 270) 271 530 531) ::
 (nat_lit 273,fo "is_count_of_hands" 29 "handsapart.houses" 511 272) ::
 (nat_lit 277,co "are_entries" 533 64 2 274 .none .none 276 536 537) ::
 (nat_lit 278,fo "are_entries" 30 "handsapart.houses" 511 277) ::
 (nat_lit 284,co "is_entry" 539 70 2 279 (.ref 281) (.ref 282) 283 544 545) ::
 (nat_lit 285,fo "is_entry" 31 "handsapart.houses" 511 284) ::
 (nat_lit 291,co "is_small_letter" 547 74 1 286 (.ref 288) (.ref 289) 290 551 552) ::
 (nat_lit 292,fo "is_small_letter" 32 "handsapart.houses" 511 291) ::
 (nat_lit 298,co "need_house" 554 76 1 293 (.ref 295) (.ref 296) 297 558 559) ::
 (nat_lit 299,fo "need_house" 33 "handsapart.houses" 511 298) ::
 (nat_lit 305,co "is_machine" 565 81 2 300 (.ref 302) (.ref 303) 304 570 571) ::
 (nat_lit 306,fo "is_machine" 36 "handsapart.machines" 561 305) ::
 (nat_lit 310,co "are_moves" 573 86 2 307 .none .none 309 576 577) ::
 (nat_lit 311,fo "are_moves" 37 "handsapart.machines" 561 310) ::
 (nat_lit 317,co "are_moves_of_room" 579 90 3 312 (.ref 314) (.ref 315) 316 585 586) ::
 (nat_lit 318,fo "are_moves_of_room" 38 "handsapart.machines" 561 317) ::
 (nat_lit 324,co "need_machine" 588 92 2 319 (.ref 321) (.ref 322) 323 593 594) ::
 (nat_lit 325,fo "need_machine" 39 "handsapart.machines" 561 324) ::
 (nat_lit 329,co "show_machine" 600 97 2 326 .none .none 328 603 604) ::
 (nat_lit 330,fo "show_machine" 42 "handsapart.texts" 596 329) ::
 (nat_lit 334,co "with_numbers" 606 102 2 331 .none .none 333 609 610) ::
 (nat_lit 335,fo "with_numbers" 43 "handsapart.texts" 596 334) ::
 (nat_lit 339,co "is_number_word" 612 104 1 336 .none .none 338 615 616) ::
 (nat_lit 340,fo "is_number_word" 44 "handsapart.texts" 596 339) ::
 (nat_lit 344,co "read_machine" 618 108 2 341 .none .none 343 621 622) ::
 (nat_lit 345,fo "read_machine" 45 "handsapart.texts" 596 344) ::
 (nat_lit 349,co "rows_of_words" 624 117 1 346 .none .none 348 627 628) ::
 (nat_lit 350,fo "rows_of_words" 46 "handsapart.texts" 596 349) ::
 (nat_lit 356,co "need_written" 630 120 1 351 (.ref 353) (.ref 354) 355 634 635) ::
 (nat_lit 357,fo "need_written" 47 "handsapart.texts" 596 356) ::
 (nat_lit 361,co "are_numbers_behind" 637 123 2 358 .none .none 360 640 641) ::
 (nat_lit 362,fo "are_numbers_behind" 48 "handsapart.texts" 596 361) ::
 (nat_lit 366,co "numbers_behind" 643 125 1 363 .none .none 365 646 647) ::
 (nat_lit 367,fo "numbers_behind" 49 "handsapart.texts" 596 366) ::
 (nat_lit 373,co "_law_cell" 651 128 2 368 (.ref 370) (.ref 371) 372 656 657) ::
 (nat_lit 374,fo "_law_cell" 51 "law_handsapart_k62_machines_written" 649 373) ::
 (nat_lit 380,co "_law_bag" 659 132 1 375 (.ref 377) (.ref 378) 379 663 664) ::
 (nat_lit 381,fo "_law_bag" 52 "law_handsapart_k62_machines_written" 649 380) ::
 (nat_lit 387,co "_law_take" 666 136 2 382 (.ref 384) (.ref 385) 386 672 673) ::
 (nat_lit 388,fo "_law_take" 53 "law_handsapart_k62_machines_written" 649 387) ::
 (nat_lit 392,co "_law_house" 675 144 1 389 .none .none 391 678 679) ::
 (nat_lit 393,fo "_law_house" 54 "law_handsapart_k62_machines_written" 649 392) ::
 (nat_lit 397,co "_law_machine" 681 158 3 394 .none .none 396 684 685) ::
 (nat_lit 398,fo "_law_machine" 55 "law_handsapart_k62_machines_written" 649 397) ::
 (nat_lit 404,co "_law_whole" 687 168 1 399 (.ref 401) (.ref 402) 403 691 692) ::
 (nat_lit 405,fo "_law_whole" 56 "law_handsapart_k62_machines_written" 649 404) ::
 (nat_lit 409,co "_law_same" 694 170 2 406 .none .none 408 697 698) ::
 (nat_lit 410,fo "_law_same" 57 "law_handsapart_k62_machines_written" 649 409) ::
 (nat_lit 414,co "_law_word" 700 180 1 411 .none .none 413 703 704) ::
 (nat_lit 415,fo "_law_word" 58 "law_handsapart_k62_machines_written" 649 414) ::
 (nat_lit 419,co "_law_machine_copy" 706 191 1 416 .none .none 418 709 710) ::
 (nat_lit 420,fo "_law_machine_copy" 59 "law_handsapart_k62_machines_written" 649 419) ::
 (nat_lit 426,co "_law_answer" 712 193 1 421 (.ref 423) (.ref 424) 425 717 718) ::
 (nat_lit 427,fo "_law_answer" 60 "law_handsapart_k62_machines_written" 649 426) ::
 (nat_lit 433,co "_law_refuses" 720 198 2 428 (.ref 430) (.ref 431) 432 725 726) ::
 (nat_lit 434,fo "_law_refuses" 61 "law_handsapart_k62_machines_written" 649 433) ::
 (nat_lit 438,co "_law_numbers" 728 200 2 435 .none .none 437 731 732) ::
 (nat_lit 439,fo "_law_numbers" 62 "law_handsapart_k62_machines_written" 649 438) ::
 (nat_lit 443,co "_law_alike_machine" 734 202 2 440 .none .none 442 737 738) ::
 (nat_lit 444,fo "_law_alike_machine" 63 "law_handsapart_k62_machines_written" 649 443) ::
 (nat_lit 448,co "_law_no_house" 740 208 2 445 .none .none 447 743 744) ::
 (nat_lit 449,fo "_law_no_house" 64 "law_handsapart_k62_machines_written" 649 448) ::
 (nat_lit 453,co "_law_no_machine" 746 235 2 450 .none .none 452 749 750) ::
 (nat_lit 454,fo "_law_no_machine" 65 "law_handsapart_k62_machines_written" 649 453) ::
 (nat_lit 458,co "_law_machine_text" 752 256 1 455 .none .none 457 755 756) ::
 (nat_lit 459,fo "_law_machine_text" 66 "law_handsapart_k62_machines_written" 649 458) ::
 (nat_lit 465,co "law" 758 259 1 460 (.ref 462) (.ref 463) 464 771 772) ::
 (nat_lit 466,fo "law" 67 "law_handsapart_k62_machines_written" 649 465)::[]
def MM(P:Params):PySem.W.tabIn (Kf P) "law" = some (nat_lit 465,nat_lit 461):=by kernel_rfl
def VV(P:Params):PySem.W.codeHdIn (Kf P) (nat_lit 465) (nat_lit 461)=true:=by kernel_rfl
def Wj(P:Params):(Kf P).lookup (nat_lit 461)=none:=by kernel_rfl
def NZ(P:Params):PySem.W.tabIn (Kf P) "place_of_first" = none:=by kernel_rfl
def Vs(P:Params){n q:Str}{c b:Addr}(h:(n,q)∈JY)(e:PySem.W.tabIn (Kf P) n=some (c,b)):q=BW/\b=461:=by
 rcases List.mem_cons.mp h with h|h
 .cases h
  rw[MM P] at e;cases e;exact⟨rfl,rfl⟩
 .rcases List.mem_cons.mp h with h|h
  .cases h
   rw[NZ P] at e;cases e
  .cases h
theorem YK(P:Params):QR (Kf P):=fun n q n2 q2 c c2 b h h2 e e2=>by
 rw[(Vs P h e).1,(Vs P h2 e2).1]
theorem LU(P:Params):GS0 (Kf P) "FIGURES" (Str.ofString "0123456789"):=⟨dK,598,by kernel_rfl⟩
def KA(P:Params):xok (Kf P) (nat_lit 61) (nat_lit 24) "NoMachine" = true:=by kernel_rfl
def MV(P:Params):xok (Kf P) (nat_lit 37) (nat_lit 24) "NoHouse" = true:=by kernel_rfl
end Gk62
namespace PySem.W.Fast
def tw9066089157255113065:=0
def tw5220600092698221391:=0
def tw16779405881008968665:=0
def tw2092572373922616437:=0
def tw16045709849431347060:=0
def tw3948502560424534347:=0
def tw10975481172603901628:=0
def tw14461315633417523437:=0
def tw13437913340762780777:=0
def tw5484881927790991831:=0
def tw4008199611633488759:=0
def tw5468073637479930278:=0
def tw11244208667190262523:=0
def tw4635469112758175532:=0
def tw1419287480816515953:=0
def tw3731665109891757390:=0
def tw965946113401624278:=0
def tw189423744507326100:=0
def tw12248787908039810485:=0
def tw5775722487965185659:=0
def tw15016666301028295622:=0
def tw3341309408439294082:=0
def tw18030063628232144135:=0
def tw14769328314821504639:=0
def tw6178499411241931477:=0
def tw5728361285469882169:=0
def tw12117915975323186742:=0
def tw17647573547220451488:=0
def tw18328140270903273936:=0
def tw12462547913844956539:=0
def tw9617120793687536974:=0
def tw6152862467211664627:=0
def tw2846796703979095776:=0
def tw6344131992341445924:=0
def tw13395372250527223469:=0
def tw4784722928730560408:=0
def tw2136706126001628959:=0
def tw12040220299067354228:=0
def tw1753082558052021753:=0
def tw4199287792834800709:=0
def tw599854353748129096:=0
def tw15950737620028759302:=0
def tw11072493986274076239:=0
def tw4566318983431033424:=0
def tw18435927649111242544:=0
def tw15310614143596758333:=0
def tw17278555809829489825:=0
def tw6433456332012480966:=0
def tw17551541857370989217:=0
def tw7022238673735658041:=0
def tw17557244961623722268:=0
def tw4754333559919319148:=0
def tw543588282151516239:=0
def tw15373692928494668237:=0
def tw916725228004759755:=0
def tw5759900578984856481:=0
def tw6710471071255924273:=0
def tw10937431530770338157:=0
def tw7375190058630736741:=0
def tw9772450418722602046:=0
def tw9850289236160920620:=0
def tw125240566552222656:=0
def tw9977813240866669551:=0
def tw11944505988370406559:=0
def tw12980343436316490283:=0
def tw2710062959462164946:=0
def tw17635623727843324694:=0
def tw3479853637353949715:=0
def tw4650789943888927551:=0
def tw6542575420420901834:=0
def tw15118788632545771591:=0
def tw8272214438726211315:=0
def tw11785442239791422123:=0
def tw9679895247398335188:=0
def tw18003508853825707946:=0
def tw4776440983660571248:=0
def tw3420883301302644685:=0
def tw7584067121567491763:=0
def tw6860846650336153387:=0
def tw5655394873223762600:=0
def tw6735944111018215809:=0
def tw4176965972055978617:=0
def tw14839657052731312288:=0
def tw9815569718893856924:=0
def tw1907581650459288771:=0
def tw7979056768923153897:=0
def tw8378448093485671857:=0
def tw11725483715588073825:=0
def tw4929246141856842815:=0
def tw8076141264592288231:=0
def tw17076061871591979536:=0
def tw13038920250659355119:=0
def tw16358441602777361813:=0
def tw15876255040530882884:=0
def tw16162701645928824770:=0
def tw6262964869826610383:=0
def tw6209525078686772042:=0
def tw5592115824469310955:=0
def tw16836696605672798342:=0
def tw15539579622195807638:=0
def tw13727321997673554111:=0
end PySem.W.Fast
open PySem PySem.W PyProof.Rows
set_option maxRecDepth 100000 in
set_option maxHeartbeats 0 in
theorem PySem.Challenge.cw_handsapart_k62_machines_written_holds : PySem.Challenge.rw_handsapart_k62_machines_written.Holds := by
 w_on; o_law; o_head (PySem.W.kHook Gk62.Kf (nat_lit 3 :: nat_lit 23 :: nat_lit 24 :: nat_lit 36 :: nat_lit 37 :: nat_lit 49 :: nat_lit 60 :: nat_lit 61 :: nat_lit 73 :: nat_lit 85 :: nat_lit 97 :: nat_lit 109 :: nat_lit 121 :: nat_lit 140 :: nat_lit 152 :: nat_lit 164 :: nat_lit 183 :: nat_lit 195 :: nat_lit 207 :: nat_lit 219 :: nat_lit 227 :: nat_lit 228 :: nat_lit 234 :: nat_lit 235 :: nat_lit 241 :: nat_lit 242 :: nat_lit 248 :: nat_lit 249 :: nat_lit 253 :: nat_lit 254 :: nat_lit 258 :: nat_lit 259 :: nat_lit 265 :: nat_lit 266 :: nat_lit 272 :: nat_lit 273 :: nat_lit 277 :: nat_lit 278 :: nat_lit 284 :: nat_lit 285 :: nat_lit 291 :: nat_lit 292 :: nat_lit 298 :: nat_lit 299 :: nat_lit 305 :: nat_lit 306 :: nat_lit 310 :: nat_lit 311 :: nat_lit 317 :: nat_lit 318 :: nat_lit 324 :: nat_lit 325 :: nat_lit 329 :: nat_lit 330 :: nat_lit 334 :: nat_lit 335 :: nat_lit 339 :: nat_lit 340 :: nat_lit 344 :: nat_lit 345 :: nat_lit 349 :: nat_lit 350 :: nat_lit 356 :: nat_lit 357 :: nat_lit 361 :: nat_lit 362 :: nat_lit 366 :: nat_lit 367 :: nat_lit 373 :: nat_lit 374 :: nat_lit 380 :: nat_lit 381 :: nat_lit 387 :: nat_lit 388 :: nat_lit 392 :: nat_lit 393 :: nat_lit 397 :: nat_lit 398 :: nat_lit 404 :: nat_lit 405 :: nat_lit 409 :: nat_lit 410 :: nat_lit 414 :: nat_lit 415 :: nat_lit 419 :: nat_lit 420 :: nat_lit 426 :: nat_lit 427 :: nat_lit 433 :: nat_lit 434 :: nat_lit 438 :: nat_lit 439 :: nat_lit 443 :: nat_lit 444 :: nat_lit 448 :: nat_lit 449 :: nat_lit 453 :: nat_lit 454 :: nat_lit 458 :: nat_lit 459 :: nat_lit 465 :: nat_lit 466 :: []) (fun _=>by kernel_rfl)); (case hw=>w_witness2)
 k_fill
 refine Gk62.walk (l:=PySem.Challenge.rw_handsapart_k62_machines_written) rfl rfl (fun w h Y=>PySem.W.kIn_of Y) ?F (fun w n qn hm c b e=>by
  rcases List.mem_cons.mp hm with hm | hm
  .cases hm
   rw [Gk62.MM w.params] at e;cases e;exact ⟨Option.isSome_iff_exists.mp (by kernel_rfl),Gk62.Wj w.params⟩
  .rcases List.mem_cons.mp hm with hm | hm
   .cases hm
    rw [Gk62.NZ w.params] at e;cases e
   .cases hm) (fun w=>Gk62.YK w.params)
 case F =>
  intro w mg fa h KX G hmg;refine' Gk62.all_mk KX G hmg ?_ ?_ ?_ ?_ ?_ ?_ ?_ ?_ ?_ ?_ ?_ ?_ ?_ ?_ ?_ ?_ ?_ ?_ ?_ ?_ ?_ ?_ ?_ ?_ ?_ ?_ ?_ ?_ ?_ ?_ ?_ ?_ ?_ ?_ ?_ ?_ ?_ ?_ ?_ ?_ ?_ ?_ ?_ ?_ ?_ ?_ ?_ ?_ ?_ ?_ ?_ ?_ ?_ ?_ ?_ ?_ ?_ ?_ ?_ ?_ ?_ ?_ ?_ ?_ (Gk62.MM w.params) (Gk62.VV w.params) (Gk62.LU w.params) (Gk62.KA w.params) (Gk62.MV w.params);all_goals first | k_is | (refine' Gk62.XS ?a ?l ?c ?k; (case a=>k_is); (case l=>k_is); (case c=>k_is); (case k=>k_is)) | skip
end
