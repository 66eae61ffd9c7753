import PyProof.Rows.All
import Wide.All
import OpenK.AllK
import Wide.FinOn
import Lean
import PyProof.EqAt
import PyProof.EqKinds
import PyProof.TupleCall
import PySem.Challenge.RW_chairvote_k31_a_please
noncomputable section
open PySem.W (Frag fnOf findIn keepIn nsIn codeIn isFn kitOne subIn exmOne)
set_option Elab.async false
set_option linter.all false
set_option maxRecDepth 100000
namespace L2
open PySem PySem.Spec PyProof.Rows
abbrev Key:=Sum Int Str
def yV:Key→Value→Bool
 | .inl k,v=>Value.isInt k v
 | .inr x,v=>Value.isStrOf x v
def acG(w:World):Key→Int
 | .inl k=>hashInt k
 | .inr x=>hashStr w x
theorem fj:∀{k:Key} {v:Value},yV k v=true→(∃i t,k=Sum.inl i∧v=Value.int i t)∨(∃x t,k=Sum.inr x∧v=Value.str x t)
 | .inl i,v,h=>by
  obtain⟨t,e⟩:=Value.isInt_shape (k:=i) (v:=v) h
  exact .inl ⟨i,t,rfl,e⟩
 | .inr x,v,h=>by
  obtain⟨t,e⟩:=Value.isStrOf_shape (x:=x) (v:=v) h
  exact .inr ⟨x,t,rfl,e⟩
theorem Ib(i:Int)(t:Tok):yV (.inl i) (.int i t)=true:=by simp[yV,Value.isInt]
theorem Ia(x:Str)(t:Tok):yV (.inr x) (.str x t)=true:=by simp[yV,Value.isStrOf]
theorem TF(a b:Int):decide ((Sum.inl a:Key)=Sum.inl b)=(a==b):=by
 by_cases e:a=b
 ·subst e;simp
 ·have h:¬(Sum.inl a:Key)=Sum.inl b:=fun q=>e (Sum.inl.inj q)
  rw[decide_eq_false h]
  exact(beq_eq_false_iff_ne.mpr e).symm
theorem Tv(a b:Str):decide ((Sum.inr a:Key)=Sum.inr b)=decide (a=b):=by
 by_cases e:a=b
 ·subst e;simp
 ·have h:¬(Sum.inr a:Key)=Sum.inr b:=fun q=>e (Sum.inr.inj q)
  rw[decide_eq_false h,decide_eq_false e]
theorem Tz(a:Int)(b:Str):decide ((Sum.inl a:Key)=Sum.inr b)=false:=decide_eq_false (fun q=>nomatch q)
theorem Tw(a:Str)(b:Int):decide ((Sum.inr a:Key)=Sum.inl b)=false:=decide_eq_false (fun q=>nomatch q)
def gU(prog:Program)(w:World):PySem.KeyKind prog w Key where
 is:=yV
 hash:=acG w
 inj:=fun v a b ha hb=>by
  rcases fj ha with⟨i,t,rfl,rfl⟩ | ⟨x,t,rfl,rfl⟩
  ·rcases fj hb with⟨j,u,rfl,e⟩ | ⟨y,u,rfl,e⟩
   ·injection e with e1 _;rw[e1]
   ·exact nomatch e
  ·rcases fj hb with⟨j,u,rfl,e⟩ | ⟨y,u,rfl,e⟩
   ·exact nomatch e
   ·injection e with e1 _;rw[e1]
 byValue:=fun k v h=>by
  rcases fj h with⟨i,t,rfl,rfl⟩ | ⟨x,t,rfl,rfl⟩<;>rfl
 pyHash:=fun hv h=>by
  rcases fj hv with⟨i,t,rfl,rfl⟩ | ⟨x,t,rfl,rfl⟩
  ·exact wpAny_pyHash_int h
  ·exact wpAny_pyHash_str h
 eqBool:=fun hu hv h=>by
  rcases fj hu with⟨i,t,rfl,rfl⟩ | ⟨x,t,rfl,rfl⟩
  ·rcases fj hv with⟨j,u,rfl,rfl⟩ | ⟨y,u,rfl,rfl⟩
   ·rw[TF]at h;exact wpAny_eqBool_int h
   ·rw[Tz]at h;exact SeqAt.EqAt.int_str i t y u _ _ _ _ h
  ·rcases fj hv with⟨j,u,rfl,rfl⟩ | ⟨y,u,rfl,rfl⟩
   ·rw[Tw]at h;exact SeqAt.EqAt.str_int x t j u _ _ _ _ h
   ·rw[Tv]at h;exact wpAny_eqBool_str h
 «strs» := fun k x t v h=>by
  rcases fj h with⟨i,u,rfl,e⟩ | ⟨y,u,rfl,e⟩
  ·exact nomatch e
  ·injection e with e1 _
   subst e1
   cases v<;>rfl
theorem Cy(prog:Program)(w:World)(i:Int)(t:Tok):(gU prog w).is (.inl i) (.int i t)=true:=Ib i t
theorem Cw(prog:Program)(w:World)(x:Str)(t:Tok):(gU prog w).is (.inr x) (.str x t)=true:=Ia x t
inductive V where
 | non | bl (b:Bool) | int (i:Int) | str (x:Str) | byt (b:Array UInt8) | flt (b:UInt64) | ref (a:Addr) | ty (n:String)
 deriving DecidableEq
def RelV:V→Value→Prop
 | .non,u=>u=Value.none
 | .bl b,u=>u=Value.bool b
 | .int i,u=>∃t,u=Value.int i t
 | .str x,u=>∃t,u=Value.str x t
 | .byt b,u=>∃t,u=Value.bytes b t
 | .flt b,u=>∃t,u=Value.float b t
 | .ref a,u=>u=Value.ref a
 | .ty n,u=>u=Value.type n
abbrev Vals:List V→List Value→Prop:=Paired RelV
theorem Vals.length{xs:List V}{us:List Value}(r:Vals xs us):xs.length=us.length:=Paired.length r
theorem Vals.get:∀{xs:List V} {us:List Value} {i:Nat} {x:V},Vals xs us→xs[i]? = some x→∃u,us[i]? = some u∧RelV x u
 | _,_,_,_,.nil,e=>by simp at e
 | _,_,0,_,.cons r _,e=>by simp at e;subst e;exact⟨_,rfl,r⟩
 | _,_,i+1,x,.cons _ t,e=>by
  obtain⟨u,h1,h2⟩:=Vals.get (i:=i) (x:=x) t (by simpa using e)
  exact⟨u,by simpa using h1,h2⟩
theorem Vals.append:∀{xs ys:List V} {us ws:List Value},Vals xs us→Vals ys ws→Vals (xs++ys) (us++ws)
 | _,_,_,_,.nil,s=>s
 | _,_,_,_,.cons r t,s=> .cons r (Vals.append t s)
theorem Vals.take:∀{xs:List V} {us:List Value} (n:Nat),Vals xs us→Vals (xs.take n) (us.take n)
 | _,_,0,_=> .nil
 | _,_,_+1,.nil=> .nil
 | _,_,n+1,.cons r t=> .cons r (Vals.take n t)
theorem Vals.drop:∀{xs:List V} {us:List Value} (n:Nat),Vals xs us→Vals (xs.drop n) (us.drop n)
 | _,_,0,r=>r
 | _,_,_+1,.nil=> .nil
 | _,_,n+1,.cons _ t=>Vals.drop n t
def qu:Option V→Option Value→Prop
 | some v,some u=>RelV v u
 | none,none=>True
 | _,_=>False
def KV{κ:Type}:List (κ×V)→List (κ×Value)→Prop:=Paired fun(p:κ×V) (q:κ×Value)=>p.1=q.1∧RelV p.2 q.2
def kV:Key→V
 | .inl i=> .int i
 | .inr x=> .str x
inductive HO where
 | lst (xs:List V)
 | tup (xs:List V)
 | dK (kvs:List (Key×V)) | dT (kvs:List (List Key×V))
 | set (S:Int→Bool) (n:Nat)
 | ins (C dx:Addr) (fs:List (Str×V))
 | own (x:Addr)
 | xd (fs:List (Str×V))
 | met (f x:Addr)
 | z7 (lo hi:Int)
 | gZ (o:Obj) (u:HO)
 | pH (ps:Array Value)
 | ext (φ:Heap→Prop)
abbrev Hp:=Addr→Option HO
def upd(H:Hp)(a:Addr)(o:HO):Hp:=fun b=>if b=a then some o else H b
theorem aX{H:Hp}{a:Addr}{o:HO}:upd H a o a=some o:=by unfold upd;rw[if_pos rfl]
theorem aJ{H:Hp}{a b:Addr}{o:HO}(h:b≠a):upd H a o b=H b:=by unfold upd;rw[if_neg h]
theorem Mw{H:Hp}{a:Addr}{o u:HO}:upd (upd H a o) a u=upd H a u:=by
 funext b;unfold upd;split<;>rfl
theorem W9{H:Hp}{a b:Addr}{o u:HO}(h:H a=some o)(h':H b=some u)(d:o≠u):a≠b:=by
 intro e;subst e;rw[h]at h';exact d (Option.some.inj h')
theorem bB{H:Hp}{a b:Addr}{o:HO}(h:H a=some o)(h':H b=none):a≠b:=by
 intro e;subst e;rw[h]at h';cases h'
section
variable(P:Program)(w:World)
def d8(H:Hp)(h:Heap)(a:Addr):HO→Prop
 | .lst xs=>xs.length≤sizeLine∧∃(its:List Value) (n:Nat),Vals xs its∧h.get? a=some {cls:= .type "list",data:= .seq its.toArray n}
 | .tup xs=>xs.length≤sizeLine∧∃its:List Value,Vals xs its∧IsTup h a its.toArray
 | .dK kvs=>kvs.length≤sizeLine∧(a==sysModules)=false∧∃vs,KV kvs vs∧h.DictOf (gU P w) a vs
 | .dT kvs=>kvs.length≤sizeLine∧(a==sysModules)=false∧∃xs:List (List Key×Addr×Value),
   Paired (fun(p:List Key×V) (q:List Key×Addr×Value)=>p.1=q.1∧H q.2.1=some (.tup (p.1.map kV))∧RelV p.2 q.2.2) kvs xs∧
   ∃o es ep,h.get? a=some o∧o.ExactDict∧o.data= .dict es ep∧es.toList=xs.map (entryOfKey (tupleKind (gU P w)))∧(xs.map (·.1)).Nodup
 | .set S n=>h.SetOf (intKind P w) a S n
 | .ins C dx fs=>H dx=some (.own a)∧fs.length≤1000∧dx≠a∧h.get? a=some (PySem.W.instObj C dx)∧
   ∃mA,h.Ns1 dx mA∧(∀f,qu (fs.lookup f) (mA f))∧PySem.Within mA (fs.map (·.1))
 | .own _=>∃o,h.get? a=some o
 | .xd fs=>∃mA,h.Ns1 a mA∧∀f,qu (fs.lookup f) (mA f)
 | .z7 lo hi=>∃t u v,h.get? a=some {cls:= .type "range",data:= .fields #[.int lo t,.int hi u,.int 1 v]}
 | .gZ o u=>h.get? a=some o∧d8 H h a u
 | .pH ps=>h.get? a=some {cls:= .none,data:= .fields ps}
 | .met f x=>h.get? a=some (PySem.W.methodObj (.ref f) (.ref x))
 | .ext φ=>φ h∧(∃o,h.get? a=some o)∧∀h1 h2:Heap,φ h1→(∀o,h1.get? a=some o→h2.get? a=some o)→φ h2
def oY(H:Hp)(h:Heap):Prop:=∀a o,H a=some o→d8 P w H h a o
end
section
variable{P:Program}{w:World}{H H':Hp}{h h':Heap}{a:Addr}{o:HO}
theorem d8.lt(x:d8 P w H h a o):a<h.objs.size:=by
 cases o with
 | lst xs=>obtain⟨_,_,_,_,e⟩:=x;exact Heap.lt_size e
 | tup xs=>obtain⟨_,_,_,p⟩:=x;exact p.lt
 | dK kvs=>obtain⟨_,_,_,_,o,_,_,e,_⟩:=x;exact Heap.lt_size e
 | dT kvs=>obtain⟨_,_,_,_,o,_,_,e,_⟩:=x;exact Heap.lt_size e
 | set S n=>obtain⟨o,_,_,_,e,_⟩:=x;exact Heap.lt_size e
 | ins C dx fs=>obtain⟨_,_,_,e,_⟩:=x;exact Heap.lt_size e
 | own y=>obtain⟨_,e⟩:=x;exact Heap.lt_size e
 | xd fs=>obtain⟨_,⟨_,_,_,e,_⟩,_⟩:=x;exact Heap.lt_size e
 | z7 lo hi=>obtain⟨_,_,_,e⟩:=x;exact Heap.lt_size e
 | gZ ob u=>obtain⟨e,_⟩:=x;exact Heap.lt_size e
 | pH ps=>exact Heap.lt_size (show h.get? a=some _ from x)
 | met f y=>exact Heap.lt_size (show h.get? a=some _ from x)
 | ext φ=>obtain⟨_,⟨_,e⟩,_⟩:=x;exact Heap.lt_size e
theorem Paired.Te{α β:Type}{F G:α→β→Prop}:∀{l₁:List α} {l₂:List β},Paired F l₁ l₂→(∀a b,F a b→G a b)→Paired G l₁ l₂
 | _,_,.nil,_=> .nil
 | _,_,.cons r t,f=> .cons (f _ _ r) (Paired.Te t f)
theorem d8.stay(x:d8 P w H h a o)(k:∀b u,(b=a∨H b=some (.own a))→h.get? b=some u→h'.get? b=some u)
  (ho:∀b,H b=some (.own a)→H' b=some (.own a)) (ht:∀b xs,H b=some (.tup xs)→H' b=some (.tup xs)):d8 P w H' h' a o:=by
 induction o with
 | lst xs=>obtain⟨z,its,n,r,e⟩:=x;exact⟨z,its,n,r,k _ _ (.inl rfl) e⟩
 | tup xs=>obtain⟨z,its,r,ob,e,c⟩:=x;exact⟨z,its,r,ob,k _ _ (.inl rfl) e,c⟩
 | dK kvs=>obtain⟨z,y,vs,r,ob,es,ep,e,c⟩:=x;exact⟨z,y,vs,r,ob,es,ep,k _ _ (.inl rfl) e,c⟩
 | dT kvs=>
  obtain⟨z,y,xs,r,ob,es,ep,e,c⟩:=x
  exact⟨z,y,xs,Paired.Te r fun p q z=>⟨z.1,ht _ _ z.2.1,z.2.2⟩,ob,es,ep,k _ _ (.inl rfl) e,c⟩
 | set S n=>obtain⟨ob,es,ep,t,e,c⟩:=x;exact⟨ob,es,ep,t,k _ _ (.inl rfl) e,c⟩
 | ins C dx fs=>
  obtain⟨d,z,ne,e,mA,⟨od,es,ep,e2,c⟩,r⟩:=x
  exact⟨ho _ d,z,ne,k _ _ (.inl rfl) e,mA,⟨od,es,ep,k _ _ (.inr d) e2,c⟩,r⟩
 | own y=>obtain⟨ob,e⟩:=x;exact⟨ob,k _ _ (.inl rfl) e⟩
 | xd fs=>obtain⟨mA,⟨od,es,ep,e,c⟩,r⟩:=x;exact⟨mA,⟨od,es,ep,k _ _ (.inl rfl) e,c⟩,r⟩
 | z7 lo hi=>obtain⟨t,u,v,e⟩:=x;exact⟨t,u,v,k _ _ (.inl rfl) e⟩
 | gZ ob u ih=>obtain⟨e,q⟩:=x;exact⟨k _ _ (.inl rfl) e,ih q⟩
 | pH ps=>
  have e:h.get? a=some {cls:= .none,data:= .fields ps}:=x
  show h'.get? a=some {cls:= .none,data:= .fields ps}
  exact k a _ (.inl rfl) e
 | met f y=>
  have e:h.get? a=some (PySem.W.methodObj (.ref f) (.ref y)):=x
  show h'.get? a=some (PySem.W.methodObj (.ref f) (.ref y))
  exact k a _ (.inl rfl) e
 | ext φ=>obtain⟨p,⟨o,e⟩,st⟩:=x;exact⟨st _ _ p fun o q=>k _ _ (.inl rfl) q,⟨o,k _ _ (.inl rfl) e⟩,st⟩
theorem oY.lt(x:oY P w H h)(e:H a=some o):a<h.objs.size:=(x a o e).lt
theorem oY.fresh(x:oY P w H h)(e:h.objs.size≤a):H a=none:=by
 cases q:H a with
 | none=>rfl
 | some u=>exact absurd (Nat.lt_of_lt_of_le (x.lt q) e) (Nat.lt_irrefl _)
theorem oY.kept(x:oY P w H h)(k:∀b u,h.get? b=some u→h'.get? b=some u):oY P w H h':=fun a o e=>
 (x a o e).stay (fun b u _ q=>k b u q) (fun _ q=>q) fun _ _ q=>q
theorem oY.laid(x:oY P w H h)(k:∀b u,h.get? b=some u→h'.get? b=some u)(hp:h.objs.size≤a)(new:d8 P w (upd H a o) h' a o):oY P w (upd H a o) h':=fun b u e=>by
 have hn:=x.fresh hp
 by_cases hb:b=a
 ·subst hb;rw[aX]at e;cases e;exact new
 ·rw[aJ hb]at e
  exact(x b u e).stay (fun c v _ q=>k c v q) (fun c q=>by rw[aJ (bB q hn)];exact q) fun c xs q=>by rw[aJ (bB q hn)];exact q
end
def Rd(H:Hp)(a:Addr)(u:HO):Prop:=H a=some u∨∃o,H a=some (.gZ o u)
theorem Rd.ok{P:Program}{w:World}{H:Hp}{h:Heap}{a:Addr}{u:HO}(r:Rd H a u)(x:oY P w H h):d8 P w H h a u:=by
 rcases r with r | ⟨o,r⟩
 ·exact x a u r
 ·obtain⟨_,q⟩:=x a _ r
  exact q
def ZL:Option HO→Prop
 | some (.lst _)=>True
 | some (.dK _)=>True
 | some (.dT _)=>True
 | some (.set _ _)=>True
 | some (.ins _ _ _)=>True
 | some (.ext _)=>True
 | _=>False
section
variable{P:Program}{w:World}{H:Hp}{h h':Heap}{x e:Addr}{o':HO}
theorem oY.write(ok:oY P w H h)(mu:ZL (H x))(he:e=x∨H e=some (.own x))(k:∀b u,b≠e→h.get? b=some u→h'.get? b=some u)(heo:∃u,h'.get? e=some u)
  (new:d8 P w (upd H x o') h' x o'):oY P w (upd H x o') h':=fun b u q=>by
 have W6:∀c y,H c=some (.own y)→c≠x:=fun c y r z=>by subst z;rw[r]at mu;exact mu
 have acu:∀c xs,H c=some (.tup xs)→c≠x:=fun c xs r z=>by subst z;rw[r]at mu;exact mu
 by_cases hb:b=x
 ·subst hb;rw[aX]at q;cases q;exact new
 ·rw[aJ hb]at q
  by_cases hbe:b=e
  ·have q':H b=some (.own x):=by
    rcases he with z | z
    ·exact absurd (hbe.trans z) hb
    ·rw[hbe];exact z
   rw[q]at q';cases q'
   obtain⟨v,hv⟩:=heo
   exact⟨v,by rw[hbe];exact hv⟩
  ·refine(ok b u q).stay (fun c v hc r=>k c v ?_ r) (fun c r=>by rw[aJ (W6 c b r)];exact r) fun c xs r=>by rw[aJ (acu c xs r)];exact r
   rcases hc with rfl | hc
   ·exact hbe
   ·rintro rfl
    rcases he with z | z
    ·exact W6 c b hc z
    ·rw[hc]at z;cases z;exact hb rfl
end
structure Un(fs ex:List Addr)(H H':Hp)(h h':Heap):Prop where
 keep:∀b o,h.get? b=some o→H b=none→b∉fs→b∉ex→h'.get? b=some o
 slot:∀b o,h.get? b=some o→H b=none→b∈fs→b∉ex→∃sl,h'.get? b=some {o with slots:=sl}
 free:∀b o,h.get? b=some o→H b=none→b∉ex→H' b=none
 there:∀b o,h.get? b=some o→b∉ex→∃o',h'.get? b=some o'
 tups:∀b xs,H b=some (.tup xs)→H' b=some (.tup xs)
 oU:∀b o u,H b=some (.gZ o u)→H' b=some (.gZ o u)
 pK:∀b ps,H b=some (.pH ps)→∃more,H' b=some (.pH (ps++more))
section
variable{fs fs' ex ex':List Addr}{H H1 H2:Hp}{h h1 h2 h':Heap}{a x e:Addr}{o:HO}
theorem Un.any(u:Un fs ex H H1 h h1){b:Addr}{ob:Obj}(q:h.get? b=some ob)(n:H b=none)(hx:b∉ex):∃sl,h1.get? b=some {ob with slots:=sl}:=by
 by_cases hb:b∈fs
 ·exact u.slot b ob q n hb hx
 ·exact⟨ob.slots,u.keep b ob q n hb hx⟩
theorem Un.trans(a:Un fs ex H H1 h h1)(b:Un fs ex H1 H2 h1 h2):Un fs ex H H2 h h2 where
 keep:=fun c ob q n hc hx=>b.keep c ob (a.keep c ob q n hc hx) (a.free c ob q n hx) hc hx
 slot:=fun c ob q n hc hx=>by
  obtain⟨sl,e1⟩:=a.slot c ob q n hc hx
  obtain⟨sl',e2⟩:=b.slot c _ e1 (a.free c ob q n hx) hc hx
  exact⟨sl',e2⟩
 free:=fun c ob q n hx=>by
  obtain⟨o',e1⟩:=a.there c ob q hx
  exact b.free c o' e1 (a.free c ob q n hx) hx
 there:=fun c ob q hx=>by
  obtain⟨o',e1⟩:=a.there c ob q hx
  exact b.there c o' e1 hx
 tups:=fun c xs q=>b.tups c xs (a.tups c xs q)
 oU:=fun c ob xs q=>b.oU c ob xs (a.oU c ob xs q)
 pK:=fun c ps q=>by
  obtain⟨m1,e1⟩:=a.pK c ps q
  obtain⟨m2,e2⟩:=b.pK c _ e1
  exact⟨m1++m2,by rw[e2,Array.append_assoc]⟩
theorem Un.kept(k:∀b u,h.get? b=some u→h'.get? b=some u):Un fs ex H H h h':=
 ⟨fun b ob q _ _ _=>k b ob q,fun b ob q _ _ _=>⟨ob.slots,k b ob q⟩,fun _ _ _ n _=>n,fun b ob q _=>⟨ob,k b ob q⟩,fun _ _ q=>q,fun _ _ _ q=>q,fun _ ps q=>⟨#[],by rw[q];simp⟩⟩
theorem Un.refl:Un fs ex H H h h:=Un.kept fun _ _ q=>q
theorem Un.laid(k:∀b u,h.get? b=some u→h'.get? b=some u)(hp:h.objs.size≤a)(hn:H a=none):Un fs ex H (upd H a o) h h' where
 keep:=fun b u q _ _ _=>k b u q
 slot:=fun b u q _ _ _=>⟨u.slots,k b u q⟩
 free:=fun b u q n _=>by rw[aJ (Nat.ne_of_lt (Nat.lt_of_lt_of_le (Heap.lt_size q) hp))];exact n
 there:=fun b u q _=>⟨u,k b u q⟩
 tups:=fun b xs q=>by rw[aJ (bB q hn)];exact q
 oU:=fun b u xs q=>by rw[aJ (bB q hn)];exact q
 pK:=fun b ps q=>⟨#[],by rw[aJ (bB q hn),q];simp⟩
theorem Un.write(mu:ZL (H x))(he:e=x∨H e=some (.own x))(k:∀b u,b≠e→h.get? b=some u→h'.get? b=some u)(heo:∃u,h'.get? e=some u):Un fs ex H (upd H x o) h h':=by
 have hx:∀b,H b=none→b≠x:=fun b n z=>by subst z;rw[n]at mu;exact mu
 have hb:∀b,H b=none→b≠e:=fun b n z=>by
  subst z
  rcases he with r | r
  ·exact hx b n r
  ·rw[n]at r;cases r
 have hm:∀b u,H b=some u→¬ZL (some u)→b≠x:=fun b u q nm z=>by subst z;rw[q]at mu;exact nm mu
 refine⟨fun b u q n _ _=>k b u (hb b n) q,fun b u q n _ _=>⟨u.slots,k b u (hb b n) q⟩,fun b u q n _=>by rw[aJ (hx b n)];exact n,fun b u q _=> ?_,
  fun b xs q=>by rw[aJ (hm b _ q fun z=>z)];exact q,fun b u xs q=>by rw[aJ (hm b _ q fun z=>z)];exact q,fun b ps q=>⟨#[],by rw[aJ (hm b _ q fun z=>z),q];simp⟩⟩
 by_cases hbe:b=e
 ·subst hbe;exact heo
 ·exact⟨u,k b u hbe q⟩
theorem Un.mono(u:Un fs ex H H1 h h1)(hs:∀b∈fs,b∈fs')(hx:∀b∈ex,b∈ex'):Un fs' ex' H H1 h h1:=
 ⟨fun b ob q n hb he=>u.keep b ob q n (fun z=>hb (hs b z)) fun z=>he (hx b z),fun _ _ q n _ he=>u.any q n fun z=>he (hx _ z),fun b ob q n he=>u.free b ob q n fun z=>he (hx b z),fun b ob q he=>u.there b ob q fun z=>he (hx b z),u.tups,u.oU,u.pK⟩
end
def ZW(h:Heap)(H:Hp):List Addr:=(List.range h.objs.size).filter fun a=>(H a).isSome
def xW(h:Heap)(H:Hp):Heap:=PySem.W.hideAll h (ZW h H)
theorem Ii(h:Heap)(H:Hp):(xW h H).objs.size=h.objs.size:=PySem.W.hideAll_size _ _
theorem KZ{h:Heap}{H:Hp}{b:Addr}{o:Obj}(e:h.get? b=some o)(n:H b=none):(xW h H).get? b=some o:=
 PySem.W.hideAll_get _ e fun hm=>by
  have q:(H b).isSome=true:=(List.mem_filter.mp hm).2
  rw[n]at q;simp at q
theorem Oq{h:Heap}{H:Hp}{b:Addr}{o:Obj}(e:(xW h H).get? b=some o):h.get? b=some o∧H b=none:=by
 have e':h.get? b=some o:=PySem.W.of_hideAll (ZW h H) e
 refine⟨e',?_⟩
 cases q:H b with
 | none=>rfl
 | some x=>
  have hm:b∈ZW h H:=List.mem_filter.mpr ⟨List.mem_range.mpr (Heap.lt_size e'),by simp[q]⟩
  have z:(xW h H).get? b=none:=PySem.W.hideAll_none (ZW h H) hm
  rw[z]at e;cases e
def Qd(g h:Heap)(L:Addr):List (Addr×Obj):=(List.range h.objs.size).filterMap fun a=>if a=L∨(g.get? a).isSome=true then none else(h.get? a).map fun o=>(a,o)
def rest(g h:Heap)(L d:Addr):List (Addr×Obj):=(Qd g h L).filter fun p=>decide (p.1≠d)
structure Mod(K:Frag)(mg:Str→Option Value)(base:Heap):Prop where
 Tu:K.In base
 glob:base.Ns mainGlobals mg
 blt:∃mb,base.Ns builtinsNs mb∧∀x:Str,x≠ "__name__" → mb x=bootBuiltins x
 nolimit:base.NoLimit
structure Cx where
 prog:Program
 w:World
 K:Frag
 mg:Str→Option Value
 base:Heap
 A:Around
 N:List Str
 s₀:Shared
 H₀:Hp
 env:Env
 outer:List Env
 stack:List Env
 ex:List Addr
 fn:Str→Bool
 calm:Bool
 pn:List (Addr×Obj)
 xe:Value→Shared→Prop
def frs(l:List Env):List Addr:=l.filterMap (·.frame)
abbrev Cx.fs(X:Cx):List Addr:=frs X.outer
def ZK(sc:Scope)(x:Str):Prop:=sc.names.lookup x=some .local∨sc.names.lookup x=some .cell∨sc.names.lookup x=some .free
def Loc(sc:Scope)(x:Str):Prop:=sc.names.lookup x=some .local∨sc.names.lookup x=some .cell
def Look(env:Env)(h:Heap)(m:Str→Option Value)(x:Str)(u:Value):Prop:=
 (env.kindOf x=some .local∧m x=some u)∨((env.kindOf x=some .cell∨env.kindOf x=some .free)∧∃c,env.cells.lookup x=some c∧h.IsCell c (some u))
structure Cx.Ok(X:Cx):Prop where
 mod:Mod X.K X.mg X.base
 kind:X.env.scope.kind= .function
 glob:X.env.globals=mainGlobals
 blt:X.env.builtins=builtinsNs
 above:X.s₀.heap.objs.size≤X.env.locals
 inj:∀x y c,X.env.cells.lookup x=some c→X.env.cells.lookup y=some c→x=y
 has:∀x,(X.env.kindOf x=some .cell∨X.env.kindOf x=some .free)→∃c,X.env.cells.lookup x=some c
 cab:∀x c,X.fn x=true→X.env.cells.lookup x=some c→X.s₀.heap.objs.size≤c
 hd:X.calm=true→X.A.handled=none
 frames:X.A.frames=some X.stack
 stk:X.stack=X.outer∨(X.stack=X.env::X.outer∧X.env.frame=some X.env.locals)
 Vr:∀b∈X.ex,b≠X.env.locals∧∀x c,X.env.cells.lookup x=some c→c≠b
 bs:∀b o,X.base.get? b=some o→X.s₀.heap.get? b=some o∧X.H₀ b=none
 GR:X.base.objs.size≤X.s₀.heap.objs.size
 Ek:∀b o,X.base.get? b=some o→b∉X.ex
 E_:∀b∈X.ex,b∉X.fs
 rJ:X.s₀.heap.FunFrames X.base X.outer
 K6:∀b∈X.fs,X.H₀ b=none
def G8(X:Cx)(H:Hp)(x:Str)(c:Addr):Prop:=H c=none∨X.fn x=false∧∃o u,H c=some (.gZ o u)
theorem G8.imp{X X':Cx}{H H':Hp}{x:Str}{c:Addr}(h:G8 X H x c)(hf:X.fn x=false→X'.fn x=false)(h0:H c=none→H' c=none)(h1:∀o u,H c=some (.gZ o u)→H' c=some (.gZ o u)):G8 X' H' x c:=
 h.elim (fun z=> .inl (h0 z)) fun⟨f,o,u,z⟩=> .inr ⟨hf f,o,u,h1 o u z⟩
structure Inv(X:Cx)(pins:List (Addr×Obj))(σ:List (Option V))(H:Hp)(s:Shared):Prop where
 ok:X.Ok
 os:s.os=X.s₀.os
 bare:AllBare s.gens
 base:Un X.fs X.ex X.H₀ H X.s₀.heap s.heap
 loc:∃m,s.heap.Ns X.env.locals m∧∀(i:Nat) (x:Str) (v:V),X.N[i]? = some x→σ[i]? = some (some v)→ZK X.env.scope x→∃u,RelV v u∧Look X.env s.heap m x u
 cell:∀x c,X.env.cells.lookup x=some c→∃v,s.heap.IsCell c v
 free:H X.env.locals=none
 mY:∀x c,X.env.cells.lookup x=some c→G8 X H x c
 pin:∀p∈X.pn++pins,s.heap.get? p.1=some p.2∧H p.1=none∧p.1≠X.env.locals∧p.1∉X.fs∧∀v,p.2.data≠ .cell v
 hok:oY X.prog X.w H s.heap
 len:σ.length=X.N.length
section
variable{X:Cx}{pins:List (Addr×Obj)}{σ:List (Option V)}{H H':Hp}{s:Shared}{h':Heap}
theorem Cx.Ok.acw(ok:X.Ok){b:Addr}{o:Obj}(e:X.base.get? b=some o):b∉X.fs:=fun hb=>by
 have:=(ok.rJ.mem hb).1
 rw[e]at this;cases this
theorem Inv.bs(I:Inv X pins σ H s):∀b o,X.base.get? b=some o→s.heap.get? b=some o∧H b=none:=fun b o e=>
 ⟨I.base.keep b o (I.ok.bs b o e).1 (I.ok.bs b o e).2 (I.ok.acw e) (I.ok.Ek b o e),I.base.free b o (I.ok.bs b o e).1 (I.ok.bs b o e).2 (I.ok.Ek b o e)⟩
theorem Inv.bk(I:Inv X pins σ H s):∀b o,X.base.get? b=some o→s.heap.get? b=some o:=fun b o e=>(I.bs b o e).1
theorem Inv.mod(I:Inv X pins σ H s):Mod X.K X.mg X.base:=I.ok.mod
theorem Inv.su(I:Inv X pins σ H s):X.K.In s.heap:=I.ok.mod.Tu.keeps I.bk
theorem Inv.nolimit(I:Inv X pins σ H s):s.heap.NoLimit:=I.ok.mod.nolimit.keeps I.bk
theorem Inv.fr(I:Inv X pins σ H s):∃m,Fr X.base X.env.locals s.heap m:=
 let⟨m,hn,_⟩:=I.loc
 ⟨m,hn,I.bk,Nat.le_trans I.ok.GR I.ok.above⟩
theorem Inv.lt(I:Inv X pins σ H s):X.env.locals<s.heap.objs.size:=let⟨_,hn,_⟩:=I.loc;hn.lt
theorem Inv.sz(I:Inv X pins σ H s):X.s₀.heap.objs.size≤s.heap.objs.size:=Nat.le_trans I.ok.above (Nat.le_of_lt I.lt)
theorem Inv.acv(I:Inv X pins σ H s){a:Addr}(h:s.heap.objs.size≤a):a∉X.fs:=fun hb=>by
 obtain⟨_,o,ho,_⟩:=I.ok.rJ.mem hb
 exact absurd (Nat.lt_of_lt_of_le (Heap.lt_size ho) (Nat.le_trans I.sz h)) (Nat.lt_irrefl _)
theorem Inv.PJ(I:Inv X pins σ H s):∀x c,X.env.cells.lookup x=some c→c≠X.env.locals:=fun x c e z=>by
 obtain⟨v,o,ho,hd⟩:=I.cell x c e
 obtain⟨m,⟨o',es,ep,ho',hd',_⟩,_⟩:=I.loc
 rw[z,ho']at ho;cases ho;rw[hd']at hd;cases hd
theorem Inv.rJ(I:Inv X pins σ H s):s.heap.FunFrames X.base X.outer:=by
 have all:∀(l:List Env),(∀b∈frs l,b∈X.fs)→X.s₀.heap.FunFrames X.base l→s.heap.FunFrames X.base l:=by
  intro l
  induction l with
  | nil=>intro _ _;trivial
  | cons env r ih=>
   intro hs hl
   obtain⟨hk,⟨L,o,hf,hn,ho,hd⟩,hr⟩:=hl
   have hL:L∈X.fs:=hs L (by unfold frs;rw[List.filterMap_cons,hf];exact List.mem_cons_self)
   obtain⟨sl,e⟩:=I.base.slot L o ho (I.ok.K6 L hL) hL fun z=>I.ok.E_ L z hL
   exact⟨hk,⟨L,_,hf,hn,e,hd⟩,ih (fun b hb=>hs b (by unfold frs;rw[List.filterMap_cons,hf];exact List.mem_cons_of_mem _ hb)) hr⟩
 exact all X.outer (fun _ hb=>hb) I.ok.rJ
theorem Inv.stack(I:Inv X pins σ H s):s.heap.FunFrames X.base X.stack:=by
 rcases I.ok.stk with e | ⟨e,hf⟩
 ·rw[e];exact I.rJ
 ·rw[e]
  obtain⟨m,hn,_⟩:=I.loc
  refine .cons (by rw[I.ok.kind];decide) hf hn ?_ I.rJ
  exact Heap.get?_none_of_le (Nat.le_trans I.ok.GR I.ok.above)
theorem Inv.wK(I:Inv X pins σ H s):∀b∈frs X.stack,b∈X.env.locals::X.fs:=fun b hb=>by
 rcases I.ok.stk with e | ⟨e,hf⟩
 ·rw[e]at hb;exact List.mem_cons_of_mem _ hb
 ·rw[e]at hb
  unfold frs at hb
  rw[List.filterMap_cons,hf]at hb
  exact hb
theorem Inv.tu(I:Inv X pins σ H s):∀b∈frs X.stack,H b=none:=fun b hb=>by
 rcases List.mem_cons.mp (I.wK b hb)with e | hb
 ·rw[e];exact I.free
 ·obtain⟨_,o,ho,_⟩:=I.ok.rJ.mem hb
  exact I.base.free b o ho (I.ok.K6 b hb) fun z=>I.ok.E_ b z hb
theorem Inv.step{g':Array GenState}{t':Nat}{d':Drawn}{ch:List Addr}(I:Inv X pins σ H s)
  (hch:∀b∈ch,(b∈X.ex∨X.s₀.heap.objs.size≤b)∧b≠X.env.locals∧(∀x c,X.env.cells.lookup x=some c→c≠b)∧∀p∈X.pn++pins,p.1≠b)
  (keep:∀b o,b≠X.env.locals→b∉X.fs→b∉ch→s.heap.get? b=some o→H b=none→h'.get? b=some o)
  (slot:∀b o,b≠X.env.locals→b∈X.fs→b∉ch→s.heap.get? b=some o→H b=none→∃sl,h'.get? b=some {o with slots:=sl}) (free:∀b o,b∉ch→s.heap.get? b=some o→H b=none→H' b=none)
  (there:∀b o,b∉ch→s.heap.get? b=some o→∃o',h'.get? b=some o')
  (tups:∀b xs,H b=some (.tup xs)→H' b=some (.tup xs)) (oU:∀b o u,H b=some (.gZ o u)→H' b=some (.gZ o u)) (pK:∀b ps,H b=some (.pH ps)→∃more,H' b=some (.pH (ps++more)))
  (ns:∀m,s.heap.Ns X.env.locals m→h'.Ns X.env.locals m) (hok:oY X.prog X.w H' h') (hg:AllBare g'):
  Inv X pins σ H' {s with heap:=h',gens:=g',drawn:=d',toks:=t'}:=by
 have neL:∀b o,X.s₀.heap.get? b=some o→b≠X.env.locals:=fun b o e=>Nat.ne_of_lt (Nat.lt_of_lt_of_le (Heap.lt_size e) I.ok.above)
 have neC:∀b o,X.s₀.heap.get? b=some o→b∉X.ex→b∉ch:=fun b o e hx hb=>by
  rcases(hch b hb).1 with z | z
  ·exact hx z
  ·exact absurd (Nat.lt_of_lt_of_le (Heap.lt_size e) z) (Nat.lt_irrefl _)
 have cellK:∀x c,X.env.cells.lookup x=some c→∀v,s.heap.IsCell c v→h'.IsCell c v:=fun x c e v ⟨o,ho,hd⟩=>by
  have W_:c∉ch:=fun z=>(hch c z).2.2.1 x c e rfl
  rcases I.mY x c e with fr | ⟨_,o1,u1,fr⟩
  ·by_cases hc:c∈X.fs
   ·obtain⟨sl,q⟩:=slot c o (I.PJ x c e) hc W_ ho fr
    exact⟨_,q,hd⟩
   ·exact⟨o,keep c o (I.PJ x c e) hc W_ ho fr,hd⟩
  ·have z1:=(I.hok c _ fr).1
   rw[ho]at z1
   cases z1
   exact⟨o,(hok c _ (oU c o u1 fr)).1,hd⟩
 refine⟨I.ok,I.os,hg,⟨fun b o e n hb hx=> ?_,fun b o e n hb hx=> ?_,fun b o e n hx=> ?_,fun b o e hx=> ?_,fun b xs e=>tups b xs (I.base.tups b xs e),fun b o xs e=>oU b o xs (I.base.oU b o xs e),fun b ps e=> ?_⟩,?_,fun x c e=> ?_,?_,fun x c e=> ?_,fun p hp=> ?_,hok,I.len⟩
 ·exact keep b o (neL b o e) hb (neC b o e hx) (I.base.keep b o e n hb hx) (I.base.free b o e n hx)
 ·obtain⟨sl,e1⟩:=I.base.slot b o e n hb hx
  obtain⟨sl',e2⟩:=slot b _ (neL b o e) hb (neC b o e hx) e1 (I.base.free b o e n hx)
  exact⟨sl',e2⟩
 ·obtain⟨o',e1⟩:=I.base.there b o e hx
  exact free b o' (neC b o e hx) e1 (I.base.free b o e n hx)
 ·obtain⟨o',e1⟩:=I.base.there b o e hx
  exact there b o' (neC b o e hx) e1
 ·obtain⟨m1,e1⟩:=I.base.pK b ps e
  obtain⟨m2,e2⟩:=pK b _ e1
  exact⟨m1++m2,by rw[e2,Array.append_assoc]⟩
 ·obtain⟨m,hn,hl⟩:=I.loc
  refine⟨m,ns m hn,fun i x v e1 e2 e3=> ?_⟩
  obtain⟨u,r,l⟩:=hl i x v e1 e2 e3
  refine⟨u,r,?_⟩
  rcases l with l | ⟨k,c,e,z⟩
  ·exact .inl l
  ·exact .inr ⟨k,c,e,cellK x c e _ z⟩
 ·obtain⟨v,z⟩:=I.cell x c e
  exact⟨v,cellK x c e v z⟩
 ·obtain⟨m,⟨o,_,_,ho,_⟩,_⟩:=I.loc
  exact free _ o (fun z=>(hch _ z).2.1 rfl) ho I.free
 ·obtain⟨v,o,ho,hd⟩:=I.cell x c e
  exact(I.mY x c e).imp id (fun fr=>free c o (fun z=>(hch c z).2.2.1 x c e rfl) ho fr) (oU c)
 ·obtain⟨e,n,ne,nf,d⟩:=I.pin p hp
  have W_:p.1∉ch:=fun z=>(hch p.1 z).2.2.2 p hp rfl
  exact⟨keep p.1 p.2 ne nf W_ e n,free p.1 p.2 W_ e n,ne,nf,d⟩
theorem Inv.un{t':Nat}(I:Inv X pins σ H s)(u:Un X.fs [] H H' s.heap h')(hok:oY X.prog X.w H' h'):Inv X pins σ H' {s with heap:=h',toks:=t'}:=by
 obtain⟨m,⟨o,es,ep,ho,r⟩,_⟩:=id I.loc
 obtain⟨sl,hL⟩:=u.any ho I.free (by simp)
 exact I.step (g':=s.gens) (d':=s.drawn) (ch:=[]) (fun _ z=>nomatch z) (fun b o _ hb _ e n=>u.keep b o e n hb (by simp)) (fun b o _ hb _ e n=>u.slot b o e n hb (by simp)) (fun b o _ e n=>u.free b o e n (by simp)) (fun b o _ e=>u.there b o e (by simp)) u.tups u.oU u.pK (fun m' hm=>by
  obtain⟨o',es',ep',ho',r'⟩:=hm
  rw[ho]at ho';cases ho'
  exact⟨_,es',ep',hL,r'⟩) hok I.bare
theorem Inv.call{g':Array GenState}{t':Nat}{d':Drawn}{ch:List Addr}(I:Inv X pins σ H s)(u:Un (frs X.stack) ch H H' s.heap h')(hok:oY X.prog X.w H' h')(hg:AllBare g')
  (hch:∀b∈ch,(b∈X.ex∨X.s₀.heap.objs.size≤b)∧b≠X.env.locals∧(∀x c,X.env.cells.lookup x=some c→c≠b)∧∀p∈X.pn++pins,p.1≠b):
  Inv X pins σ H' {s with heap:=h',gens:=g',drawn:=d',toks:=t'}:=by
 obtain⟨m,⟨o,es,ep,ho,r⟩,_⟩:=id I.loc
 obtain⟨sl,hL⟩:=u.any ho I.free fun z=>(hch _ z).2.1 rfl
 exact I.step (ch:=ch) hch (fun b o hL hb hc e n=>u.keep b o e n (fun z=>(List.mem_cons.mp (I.wK b z)).elim hL hb) hc) (fun b o _ _ hc e n=>u.any e n hc) (fun b o hc e n=>u.free b o e n hc) (fun b o hc e=>u.there b o e hc) u.tups u.oU u.pK (fun m' hm=>by
  obtain⟨o',es',ep',ho',r'⟩:=hm
  rw[ho]at ho';cases ho'
  exact⟨_,es',ep',hL,r'⟩) hok hg
theorem Inv.turned{t':Nat}{it:Addr}(I:Inv X pins σ H s)(k:∀b o,b≠it→s.heap.get? b=some o→h'.get? b=some o)(hn:H it=none)(hL:it≠X.env.locals)
  (h1:it∈X.ex∨X.s₀.heap.objs.size≤it) (h2:∀x c,X.env.cells.lookup x=some c→c≠it) (h3:∀p∈X.pn++pins,p.1≠it):Inv X pins σ H {s with heap:=h',toks:=t'}:=by
 have nit:∀b u,H b=some u→b≠it:=fun b u e z=>by rw[z,hn]at e;cases e
 refine I.step (g':=s.gens) (d':=s.drawn) (ch:=[it]) (fun b hb=> ?_) (fun b o _ _ hc e _=>k b o (fun z=>hc (by simp[z])) e) (fun b o _ _ hc e _=>⟨o.slots,k b o (fun z=>hc (by simp[z])) e⟩) (fun _ _ _ _ n=>n)
  (fun b o hc e=>⟨o,k b o (fun z=>hc (by simp[z])) e⟩) (fun _ _ e=>e) (fun _ _ _ e=>e) (fun b ps e=>⟨#[],by rw[e];simp⟩) (fun m hm=> ?_) (fun b u e=> ?_) I.bare
 ·have e:b=it:=by simpa using hb
  subst e
  exact⟨h1,hL,h2,h3⟩
 ·obtain⟨o,es,ep,ho,r⟩:=hm
  exact⟨o,es,ep,k _ o (Ne.symm hL) ho,r⟩
 ·refine(I.hok b u e).stay (fun c v hc q=>k c v ?_ q) (fun _ q=>q) fun _ _ q=>q
  rcases hc with z | z
  ·rw[z];exact nit b u e
  ·exact nit c _ z
theorem Inv.tok(I:Inv X pins σ H s)(t:Nat):Inv X pins σ H {s with toks:=t}:=I.un (h':=s.heap) (t':=t) Un.refl I.hok
theorem Inv.kept{t':Nat}(I:Inv X pins σ H s)(k:∀b u,s.heap.get? b=some u→h'.get? b=some u):Inv X pins σ H {s with heap:=h',toks:=t'}:=I.un (Un.kept k) (I.hok.kept k)
theorem Inv.laid{a:Addr}{o:HO}{t':Nat}(I:Inv X pins σ H s)(k:∀b u,s.heap.get? b=some u→h'.get? b=some u)(hp:s.heap.objs.size≤a)(new:d8 X.prog X.w (upd H a o) h' a o):
  Inv X pins σ (upd H a o) {s with heap:=h',toks:=t'}:=I.un (Un.laid k hp (I.hok.fresh hp)) (I.hok.laid k hp new)
theorem Inv.write{x e:Addr}{o:HO}{t':Nat}(I:Inv X pins σ H s)(mu:ZL (H x))(he:e=x∨H e=some (.own x))(k:∀b u,b≠e→s.heap.get? b=some u→h'.get? b=some u)(heo:∃u,h'.get? e=some u)
  (new:d8 X.prog X.w (upd H x o) h' x o):Inv X pins σ (upd H x o) {s with heap:=h',toks:=t'}:=I.un (Un.write mu he k heo) (I.hok.write mu he k heo new)
theorem Inv.weak{σ':List (Option V)}(I:Inv X pins σ H s)(hl:σ'.length=σ.length)(w:∀(i:Nat) v,σ'[i]? = some (some v)→σ[i]? = some (some v)):Inv X pins σ' H s:=
 ⟨I.ok,I.os,I.bare,I.base,let⟨m,hn,hl'⟩:=I.loc;⟨m,hn,fun i x v e1 e2 e3=>hl' i x v e1 (w i v e2) e3⟩,I.cell,I.free,I.mY,I.pin,I.hok,hl.trans I.len⟩
theorem Inv.vX{tR:List (Addr×Obj)}(I:Inv X pins σ H s)(h:∀p∈tR,s.heap.get? p.1=some p.2∧H p.1=none∧p.1≠X.env.locals∧p.1∉X.fs∧∀v,p.2.data≠ .cell v):Inv X tR σ H s:=
 ⟨I.ok,I.os,I.bare,I.base,I.loc,I.cell,I.free,I.mY,fun p hp=>(List.mem_append.mp hp).elim (fun z=>I.pin p (List.mem_append_left _ z)) (h p),I.hok,I.len⟩
theorem Cv{N:List Str}(hN:N.Nodup){i j:Nat}{x:Str}(a:N[i]? = some x)(b:N[j]? = some x):i=j:=by
 obtain⟨h1,e1⟩:=List.getElem?_eq_some_iff.mp a
 obtain⟨h2,e2⟩:=List.getElem?_eq_some_iff.mp b
 exact(List.getElem_inj hN).mp (e1.trans e2.symm)
theorem Hf{M:Model}{A:Around}{E:Value→Shared→Prop}{i:Nat}{x:Str}{v:V}{u:Value}{Q:Unit→Shared→Prop}(I:Inv X pins σ H s)(hN:X.N.Nodup)(hi:X.N[i]? = some x)(hx:Loc X.env.scope x)(r:RelV v u)
  (h:∀s',Inv X pins (σ.set i (some v)) H s'→(∃a,Heap.SameBut a s.heap s'.heap∧(a=X.env.locals∨X.env.cells.lookup x=some a))→Q () s') (hf:X.fn x=true∨X.env.scope.names.lookup x=some .local:=by first | exact .inl rfl | exact .inr rfl | assumption):wpAny M A (storeName X.env x u) Q E s:=by
 obtain⟨m,hn,hl⟩:=id I.loc
 have hcls:(X.env.scope.kind== .class||(X.env.scope.kind== .module&&X.env.locals != X.env.globals))=false:=by rw[I.ok.kind];rfl
 have Yc:i<σ.length:=by rw[I.len];exact(List.getElem?_eq_some_iff.mp hi).1
 have PJ:=I.PJ
 have tracked:∀{a:Addr} {h':Heap},(∃o,s.heap.get? a=some o∧H a=none)→Heap.SameBut a s.heap h'→oY X.prog X.w H h':=fun{a h'} ha hs b ob e=>by
  obtain⟨_,_,hfree⟩:=ha
  refine(I.hok b ob e).stay (fun c w' hc q=>(hs.2 c ?_).trans q) (fun _ q=>q) fun _ _ q=>q
  rintro rfl
  rcases hc with rfl | hc
  ·rw[hfree]at e;cases e
  ·rw[hfree]at hc;cases hc
 rcases hx with hk | hk
 ·refine wpAny_storeName_local hk hn (fun h' hn' hs=> ?_) hcls
  obtain⟨oL,_,_,hoL,_⟩:=id hn
  refine h _ ⟨I.ok,I.os,I.bare,⟨fun b o e n hb hx=> ?_,fun b o e n hb hx=> ?_,I.base.free,fun b o e hx=> ?_,I.base.tups,I.base.oU,I.base.pK⟩,⟨_,hn',fun j y v' e1 e2 e3=> ?_⟩,fun y c e=> ?_,I.free,I.mY,fun p hp=> ?_,tracked ⟨oL,hoL,I.free⟩ hs,by simpa using I.len⟩ ⟨_,hs,.inl rfl⟩
  ·exact(hs.2 b (Nat.ne_of_lt (Nat.lt_of_lt_of_le (Heap.lt_size e) I.ok.above))).trans (I.base.keep b o e n hb hx)
  ·obtain⟨sl,e1⟩:=I.base.slot b o e n hb hx
   exact⟨sl,(hs.2 b (Nat.ne_of_lt (Nat.lt_of_lt_of_le (Heap.lt_size e) I.ok.above))).trans e1⟩
  ·obtain⟨o',e1⟩:=I.base.there b o e hx
   exact⟨o',(hs.2 b (Nat.ne_of_lt (Nat.lt_of_lt_of_le (Heap.lt_size e) I.ok.above))).trans e1⟩
  ·by_cases hj:j=i
   ·subst hj
    rw[hi]at e1;cases e1
    rw[List.getElem?_set_self Yc]at e2
    cases e2
    exact⟨u,r,.inl ⟨hk,by simp⟩⟩
   ·rw[List.getElem?_set_ne (Ne.symm hj)]at e2
    obtain⟨u',r',q⟩:=hl j y v' e1 e2 e3
    refine⟨u',r',?_⟩
    rcases q with⟨k,e⟩ | ⟨k,c,e,z⟩
    ·refine .inl ⟨k,?_⟩
     have:y≠x:=fun e=>hj (Cv hN e1 (e▸hi))
     simp[this,e]
    ·exact .inr ⟨k,c,e,z.sameBut hs (PJ y c e)⟩
  ·obtain⟨w',z⟩:=I.cell y c e
   exact⟨w',z.sameBut hs (PJ y c e)⟩
  ·obtain⟨e,n,ne,nf,d⟩:=I.pin p hp
   exact⟨(hs.2 p.1 ne).trans e,n,ne,nf,d⟩
 ·have hfn:X.fn x=true:=by
   rcases hf with z | z
   ·exact z
   ·rw[z]at hk;cases hk
  obtain⟨c,hc⟩:=I.ok.has x (.inl hk)
  obtain⟨w',z⟩:=I.cell x c hc
  refine wpAny_storeName_cell I.ok.kind hk hc z (fun h' hc' hs=> ?_)
  obtain⟨oc,hoc,acX⟩:=id z
  refine h {s with heap:=h'} ⟨I.ok,I.os,I.bare,⟨fun b o e n hb hx=> ?_,fun b o e n hb hx=> ?_,I.base.free,fun b o e hx=> ?_,I.base.tups,I.base.oU,I.base.pK⟩,⟨m,hn.sameBut hs (Ne.symm (PJ x c hc)),fun j y v' e1 e2 e3=> ?_⟩,fun y c' e=> ?_,I.free,I.mY,fun p hp=> ?_,tracked ⟨oc,hoc,(I.mY x c hc).elim id fun z=>absurd hfn (by rw[z.1];decide)⟩ hs,by simpa using I.len⟩ ⟨c,hs,.inr hc⟩
  ·exact(hs.2 b (Nat.ne_of_lt (Nat.lt_of_lt_of_le (Heap.lt_size e) (I.ok.cab x c hfn hc)))).trans (I.base.keep b o e n hb hx)
  ·obtain⟨sl,e1⟩:=I.base.slot b o e n hb hx
   exact⟨sl,(hs.2 b (Nat.ne_of_lt (Nat.lt_of_lt_of_le (Heap.lt_size e) (I.ok.cab x c hfn hc)))).trans e1⟩
  ·obtain⟨o',e1⟩:=I.base.there b o e hx
   exact⟨o',(hs.2 b (Nat.ne_of_lt (Nat.lt_of_lt_of_le (Heap.lt_size e) (I.ok.cab x c hfn hc)))).trans e1⟩
  ·by_cases hj:j=i
   ·subst hj
    rw[hi]at e1;cases e1
    rw[List.getElem?_set_self Yc]at e2
    cases e2
    exact⟨u,r,.inr ⟨.inl hk,c,hc,hc'⟩⟩
   ·rw[List.getElem?_set_ne (Ne.symm hj)]at e2
    obtain⟨u',r',q⟩:=hl j y v' e1 e2 e3
    refine⟨u',r',?_⟩
    rcases q with q | ⟨k,c',e,z'⟩
    ·exact .inl q
    ·refine .inr ⟨k,c',e,z'.sameBut hs ?_⟩
     rintro rfl
     exact hj (Cv hN e1 (I.ok.inj _ _ _ e hc▸hi))
  ·by_cases hcc:c'=c
   ·subst hcc;exact⟨_,hc'⟩
   ·obtain⟨w2,z2⟩:=I.cell y c' e
    exact⟨w2,z2.sameBut hs hcc⟩
  ·obtain⟨e,n,ne,nf,d⟩:=I.pin p hp
   refine⟨(hs.2 p.1 ?_).trans e,n,ne,nf,d⟩
   intro q
   rw[q,hoc]at e
   have q':oc=p.2:=Option.some.inj e
   exact d w' (by rw[←q'];exact acX)
theorem wJ{M:Model}{A:Around}{E:Value→Shared→Prop}{i:Nat}{x:Str}{v:V}{u:Value}{Q:Unit→Shared→Prop}(I:Inv X pins σ H s)(hN:X.N.Nodup)(hi:X.N[i]? = some x)(hx:Loc X.env.scope x)(r:RelV v u)
  (h:∀s',Inv X pins (σ.set i (some v)) H s'→Q () s') (hf:X.fn x=true∨X.env.scope.names.lookup x=some .local:=by first | exact .inl rfl | exact .inr rfl | assumption):wpAny M A (storeName X.env x u) Q E s:=
 Hf I hN hi hx r (fun s' I' _=>h s' I') hf
theorem Inv.call'{s':Shared}{ch:List Addr}(I:Inv X pins σ H s)(ho:s'.os=s.os)(u:Un (frs X.stack) ch H H' s.heap s'.heap)(hok:oY X.prog X.w H' s'.heap)(hg:AllBare s'.gens)
  (hch:∀b∈ch,(b∈X.ex∨X.s₀.heap.objs.size≤b)∧b≠X.env.locals∧(∀x c,X.env.cells.lookup x=some c→c≠b)∧∀p∈X.pn++pins,p.1≠b):Inv X pins σ H' s':=by
 obtain⟨h',g',d',t',o'⟩:=s'
 have e:o'=s.os:=ho
 subst e
 exact I.call (g':=g') (t':=t') (d':=d') u hok hg hch
end
abbrev XK:=Value→Option Addr→Hp→Prop
abbrev St:=List (Option V)
abbrev VK:=V→Hp→Prop
abbrev TE:=St→Hp→VK→Prop
abbrev TT:=St→Hp→(Bool→Hp→Prop)→Prop
abbrev TA:=St→Hp→(List V→Hp→Prop)→Prop
structure Ends where
 nx:St→Hp→Prop
 rt:VK
 bk:St→Hp→Prop:=fun _ _=>False
 ct:St→Hp→Prop:=fun _ _=>False
abbrev TS:=Ends→St→Hp→Prop
def EP(X:Cx)(pins:List (Addr×Obj))(σ:St)(Q:VK)(u:Value)(s':Shared):Prop:=∃v H',Inv X pins σ H' s'∧RelV v u∧Q v H'
def TP(X:Cx)(pins:List (Addr×Obj))(σ:St)(Q:Bool→Hp→Prop)(b:Bool)(s':Shared):Prop:=∃H',Inv X pins σ H' s'∧Q b H'
def AP(X:Cx)(pins:List (Addr×Obj))(σ:St)(Q:List V→Hp→Prop)(us:List Value)(s':Shared):Prop:=∃vs H',Inv X pins σ H' s'∧Vals vs us∧Q vs H'
def SP(X:Cx)(pins:List (Addr×Obj))(D:Ends)(f:Flow)(s':Shared):Prop:=
 match f with
 | .next=>∃σ' H',Inv X pins σ' H' s'∧D.nx σ' H'
 | .brk=>∃σ' H',Inv X pins σ' H' s'∧D.bk σ' H'
 | .cont=>∃σ' H',Inv X pins σ' H' s'∧D.ct σ' H'
 | .ret u=>∃v σ' H',Inv X pins σ' H' s'∧RelV v u∧D.rt v H'
def PE(X:Cx)(e:Expr)(t:TE):Prop:=
 ∀(pins:List (Addr×Obj)) (s:Shared) (σ:St) (H:Hp) (Q:VK),Inv X pins σ H s→t σ H Q→wpAny (model X.prog X.w) X.A (eval e X.env) (EP X pins σ Q) X.xe s
def PT(X:Cx)(e:Expr)(t:TT):Prop:=
 ∀(pins:List (Addr×Obj)) (s:Shared) (σ:St) (H:Hp) (Q:Bool→Hp→Prop),Inv X pins σ H s→t σ H Q→wpAny (model X.prog X.w) X.A (isTrue e X.env (eval e X.env)) (TP X pins σ Q) X.xe s
def PW(X:Cx)(e:Expr)(t:TT):Prop:=
 ∀(whole:Sem Value) (pins:List (Addr×Obj)) (s:Shared) (σ:St) (H:Hp) (Q:Bool→Hp→Prop),Inv X pins σ H s→t σ H Q→wpAny (model X.prog X.w) X.A (isTrue e X.env whole) (TP X pins σ Q) X.xe s
theorem PW.pt{X:Cx}{e:Expr}{t:TT}(h:PW X e t):PT X e t:=h _
def PA(X:Cx)(es:List Expr)(t:TA):Prop:=
 ∀(pos:Pos) (pins:List (Addr×Obj)) (s:Shared) (σ:St) (H:Hp) (Q:List V→Hp→Prop),Inv X pins σ H s→t σ H Q→wpAny (model X.prog X.w) X.A (spliced (backTo pos (starEach es X.env))) (AP X pins σ Q) X.xe s
def PS(X:Cx)(st:Stmt)(t:TS):Prop:=
 ∀(pins:List (Addr×Obj)) (s:Shared) (σ:St) (H:Hp) (D:Ends),Inv X pins σ H s→t D σ H→wpAny (model X.prog X.w) X.A (exec st X.env) (SP X pins D) X.xe s
def yj(X:Cx)(st:List Stmt)(t:TS):Prop:=
 ∀(pins:List (Addr×Obj)) (s:Shared) (σ:St) (H:Hp) (D:Ends),Inv X pins σ H s→t D σ H→wpAny (model X.prog X.w) X.A (execs st X.env) (SP X pins D) X.xe s
theorem je{α:Type}{t:Sem α}{Q Q':α→Shared→Prop}{M:Model}{A:Around}{E:Value→Shared→Prop}{s:Shared}(h:wpAny M A t Q E s)(hQ:∀a s,Q a s→Q' a s):wpAny M A t Q' E s:=wpAny_mono h hQ fun _ _ x=>x
section
variable{X:Cx}
theorem bin{a b:Expr}{ta tb:TE}(ha:PE X a ta)(hb:PE X b tb){pins:List (Addr×Obj)}{s:Shared}{σ:St}{H:Hp}{R:V→V→Hp→Prop}(I:Inv X pins σ H s)(h:ta σ H fun x H1=>tb σ H1 fun y H2=>R x y H2)
  {α:Type} {Q:α→Shared→Prop} {f:Value→Value→Sem α}
  (hf:∀v u s2 x y H2,Inv X pins σ H2 s2→RelV x v→RelV y u→R x y H2→wpAny (model X.prog X.w) X.A (f v u) Q X.xe s2):
  wpAny (model X.prog X.w) X.A (eval a X.env) (fun v s₁=>wpAny (model X.prog X.w) X.A (eval b X.env) (fun u s₂=>wpAny (model X.prog X.w) X.A (f v u) Q X.xe s₂) X.xe s₁) X.xe s:=by
 refine je (ha pins s σ H _ I h) fun v s1 ⟨x,H1,I1,r1,q1⟩=> ?_
 refine je (hb pins s1 σ H1 _ I1 q1) fun u s2 ⟨y,H2,I2,r2,q2⟩=> ?_
 exact hf v u s2 x y H2 I2 r1 r2 q2
def MJ(i:Nat):TE:=fun σ H Q=>∃v,σ[i]? = some (some v)∧Q v H
def tC(v:V):TE:=fun _ H Q=>Q v H
theorem Ac{i:Nat}{x:Str}{pos:Pos}(hN:X.N[i]? = some x)(hv:ZK X.env.scope x)(hd:(x==("__debug__" : Str))=false:=by decide)(hcd:(x==("__classdict__" : Str))=false:=by decide):PE X (.Name x pos) (MJ i):=by
 intro pins s σ H Q I h
 obtain⟨v,e,h⟩:=h
 obtain⟨m,hn,hl⟩:=I.loc
 obtain⟨u,r,l⟩:=hl i x v hN e hv
 have fin:EP X pins σ Q u s:=⟨v,H,I,r,h⟩
 rcases l with⟨hk,hm⟩ | ⟨hk,c,hc,hcell⟩
 ·exact wpAny_Name (wpAny_loadName_local I.ok.kind hk hn hm fin) hd
 ·rcases hk with hk | hk
  ·exact wpAny_Name (wpAny_loadName_cell I.ok.kind hk hc hcell fin) hd
  ·exact wpAny_Name (wpAny_loadName_free I.ok.kind hk hc hcell fin hcd) hd
theorem R9{i j pos}:PE X (.Constant (.int i) j pos) (tC (.int i)):=fun _ _ _ H _ I h=>wpAny_Constant_int ⟨.int i,H,I.tok _,⟨_,rfl⟩,h⟩
theorem WX{b j pos}:PE X (.Constant (.bool b) j pos) (tC (.bl b)):=fun _ _ _ H _ I h=>Constant_bool ⟨.bl b,H,I,rfl,h⟩
theorem R4{j pos}:PE X (.Constant .none j pos) (tC .non):=fun _ _ _ H _ I h=>Constant_none ⟨.non,H,I,rfl,h⟩
theorem RZ{x j pos}:PE X (.Constant (.str x) j pos) (tC (.str x)):=fun _ _ _ H _ I h=>Calls.Constant_str ⟨.str x,H,I.tok _,⟨_,rfl⟩,h⟩
def Gl(X:Cx)(x:Str):Prop:=X.env.kindOf x=some .globalImplicit
theorem wu{E:Value→Shared→Prop}{pins:List (Addr×Obj)}{s:Shared}{σ:St}{H:Hp}{x:Str}{u:Value}{pos:Pos}{Q:Value→Shared→Prop}(I:Inv X pins σ H s)(hg:Gl X x)(hm:X.mg x=some u)(h:Q u s)
  (hd:(x==("__debug__" : Str))=false:=by decide):wpAny (model X.prog X.w) X.A (eval (.Name x pos) X.env) Q E s:=
 Calls.Name_function_global I.ok.kind hg (Calls.loadGlobal_global (by rw[I.ok.glob];exact I.mod.glob.keeps I.bk) hm h) hd
theorem Ao{E:Value→Shared→Prop}{pins:List (Addr×Obj)}{s:Shared}{σ:St}{H:Hp}{x:Str}{u:Value}{pos:Pos}{Q:Value→Shared→Prop}(I:Inv X pins σ H s)(hg:Gl X x)(hm:X.mg x=none)(hv:bootBuiltins x=some u)(h:Q u s)
  (hn:x≠ "__name__" := by decide) (hd:(x==("__debug__" : Str))=false:=by decide):wpAny (model X.prog X.w) X.A (eval (.Name x pos) X.env) Q E s:=by
 obtain⟨mb,h1,h2⟩:=I.mod.blt
 exact Calls.Name_function_global I.ok.kind hg (Calls.loadGlobal_builtin (by rw[I.ok.glob];exact I.mod.glob.keeps I.bk) hm (by rw[I.ok.blt];exact h1.keeps I.bk) ((h2 x hn).trans hv) h) hd
theorem Oh{x:Str}{v:V}{u:Value}{pos:Pos}(hg:Gl X x)(hm:X.mg x=none)(hv:bootBuiltins x=some u)(r:RelV v u)(hn:x≠ "__name__" := by decide)(hd:(x==("__debug__" : Str))=false:=by decide):PE X (.Name x pos) (tC v):=
 fun _ _ _ H _ I h=>Ao I hg hm hv ⟨v,H,I,r,h⟩ hn hd
variable{a b:Expr}{ta tb:TE}{pos:Pos}
def PC(X:Cx)(op:CmpOp)(a b:Expr)(t:TE):Prop:=
 ∀(pins:List (Addr×Obj)) (s:Shared) (σ:St) (H:Hp) (Q:VK),Inv X pins σ H s→t σ H Q→
  wpAny (model X.prog X.w) X.A (eval a X.env) (fun v s₁=>wpAny (model X.prog X.w) X.A (eval b X.env) (fun u s₂=>wpAny (model X.prog X.w) X.A (compareOp op v u) (EP X pins σ Q) X.xe s₂) X.xe s₁) X.xe s
theorem Kh(b:Expr){op:CmpOp}(h:op≠ .In)(h2:op≠ .NotIn):behindInMarks op b=false:=by
 have e1:(op==CmpOp.In)=false:=by cases op<;>first | rfl | exact absurd rfl h
 have e2:(op==CmpOp.NotIn)=false:=by cases op<;>first | rfl | exact absurd rfl h2
 cases b<;>simp[behindInMarks,e1,e2]
def tB(t:TE):TT:=fun σ H Q=>t σ H fun x H1=>∃c,x= .bl c∧Q c H1
theorem abQ{op:CmpOp}{t:TE}(h:PC X op a b t)(h1:behindInMarks op b=false:=by first | exact Kh _ (by decide) (by decide) | rfl):PT X (.Compare a [op] [b] pos) (tB t):=by
 intro pins s σ H Q I hw
 refine wpAny_isTrue_Compare1 (je (h pins s σ H _ I hw) fun v s1 h1=>je h1 fun u s2 h2=>je h2 fun c s3 ⟨x,H1,I1,r1,q1⟩=> ?_) h1
 obtain⟨d,rfl,q⟩:=q1
 cases r1
 exact wpAny_truthy_bool ⟨H1,I1,q⟩
theorem RK{e:Expr}{t:TE}(h:PE X e t)(he:∀whole,isTrue e X.env whole=(do let v ←whole;standAt e.pos;holding [v] (truthy v)):=by intro _;rfl):PT X e (tB t):=by
 intro pins s σ H Q I hw
 refine isTrue_plain (je (h pins s σ H _ I hw) fun v s1 ⟨x,H1,I1,r1,q1⟩=> ?_) (he _)
 obtain⟨d,rfl,q⟩:=q1
 cases r1
 exact wpAny_truthy_bool ⟨H1,I1,q⟩
variable{tA VJ:TT}{rest:List Expr}
def abn(t u:TT):TT:=fun σ H Q=>t σ H fun c H1=>if c=true then u σ H1 Q else Q false H1
def tOr(t u:TT):TT:=fun σ H Q=>t σ H fun c H1=>if c=true then Q true H1 else u σ H1 Q
def abg(t:TT):TT:=fun σ H Q=>t σ H fun c H1=>Q (!c) H1
theorem NQ(ha:PT X a tA):PW X (.BoolOp .And [a] pos) tA:=by
 intro wh pins s σ H Q I h
 refine isTrue_and (je (ha pins s σ H Q I h) fun c s1 e=> ?_)
 cases c with
 | true=>exact isTrue_and_nil e
 | false=>exact e
theorem RG(ha:PT X a tA):PW X (.BoolOp .Or [a] pos) tA:=by
 intro wh pins s σ H Q I h
 refine isTrue_or (je (ha pins s σ H Q I h) fun c s1 e=> ?_)
 cases c with
 | false=>exact isTrue_or_nil e
 | true=>exact e
theorem RJ(ha:PT X a tA)(hb:PW X (.BoolOp .And (b::rest) pos) VJ):PW X (.BoolOp .And (a::b::rest) pos) (abn tA VJ):=by
 intro wh pins s σ H Q I h
 refine isTrue_and (je (ha pins s σ H _ I h) fun c s1 ⟨H1,I1,q1⟩=> ?_)
 cases c with
 | true=>exact hb wh pins s1 σ H1 Q I1 q1
 | false=>exact⟨H1,I1,q1⟩
theorem Wm(ha:PT X a tA)(hb:PW X (.BoolOp .Or (b::rest) pos) VJ):PW X (.BoolOp .Or (a::b::rest) pos) (tOr tA VJ):=by
 intro wh pins s σ H Q I h
 refine isTrue_or (je (ha pins s σ H _ I h) fun c s1 ⟨H1,I1,q1⟩=> ?_)
 cases c with
 | true=>exact⟨H1,I1,q1⟩
 | false=>exact hb wh pins s1 σ H1 Q I1 q1
theorem RL(ha:PT X a tA):PT X (.UnaryOp .Not a pos) (abg tA):=by
 intro pins s σ H Q I h
 exact isTrue_not (ha pins s σ H (fun c H1=>Q (!c) H1) I h)
def VL(ta tb:TE):TE:=fun σ H Q=>ta σ H fun x H1=>∃c,x= .bl c∧if c=true then tb σ H1 Q else Q (.bl false) H1
def VF(ta:TE):TE:=fun σ H Q=>ta σ H fun x H1=>∃c,x= .bl c∧Q (.bl (!c)) H1
theorem R0{op}{t:TE}(h:PE X a t):PE X (.BoolOp op [a] pos) t:=fun pins s σ H Q I hw=>BoolOp_one (h pins s σ H Q I hw)
theorem Sd(ha:PE X a ta)(hb:PE X (.BoolOp .And (b::rest) pos) tb):PE X (.BoolOp .And (a::b::rest) pos) (VL ta tb):=by
 intro pins s σ H Q I h
 refine BoolOp_and (je (ha pins s σ H _ I h) fun v s1 ⟨x,H1,I1,r1,q1⟩=> ?_)
 obtain⟨c,rfl,q1⟩:=q1
 cases r1
 refine wpAny_truthy_bool ?_
 cases c with
 | true=>exact hb pins s1 σ H1 Q I1 q1
 | false=>exact⟨.bl false,H1,I1,rfl,q1⟩
theorem R3(ha:PE X a ta):PE X (.UnaryOp .Not a pos) (VF ta):=by
 intro pins s σ H Q I h
 refine UnaryOp_ (je (ha pins s σ H _ I h) fun v s1 ⟨x,H1,I1,r1,q1⟩=> ?_)
 obtain⟨c,rfl,q1⟩:=q1
 cases r1
 exact not_of (wpAny_truthy_bool ⟨.bl (!c),H1,I1,rfl,q1⟩)
end
def ql(K:Frag)(H:Hp)(a:Addr)(xs:List V):Prop:=
 Rd H a (.lst xs)∨
  ∃(o:Obj) (its:Array Value) (n:Nat),K.lookup a=some o∧o.cls= .type "list" ∧ o.dict=none∧o.data= .seq its n∧its.size≤sizeLine∧Vals xs its.toList
def oG(K:Frag)(H:Hp)(a:Addr)(xs:List V):Prop:=
 Rd H a (.tup xs)∨
  ∃(o:Obj) (its:Array Value) (n:Nat),K.lookup a=some o∧o.cls= .type "tuple" ∧ o.data= .seq its n∧its.size≤sizeLine∧Vals xs its.toList
def adv:Value→Option V
 | .none=>some .non
 | .bool b=>some (.bl b)
 | .int i _=>some (.int i)
 | .str x _=>some (.str x)
 | .bytes b _=>some (.byt b)
 | .float b _=>some (.flt b)
 | .ref a=>some (.ref a)
 | .type n=>some (.ty n)
 | _=>none
theorem RelV.abs{x:V}{u:Value}(r:RelV x u):adv u=some x:=by
 cases x with
 | non=>cases r;rfl
 | bl _=>cases r;rfl
 | int _=>obtain⟨t,rfl⟩:=r;rfl
 | str _=>obtain⟨t,rfl⟩:=r;rfl
 | byt _=>obtain⟨t,rfl⟩:=r;rfl
 | flt _=>obtain⟨t,rfl⟩:=r;rfl
 | ref _=>cases r;rfl
 | ty _=>cases r;rfl
theorem RelV.inj{x y:V}{u:Value}(r:RelV x u)(q:RelV y u):x=y:=Option.some.inj (r.abs.symm.trans q.abs)
theorem Vals.inj:∀{xs ys:List V} {us:List Value},Vals xs us→Vals ys us→xs=ys
 | _,_,_,.nil,.nil=>rfl
 | _,_,_,.cons r t,.cons r' t'=>by rw[r.inj r',Vals.inj t t']
section
variable{X:Cx}{pins:List (Addr×Obj)}{σ:St}{H:Hp}{s:Shared}{a:Addr}{xs ys:List V}
theorem ql.of{K:Frag}(h:H a=some (.lst xs)):ql K H a xs:= .inl (.inl h)
theorem oG.of{K:Frag}(h:H a=some (.tup xs)):oG K H a xs:= .inl (.inl h)
theorem Inv.list(I:Inv X pins σ H s)(h:ql X.K H a xs):∃its:List Value,Vals xs its∧PlainL s.heap a its.toArray∧xs.length≤sizeLine:=by
 rcases h with h | ⟨o,its,n,hk,hc,hd,hs,hz,r⟩
 ·obtain⟨z,its,n,r,e⟩:=h.ok I.hok
  exact⟨its,r,⟨_,n,e,rfl,rfl,rfl⟩,z⟩
 ·refine⟨its.toList,r,⟨o,n,I.su a o hk,hc,hd,by simpa using hs⟩,?_⟩
  have e:=r.length
  simp only[Array.length_toList]at e
  omega
theorem Inv.tuple(I:Inv X pins σ H s)(h:oG X.K H a xs):∃its:List Value,Vals xs its∧IsTup s.heap a its.toArray∧xs.length≤sizeLine:=by
 rcases h with h | ⟨o,its,n,hk,hc,hs,hz,r⟩
 ·obtain⟨z,its,r,p⟩:=h.ok I.hok
  exact⟨its,r,p,z⟩
 ·refine⟨its.toList,r,⟨o,I.su a o hk,hc,n,by simpa using hs⟩,?_⟩
  have e:=r.length
  simp only[Array.length_toList]at e
  omega
theorem Inv.CG(I:Inv X pins σ H s)(h:ql X.K H a xs)(h':ql X.K H a ys):xs=ys:=by
 obtain⟨its,r,⟨o,n,e,_,_,d⟩,_⟩:=I.list h
 obtain⟨its',r',⟨o',n',e',_,_,d'⟩,_⟩:=I.list h'
 rw[e]at e';cases e'
 rw[d]at d'
 injection d' with d1 _
 have:its=its':=by simpa using congrArg Array.toList d1
 subst this
 exact r.inj r'
theorem Inv.yN(I:Inv X pins σ H s)(h:oG X.K H a xs)(h':oG X.K H a ys):xs=ys:=by
 obtain⟨its,r,⟨o,e,_,n,d⟩,_⟩:=I.tuple h
 obtain⟨its',r',⟨o',e',_,n',d'⟩,_⟩:=I.tuple h'
 rw[e]at e';cases e'
 rw[d]at d'
 injection d' with d1 _
 have:its=its':=by simpa using congrArg Array.toList d1
 subst this
 exact r.inj r'
end
abbrev Cx.wish(X:Cx)(E:Value→Shared→Prop):Cx:={X with xe:=E}
abbrev Cx.Mp(X:Cx):Cx:=X.wish fun _ _=>False
theorem Cx.Ok.wish{X:Cx}(ok:X.Ok)(E:Value→Shared→Prop):(X.wish E).Ok:=
 ⟨ok.mod,ok.kind,ok.glob,ok.blt,ok.above,ok.inj,ok.has,ok.cab,ok.hd,ok.frames,ok.stk,ok.Vr,ok.bs,ok.GR,ok.Ek,ok.E_,ok.rJ,ok.K6⟩
theorem Cx.Ok.jo{X:Cx}{E:Value→Shared→Prop}(ok:(X.wish E).Ok):X.Ok:=
 ⟨ok.mod,ok.kind,ok.glob,ok.blt,ok.above,ok.inj,ok.has,ok.cab,ok.hd,ok.frames,ok.stk,ok.Vr,ok.bs,ok.GR,ok.Ek,ok.E_,ok.rJ,ok.K6⟩
section
variable{X:Cx}{pins:List (Addr×Obj)}{σ:St}{H:Hp}{s:Shared}{E:Value→Shared→Prop}
theorem Inv.wish(I:Inv X pins σ H s)(E:Value→Shared→Prop):Inv (X.wish E) pins σ H s:=⟨I.ok.wish E,I.os,I.bare,I.base,I.loc,I.cell,I.free,I.mY,I.pin,I.hok,I.len⟩
theorem Inv.jo(I:Inv (X.wish E) pins σ H s):Inv X pins σ H s:=⟨I.ok.jo,I.os,I.bare,I.base,I.loc,I.cell,I.free,I.mY,I.pin,I.hok,I.len⟩
theorem SP.jo{D:Ends}{f:Flow}{s':Shared}(h:SP (X.wish E) pins D f s'):SP X pins D f s':=by
 cases f with
 | next=>obtain⟨σ',H',I,q⟩:=h;exact⟨σ',H',I.jo,q⟩
 | brk=>obtain⟨σ',H',I,q⟩:=h;exact⟨σ',H',I.jo,q⟩
 | cont=>obtain⟨σ',H',I,q⟩:=h;exact⟨σ',H',I.jo,q⟩
 | ret u=>obtain⟨v,σ',H',I,r,q⟩:=h;exact⟨v,σ',H',I.jo,r,q⟩
theorem PE.Mp{e:Expr}{t:TE}(h:PE X.Mp e t):PE X e t:=fun pins s σ H Q I hw=>
 wpAny_mono (h pins s σ H Q (I.wish _) hw) (fun _ _ ⟨v,H',I',r,q⟩=>⟨v,H',I'.jo,r,q⟩) fun _ _ z=>False.elim z
theorem PT.Mp{e:Expr}{t:TT}(h:PT X.Mp e t):PT X e t:=fun pins s σ H Q I hw=>
 wpAny_mono (h pins s σ H Q (I.wish _) hw) (fun _ _ ⟨H',I',q⟩=>⟨H',I'.jo,q⟩) fun _ _ z=>False.elim z
theorem yj.Mp{st:List Stmt}{t:TS}(h:yj X.Mp st t):yj X st t:=fun pins s σ H D I hw=>
 wpAny_mono (h pins s σ H D (I.wish _) hw) (fun _ _ q=>q.jo) fun _ _ z=>False.elim z
end
section
variable{X:Cx}{st:Stmt}{rest:List Stmt}{t u:TS}{e:Expr}{te:TE}{pos:Pos}
def Qn:TS:=fun D σ H=>D.nx σ H
def VB(t u:TS):TS:=fun D σ H=>t {D with nx:=u D} σ H
theorem N8:yj X [] Qn:=fun _ _ σ H _ I h=>wpAny_execs_nil ⟨σ,H,I,h⟩
theorem J2(h1:PS X st t)(h2:yj X rest u):yj X (st::rest) (VB t u):=by
 intro pins s σ H D I h
 refine wpAny_execs_cons (je (h1 pins s σ H {D with nx:=u D} I h) fun f s1 q=> ?_)
 cases f with
 | next=>
  obtain⟨σ',H',I',q⟩:=q
  exact h2 pins s1 σ' H' D I' q
 | ret v=>exact q
 | brk=>exact q
 | cont=>exact q
theorem N7(h1:PS X st t):yj X [st] t:=by
 intro pins s σ H D I h
 refine wpAny_execs_cons (je (h1 pins s σ H D I h) fun f s1 q=> ?_)
 cases f with
 | next=>exact wpAny_execs_nil q
 | ret v=>exact q
 | brk=>exact q
 | cont=>exact q
theorem Inv.quiet{pins:List (Addr×Obj)}{σ:St}{H:Hp}{s:Shared}(I:Inv X pins σ H s):interactive X.env=false:=by simp[interactive,I.ok.kind]
def VH(te:TE):TS:=fun D σ H=>te σ H fun _ H1=>D.nx σ H1
theorem Oa(he:PE X e te)(hs:swapsWith e none pos.line X.env=pure false:=by rfl):PS X (.Expr e pos) (VH te):=by
 intro pins s σ H D I h
 exact wpAny_Expr_any (je (he pins s σ H _ I h) fun v s1 ⟨x,H1,I1,r1,q1⟩=>⟨σ,H1,I1,q1⟩) I.quiet hs
def abf(te:TE):TS:=fun D σ H=>te σ H D.rt
theorem RN(he:PE X e te):PS X (.Return (some e) pos) (abf te):=by
 intro pins s σ H D I h
 exact wpAny_Return_some (je (he pins s σ H _ I h) fun v s1 ⟨x,H1,I1,r1,q1⟩=>⟨x,σ,H1,I1,r1,q1⟩)
def abj(c:TT)(t u:TS):TS:=fun D σ H=>c σ H fun b H1=>if b=true then t D σ H1 else u D σ H1
theorem Wn{c:Expr}{a b:List Stmt}{tc:TT}(hc:PT X c tc)(ha:yj X a t)(hb:yj X b u):PS X (.If c a b pos) (abj tc t u):=by
 intro pins s σ H D I h
 refine wpAny_If (je (hc pins s σ H _ I h) fun d s1 ⟨H1,I1,q1⟩=> ?_)
 cases d with
 | true=>exact ha pins s1 σ H1 D I1 q1
 | false=>exact hb pins s1 σ H1 D I1 q1
end
abbrev TG:=V→St→Hp→(St→Hp→Prop)→Prop
abbrev Qf:=List V→St→Hp→(St→Hp→Prop)→Prop
def PG(X:Cx)(target:Expr)(t:TG):Prop:=
 ∀(pins:List (Addr×Obj)) (s:Shared) (σ:St) (H:Hp) (v:V) (u:Value) (Q:St→Hp→Prop),Inv X pins σ H s→RelV v u→t v σ H Q→
  wpAny (model X.prog X.w) X.A (assign target X.env u) (fun _ s'=>∃σ' H',Inv X pins σ' H' s'∧Q σ' H') X.xe s
def Mt(X:Cx)(ts:List Expr)(t:Qf):Prop:=
 ∀(pins:List (Addr×Obj)) (s:Shared) (σ:St) (H:Hp) (vs:List V) (us:List Value) (Q:St→Hp→Prop),Inv X pins σ H s→Vals vs us→t vs σ H Q→
  wpAny (model X.prog X.w) X.A (assignInOrder ((assignEach ts X.env).map (·.2)) us) (fun _ s'=>∃σ' H',Inv X pins σ' H' s'∧Q σ' H') X.xe s
section
variable{X:Cx}{pos:Pos}
def QF(i:Nat):TG:=fun v σ H Q=>Q (σ.set i (some v)) H
theorem Od{i:Nat}{x:Str}(hN:X.N.Nodup)(hi:X.N[i]? = some x)(hx:Loc X.env.scope x)(hf:X.fn x=true∨X.env.scope.names.lookup x=some .local:=by first | exact .inl rfl | exact .inr rfl | assumption):PG X (.Name x pos) (QF i):=by
 intro pins s σ H v u Q I r h
 exact wpAny_assign_Name (wJ I hN hi hx r (fun s' I'=>⟨_,H,I',h⟩) hf)
def ac8:Qf:=fun vs σ H Q=>vs=[]∧Q σ H
def Yh(t:TG)(u:Qf):Qf:=fun vs σ H Q=>∃v r,vs=v::r∧t v σ H fun σ' H'=>u r σ' H' Q
theorem Oc:Mt X [] ac8:=by
 intro pins s σ H vs us Q I r h
 obtain⟨e,h⟩:=h
 subst e
 cases r
 exact assignInOrder_nil ⟨σ,H,I,h⟩
theorem J4{e:Expr}{es:List Expr}{t:TG}{u:Qf}(h1:PG X e t)(h2:Mt X es u)
  (hs:(assignEach (e::es) X.env).map (·.2)=assign e X.env::(assignEach es X.env).map (·.2):=by rfl):Mt X (e::es) (Yh t u):=by
 intro pins s σ H vs us Q I r h
 obtain⟨v,vr,e1,h⟩:=h
 subst e1
 cases r with
 | cons r rr=>
  rw[hs]
  refine assignInOrder_cons (je (h1 pins s σ H _ _ _ I r h) fun _ s1 ⟨σ1,H1,I1,q1⟩=> ?_)
  exact h2 pins s1 σ1 H1 _ _ Q I1 rr q1
def ac7(K:Frag)(n:Nat)(t:Qf):TG:=fun v σ H Q=>∃a xs,v= .ref a∧oG K H a xs∧xs.length=n∧t xs σ H Q
theorem RW{es:List Expr}{k:Nat}{t:Qf}{n:Nat}(hc:X.calm=true)(h:Mt X es t)
  (hn:(assignEach es X.env).length=n:=by rfl) (hst:(assignEach es X.env).findIdx? (·.1)=none:=by rfl):PG X (.Tuple es k pos) (ac7 X.K n t):=by
 intro pins s σ H v u Q I r hw
 obtain⟨a,xs,e1,hq,hl,hw⟩:=hw
 subst e1
 cases r
 obtain⟨its,rv,ht,hz⟩:=I.tuple hq
 refine assign_Tuple_tuple (I.ok.hd hc) ht (by simp[hn,←hl,rv.length]) hst fun h' hx=> ?_
 have I1:Inv X pins σ H {s with heap:=h'}:=I.kept (t':=s.toks) fun b o e=>hx b o (Nat.ne_of_lt (Heap.lt_size e)) e
 exact h pins _ σ H xs _ Q I1 (by simpa using rv) hw
def Ra(te:TE)(g:TG):TS:=fun D σ H=>te σ H fun x H1=>g x σ H1 D.nx
theorem RT{tg e:Expr}{te:TE}{g:TG}(he:PE X e te)(hg:PG X tg g)(hs:swapsWithSole [tg] e pos.line X.env=pure false:=by rfl)(hw:swappedStores [tg] e X.env=pure none:=by rfl)
  (h1:(assignEach [tg] X.env).map (·.2)=[assign tg X.env]:=by rfl):PS X (.Assign [tg] e pos) (Ra te g):=by
 intro pins s σ H D I h
 refine wpAny_Assign_stores (je (he pins s σ H _ I h) fun v s1 ⟨x,H1,I1,r1,q1⟩=> ?_) hs hw
 rw[h1]
 exact je (hg pins s1 σ H1 x v _ I1 r1 q1) fun _ s2 q=>q
theorem RM{i:Nat}{x:Str}{e:Expr}{te:TE}{pos':Pos}(hN:X.N.Nodup)(hi:X.N[i]? = some x)(hx:Loc X.env.scope x)(he:PE X e te)(hs:swapsWith e (some (.Name x pos')) pos.line X.env=pure false:=by rfl)(hf:X.fn x=true∨X.env.scope.names.lookup x=some .local:=by first | exact .inl rfl | exact .inr rfl | assumption):
  PS X (.Assign [.Name x pos'] e pos) (Ra te (QF i)):=by
 intro pins s σ H D I h
 refine wpAny_Assign_Name (je (he pins s σ H _ I h) fun v s1 ⟨y,H1,I1,r1,q1⟩=> ?_) hs
 exact wJ I1 hN hi hx r1 (fun s2 I2=>⟨_,H1,I2,q1⟩) hf
end
section
variable{X:Cx}{pos:Pos}
def Q7(c:TT)(tb:TS):TS:=fun D σ H=>∃W:Nat→St→Hp→Prop,(∃m,W m σ H)∧∀m σ H,W m σ H→
 c σ H fun b H1=>if b=true then ∃N:St→Hp→Prop,(∀σ' H',N σ' H'→∃m',m'<m∧W m' σ' H')∧tb {D with nx:=N,ct:=N,bk:=D.nx} σ H1 else D.nx σ H1
theorem J3{c:Expr}{body:List Stmt}{tc:TT}{tb:TS}(hp:PassesOwn (model X.prog X.w) X.A X.env X.xe)(hc:PT X c tc)(hb:yj X body tb):PS X (.While c body [] pos) (Q7 tc tb):=by
 intro pins s σ H D I h
 obtain⟨W,⟨m0,w0⟩,turn⟩:=h
 refine wpAny_While (codeAny_whileLoop (fun n s'=>∃σ' H',Inv X pins σ' H' s'∧W n σ' H') ?_ m0 ⟨σ,H,I,w0⟩)
 rintro n s1 ⟨σ1,H1,I1,w1⟩
 refine wpAny_passesOwn hp (je (hc pins s1 σ1 H1 _ I1 (turn n σ1 H1 w1)) fun b s2 ⟨H2,I2,q2⟩=> ?_)
 cases b with
 | true=>
  obtain⟨N,hN,q2⟩:=q2
  rw[if_pos rfl]
  refine wpAny_passesOwn hp (je (hb pins s2 σ1 H2 _ I2 q2) fun f s3 q3=> ?_)
  cases f with
  | next=>
   obtain⟨σ3,H3,I3,n3⟩:=q3
   obtain⟨m',hm,w3⟩:=hN σ3 H3 n3
   exact⟨m',hm,σ3,H3,I3,w3⟩
  | cont=>
   obtain⟨σ3,H3,I3,n3⟩:=q3
   obtain⟨m',hm,w3⟩:=hN σ3 H3 n3
   exact⟨m',hm,σ3,H3,I3,w3⟩
  | brk=>exact q3
  | ret v=>exact q3
 | false=>
  rw[if_neg Bool.false_ne_true]
  exact wpAny_execs_nil ⟨σ1,H2,I2,q2⟩
end
structure It where
 go:Nat→Hp→Prop
 Mv:Nat→Hp→V→Hp→Prop
 stop:Nat→Hp→Prop
def Dr(X:Cx)(pins:List (Addr×Obj))(H:Hp)(b:Addr):Prop:=
 H b=none∧b≠X.env.locals∧b∉X.fs∧(b∈X.ex∨X.s₀.heap.objs.size≤b)∧(∀x c,X.env.cells.lookup x=some c→c≠b)∧∀p∈X.pn++pins,p.1≠b
theorem Inv.T8{X:Cx}{pins:List (Addr×Obj)}{σ:St}{H H':Hp}{s:Shared}{b:Addr}(I:Inv X pins σ H s)(hb:s.heap.objs.size≤b)(hn:H' b=none):Dr X pins H' b:=by
 refine⟨hn,Nat.ne_of_gt (Nat.lt_of_lt_of_le I.lt hb),I.acv hb,.inr (Nat.le_trans I.sz hb),fun x c e z=> ?_,fun p hp z=> ?_⟩
 ·obtain⟨v,q⟩:=I.cell x c e
  exact absurd (Nat.lt_of_lt_of_le q.lt (by rw[z];exact hb)) (Nat.lt_irrefl _)
 ·exact absurd (Nat.lt_of_lt_of_le (Heap.lt_size (I.pin p hp).1) (by rw[z];exact hb)) (Nat.lt_irrefl _)
structure Turn(P:Program)(w:World)(K:Frag)(tg:Expr)(J:It)(fp:List Addr)(it:Addr)(tn:Nat→Heap→Prop):Prop where
 mem:it∈fp
 obj:∀i h,tn i h→∀b∈fp,∃o,h.get? b=some o∧∀v,o.data≠ .cell v
 keep:∀i h h',tn i h→(∀b∈fp,∀o,h.get? b=some o→h'.get? b=some o)→tn i h'
 item:∀(X:Cx),X.prog=P→X.w=w→X.K=K→X.calm=true→∀(i:Nat) (pins:List (Addr×Obj)) (s:Shared) (σ:St) (H:Hp) (E:Value→Shared→Prop),Inv X pins σ H s→(∀b∈fp,Dr X pins H b)→tn i s.heap→J.go i H→
  wpAny (model P w) X.A (pyNext (.ref it)) (fun r s1=>∃u,r=some u∧
   wpAny (model P w) X.A (letOwnedTupleGo tg (.ref it) u) (fun _ s2=>∃x H',Inv X pins σ H' s2∧RelV x u∧J.Mv i H x H'∧tn (i+1) s2.heap∧∀b∈fp,H' b=none) E s1) E s
 done:∀(X:Cx),X.prog=P→X.w=w→X.K=K→X.calm=true→∀(i:Nat) (pins:List (Addr×Obj)) (s:Shared) (σ:St) (H:Hp) (E:Value→Shared→Prop),Inv X pins σ H s→(∀b∈fp,Dr X pins H b)→tn i s.heap→J.stop i H→
  wpAny (model P w) X.A (pyNext (.ref it)) (fun r s1=>r=none∧Inv X pins σ H s1) E s
 self:∀(A:Around) (i:Nat) (s:Shared) (Q:Value→Shared→Prop) (E:Value→Shared→Prop),tn i s.heap→Q (.ref it) s→wpAny (model P w) A (pyIter (.ref it)) Q E s
abbrev TI:=St→Hp→(It→Hp→Prop)→Prop
def PIE(X:Cx)(pins:List (Addr×Obj))(σ:St)(tg:Expr)(R:It→Hp→Prop)(itv:Value)(s2:Shared):Prop:=
 ∃(it:Addr) (fp:List Addr) (tn:Nat→Heap→Prop) (J:It) (H':Hp),itv= .ref it∧Inv X pins σ H' s2∧Turn X.prog X.w X.K tg J fp it tn∧tn 0 s2.heap∧(∀b∈fp,Dr X pins H' b)∧R J H'
def PI(X:Cx)(tg iter:Expr)(wi:TI):Prop:=
 ∀(pins:List (Addr×Obj)) (s:Shared) (σ:St) (H:Hp) (R:It→Hp→Prop),Inv X pins σ H s→wi σ H R→
  wpAny (model X.prog X.w) X.A (eval iter X.env) (fun v s1=>wpAny (model X.prog X.w) X.A (pyIter v) (PIE X pins σ tg R) X.xe s1) X.xe s
theorem K4{M:Model}{A:Around}{E:Value→Shared→Prop}{s:Shared}{tg:Expr}{it:Addr}{u:Value}{o:Obj}{n:String}{vs:Array Value}{Q:Unit→Shared→Prop}(ho:s.heap.get? it=some o)(hc:o.cls= .type n)(hd:o.data= .fields vs)
  (hn:["enumerate","zip","dict_itemiterator","dict_reverseitemiterator","odict_iterator","itertools.zip_longest","itertools.pairwise"].contains n=false) (hQ:Q () s):wpAny M A (letOwnedTupleGo tg (.ref it) u) Q E s:=by
 unfold letOwnedTupleGo
 cases tg<;>first
  | exact wpAny_pure hQ
  | (cases u<;>first
    | exact wpAny_pure hQ
    | (refine wpAny_bind (wpAny_load ho ?_)
       rw[hc,hd]
       show wpAny M A (if(["enumerate","zip","dict_itemiterator","dict_reverseitemiterator","odict_iterator","itertools.zip_longest","itertools.pairwise"].contains n&&vs[0]? == some (rawInt _))=true then _ else _) Q E s
       rw[if_neg (by intro h;rw[hn,Bool.false_and]at h;cases h)]
       exact wpAny_pure hQ))
def ZQ(K:Frag)(a:Addr):It:=
 ⟨fun i H=>∃xs x,ql K H a xs∧xs[i]? = some x,fun i H x H'=>H'=H∧∀xs,ql K H a xs→xs[i]? = some x,fun i H=>∃xs,ql K H a xs∧xs.length≤i⟩
def ZP(K:Frag)(a:Addr):It:=
 ⟨fun i H=>∃xs x,oG K H a xs∧xs[i]? = some x,fun i H x H'=>H'=H∧∀xs,oG K H a xs→xs[i]? = some x,fun i H=>∃xs,oG K H a xs∧xs.length≤i⟩
def Vu(lo:Int)(n:Nat):It:=⟨fun i _=>i<n,fun i H x H'=>H'=H∧x= .int (lo+i),fun i _=>n≤i⟩
theorem G9{P:Program}{w:World}{K:Frag}{tg:Expr}(a it:Addr):Turn P w K tg (ZQ K a) [it] it (fun i h=>h.IsListIter it a i) where
 mem:=by simp
 obj:=fun i h st b hb=>by
  have e:b=it:=by simpa using hb
  subst e
  obtain⟨o,e,c,d⟩:=st
  exact⟨o,e,fun v z=>by rw[d]at z;cases z⟩
 keep:=fun i h h' st k=>st.at fun o e=>k it (by simp) o e
 item:=by
  intro X hP hw hK hc i pins s σ H E I hf st hg
  subst hP hw hK
  obtain⟨xs,x,hq,hx⟩:=hg
  obtain⟨its,rv,p,hz⟩:=I.list hq
  obtain⟨u,hu,ru⟩:=rv.get hx
  obtain⟨f0,f1,f2,f3,f4,f5⟩:=hf it (by simp)
  refine wpAny_pyNext_list_item st p.isList (x:=u) (by simpa using hu) fun h' st' sb=> ?_
  have I1:Inv X pins σ H {s with heap:=h'}:=I.turned (t':=s.toks) (fun b o hb e=>(sb.2 b hb).trans e) f0 f1 f3 f4 f5
  obtain⟨o,e,c,d⟩:=id st'
  exact⟨u,rfl,K4 (s:={s with heap:=h'}) e c d (by decide) ⟨x,H,I1,ru,⟨rfl,fun ys hy=>by rw[I.CG hy hq];exact hx⟩,st',fun b hb=>(hf b hb).1⟩⟩
 done:=by
  intro X hP hw hK hc i pins s σ H E I hf st hg
  subst hP hw hK
  obtain⟨xs,hq,hx⟩:=hg
  obtain⟨its,rv,p,hz⟩:=I.list hq
  obtain⟨f0,f1,f2,f3,f4,f5⟩:=hf it (by simp)
  have hl:=rv.length
  exact wpAny_pyNext_list_end (I.ok.hd hc) st p.isList (by simp;omega) fun h' eb=>⟨rfl,I.turned (t':=s.toks) (fun b o hb e=>eb b o hb e) f0 f1 f3 f4 f5⟩
 self:=fun _ _ _ _ _ st h=>wpAny_pyIter_listiter st h
theorem DK{P:Program}{w:World}{K:Frag}{tg:Expr}(a it:Addr):Turn P w K tg (ZP K a) [it] it (fun i h=>h.IsTupleIter it a i) where
 mem:=by simp
 obj:=fun i h st b hb=>by
  have e:b=it:=by simpa using hb
  subst e
  obtain⟨o,e,c,d⟩:=st
  exact⟨o,e,fun v z=>by rw[d]at z;cases z⟩
 keep:=fun i h h' st k=>st.at fun o e=>k it (by simp) o e
 item:=by
  intro X hP hw hK hc i pins s σ H E I hf st hg
  subst hP hw hK
  obtain⟨xs,x,hq,hx⟩:=hg
  obtain⟨its,rv,p,hz⟩:=I.tuple hq
  obtain⟨u,hu,ru⟩:=rv.get hx
  obtain⟨f0,f1,f2,f3,f4,f5⟩:=hf it (by simp)
  refine wpAny_pyNext_tuple_item st (show s.heap.IsTuple a its.toArray from p) (x:=u) (by simpa using hu) fun h' st' sb=> ?_
  have I1:Inv X pins σ H {s with heap:=h'}:=I.turned (t':=s.toks) (fun b o hb e=>(sb.2 b hb).trans e) f0 f1 f3 f4 f5
  obtain⟨o,e,c,d⟩:=id st'
  exact⟨u,rfl,K4 (s:={s with heap:=h'}) e c d (by decide) ⟨x,H,I1,ru,⟨rfl,fun ys hy=>by rw[I.yN hy hq];exact hx⟩,st',fun b hb=>(hf b hb).1⟩⟩
 done:=by
  intro X hP hw hK hc i pins s σ H E I hf st hg
  subst hP hw hK
  obtain⟨xs,hq,hx⟩:=hg
  obtain⟨its,rv,p,hz⟩:=I.tuple hq
  obtain⟨f0,f1,f2,f3,f4,f5⟩:=hf it (by simp)
  have hl:=rv.length
  exact wpAny_pyNext_tuple_end (I.ok.hd hc) st (show s.heap.IsTuple a its.toArray from p) (by simp;omega) fun h' eb=>⟨rfl,I.turned (t':=s.toks) (fun b o hb e=>eb b o hb e) f0 f1 f3 f4 f5⟩
 self:=fun _ _ _ _ _ st h=>wpAny_pyIter_tupleiter st h
theorem DN{P:Program}{w:World}{K:Frag}{tg:Expr}(it:Addr)(lo:Int)(n:Nat):Turn P w K tg (Vu lo n) [it] it (fun i h=>IsRangeIter h it (lo+(i:Nat)*1) ((n:Int) - (i:Nat)) 1) where
 mem:=by simp
 obj:=fun i h st b hb=>by
  have e:b=it:=by simpa using hb
  subst e
  exact⟨_,st,fun v z=>by
   have z':Data.fields _=Data.cell v:=z
   cases z'⟩
 keep:=fun i h h' st k=>k it (by simp) _ st
 item:=by
  intro X hP hw hK hc i pins s σ H E I hf st hg
  subst hP hw hK
  obtain⟨f0,f1,f2,f3,f4,f5⟩:=hf it (by simp)
  have W:=Walks.range (prog:=X.prog) (w:=X.w) (I.ok.hd hc) it lo 1 n
  refine W.item i s _ _ hg st fun v h' tk hv st' kk=> ?_
  obtain⟨t,rfl⟩:=hv
  have I1:Inv X pins σ H {s with heap:=h',toks:=tk}:=I.turned (fun b o hb e=>kk b o (by simpa using hb) e) f0 f1 f3 f4 f5
  refine⟨_,rfl,K4 (s:={s with heap:=h',toks:=tk}) (n:= "range_iterator") st' rfl rfl (by decide) ⟨.int (lo+i),H,I1,⟨t,?_⟩,⟨rfl,rfl⟩,st',fun b hb=>(hf b hb).1⟩⟩
  rw[Int.mul_one]
 done:=by
  intro X hP hw hK hc i pins s σ H E I hf st hg
  subst hP hw hK
  obtain⟨f0,f1,f2,f3,f4,f5⟩:=hf it (by simp)
  exact wpAny_pyNext_range_end (I.ok.hd hc) st (by have:n≤i:=hg;omega) fun h' eb=>⟨rfl,I.turned (t':=s.toks) (fun b o hb e=>eb b o hb e) f0 f1 f3 f4 f5⟩
 self:=fun _ _ _ _ _ st h=>wpAny_pyIter_rangeiter st h
section
variable{X:Cx}{tg:Expr}
theorem JZ{pins:List (Addr×Obj)}{σ:St}{H:Hp}{s:Shared}{R:It→Hp→Prop}{E:Value→Shared→Prop}{lo hi:Int}{t u v:Tok}{tk:Nat}(I:Inv X pins σ H s)(h1: -(2 ^ 62)≤lo)(h2:lo<2 ^ 62)(h3: -(2 ^ 62)≤hi)(h4:hi<2 ^ 62)
  (q:R (Vu lo (hi - lo).toNat) H):wpAny (model X.prog X.w) X.A (pyIter (.ref s.heap.objs.size)) (PIE X pins σ tg R) E {s with heap:=s.heap.push {cls:= .type "range",data:= .fields #[.int lo t,.int hi u,.int 1 v]},toks:=tk}:=by
 refine wpAny_pyIter_range (IsRange.new ..) (small_one h1 h2 h3 h4) ?_
 have I1:Inv X pins σ H {s with heap:=s.heap.push {cls:= .type "range",data:= .fields #[.int lo t,.int hi u,.int 1 v]},toks:=tk}:=I.kept fun b o e=>Heap.get?_push_of_some _ e
 refine⟨(s.heap.push {cls:= .type "range",data:= .fields #[.int lo t,.int hi u,.int 1 v]}).objs.size,[(s.heap.push {cls:= .type "range",data:= .fields #[.int lo t,.int hi u,.int 1 v]}).objs.size],_,_,H,rfl,
  I1.kept (t':=tk) fun b o e=>Heap.get?_push_of_some _ e,DN _ lo (hi - lo).toNat,?_,fun b hb=> ?_,q⟩
 ·have e1:lo+((0:Nat):Int)*1=lo:=by simp
  have e2:(((hi - lo).toNat:Nat):Int) - ((0:Nat):Int)=Builtin.Range.rangeSize lo hi 1:=by rw[rangeSize_one];split<;>omega
  show IsRangeIter _ _ (lo+((0:Nat):Int)*1) ((((hi - lo).toNat:Nat):Int) - ((0:Nat):Int)) 1
  rw[e1,e2]
  exact Heap.get?_push_size _ rfl
 ·have e:b=(s.heap.push {cls:= .type "range",data:= .fields #[.int lo t,.int hi u,.int 1 v]}).objs.size:=by simpa using hb
  subst e
  exact I1.T8 (Nat.le_refl _) (I1.hok.fresh (Nat.le_refl _))
def X7(ta:TA):TI:=fun σ H R=>ta σ H fun vs H1=>∃j:Int,vs=[.int j]∧ -(2 ^ 62)≤j∧j<2 ^ 62∧R (Vu 0 j.toNat) H1
theorem Ht{a:Expr}{ta:TA}{p pos:Pos}(hg:Gl X "range")(hm:X.mg "range" = none)(ha:PA X [a] ta)(hs:starEach [a] X.env=[(false,eval a X.env)]:=by rfl):PI X tg (.Call (.Name "range" p) [a] [] pos) (X7 ta):=by
 intro pins s σ H R I h
 refine Call_ (Ao I hg hm boot_range (PyProof.Rows.callWith_type1 (je (ha pos pins s σ H _ I h) fun us s1 ⟨vs,H1,I1,r1,q1⟩=> ?_) hs rfl))
 obtain⟨j,e,q1,q2,q⟩:=q1
 subst e
 cases r1 with
 | cons r rr=>
  cases rr
  obtain⟨t,rfl⟩:=r
  exact call_range_1 (JZ I1 (by omega) (by omega) q1 q2 (by simpa using q))
def abk(wi:TI)(g:TG)(tb:TS):TS:=fun D σ H=>wi σ H fun J H1=>∃W:Nat→Nat→St→Hp→Prop,(∃m,W 0 m σ H1)∧∀i m σ H,W i m σ H→
 (J.stop i H∧D.nx σ H)∨(J.go i H∧∃N:St→Hp→Prop,(∀σ' H',N σ' H'→∃m',m'<m∧W (i+1) m' σ' H')∧∀x H',J.Mv i H x H'→g x σ H' fun σ2 H2=>tb {D with nx:=N,ct:=N,bk:=D.nx} σ2 H2)
def xq(fp:List Addr)(h:Heap):List (Addr×Obj):=fp.filterMap fun b=>(h.get? b).map fun o=>(b,o)
theorem pO{fp:List Addr}{h:Heap}{b:Addr}{o:Obj}(hb:b∈fp)(e:h.get? b=some o):(b,o)∈xq fp h:=List.mem_filterMap.mpr ⟨b,hb,by rw[e];rfl⟩
theorem HJ{fp:List Addr}{h:Heap}{p:Addr×Obj}(hp:p∈xq fp h):p.1∈fp∧h.get? p.1=some p.2:=by
 obtain⟨b,hb,e⟩:=List.mem_filterMap.mp hp
 cases q:h.get? b with
 | none=>rw[q]at e;cases e
 | some o=>
  rw[q]at e
  have e':(b,o)=p:=Option.some.inj e
  subst e'
  exact⟨hb,q⟩
theorem Inv.pinned{pins:List (Addr×Obj)}{σ:St}{H:Hp}{s:Shared}{fp:List Addr}(I:Inv X pins σ H s)(hf:∀b∈fp,Dr X pins H b)(ho:∀b∈fp,∃o,s.heap.get? b=some o∧∀v,o.data≠ .cell v):Inv X (pins++xq fp s.heap) σ H s:=
 I.vX fun p hp=>(List.mem_append.mp hp).elim (fun z=>I.pin p (List.mem_append_right _ z)) fun z=>by
  obtain⟨hb,e⟩:=HJ z
  obtain⟨f0,f1,f2,_⟩:=hf p.1 hb
  obtain⟨o,e',d⟩:=ho p.1 hb
  rw[e]at e';cases e'
  exact⟨e,f0,f1,f2,d⟩
theorem Inv.sY{pins pl:List (Addr×Obj)}{σ:St}{H:Hp}{s:Shared}(I:Inv X (pins++pl) σ H s):Inv X pins σ H s:=I.vX fun p hp=>I.pin p (List.mem_append_right _ (List.mem_append_left _ hp))
theorem RP{iter:Expr}{body:List Stmt}{wi:TI}{g:TG}{tb:TS}{pos:Pos}(hp:PassesOwn (model X.prog X.w) X.A X.env X.xe)(hc:X.calm=true)(hi:PI X tg iter wi)(hg:PG X tg g)(hb:yj X body tb)
  (hs:∀x,foldedSetIterable iter X.env x=pure x:=by intro _;rfl):PS X (.For tg iter body [] pos) (abk wi g tb):=by
 intro pins s σ H D I h
 refine wpAny_For (je (hi pins s σ H _ I h) fun v s1 h1=>je h1 fun itv s2 h2=> ?_) hs
 obtain⟨it,fp,tn,J,H2,e,I2,T,st2,f2,W,⟨m0,w0⟩,turn⟩:=h2
 subst e
 have stat:∀{H':Hp},(∀b∈fp,H' b=none)→∀b∈fp,Dr X pins H' b:=fun hn b hb=>⟨hn b hb,(f2 b hb).2⟩
 refine codeAny_forLoop_any (fun n s'=>∃i σ' H',Inv X pins σ' H' s'∧tn i s'.heap∧(∀b∈fp,H' b=none)∧W i n σ' H') ?_ m0 ⟨0,σ,H2,I2,st2,fun b hb=>(f2 b hb).1,w0⟩
 rintro n s3 ⟨i,σ3,H3,I3,st3,Yj,w3⟩
 rcases turn i n σ3 H3 w3 with⟨stop,qn⟩ | ⟨go,N,hN,step⟩
 ·refine wpAny_passesOwn hp (je (T.done X rfl rfl rfl hc i pins s3 σ3 H3 X.xe I3 (stat Yj) st3 stop) fun r s4 ⟨hr,I4⟩=> ?_)
  subst hr
  exact wpAny_execs_nil ⟨σ3,H3,I4,qn⟩
 ·refine wpAny_passesOwn hp (je (T.item X rfl rfl rfl hc i pins s3 σ3 H3 X.xe I3 (stat Yj) st3 go) fun r s4 ⟨u,hr,h4⟩=> ?_)
  subst hr
  refine wpAny_passesOwn hp (je h4 fun _ s5 ⟨x,H5,I5,r5,y5,Qq,fr5⟩=> ?_)
  have I5':=I5.pinned (stat fr5) (T.obj _ _ Qq)
  refine wpAny_passesOwn hp (je (hg _ s5 σ3 H5 x u _ I5' r5 (step x H5 y5)) fun _ s6 ⟨σ6,H6,I6,q6⟩=> ?_)
  refine wpAny_passesOwn hp (je (hb _ s6 σ6 H6 _ I6 q6) fun f s7 q7=> ?_)
  have again:∀{Jh:St} {H7:Hp},Inv X (pins++xq fp s5.heap) Jh H7 s7→N Jh H7→∃m,m<n∧∃i σ' H',Inv X pins σ' H' s7∧tn i s7.heap∧(∀b∈fp,H' b=none)∧W i m σ' H':=fun{Jh H7} I7 n7=>by
   obtain⟨m',hm,w7⟩:=hN Jh H7 n7
   refine⟨m',hm,i+1,Jh,H7,I7.sY,T.keep _ _ _ Qq fun b hb o e=>(I7.pin (b,o) (List.mem_append_right _ (List.mem_append_right _ (pO hb e)))).1,fun b hb=> ?_,w7⟩
   obtain⟨o,e,d⟩:=T.obj _ _ Qq b hb
   exact(I7.pin (b,o) (List.mem_append_right _ (List.mem_append_right _ (pO hb e)))).2.1
  cases f with
  | next=>obtain⟨Jh,H7,I7,n7⟩:=q7;exact again I7 n7
  | cont=>obtain⟨Jh,H7,I7,n7⟩:=q7;exact again I7 n7
  | brk=>obtain⟨Jh,H7,I7,q7⟩:=q7;exact⟨Jh,H7,I7.sY,q7⟩
  | ret v=>obtain⟨x7,Jh,H7,I7,r7,q7⟩:=q7;exact⟨x7,Jh,H7,I7.sY,r7,q7⟩
end
abbrev R2:=V→V→Hp→VK→Prop
def rB(X:Cx)(f:Value→Value→Sem Value)(r:R2):Prop:=
 ∀(pins:List (Addr×Obj)) (s:Shared) (σ:St) (H:Hp) (x y:V) (v u:Value) (Q:VK),Inv X pins σ H s→RelV x v→RelV y u→r x y H Q→
  wpAny (model X.prog X.w) X.A (f v u) (EP X pins σ Q) X.xe s
def UnR(X:Cx)(f:Value→Sem Value)(r:V→Hp→VK→Prop):Prop:=
 ∀(pins:List (Addr×Obj)) (s:Shared) (σ:St) (H:Hp) (x:V) (v:Value) (Q:VK),Inv X pins σ H s→RelV x v→r x H Q→
  wpAny (model X.prog X.w) X.A (f v) (EP X pins σ Q) X.xe s
def mD(X:Cx)(f:Value)(r:List V→Hp→VK→Prop):Prop:=
 ∀(pins:List (Addr×Obj)) (s:Shared) (σ:St) (H:Hp) (xs:List V) (us:List Value) (Q:VK),Inv X pins σ H s→Vals xs us→r xs H Q→
  wpAny (model X.prog X.w) X.A (call f us) (EP X pins σ Q) X.xe s
def VD(r:R2)(ta tb:TE):TE:=fun σ H Q=>ta σ H fun x H1=>tb σ H1 fun y H2=>r x y H2 Q
def tUn(r:V→Hp→VK→Prop)(ta:TE):TE:=fun σ H Q=>ta σ H fun x H1=>r x H1 Q
def rI(C:Int→Int→Prop)(g:Int→Int→V):R2:=fun x y H Q=>∃i j,x= .int i∧y= .int j∧C i j∧Q (g i j) H
def NK(g:Int→Int→V):R2:=fun x y H Q=>∃i j,x= .int i∧y= .int j∧Q (g i j) H
def rU(g:Int→V):V→Hp→VK→Prop:=fun x H Q=>∃i,x= .int i∧Q (g i) H
section
variable{X:Cx}{a b c:Expr}{ta tb tc:TE}{pos:Pos}
theorem U8(ha:PE X a ta)(hb:PE X b tb){pins:List (Addr×Obj)}{s:Shared}{σ:St}{H:Hp}{R:V→V→Hp→Prop}(I:Inv X pins σ H s)
  (h:ta σ H fun x H1=>tb σ H1 fun y H2=>R x y H2) {Q:Value→Shared→Prop} {f:Value→Value→Sem Value}
  (hf:∀v u s2 x y H2,Inv X pins σ H2 s2→RelV x v→RelV y u→R x y H2→wpAny (model X.prog X.w) X.A (f v u) Q X.xe s2):
  wpAny (model X.prog X.w) X.A (eval a X.env) (fun v s₁=>wpAny (model X.prog X.w) X.A (eval b X.env) (fun u s₂=>wpAny (model X.prog X.w) X.A (f v u) Q X.xe s₂) X.xe s₁) X.xe s:=by
 refine je (ha pins s σ H _ I h) fun v s1 ⟨x,H1,I1,r1,q1⟩=> ?_
 refine je (hb pins s1 σ H1 _ I1 q1) fun u s2 ⟨y,H2,I2,r2,q2⟩=> ?_
 exact hf v u s2 x y H2 I2 r1 r2 q2
theorem WT{op:Operator}{r:R2}(ho:rB X (binaryOp op) r)(ha:PE X a ta)(hb:PE X b tb):PE X (.BinOp a op b pos) (VD r ta tb):=by
 intro pins s σ H Q I h
 exact wpAny_BinOp (U8 ha hb I h fun v u s2 x y H2 I2 rx ry q=>ho pins s2 σ H2 x y v u Q I2 rx ry q)
theorem WR{op:UnaryOp}{r:V→Hp→VK→Prop}(ho:UnR X (unaryOp op) r)(ha:PE X a ta):PE X (.UnaryOp op a pos) (tUn r ta):=by
 intro pins s σ H Q I h
 exact UnaryOp_ (je (ha pins s σ H _ I h) fun v s1 ⟨x,H1,I1,r1,q1⟩=>ho pins s1 σ H1 x v Q I1 r1 q1)
theorem opI{f:Value→Value→Sem Value}{C:Int→Int→Prop}{g:Int→Int→Int}
  (rule:∀(i j:Int) (t u:Tok) (s:Shared) (Q:Value→Shared→Prop) (E:Value→Shared→Prop),C i j→Q (.int (g i j) s.toks) {s with toks:=s.toks+1}→wpAny (model X.prog X.w) X.A (f (.int i t) (.int j u)) Q E s):
  rB X f (rI C fun i j=> .int (g i j)):=by
 intro pins s σ H x y v u Q I rx ry h
 obtain⟨i,j,rfl,rfl,hc,q⟩:=h
 obtain⟨t,rfl⟩:=rx
 obtain⟨t',rfl⟩:=ry
 exact rule i j t t' s _ _ hc ⟨.int (g i j),H,I.tok _,⟨_,rfl⟩,q⟩
theorem W5{f:Value→Value→Sem Value}{g:Int→Int→Int}
  (rule:∀(i j:Int) (t u:Tok) (s:Shared) (Q:Value→Shared→Prop) (E:Value→Shared→Prop),Q (.int (g i j) s.toks) {s with toks:=s.toks+1}→wpAny (model X.prog X.w) X.A (f (.int i t) (.int j u)) Q E s):
  rB X f (NK fun i j=> .int (g i j)):=by
 intro pins s σ H x y v u Q I rx ry h
 obtain⟨i,j,rfl,rfl,q⟩:=h
 obtain⟨t,rfl⟩:=rx
 obtain⟨t',rfl⟩:=ry
 exact rule i j t t' s _ _ ⟨.int (g i j),H,I.tok _,⟨_,rfl⟩,q⟩
theorem S9{f:Value→Value→Sem Value}{g:Int→Int→Bool}
  (rule:∀(i j:Int) (t u:Tok) (s:Shared) (Q:Value→Shared→Prop) (E:Value→Shared→Prop),Q (.bool (g i j)) s→wpAny (model X.prog X.w) X.A (f (.int i t) (.int j u)) Q E s):
  rB X f (NK fun i j=> .bl (g i j)):=by
 intro pins s σ H x y v u Q I rx ry h
 obtain⟨i,j,rfl,rfl,q⟩:=h
 obtain⟨t,rfl⟩:=rx
 obtain⟨t',rfl⟩:=ry
 exact rule i j t t' s _ _ ⟨.bl (g i j),H,I,rfl,q⟩
def adF(i j:Int):Prop:=0<j∧j<1073741824
def adE(i j:Int):Prop:=0≤j∧j≤1000000∧i.natAbs<2 ^ 64
def ZV(i j:Int):Prop:=(-(2 ^ 64)<i∧i<2 ^ 64)∨(-(2 ^ 64)<j∧j<2 ^ 64)
theorem ZV.ok{i j:Int}(h:ZV i j):IntMulOk i j:=by
 rcases h with⟨h1,h2⟩ | ⟨h1,h2⟩
 ·exact .of_left (intBits_le_64 h1 h2)
 ·exact .of_right (intBits_le_64 h1 h2)
theorem S8:rB X (binaryOp .Add) (NK fun i j=> .int (i+j)):=W5 fun _ _ _ _ _ _ _ q=>add_int q
theorem Sw:rB X (binaryOp .Sub) (NK fun i j=> .int (i - j)):=W5 fun _ _ _ _ _ _ _ q=>sub_int q
theorem Ol:rB X (binaryOp .FloorDiv) (rI adF fun i j=> .int (i / j)):=opI fun i j _ _ _ _ _ hc q=>by
 have h1:(0:Int)<j:=hc.1
 have h2:j<1073741824:=hc.2
 exact floordiv_int (by omega) (by rw[Int.fdiv_eq_ediv_of_nonneg i (by omega)];exact q) (.inl (PyProof.noPylong_small (by omega)))
theorem SM:rB X (binaryOp .Mod) (rI (fun _ j=>0<j) fun i j=> .int (i % j)):=opI fun i j _ _ _ _ _ hc q=>by
 have h1:(0:Int)<j:=hc
 exact mod_int' (by omega) (by rw[Int.fmod_eq_emod_of_nonneg i (by omega)];exact q)
theorem Sy:rB X (binaryOp .Pow) (rI adE fun i j=> .int (i ^ j.toNat)):=opI fun _ _ _ _ _ _ _ hc q=>pow_int_small hc.1 hc.2.1 hc.2.2 q
theorem unI{f:Value→Sem Value}{g:Int→Int}
  (rule:∀(i:Int) (t:Tok) (s:Shared) (Q:Value→Shared→Prop) (E:Value→Shared→Prop),Q (.int (g i) s.toks) {s with toks:=s.toks+1}→wpAny (model X.prog X.w) X.A (f (.int i t)) Q E s):
  UnR X f (rU fun i=> .int (g i)):=by
 intro pins s σ H x v Q I rx h
 obtain⟨i,rfl,q⟩:=h
 obtain⟨t,rfl⟩:=rx
 exact rule i t s _ _ ⟨.int (g i),H,I.tok _,⟨_,rfl⟩,q⟩
theorem Q3:UnR X (unaryOp .USub) (rU fun i=> .int (-i)):=unI fun _ _ _ _ _ q=>neg_int q
end
section
variable{X:Cx}{a b c:Expr}{ta tb tc:TE}{pos:Pos}
theorem Ba{pins:List (Addr×Obj)}{σ:St}{H:Hp}{s:Shared}{Q:VK}{k k':Bool}(I:Inv X pins σ H s)(q:Q (.bl k) H)(e:k=k'):EP X pins σ Q (.bool k') s:=by
 subst e
 exact⟨.bl k,H,I,rfl,q⟩
theorem W2:rB X (compareOp .Lt) (NK fun i j=> .bl (decide (i<j))):=S9 fun _ _ _ _ _ _ _ q=>lt_int q
theorem W3:rB X (compareOp .LtE) (NK fun i j=> .bl (decide (i≤j))):=S9 fun _ _ _ _ _ _ _ q=>le_int q
theorem W4:rB X (compareOp .Gt) (NK fun i j=> .bl (decide (j<i))):=S9 fun _ _ _ _ _ _ _ q=>gt_int q
theorem HB:rB X (compareOp .Lt) (fun x y H Q=>∃i j,x= .str i∧y= .str j∧Q (.bl (decide (i.cps.toList<j.cps.toList))) H):=by
 intro pins s σ H x y v u Q I rx ry h
 obtain⟨i,j,rfl,rfl,q⟩:=h
 obtain⟨t,rfl⟩:=rx
 obtain⟨t',rfl⟩:=ry
 exact lt_str (Ba I q rfl)
theorem SX:rB X (compareOp .Is) (fun x y H Q=>y= .non∧Q (.bl (decide (x= .non))) H):=by
 intro pins s σ H x y v u Q I rx ry h
 obtain⟨rfl,q⟩:=h
 cases ry
 refine is_none_gen (Ba I q ?_)
 cases x<;>first
  | (cases rx;rfl)
  | (obtain⟨t,rfl⟩:=rx;rfl)
theorem Oj:rB X (compareOp .IsNot) (fun x y H Q=>y= .non∧Q (.bl (!decide (x= .non))) H):=by
 intro pins s σ H x y v u Q I rx ry h
 obtain⟨rfl,q⟩:=h
 cases ry
 refine isnot_none_gen (Ba I q ?_)
 cases x<;>first
  | (cases rx;rfl)
  | (obtain⟨t,rfl⟩:=rx;rfl)
theorem rB.or{f:Value→Value→Sem Value}{r r':R2}(h:rB X f r)(h':rB X f r'):rB X f (fun x y H Q=>r x y H Q∨r' x y H Q):=by
 intro pins s σ H x y v u Q I rx ry q
 rcases q with q | q
 ·exact h pins s σ H x y v u Q I rx ry q
 ·exact h' pins s σ H x y v u Q I rx ry q
theorem bA(b:Expr){op:CmpOp}(h:op≠ .In:=by decide)(h2:op≠ .NotIn:=by decide):behindInMarks op b=false:=by
 have e1:(op==CmpOp.In)=false:=by cases op<;>first | rfl | exact absurd rfl h
 have e2:(op==CmpOp.NotIn)=false:=by cases op<;>first | rfl | exact absurd rfl h2
 cases b<;>simp[behindInMarks,e1,e2]
theorem Og{op:CmpOp}{r:R2}(ho:rB X (compareOp op) r)(ha:PE X a ta)(hb:PE X b tb)(hm:behindInMarks op b=false):PE X (.Compare a [op] [b] pos) (VD r ta tb):=by
 intro pins s σ H Q I h
 exact wpAny_Compare1 (U8 ha hb I h fun v u s2 x y H2 I2 rx ry q=>ho pins s2 σ H2 x y v u Q I2 rx ry q) hm
def Qm(t:TE):TT:=fun σ H Q=>t σ H fun x H'=>∃k,x= .bl k∧Q k H'
theorem N6{op:CmpOp}{r:R2}(ho:rB X (compareOp op) r)(ha:PE X a ta)(hb:PE X b tb)(hm:behindInMarks op b=false):PT X (.Compare a [op] [b] pos) (Qm (VD r ta tb)):=by
 intro pins s σ H Q I h
 refine wpAny_isTrue_Compare1 (je (ha pins s σ H _ I h) fun v s1 ⟨x,H1,I1,r1,q1⟩=>je (hb pins s1 σ H1 _ I1 q1) fun u s2 ⟨y,H2,I2,r2,q2⟩=>
  je (ho pins s2 σ H2 x y v u _ I2 r1 r2 q2) fun c s3 ⟨z,H3,I3,r3,k,e,q3⟩=> ?_) hm
 subst e
 cases r3
 exact wpAny_truthy_bool ⟨H3,I3,q3⟩
theorem xP:(sizeLine:Nat)<2 ^ 63:=by rw[sizeLine_eq];decide
theorem Eh:rB X (binaryOp .Add) (fun x y H Q=>∃i j,x= .str i∧y= .str j∧i.length+j.length≤sizeLine∧Q (.str (i++j)) H):=by
 intro pins s σ H x y v u Q I rx ry h
 obtain⟨i,j,rfl,rfl,hz,q⟩:=h
 obtain⟨t,rfl⟩:=rx
 obtain⟨t',rfl⟩:=ry
 exact add_str (fun t' tk=>⟨.str (i++j),H,I.tok _,⟨_,rfl⟩,q⟩) hz
theorem vals1{x:V}{us:List Value}(r:Vals [x] us):∃u,us=[u]∧RelV x u:=by
 cases r with
 | cons r1 r2=>cases r2;exact⟨_,rfl,r1⟩
theorem vals2{x y:V}{us:List Value}(r:Vals [x,y] us):∃u w',us=[u,w']∧RelV x u∧RelV y w':=by
 cases r with
 | cons r1 r2=>
  cases r2 with
  | cons r3 r4=>cases r4;exact⟨_,_,rfl,r1,r3⟩
theorem Iv(hc:X.calm=true):mD X (.builtin "max") (fun xs H Q=>∃i j,xs=[.int i,.int j]∧Q (.int (if j > i then j else i)) H):=by
 intro pins s σ H xs us Q I r h
 obtain⟨i,j,rfl,q⟩:=h
 obtain⟨u,w',rfl,⟨t,rfl⟩,⟨t',rfl⟩⟩:=vals2 r
 refine max_two_ints (I.ok.hd hc) fun h' tk k=>⟨_,H,I.kept k,?_,q⟩
 by_cases hj:j > i
 ·rw[if_pos hj,if_pos hj];exact⟨_,rfl⟩
 ·rw[if_neg hj,if_neg hj];exact⟨_,rfl⟩
theorem Iu(hc:X.calm=true):mD X (.builtin "min") (fun xs H Q=>∃i j,xs=[.int i,.int j]∧Q (.int (if j<i then j else i)) H):=by
 intro pins s σ H xs us Q I r h
 obtain⟨i,j,rfl,q⟩:=h
 obtain⟨u,w',rfl,⟨t,rfl⟩,⟨t',rfl⟩⟩:=vals2 r
 refine min_two_ints (I.ok.hd hc) fun h' tk k=>⟨_,H,I.kept k,?_,q⟩
 by_cases hj:j<i
 ·rw[if_pos hj,if_pos hj];exact⟨_,rfl⟩
 ·rw[if_neg hj,if_neg hj];exact⟨_,rfl⟩
end
structure Fl(h:Heap)(x dx C:Addr)(mA:Str→Option Value):Prop where
 obj:h.get? x=some (PySem.W.instObj C dx)
 ns:h.Ns1 dx mA
 ne:dx≠x
theorem HX{h:Heap}{dx:Addr}{mA:Str→Option Value}(n:h.Ns1 dx mA):∃od,h.get? dx=some od∧∀name,PySem.W.lookIn name od=some (mA name):=by
 obtain⟨o,es,ep,ho,hd,hk,_,hm⟩:=n
 refine⟨o,ho,fun name=> ?_⟩
 have e:=hm name
 unfold nsFind findBy at e
 rw[←Array.find?_toList]at e
 unfold PySem.W.lookIn
 rw[hd]
 dsimp only
 split
 ·rename_i y q
  rw[q]at e
  exact congrArg some e
 ·rename_i q
  rw[q]at e
  have a:es.toList.any (·.refKey)=false:=by
   rw[List.any_eq_false]
   intro y hy
   obtain⟨z,t,hkey⟩:=hk y (Array.mem_toList_iff.mp hy)
   simp[DictEntry.refKey,hkey]
  have a':¬es.toList.any (·.refKey)=true:=by rw[a];exact Bool.false_ne_true
  rw[if_neg a']
  exact congrArg some e
theorem Fl.look{h:Heap}{x dx C:Addr}{mA:Str→Option Value}(I:Fl h x dx C mA):∃od,PySem.W.InstAt h x (PySem.W.instObj C dx) C (some od)∧∀name,PySem.W.lookIn name od=some (mA name):=
 let⟨od,ho,hl⟩:=HX I.ns
 ⟨od,⟨I.obj,rfl,rfl,ho⟩,hl⟩
section
variable{prog:Program}{w:World}{A:Around}{E:Value→Shared→Prop}{s:Shared}{K:Frag}{x dx C f:Addr}{mA:Str→Option Value}{name:Str}{v:Value}
theorem get_map{expr:Bool}{Q:Value→Shared→Prop}(X:K.In s.heap)(I:Fl s.heap x dx C mA)(hg:PySem.W.plainGet K C name=true)(hh:PySem.W.hasDictIn K C=true)
  (ha:findIn K (.ref C) name=some none) (hv:mA name=some v) (hv':PySem.W.handedIn v=true) (h:Q v {s with toks:=s.toks+1}):
  wpAny (model prog w) A (getAttr (.ref x) name expr) Q E s:=by
 obtain⟨od,J,hl⟩:=I.look
 exact PySem.W.get_value X J (PySem.W.plainGet_of hg).1 (PySem.W.findObj_own hh ha rfl (by rw[hl,hv])) hv' h
theorem K5{pl:Sem Bool}{Q:Value×List Value→Shared→Prop}(X:K.In s.heap)(I:Fl s.heap x dx C mA)(hg:PySem.W.plainGet K C name=true)
  (hf:findIn K (.ref C) name=some (some (.ref f))) (ht:isFn K (.ref f)=true) (hv:mA name=none) (h:Q (.ref f,[.ref x]) s):
  wpAny (model prog w) A (getMethod (.ref x) name pl) Q E s:=by
 obtain⟨od,J,hl⟩:=I.look
 exact PySem.W.method_fn X J (PySem.W.plainGet_of hg).1 (PySem.W.plainGet_of hg).2 hf (beq_iff_eq.mp ht) (by show(PySem.W.lookIn name od).map (·.isSome)=some false;rw[hl,hv];rfl) h
theorem MP{ns:List Str}{Q:Unit→Shared→Prop}(X:K.In s.heap)(I:Fl s.heap x dx C mA)
  (hs:findIn K (.ref C) "__setattr__" = some (some (.builtin "object.__setattr__"))) (hp:PySem.W.plainOver K C=true) (ht:PySem.W.takerIn K C name=some none) (hh:PySem.W.hasDictIn K C=true)
  (hw:PySem.Within mA ns) (hsz:ns.length≤sizeLine)
  (h:∀h',Fl h' x dx C (fun y=>if y=name then some v else mA y)→Heap.SameBut dx s.heap h'→Q () {s with heap:=h',toks:=s.toks+2}):
  wpAny (model prog w) A (setAttr (.ref x) name v) Q E s:=by
 obtain⟨od,J,hl⟩:=I.look
 refine PySem.W.set_plain X J hs (PySem.W.osa_open (s:={s with toks:=s.toks+1}) (r:=none) X J hp ht fun b=> ?_)
 obtain⟨cd,hc,hd'⟩:=PySem.W.any_some hh
 have hx:s.heap.get? x=some ⟨.ref C,some dx,.plain,#[]⟩:=I.obj
 refine wpAny_bind (wpAny_pure (wpAny_bind (wpAny_bind (wpAny_loadPart hx (wpAny_bind (PySem.W.Looks.here (s:={s with toks:=s.toks+1}) (PySem.W.looks_clsIn X hc) ?_))))))
 rw[hd']
 refine wpAny_pure (a:=some dx) (wpAny_bind (wpAny_pure (wpAny_bind ?_)))
 refine wpAny_nsSet1 (s:={s with toks:=s.toks+1}) I.ns fun h' hn2 hs2=> ?_
 obtain⟨oD,esD,epD,hoD,hdD,hcD⟩:=hn2.count (PySem.Within.cons name v hw)
 refine wpAny_bind (wpAny_lookBehind hoD (by rw[hdD];exact pastItsLine_dict (Nat.le_trans hcD (by rw[List.length_cons];omega))) ?_)
 exact wpAny_pure (h _ ⟨(hs2.2 _ (Ne.symm I.ne)).trans I.obj,hn2,I.ne⟩ hs2)
theorem Kq{R:Result→Shared→Prop}{vs:List Value}{kw:List (Str×Value)}(X:K.In s.heap)(hm:PySem.W.makesIn K C=true)
  (hi:findIn K (.ref C) "__init__" = some (some (.ref f))) (hf:PySem.W.typeIn K (.ref f)=some (.type "function"))
  (h:codeAny (model prog w) (A.under (.builtin "type.__call__" ⟨.ref C::vs,kw⟩)) (.call (.ref f) ⟨.ref (s.heap.objs.size+1)::vs,kw⟩) (PySem.W.InitBack (s.heap.objs.size+1) R)
   {s with heap:=(s.heap.push PySem.W.emptyDict).push (PySem.W.instObj C s.heap.objs.size)}):
  codeAny (model prog w) A (.call (.ref C) ⟨vs,kw⟩) R s:=by
 obtain⟨hh,g,d,t,os⟩:=s
 exact PySem.W.make_core (PySem.W.makes_of X hm) (PySem.W.looks_findIn X hi) (fun self=>PySem.W.bind_fn X self hf) (.inl rfl) h
theorem HR{R:Result→Shared→Prop}(X:K.In s.heap)(hm:PySem.W.makesIn K C=true)
  (hi:findIn K (.ref C) "__init__" = some (some (.builtin "object.__init__")))
  (hb:∀self,PySem.W.Looks (model prog w) s.heap (bindSpecial (.builtin "object.__init__") self) (.builtin "object.__init__",[self]))
  (h:codeAny (model prog w) (A.under (.builtin "type.__call__" ⟨[.ref C],[]⟩)) (.call (.builtin "object.__init__") ⟨[.ref (s.heap.objs.size+1)],[]⟩) (PySem.W.InitBack (s.heap.objs.size+1) R)
   {s with heap:=(s.heap.push PySem.W.emptyDict).push (PySem.W.instObj C s.heap.objs.size)}):
  codeAny (model prog w) A (.call (.ref C) ⟨[],[]⟩) R s:=by
 obtain⟨hh,g,d,t,os⟩:=s
 exact PySem.W.make_core (PySem.W.makes_of X hm) (PySem.W.looks_findIn X hi) hb (.inr ⟨rfl,rfl⟩) h
end
def oH(f:Str)(v:V):List (Str×V)→List (Str×V)
 | []=>[(f,v)]
 | (g,x)::r=>if g=f then(g,v)::r else(g,x)::oH f v r
theorem vp(f g:Str)(v:V):∀fs:List (Str×V),(oH f v fs).lookup g=if g=f then some v else fs.lookup g
 | []=>by
  show List.lookup g [(f,v)]=_
  by_cases h:g=f
  ·have hb:(g==f)=true:=beq_iff_eq.mpr h
   simp only[List.lookup,hb,if_pos h]
  ·have hb:(g==f)=false:=beq_eq_false_iff_ne.mpr h
   simp only[List.lookup,hb,if_neg h]
 | (k,x)::r=>by
  have ih:=vp f g v r
  rw[show oH f v ((k,x)::r)=(if k=f then(k,v)::r else(k,x)::oH f v r)from rfl]
  by_cases hk:k=f
  ·rw[if_pos hk]
   by_cases h:g=k
   ·have hb:(g==k)=true:=beq_iff_eq.mpr h
    simp only[List.lookup,hb,if_pos (h.trans hk)]
   ·have hb:(g==k)=false:=beq_eq_false_iff_ne.mpr h
    simp only[List.lookup,hb,if_neg (fun e:g=f=>h (e.trans hk.symm))]
  ·rw[if_neg hk]
   by_cases h:g=k
   ·have hb:(g==k)=true:=beq_iff_eq.mpr h
    simp only[List.lookup,hb,if_neg (fun e:g=f=>hk (h.symm.trans e))]
   ·have hb:(g==k)=false:=beq_eq_false_iff_ne.mpr h
    simp only[List.lookup,hb]
    exact ih
theorem uK(f:Str)(v:V):∀fs:List (Str×V),f∈(oH f v fs).map (·.1)∧∀g,g∈fs.map (·.1)→g∈(oH f v fs).map (·.1)
 | []=>⟨by simp[oH],fun g h=>by simp at h⟩
 | (k,x)::r=>by
  obtain⟨i1,i2⟩:=uK f v r
  rw[show oH f v ((k,x)::r)=(if k=f then(k,v)::r else(k,x)::oH f v r)from rfl]
  by_cases hk:k=f
  ·rw[if_pos hk]
   subst hk
   exact⟨by simp,fun g h=>by simpa using h⟩
  ·rw[if_neg hk]
   refine⟨?_,fun g h=> ?_⟩
   ·rw[List.map_cons]
    exact List.mem_cons_of_mem _ i1
   ·rw[List.map_cons]at h ⊢
    rcases List.mem_cons.mp h with e | e
    ·exact List.mem_cons.mpr (.inl e)
    ·exact List.mem_cons_of_mem _ (i2 g e)
theorem vz(f:Str)(v:V):∀fs:List (Str×V),(oH f v fs).length≤fs.length+1
 | []=>by simp[oH]
 | (k,x)::r=>by
  have ih:=vz f v r
  rw[show oH f v ((k,x)::r)=(if k=f then(k,v)::r else(k,x)::oH f v r)from rfl]
  by_cases hk:k=f
  ·rw[if_pos hk,List.length_cons,List.length_cons];omega
  ·rw[if_neg hk,List.length_cons,List.length_cons];omega
theorem qu.some_of{v:V}{o:Option Value}(r:qu (some v) o):∃u,o=some u∧RelV v u:=by
 cases o with
 | none=>exact(show False from r).elim
 | some u=>exact⟨u,rfl,r⟩
theorem qu.none_of{o:Option Value}(r:qu none o):o=none:=by
 cases o with
 | none=>rfl
 | some u=>exact(show False from r).elim
theorem Ij{v:V}{u:Value}(r:RelV v u):PySem.W.handedIn u=true:=by
 cases v with
 | non=>cases(show u=Value.none from r);rfl
 | bl b=>cases(show u=Value.bool b from r);rfl
 | int i=>obtain⟨t,e⟩:=(show ∃t,u=Value.int i t from r);cases e;rfl
 | str x=>obtain⟨t,e⟩:=(show ∃t,u=Value.str x t from r);cases e;rfl
 | byt b=>obtain⟨t,e⟩:=(show ∃t,u=Value.bytes b t from r);cases e;rfl
 | flt b=>obtain⟨t,e⟩:=(show ∃t,u=Value.float b t from r);cases e;rfl
 | ref a=>cases(show u=Value.ref a from r);rfl
 | ty n=>cases(show u=Value.type n from r);rfl
section
variable{P:Program}{w:World}{H H':Hp}{h h':Heap}{a C dx:Addr}{fs fs':List (Str×V)}
theorem wA(hok:oY P w H h)(e:H a=some (.ins C dx fs)):∃mA,Fl h a dx C mA∧(∀f,qu (fs.lookup f) (mA f))∧PySem.Within mA (fs.map (·.1))∧fs.length≤1000∧H dx=some (.own a):=by
 obtain⟨d,z,ne,ob,mA,n,r,q⟩:=(show d8 P w H h a (.ins C dx fs)from hok a _ e)
 exact⟨mA,⟨ob,n,ne⟩,r,q,z,d⟩
end
structure zA(K:Frag)(C:Addr):Prop where
 pg:PySem.W.plainGet K C Str.empty=true
 hd:PySem.W.hasDictIn K C=true
 po:PySem.W.plainOver K C=true
 sa:findIn K (.ref C) "__setattr__" = some (some (.builtin "object.__setattr__"))
theorem zA.get{K:Frag}{C:Addr}(c:zA K C)(f:Str):PySem.W.plainGet K C f=true:=c.pg
def cL(K:Frag)(C:Addr)(f:Str):Prop:=findIn K (.ref C) f=some none
theorem cL.taker{K:Frag}{C:Addr}{f:Str}(n:cL K C f):PySem.W.takerIn K C f=some none:=by
 unfold PySem.W.takerIn
 rw[show findIn K (.ref C) f=some none from n]
 rfl
structure Meth(K:Frag)(C:Addr)(m:Str)(f:Addr):Prop where
 at_:findIn K (.ref C) m=some (some (.ref f))
 fn:isFn K (.ref f)=true
 kp:keepIn K (.ref f)=true
section
variable{X:Cx}{pins:List (Addr×Obj)}{σ:St}{H:Hp}{s:Shared}{a C dx:Addr}{fs:List (Str×V)}{f:Str}{v:V}{A:Around}{E:Value→Shared→Prop}
theorem Ez{b:Bool}{Q:Value→Shared→Prop}(I:Inv X pins σ H s)(e:H a=some (.ins C dx fs))(c:zA X.K C)(n:cL X.K C f)(l:fs.lookup f=some v)
  (h:∀u s',Inv X pins σ H s'→RelV v u→Q u s'):wpAny (model X.prog X.w) A (getAttr (.ref a) f b) Q E s:=by
 obtain⟨mA,O,r,_,_,_⟩:=wA I.hok e
 obtain⟨u,hu,ru⟩:=qu.some_of (v:=v) (o:=mA f) (by rw[←l];exact r f)
 exact get_map I.su O (c.get f) c.hd n hu (Ij ru) (h u _ (I.tok _) ru)
theorem xY{m:Str}{g:Addr}{pl:Sem Bool}{Q:Value×List Value→Shared→Prop}(I:Inv X pins σ H s)(e:H a=some (.ins C dx fs))(c:zA X.K C)(k:Meth X.K C m g)(l:fs.lookup m=none)
  (h:Q (.ref g,[.ref a]) s):wpAny (model X.prog X.w) A (getMethod (.ref a) m pl) Q E s:=by
 obtain⟨mA,O,r,_,_,_⟩:=wA I.hok e
 have hn:mA m=none:=qu.none_of (by rw[←l];exact r m)
 exact K5 I.su O (c.get m) k.at_ k.fn hn h
theorem DW{y:V}{u:Value}{Q:Unit→Shared→Prop}(I:Inv X pins σ H s)(e:H a=some (.ins C dx fs))(c:zA X.K C)(n:cL X.K C f)(hl:fs.length<1000)(ry:RelV y u)
  (h:∀s',Inv X pins σ (upd H a (.ins C dx (oH f y fs))) s'→Q () s'):wpAny (model X.prog X.w) A (setAttr (.ref a) f u) Q E s:=by
 obtain⟨mA,O,r,wi,_,ho⟩:=wA I.hok e
 have hz:(fs.map (·.1)).length≤sizeLine:=by rw[List.length_map,sizeLine_eq];omega
 refine MP I.su O c.sa c.po n.taker c.hd wi hz fun h' O' sb=>h _ ?_
 have hd:∃o,h'.get? dx=some o:=let⟨o,_,_,e',_⟩:=O'.ns;⟨o,e'⟩
 refine I.write (x:=a) (e:=dx) (by rw[e];exact True.intro) (.inr ho) (fun b q hb z=>(sb.2 b hb).trans z) hd ?_
 refine⟨by rw[aJ O.ne];exact ho,?_,O.ne,O'.obj,_,O'.ns,fun g=> ?_,fun g hg=> ?_⟩
 ·have:=vz f y fs;omega
 ·show qu ((oH f y fs).lookup g) (if g=f then some u else mA g)
  rw[vp]
  by_cases q:g=f
  ·rw[if_pos q,if_pos q];exact ry
  ·rw[if_neg q,if_neg q];exact r g
 ·by_cases q:g=f
  ·rw[q];exact(uK f y fs).1
  ·refine(uK f y fs).2 g (wi g fun z=>hg ?_)
   show(if g=f then some u else mA g)=none
   rw[if_neg q];exact z
theorem Inv.made(I:Inv X pins σ H s):Inv X pins σ (upd (upd H s.heap.objs.size (.own (s.heap.objs.size+1))) (s.heap.objs.size+1) (.ins C s.heap.objs.size []))
  {s with heap:=(s.heap.push PySem.W.emptyDict).push (PySem.W.instObj C s.heap.objs.size)}:=by
 have e1:(s.heap.push PySem.W.emptyDict).get? s.heap.objs.size=some PySem.W.emptyDict:=Heap.get?_push_size s.heap rfl
 have e2:((s.heap.push PySem.W.emptyDict).push (PySem.W.instObj C s.heap.objs.size)).get? (s.heap.objs.size+1)=some (PySem.W.instObj C s.heap.objs.size):=by
  have:=Heap.get?_push_size (s.heap.push PySem.W.emptyDict) (o:=PySem.W.instObj C s.heap.objs.size) rfl
  rwa [Heap.size_push]at this
 have e3:(s.heap.push PySem.W.emptyDict).Ns s.heap.objs.size (fun _=>none):=⟨PySem.W.emptyDict,#[],_,e1,rfl,(fun e he=>absurd he (by simp)),fun _=>rfl⟩
 have I1:=I.laid (a:=s.heap.objs.size) (o:= .own (s.heap.objs.size+1)) (h':=s.heap.push PySem.W.emptyDict) (t':=s.toks) (fun b u q=>Heap.get?_push_of_some _ q) (Nat.le_refl _) ⟨_,e1⟩
 refine I1.laid (a:=s.heap.objs.size+1) (o:= .ins C s.heap.objs.size []) (t':=s.toks) (fun b u q=>Heap.get?_push_of_some _ q) (Nat.le_of_eq (Heap.size_push _ _)) ?_
 have ne:s.heap.objs.size≠s.heap.objs.size+1:=Nat.ne_of_lt (Nat.lt_succ_self _)
 refine⟨by rw[aJ ne,aX],Nat.zero_le _,ne,e2,fun _=>none,(Heap.Ns1.of_empty e3).at fun o q=>Heap.get?_push_of_some _ q,fun _=>True.intro,fun y hy=>absurd rfl hy⟩
theorem Qa{prog:Program}{w:World}{env:Env}{e:Expr}{f:Str}{pos:Pos}{s:Shared}{Q:Value→Shared→Prop}(hb:attributeBase e f env (eval e env)=eval e env)
  (h:wpAny (model prog w) A (eval e env) (fun o s₁=>wpAny (model prog w) A (getAttr o f true) Q E s₁) E s):wpAny (model prog w) A (eval (.Attribute e f pos) env) Q E s:=
 Attribute_any_ h (by rw[arm_eval_Attribute,hb])
end
def abl(K:Frag)(ta:TE)(f:Str):TE:=fun σ H Q=>ta σ H fun x H1=>∃a C dx fs v,x= .ref a∧H1 a=some (.ins C dx fs)∧zA K C∧cL K C f∧fs.lookup f=some v∧Q v H1
def abJ(K:Frag)(ta tv:TE)(f:Str):TS:=fun D σ H=>tv σ H fun y H1=>ta σ H1 fun x H2=>∃a C dx fs,x= .ref a∧H2 a=some (.ins C dx fs)∧zA K C∧cL K C f∧fs.length<1000∧
 D.nx σ (upd H2 a (.ins C dx (oH f y fs)))
section
variable{X:Cx}{o e value:Expr}{f:Str}{pos pos' tpos:Pos}{ta tv:TE}
theorem R_(he:PE X e ta)(hb:attributeBase e f X.env (eval e X.env)=eval e X.env):PE X (.Attribute e f pos) (abl X.K ta f):=by
 intro pins s σ H Q I h
 refine Qa hb (je (he pins s σ H _ I h) fun u s1 ⟨x,H1,I1,rx,a,C,dx,fs,v,ex,ea,c,n,l,q⟩=> ?_)
 subst ex
 obtain rfl:u=Value.ref a:=rx
 exact Ez I1 ea c n l fun u' s2 I2 ru=>⟨v,H1,I2,ru,q⟩
theorem RQ(ha:PE X o ta)(hv:PE X value tv)(hs:swapsWith value (some (.Attribute o f pos')) pos.line X.env=pure false):PS X (.Assign [.Attribute o f pos'] value pos) (abJ X.K ta tv f):=by
 intro pins s σ H D I h
 refine plainObj_wpAny_Assign_Attribute (je (hv pins s σ H _ I h) fun u s1 ⟨y,H1,I1,ry,q⟩=>je (ha pins s1 σ H1 _ I1 q) fun ov s2 ⟨x,H2,I2,rx,a,C,dx,fs,ex,ea,c,n,l,q2⟩=> ?_) hs
 subst ex
 obtain rfl:ov=Value.ref a:=rx
 exact DW I2 ea c n l ry fun s3 I3=>⟨σ,_,I3,q2⟩
end
section
variable{X:Cx}{pins:List (Addr×Obj)}{σ:St}{H:Hp}{s:Shared}{A:Around}{E:Value→Shared→Prop}{Q:Value→Shared→Prop}{c:Value}{b:Bool}
inductive uX (K:Frag) (H:Hp):V→Value→Prop where
 | non:uX K H .non (.type "NoneType")
 | bl (x:Bool):uX K H (.bl x) (.type "bool")
 | int (i:Int):uX K H (.int i) (.type "int")
 | str (x:Str):uX K H (.str x) (.type "str")
 | flt (x:UInt64):uX K H (.flt x) (.type "float")
 | lst {a:Addr} {xs:List V} (e:H a=some (.lst xs)):uX K H (.ref a) (.type "list")
 | gZ {a:Addr} {o:Obj} {xs:List V} (e:H a=some (.gZ o (.lst xs))):uX K H (.ref a) (.type "list")
 | tup {a:Addr} {xs:List V} (e:H a=some (.tup xs)):uX K H (.ref a) (.type "tuple")
 | dK {a:Addr} {kvs:List (Key×V)} (e:H a=some (.dK kvs)):uX K H (.ref a) (.type "dict")
 | dT {a:Addr} {kvs:List (List Key×V)} (e:H a=some (.dT kvs)):uX K H (.ref a) (.type "dict")
 | ins {a C dx:Addr} {fs:List (Str×V)} (e:H a=some (.ins C dx fs)) (cl:zA K C) (ha:findIn K (.ref C) "__class__" = some (some (.builtin "object.__class__")))
   (hn:PySem.W.specialIn K (.builtin "object.__class__") "__get__" = some (some (.builtin "getset_descriptor.__get__"))) (htk:PySem.W.takesIn K (.builtin "object.__class__")=some true)
   (hm:PySem.W.mroIn K C (.type "object")=some true):uX K H (.ref a) (.ref C)
theorem Ig{x:V}{u t:Value}(I:Inv X pins σ H s)(rx:RelV x u)(ty:uX X.K H x t)(e:kitOne X.K t c=some b)(h:∀tk,Q (.bool b) {s with toks:=tk}):
  wpAny (model X.prog X.w) A (call (.builtin "isinstance") [u,c]) Q E s:=by
 cases ty with
 | non=>cases(show u=Value.none from rx);exact PySem.W.kia_one PySem.W.kitx_none I.su True.intro e (fun z=>nomatch z) h
 | bl y=>cases(show u=Value.bool y from rx);exact PySem.W.kia_one PySem.W.kitx_bool I.su True.intro e (fun z=>nomatch z) h
 | int i=>obtain⟨t,q⟩:=(show ∃t,u=Value.int i t from rx);cases q;exact PySem.W.kia_one PySem.W.kitx_int I.su True.intro e (fun z=>nomatch z) h
 | str y=>obtain⟨t,q⟩:=(show ∃t,u=Value.str y t from rx);cases q;exact PySem.W.kia_one PySem.W.kitx_str I.su True.intro e (fun z=>nomatch z) h
 | flt y=>obtain⟨t,q⟩:=(show ∃t,u=Value.float y t from rx);cases q;exact PySem.W.kia_one PySem.W.kitx_float I.su True.intro e (fun z=>nomatch z) h
 | @lst a xs ea=>
  cases(show u=Value.ref a from rx)
  obtain⟨_,_,n,_,h1⟩:=(show d8 X.prog X.w H s.heap a (.lst xs)from I.hok a _ ea)
  exact PySem.W.kia_one PySem.W.kitx_list I.su ⟨_,h1,rfl⟩ e (fun z=>nomatch z) h
 | @gZ a ob xs ea=>
  cases(show u=Value.ref a from rx)
  obtain⟨_,_,_,n,_,h1⟩:=(show d8 X.prog X.w H s.heap a (.gZ ob (.lst xs))from I.hok a _ ea)
  exact PySem.W.kia_one PySem.W.kitx_list I.su ⟨_,h1,rfl⟩ e (fun z=>nomatch z) h
 | @tup a xs ea=>
  cases(show u=Value.ref a from rx)
  obtain⟨_,_,_,p⟩:=(show d8 X.prog X.w H s.heap a (.tup xs)from I.hok a _ ea)
  obtain⟨o,h1,h2,_⟩:=p
  exact PySem.W.kia_one PySem.W.kitx_tuple I.su ⟨o,h1,h2⟩ e (fun z=>nomatch z) h
 | @dK a kvs ea=>
  cases(show u=Value.ref a from rx)
  obtain⟨_,_,vs,_,p⟩:=(show d8 X.prog X.w H s.heap a (.dK kvs)from I.hok a _ ea)
  obtain⟨o,es,ep,h1,h2,_⟩:=p
  exact PySem.W.kia_one PySem.W.kitx_dict I.su ⟨o,h1,h2.1⟩ e (fun z=>nomatch z) h
 | @dT a kvs ea=>
  cases(show u=Value.ref a from rx)
  obtain⟨_,_,xs,_,o,es,ep,h1,h2,_⟩:=(show d8 X.prog X.w H s.heap a (.dT kvs)from I.hok a _ ea)
  exact PySem.W.kia_one PySem.W.kitx_dict I.su ⟨o,h1,h2.1⟩ e (fun z=>nomatch z) h
 | @ins a C dx fs ea cl ha hn htk hm=>
  cases(show u=Value.ref a from rx)
  obtain⟨mA,O,_⟩:=wA I.hok ea
  obtain⟨od,J,_⟩:=O.look
  exact PySem.W.kia_one (PySem.W.kitx_own (cl.get _) cl.hd ha hn htk hm) I.su J e (fun z=>nomatch z) h
end
structure gF(k:Nat)(A:Around):Prop where
 hd:A.handled=none
 dp:A.depth+3*k+5<recursionLimit
 un:A.units+16*k+200<cLine
theorem gF.mono{j k:Nat}{A:Around}(r:gF k A)(h:j≤k):gF j A:=⟨r.hd,by have:=r.dp;omega,by have:=r.un;omega⟩
theorem gF.deeper{k:Nat}{A:Around}(r:gF (k+1) A)(env:Env):gF k (A.deeper env):=
 ⟨r.hd,by have:=r.dp;show A.depth+1+3*k+5<_;omega,by have:=r.un;show A.units+3+16*k+200<_;omega⟩
theorem gF.in1{k:Nat}{A:Around}(r:gF (k+1) A):gF k A.in1:=
 ⟨r.hd,by have:=r.dp;show A.depth+3*k+5<_;omega,by have:=r.un;show A.units+1+16*k+200<_;omega⟩
theorem Eo{A:Around}{C:Addr}{us:List Value}{kw:List (Str×Value)}:(A.under (.builtin "type.__call__" ⟨.ref C::us,kw⟩)).depth=A.depth+1:=by
 first | rfl | simp[Around.under,Code.weight,Code.isCreation,Code.isGuard,Code.isCaller,Code.frames,Code.isFrame,guardIds]
theorem En{A:Around}{C:Addr}{us:List Value}{kw:List (Str×Value)}:(A.under (.builtin "type.__call__" ⟨.ref C::us,kw⟩)).units=A.units+1:=by
 first | rfl | simp[Around.under,Code.cUnits,Code.frames,Code.isFrame]
theorem gF.make{k:Nat}{A:Around}(r:gF (k+1) A)(C:Addr)(us:List Value)(kw:List (Str×Value)):gF k (A.under (.builtin "type.__call__" ⟨.ref C::us,kw⟩)):=
 ⟨r.hd,by have:=r.dp;rw[Eo];omega,by have:=r.un;rw[En];omega⟩
theorem gF.depth{k:Nat}{A:Around}(r:gF k A):A.depth<recursionLimit:=by have:=r.dp;omega
theorem gF.units{k:Nat}{A:Around}(r:gF k A):A.units+64<cLine:=by have:=r.un;omega
def MK:TA:=fun _ H Q=>Q [] H
def Qo(ta:TE)(tr:TA):TA:=fun σ H Q=>ta σ H fun x H1=>tr σ H1 fun xs H2=>Q (x::xs) H2
section
variable{X:Cx}{e:Expr}{es:List Expr}{te:TE}{t:TA}{pos:Pos}
theorem Kc:PA X [] MK:=fun _ _ _ _ H Q I h=>Calls.spliced_nil ⟨[],H,I,.nil,h⟩
theorem Gd(ha:PE X e te)(hr:PA X es t)(hs:starEach (e::es) X.env=(false,eval e X.env)::starEach es X.env:=by rfl):PA X (e::es) (Qo te t):=by
 intro pos pins s σ H Q I h
 rw[hs]
 show wpAny _ _ (spliced ((false,eval e X.env)::backTo pos (starEach es X.env))) _ _ s
 refine Calls.spliced_cons (je (ha pins s σ H _ I h) fun u s1 ⟨x,H1,I1,r1,q1⟩=> ?_)
 exact je (hr pos pins s1 σ H1 _ I1 q1) fun us s2 ⟨xs,H2,I2,r2,q2⟩=>⟨x::xs,H2,I2,.cons r1 r2,q2⟩
def abe(t:TA):TE:=fun σ H Q=>t σ H fun xs H1=>xs.length≤sizeLine∧∀p,H1 p=none→Q (.ref p) (upd H1 p (.tup xs))
def abh(t:TA):TE:=fun σ H Q=>t σ H fun xs H1=>xs.length≤sizeLine∧∀p,H1 p=none→Q (.ref p) (upd H1 p (.lst xs))
theorem RX{x1}(h:PA X es t):PE X (.Tuple es x1 pos) (abe t):=by
 intro pins s σ H Q I hq
 refine wpAny_Tuple_spliced (je (h pos pins s σ H _ I hq) fun us s1 ⟨xs,H1,I1,r,z,q⟩=>⟨by rw[←r.length];exact z,?_⟩)
 have hf:H1 s1.heap.objs.size=none:=I1.hok.fresh (Nat.le_refl _)
 refine⟨.ref s1.heap.objs.size,upd H1 s1.heap.objs.size (.tup xs),I1.laid (t':=s1.toks) (fun b u e=>Heap.get?_push_of_some _ e) (Nat.le_refl _) ?_,rfl,q _ hf⟩
 exact⟨z,us,r,⟨_,Heap.get?_push_size _ rfl,rfl,_,rfl⟩⟩
theorem R7(h:PA X es t):PE X (.List es pos) (abh t):=by
 intro pins s σ H Q I hq
 refine wpAny_List_spliced (je (h pos pins s σ H _ I hq) fun us s1 ⟨xs,H1,I1,r,z,q⟩=>⟨by rw[←r.length];exact z,?_⟩)
 have hf:H1 s1.heap.objs.size=none:=I1.hok.fresh (Nat.le_refl _)
 refine⟨.ref s1.heap.objs.size,upd H1 s1.heap.objs.size (.lst xs),I1.laid (t':=s1.toks) (fun b u e=>Heap.get?_push_of_some _ e) (Nat.le_refl _) ?_,rfl,q _ hf⟩
 exact⟨z,us,0,r,Heap.get?_push_size _ rfl⟩
end
abbrev Sp:=List V→Hp→VK→XK→Prop
abbrev Fp:=List Env→Hp→Shared→XK→Value→Shared→Prop
structure yq(P:Program)(w:World)(K:Frag)(mg:Str→Option Value)(base:Heap)(A:Around)(outer:List Env)(s:Shared)(H:Hp):Prop where
 frames:A.frames=some outer
 mod:Mod K mg base
 bs:∀b o,base.get? b=some o→s.heap.get? b=some o∧H b=none
 GR:base.objs.size≤s.heap.objs.size
 rJ:s.heap.FunFrames base outer
 K6:∀b∈frs outer,H b=none
 hok:oY P w H s.heap
 bare:AllBare s.gens
def CE(outer:List Env)(P:Program)(w:World)(H:Hp)(s:Shared)(Q:VK)(u:Value)(s':Shared):Prop:=
 ∃v H',s'.os=s.os∧AllBare s'.gens∧Un (frs outer) [] H H' s.heap s'.heap∧oY P w H' s'.heap∧RelV v u∧Q v H'
def CR(CX:Fp)(outer:List Env)(P:Program)(w:World)(H:Hp)(s:Shared)(Q:VK)(E:XK)(r:Result)(s':Shared):Prop:=
 match r with
 | .ok (.ret u)=>CE outer P w H s Q u s'
 | .ok _=>False
 | .error e=>CX outer H s E e s'
structure aY(P:Program)(w:World)(K:Frag)(mg:Str→Option Value)(base:Heap)(CX:Fp)(k:Nat)(f:Addr)(fd:FuncData)(ps:List Str)(sp:Sp):Prop where
 len:∀vs H Q E,sp vs H Q E→vs.length=ps.length
 run:∀(A:Around) (outer:List Env) (s:Shared) (H:Hp) (args:Args) (us:List Value) (vs:List V) (Q:VK) (E:XK),gF k A→yq P w K mg base A outer s H→BindsTo s fd args (ps.zip us)→Vals vs us→sp vs H Q E→
  codeAny (model P w) A (.call (.ref f) args) (CR CX outer P w H s Q E) s
theorem aY.mono{P:Program}{w:World}{K:Frag}{mg:Str→Option Value}{base:Heap}{CX:Fp}{j k:Nat}{f:Addr}{fd:FuncData}{ps:List Str}{sp:Sp}(F:aY P w K mg base CX j f fd ps sp)(h:j≤k):
  aY P w K mg base CX k f fd ps sp:=⟨F.len,fun A outer s H args us vs Q E hr=>F.run A outer s H args us vs Q E (hr.mono h)⟩
theorem aY.imp{P:Program}{w:World}{K:Frag}{mg:Str→Option Value}{base:Heap}{CX:Fp}{k:Nat}{f:Addr}{fd:FuncData}{ps:List Str}{sp VN:Sp}(F:aY P w K mg base CX k f fd ps sp)
  (h:∀vs H Q E,VN vs H Q E→sp vs H Q E):aY P w K mg base CX k f fd ps VN:=
 ⟨fun vs H Q E q=>F.len vs H Q E (h _ _ _ _ q),fun A outer s H args us vs Q E hr he hb hv hs=>F.run A outer s H args us vs Q E hr he hb hv (h _ _ _ _ hs)⟩
theorem yq.make{P:Program}{w:World}{K:Frag}{mg:Str→Option Value}{base:Heap}{A:Around}{outer:List Env}{s:Shared}{H:Hp}(e:yq P w K mg base A outer s H)(C:Addr)(us:List Value)(kw:List (Str×Value)):
  yq P w K mg base (A.under (.builtin "type.__call__" ⟨.ref C::us,kw⟩)) outer s H:=⟨by first | exact e.frames | (simpa[Around.under,Code.envs,Code.isFrame,pushEnvs]using e.frames),e.mod,e.bs,e.GR,e.rJ,e.K6,e.hok,e.bare⟩
theorem yq.in1{P:Program}{w:World}{K:Frag}{mg:Str→Option Value}{base:Heap}{A:Around}{outer:List Env}{s:Shared}{H:Hp}(e:yq P w K mg base A outer s H):
  yq P w K mg base A.in1 outer s H:=⟨e.frames,e.mod,e.bs,e.GR,e.rJ,e.K6,e.hok,e.bare⟩
section
variable{X:Cx}{pins:List (Addr×Obj)}{σ:St}{H:Hp}{s s':Shared}
theorem Inv.env0(I:Inv X pins σ H s):yq X.prog X.w X.K X.mg X.base X.A X.stack s H:=
 ⟨I.ok.frames,I.ok.mod,I.bs,Nat.le_trans I.ok.GR I.sz,I.stack,I.tu,I.hok,I.bare⟩
theorem Inv.after{Q:VK}{u:Value}(I:Inv X pins σ H s)(h:CE X.stack X.prog X.w H s Q u s'):EP X pins σ Q u s':=by
 obtain⟨v,H',os,bare,un,hok,r,q⟩:=h
 obtain⟨hh,g,d,t,os'⟩:=s'
 obtain rfl:os'=s.os:=os
 exact⟨v,H',I.call (h':=hh) (g':=g) (d':=d) (t':=t) (ch:=[]) un hok bare (fun b z=>absurd z (by simp)),r,q⟩
end
def Binds(K:Frag)(fd:FuncData)(ps:List Str)(ds:List Value):Prop:=
 ∀(s:Shared) (us:List Value),K.In s.heap→(us++ds).length=ps.length→BindsTo s fd ⟨us,[]⟩ (ps.zip (us++ds))
theorem Binds.all{K:Frag}{fd:FuncData}{ps:List Str}(h:∀us:List Value,us.length=ps.length→bindArgs fd ⟨us,[]⟩=pure (ps.zip us)):Binds K fd ps []:=fun s us _ hl=>by
 rw[List.append_nil]at hl ⊢
 exact .of_eq (h us hl)
section
variable{X:Cx}{CX:Fp}{k:Nat}{f C:Addr}{fd:FuncData}{ps:List Str}{sp:Sp}{qt:List V}{ds:List Value}{E:XK}{x m:Str}{p pos apos:Pos}{e o:Expr}{es:List Expr}{ta:TE}{t:TA}
structure Mk(K:Frag)(C f:Addr):Prop where
 makes:PySem.W.makesIn K C=true
 init:findIn K (.ref C) "__init__" = some (some (.ref f))
 fn:isFn K (.ref f)=true
 kp:keepIn K (.ref C)=true
end
structure bf(N P:List Str)(sc:Scope):Prop where
 kind:sc.kind= .function
 co:sc.isCoroutine=false
 gen:sc.isGenerator=false
 nd:N.Nodup
 pre:N.take P.length=P
 par:∀x∈P,sc.names.lookup x=some .local∨sc.names.lookup x=some .cell
 Tc:∀y∈sc.names,y.2≠ .free
theorem zp{kindOf:Str→Option NameKind}{x:Str}:∀{binds:List (Str×Value)} {m:Str→Option Value},(∀v,(x,v)∉binds)→bindL kindOf binds m x=m x
 | [],_,_=>rfl
 | (n,v)::r,m,h=>by
  unfold bindL
  rw[zp fun w hw=>h w (List.mem_cons_of_mem _ hw)]
  split
  ·have:x≠n:=by rintro rfl;exact h v List.mem_cons_self
   simp[this]
  ·rfl
theorem zu{kindOf:Str→Option NameKind}{x:Str}:∀{binds:List (Str×Value)} {m:Str→Option Value},(∀v,(x,v)∉binds)→bindC kindOf binds m x=m x
 | [],_,_=>rfl
 | (n,v)::r,m,h=>by
  unfold bindC
  rw[zu fun w hw=>h w (List.mem_cons_of_mem _ hw)]
  split
  ·rfl
  ·have:x≠n:=by rintro rfl;exact h v List.mem_cons_self
   simp[this]
theorem zq{kindOf:Str→Option NameKind}{x:Str}{v:Value}:∀{P:List Str} {vs:List Value} {i:Nat} {m:Str→Option Value},P.Nodup→P[i]? = some x→vs[i]? = some v→kindOf x=some .local→
  bindL kindOf (P.zip vs) m x=some v
 | [],_,_,_,_,h,_,_=>by simp at h
 | _::_,[],_,_,_,_,h,_=>by simp at h
 | p::P,w::vs,0,m,nd,h1,h2,hk=>by
  simp at h1 h2;subst h1;subst h2
  show bindL kindOf ((p,w)::P.zip vs) m p=_
  unfold bindL
  rw[zp fun v hv=>(List.nodup_cons.mp nd).1 (List.of_mem_zip hv).1,if_pos hk]
  simp
 | p::P,w::vs,i+1,m,nd,h1,h2,hk=>by
  show bindL kindOf ((p,w)::P.zip vs) m x=_
  unfold bindL
  exact zq (i:=i) (List.nodup_cons.mp nd).2 (by simpa using h1) (by simpa using h2) hk
theorem zx{kindOf:Str→Option NameKind}{x:Str}{v:Value}:∀{P:List Str} {vs:List Value} {i:Nat} {m:Str→Option Value},P.Nodup→P[i]? = some x→vs[i]? = some v→kindOf x≠some .local→
  bindC kindOf (P.zip vs) m x=some v
 | [],_,_,_,_,h,_,_=>by simp at h
 | _::_,[],_,_,_,_,h,_=>by simp at h
 | p::P,w::vs,0,m,nd,h1,h2,hk=>by
  simp at h1 h2;subst h1;subst h2
  show bindC kindOf ((p,w)::P.zip vs) m p=_
  unfold bindC
  rw[zu fun v hv=>(List.nodup_cons.mp nd).1 (List.of_mem_zip hv).1,if_neg hk]
  simp
 | p::P,w::vs,i+1,m,nd,h1,h2,hk=>by
  show bindC kindOf ((p,w)::P.zip vs) m x=_
  unfold bindC
  exact zx (i:=i) (List.nodup_cons.mp nd).2 (by simpa using h1) (by simpa using h2) hk
def start(N:List Str)(vs:List V):St:=vs.map some++List.replicate (N.length - vs.length) none
def kJ(CX:Fp)(P:Program)(w:World)(K:Frag)(mg:Str→Option Value)(base:Heap)(N:List Str)(qual:Str)(scope:Scope)(f:Addr)(cd:Value)(A:Around)(outer:List Env)(s:Shared)(H:Hp)(E:XK):Cx where
 prog:=P
 w:=w
 K:=K
 mg:=mg
 base:=base
 A:=A.deeper (envOfC qual scope s.heap.objs.size f cd)
 N:=N
 s₀:=s
 H₀:=H
 env:=envOfC qual scope s.heap.objs.size f cd
 outer:=outer
 stack:=envOfC qual scope s.heap.objs.size f cd::outer
 ex:=[]
 calm:=true
 fn:=fun _=>true
 pn:=[]
 xe:=fun e s'=>wpAny (model P w) (A.deeper (envOfC qual scope s.heap.objs.size f cd)) (leaving (envOfC qual scope s.heap.objs.size f cd) e) (fun _ s''=>CX outer H s E e s'') (fun e' s''=>CX outer H s E e' s'') s'
theorem Dd{sc:Scope}{n:Nat}{x:Str}(h:sc.names.lookup x=some .cell):∃c,(cellsFrom n sc.names []).lookup x=some c:=by
 have q:=PySem.W.cellsFrom_some sc.names n [] (.inl h)
 exact Option.isSome_iff_exists.mp q
theorem yX{CX:Fp}{P:Program}{w:World}{K:Frag}{mg:Str→Option Value}{base:Heap}{N ps:List Str}{qual:Str}{scope:Scope}{f:Addr}{cd:Value}{A:Around}{outer:List Env}{s s1:Shared}{H:Hp}{E:XK}{us:List Value}{vs:List V}
  (S:bf N ps scope) (hd:A.handled=none) (e0:yq P w K mg base A outer s H) (hl:vs.length=ps.length) (r:Vals vs us)
  (x:InCallC s s.heap.objs.size (bindL (envOfC qual scope s.heap.objs.size f cd).kindOf (ps.zip us) fun _=>none) (cellsFrom (s.heap.objs.size+1) scope.names []) (bindC (envOfC qual scope s.heap.objs.size f cd).kindOf (ps.zip us) fun _=>none) s1):
  Inv (kJ CX P w K mg base N qual scope f cd A outer s H E) [] (start N vs) H s1:=by
 have hpl:ps.length≤N.length:=by have:=congrArg List.length S.pre;rw[List.length_take]at this;omega
 obtain⟨h1,tk,rfl,hk⟩:=x.done
 have Ot:∀b:Addr,b∉(kJ CX P w K mg base N qual scope f cd A outer s H E).ex:=fun b z=>absurd (show b∈([]:List Addr)from z) (by simp)
 refine⟨⟨e0.mod,S.kind,rfl,rfl,Nat.le_refl _,fun y z c h1 h2=> ?_,fun y hy=> ?_,fun y c _ h=> ?_,fun _=>hd,Around.frames_deeper e0.frames,.inr ⟨rfl,rfl⟩,fun b z=>absurd z (Ot b),e0.bs,e0.GR,fun b _ _=>Ot b,fun b z=>absurd z (Ot b),e0.rJ,e0.K6⟩,
  rfl,e0.bare,Un.kept hk,⟨_,x.toInCall.ns,fun i y v h1 h2 h3=> ?_⟩,fun y c h=>⟨_,x.cell y c h⟩,e0.hok.fresh (Nat.le_refl _),fun y c h=> ?_,fun p hp=>absurd (show p∈([]:List (Addr×Obj))from hp) (by simp),e0.hok.kept hk,?_⟩
 ·exact name_of_addr x.apart (PySem.mem_of_lookup h1) (PySem.mem_of_lookup h2)
 ·have hy:scope.names.lookup y=some .cell∨scope.names.lookup y=some .free:=hy
  rcases hy with hy | hy
  ·exact Dd hy
  ·exact absurd rfl (S.Tc _ (PySem.mem_of_lookup hy))
 ·exact Nat.le_of_lt (x.above y c (PySem.mem_of_lookup h))
 ·have hi:i<vs.length:=by
   unfold start at h2
   by_cases hi:i<vs.length
   ·exact hi
   ·rw[List.getElem?_append_right (by simpa using hi)]at h2
    rw[List.getElem?_replicate]at h2
    split at h2<;>cases h2
  have ha:vs[i]? = some v:=by
   unfold start at h2
   rw[List.getElem?_append_left (by simpa using hi),List.getElem?_map]at h2
   cases e:vs[i]? with
   | none=>rw[e]at h2;cases h2
   | some a=>rw[e]at h2;cases h2;rfl
  obtain⟨u,hu,rv⟩:=r.get ha
  have hp:ps[i]? = some y:=by
   rw[←S.pre,List.getElem?_take_of_lt (by omega)];exact h1
  have ndP:ps.Nodup:=by rw[←S.pre];exact S.nd.sublist (List.take_sublist _ _)
  refine⟨u,rv,?_⟩
  rcases S.par y (List.mem_of_getElem? hp)with k | k
  ·exact .inl ⟨k,zq ndP hp hu k⟩
  ·obtain⟨c,e⟩:=Dd (n:=s.heap.objs.size+1) k
   refine .inr ⟨.inl k,c,e,?_⟩
   have q:=x.cell y c e
   rw[zx ndP hp hu (by show scope.names.lookup y≠_;rw[k];decide)]at q
   exact q
 ·exact .inl (e0.hok.fresh (Nat.le_of_lt (x.above y c (PySem.mem_of_lookup h))))
 ·unfold start
  show _=N.length
  rw[List.length_append,List.length_map,List.length_replicate]
  omega
theorem K7{CX:Fp}{P:Program}{w:World}{K:Frag}{mg:Str→Option Value}{base:Heap}{k:Nat}{f:Addr}{name qual:Str}{params:Arguments}{body:List Stmt}{scope:Scope}{dV kV doc pm cdv ct oc:Value}{an od:Option Addr}
  {osl:Array (Option Value)} {N ps:List Str} {sp:Sp} (lk:K.lookup f=some ⟨oc,od,.func (fnOf name qual params body scope dV kV doc pm an cdv ct),osl⟩) (hcd:codeIn K cdv qual=true) (S:bf N ps scope)
  (len:∀vs H Q E,sp vs H Q E→vs.length=ps.length)
  (hbody:∀(A:Around) (outer:List Env) (s:Shared) (H:Hp) (vs:List V) (Q:VK) (E:XK),gF k (A.deeper (envOfC qual scope s.heap.objs.size f cdv))→sp vs H Q E→
   ∃t,yj (kJ CX P w K mg base N qual scope f cdv A outer s H E) body t∧t {nx:=fun _ H'=>Q .non H',rt:=Q} (start N vs) H):
  aY P w K mg base CX (k+1) f (fnOf name qual params body scope dV kV doc pm an cdv ct) ps sp:=by
 refine⟨len,fun A outer s H args us vs Q E hr e0 hb r hsp=> ?_⟩
 have hl:=len _ _ _ _ hsp
 have KX:K.In s.heap:=e0.mod.Tu.keeps fun b o e=>(e0.bs b o e).1
 have lim:s.heap.NoLimit:=e0.mod.nolimit.keeps fun b o e=>(e0.bs b o e).1
 have hkind:∀y∈ps.zip us,scope.names.lookup y.1=some .local∨(scope.names.lookup y.1=some .cell∧((cellsFrom (s.heap.objs.size+1) scope.names []).lookup y.1).isSome=true):=fun⟨n,v⟩ hy=>by
  rcases S.par n (List.of_mem_zip hy).1 with q | q
  ·exact .inl q
  ·exact .inr ⟨q,PySem.W.cellsFrom_some _ _ _ (.inl q)⟩
 refine codeAny_call_function hr.depth (KX _ _ lk) rfl S.co S.gen rfl (PySem.W.codeRec_of KX hcd) (hb _ _ _ _ ?_)
 refine wpAny_newFunctionEnv_cells S.kind hkind fun env he s1 x=> ?_
 subst he
 refine⟨lim.keeps x.toInCall.keep,codeAny_func ?_⟩
 obtain⟨t,ht,hq⟩:=hbody A outer s H vs Q E (hr.deeper _) hsp
 have I:Inv (kJ CX P w K mg base N qual scope f cdv A outer s H E) [] (start N vs) H s1:=yX S hr.hd e0 hl r x
 refine wpAny_mono (ht [] s1 (start N vs) H _ I hq) (fun fl s' hs=> ?_) fun e s' hs=>hs
 have fin:∀{σ':St} {H':Hp} {v:V} {u:Value},Inv (kJ CX P w K mg base N qual scope f cdv A outer s H E) [] σ' H' s'→RelV v u→Q v H'→CE outer P w H s Q u s':=
  fun{σ' H' v u} J rv q=>⟨v,H',J.os,J.bare,J.base,J.hok,rv,q⟩
 cases fl with
 | ret u=>
  obtain⟨v,σ',H',J,rv,q⟩:=hs
  exact fin J rv q
 | next=>
  obtain⟨σ',H',J,q⟩:=hs
  exact fin (v:=V.non) (u:=Value.none) J rfl q
 | brk=>
  obtain⟨_,_,_,q⟩:=hs
  exact False.elim q
 | cont=>
  obtain⟨_,_,_,q⟩:=hs
  exact False.elim q
section
variable{X:Cx}{x:Str}{p pos:Pos}{e:Expr}{es:List Expr}{t:TA}{id T:String}{r:List V→Hp→VK→Prop}
def tCB(r:List V→Hp→VK→Prop)(t:TA):TE:=fun σ H Q=>t σ H fun vs H1=>r vs H1 Q
theorem Ka(hc:mD X (.builtin id) r)(hg:Gl X x)(hm:X.mg x=none)(hv:bootBuiltins x=some (.builtin id))(ha:PA X (e::es) t)(hn:x≠ "__name__" := by decide)(hdb:(x==("__debug__" : Str))=false:=by decide)
  (he:starEach (e::es) X.env=(false,eval e X.env)::starEach es X.env:=by rfl) (hpl:(backTo pos (starEach es X.env)).any (·.1)=false:=by rfl):PE X (.Call (.Name x p) (e::es) [] pos) (tCB r t):=by
 intro pins s σ H Q I h
 refine wpAny_Call_Name_kw (Ao I hg hm hv ?_ hn hdb)
 exact PyProof.Rows.callWith_builtin1 (je (ha pos pins s σ H _ I h) fun us s1 ⟨vs,H1,I1,r1,q1⟩=>hc pins s1 σ H1 vs us Q I1 r1 q1) he hpl
theorem Hy(hc:mD X (.type T) r)(hg:Gl X x)(hm:X.mg x=none)(hv:bootBuiltins x=some (.type T))(ha:PA X (e::es) t)(hn:x≠ "__name__" := by decide)(hdb:(x==("__debug__" : Str))=false:=by decide)
  (he:starEach (e::es) X.env=(false,eval e X.env)::starEach es X.env:=by rfl) (hpl:(backTo pos (starEach es X.env)).any (·.1)=false:=by rfl):PE X (.Call (.Name x p) (e::es) [] pos) (tCB r t):=by
 intro pins s σ H Q I h
 refine wpAny_Call_Name_kw (Ao I hg hm hv ?_ hn hdb)
 exact PyProof.Rows.callWith_type1 (je (ha pos pins s σ H _ I h) fun us s1 ⟨vs,H1,I1,r1,q1⟩=>hc pins s1 σ H1 vs us Q I1 r1 q1) he hpl
end
end L2
namespace HT
open PySem PyProof.Rows
def lexLt:List Int→List Int→Bool
 | [],[]=>false
 | [],_::_=>true
 | _::_,[]=>false
 | x::xs,y::ys=>if x=y then lexLt xs ys else decide (x<y)
theorem cg(x y:Int)(xs ys:List Int):lexLt (x::xs) (y::ys)=if x=y then lexLt xs ys else decide (x<y):=rfl
theorem yE:lexLt [] []=false:=rfl
theorem xQ(y:Int)(ys:List Int):lexLt [] (y::ys)=true:=rfl
theorem xR(x:Int)(xs:List Int):lexLt (x::xs) []=false:=rfl
theorem Lb(A:Around)(s:Shared)(a:Int)(t:Tok)(c:Int)(u:Tok):∃e,SeqAt.EqAt A s (.int a t) (.int c u) e∧(e=true↔a=c):=
 ⟨(a==c),SeqAt.EqAt.int_int a t c u,by simp⟩
theorem JX(A:Around)(s:Shared)(a:Int)(t:Tok)(c:Int)(u:Tok)(prog:Program)(w:World)(E:Value→Shared→Prop)(Q:Value→Shared→Prop)(h:Q (.bool (decide (a<c))) s):
  wpAny (model prog w) A (richCompare .Lt (.int a t) (.int c u)) Q E s:=
 (PyProof.Rows.lt_int h:wpAny (model prog w) A (compareOp .Lt (.int a t) (.int c u)) Q E s)
section
open PySem.SeqAt
open PySem.AutoSeq1 (wpAny_loadPart')
open PySem.MeetsSeq PySem.MeetsSeq2 PySem.MeetsSeq3
theorem yt(l b:Addr)(items items2:Array Value)(n n2:Nat)(dd dd2:Option Addr)(sl sl2:Array (Option Value))(ns ms:List Int)(hi:IntsAre items.toList ns)(hj:IntsAre items2.toList ms):
  Meets (Builtin.«tuple.__lt__» ⟨[.ref l,.ref b],[]⟩)
   (fun _ R s=>s.heap.get? l=some {cls:= .type "tuple",dict:=dd,data:= .seq items n,slots:=sl}∧s.heap.get? b=some {cls:= .type "tuple",dict:=dd2,data:= .seq items2 n2,slots:=sl2}∧
    R (.ok (.ret (.bool (lexLt ns ms)))) s):=
 .of_wp fun prog w A R s h=>by
  obtain⟨hp,g,d,tk,os⟩:=s;obtain⟨hl,hb,h⟩:=h
  have f2:=AutoSeq1.sub_tuple_tuple
  have z1:items.size=ns.length:=by rw[←hi.length];simp
  have z2:items2.size=ms.length:=by rw[←hj.length];simp
  wp_walk using wpAny_loadPart' hl,wpAny_loadPart' hb,wpAny_forIn_list _ (fun rest b s'=>b.1=none∧s'=⟨hp,g,d,tk,os⟩∧∃(vs ws:List Value) (ns' ms':List Int),rest=vs.zip ws∧
   IntsAre vs ns'∧IntsAre ws ms'∧ns'.length+items2.size=ms'.length+items.size∧R (.ok (.ret (.bool (lexLt ns' ms')))) ⟨hp,g,d,tk,os⟩) _
  case turn=>
   rintro⟨y,x⟩ rest b s' ⟨hb',rfl,vs,ws,ns',ms',hz,TY,hwi,hlen,hR⟩
   cases TY with
   | nil=>rw[List.zip_nil_left]at hz;cases hz
   | cons a t acV=>
    cases hwi with
    | nil=>rw[List.zip_nil_right]at hz;cases hz
    | cons c u acU=>
     rw[List.zip_cons_cons]at hz
     injection hz with hyx hrest
     injection hyx with hy hx
     subst hy hx
     rw[cg]at hR
     simp only[List.length_cons]at hlen
     obtain⟨e,he,hiff⟩:=Lb A.in1 ⟨hp,g,d,tk,os⟩ a t c u
     refine wpAny_bind (he prog w _ _ ?_)
     cases e with
     | true=>
      rw[if_pos (hiff.mp rfl)]at hR
      wp_walk
      exact⟨rfl,rfl,_,_,_,_,hrest,acV,acU,by omega,hR⟩
     | false=>
      rw[if_neg (fun q=>absurd (hiff.mpr q) Bool.false_ne_true)]at hR
      have hri:=JX A.in1 ⟨hp,g,d,tk,os⟩ a t c u prog w
      wp_walk using hri
      exact⟨_,rfl,by simpa using hR⟩
  case fin=>
   rintro⟨b1,b2⟩ s' ⟨hb',rfl,vs,ws,ns',ms',hz,TY,hwi,hlen,hR⟩
   simp only at hb'
   subst hb'
   have hv:lexLt ns' ms'=decide (items.size<items2.size):=by
    cases TY with
    | nil=>
     cases hwi with
     | nil=>
      simp only[List.length_nil]at hlen
      rw[yE]
      exact(decide_eq_false (by omega)).symm
     | cons c u hw=>
      simp only[List.length_nil,List.length_cons]at hlen
      rw[xQ]
      exact(decide_eq_true (by omega)).symm
    | cons a t hv=>
     cases hwi with
     | nil=>
      simp only[List.length_nil,List.length_cons]at hlen
      rw[xR]
      exact(decide_eq_false (by omega)).symm
     | cons c u hw=>
      rw[List.zip_cons_cons]at hz
      cases hz
   rw[hv]at hR
   wp_walk
   exact⟨_,rfl,by simpa[Builtin.Tuple.tupleCompareSizes]using hR⟩
  case h=>
   exact⟨rfl,rfl,items.toList,items2.toList,ns,ms,rfl,hi,hj,by omega,h⟩
end
section
variable{prog:Program}{w:World}{A:Around}{E:Value→Shared→Prop}{s:Shared}
theorem Es{l b:Addr}{items items2:Array Value}{ns ms:List Int}{Q:Value→Shared→Prop}(hl:IsTup s.heap l items)(hb:IsTup s.heap b items2)(hi:IntsAre items.toList ns)(hj:IntsAre items2.toList ms)
  (hu:A.units<cLine) (h:Q (.bool (lexLt ns ms)) s):wpAny (model prog w) A (compareOp .Lt (.ref l) (.ref b)) Q E s:=by
 obtain⟨⟨cls,dd,data,sl⟩,ho,hc,n,hd⟩:=id hl
 obtain⟨⟨cls2,dd2,data2,sl2⟩,ho2,hc2,n2,hd2⟩:=id hb
 simp only at hc hd hc2 hd2
 subst hc hd hc2 hd2
 exact richCompare_meets_room (op:= .Lt) ⟨_,ho,rfl⟩ ⟨_,ho2,rfl⟩ PySem.F.slot_tuple_lt PySem.F.entry_tuple_lt (PySem.F.args_tuple_lt_2 _ _) (yt l b items items2 n n2 dd dd2 sl sl2 ns ms hi hj)
  ⟨ho,ho2,show Value.bool (lexLt ns ms)≠Value.notImplemented∧Q (.bool (lexLt ns ms)) s from⟨(fun x=>nomatch x),h⟩⟩ hu
theorem PL{t b:Addr}{vs ws:List Value}{Q:Value→Shared→Prop}(ht:IsTup s.heap t vs.toArray)(hb:IsTup s.heap b ws.toArray)(hv:vs≠[])
  (h1:ws=[]→Q (.ref t) s) (h2:ws≠[]→Q (.ref s.heap.objs.size) {s with heap:=s.heap.push {cls:= .type "tuple",data:= .seq (vs++ws).toArray}})
  (hsz:vs.length+ws.length≤sizeLine):wpAny (model prog w) A (binaryOp .Add (.ref t) (.ref b)) Q E s:=by
 obtain⟨⟨cls,dd,data,sl⟩,ho,hc,n,hd⟩:=id ht
 obtain⟨⟨cls2,dd2,data2,sl2⟩,ho2,hc2,n2,hd2⟩:=id hb
 simp only at hc hd hc2 hd2
 subst hc hd hc2 hd2
 have e:vs.toArray++ws.toArray=(vs++ws).toArray:=by simp
 by_cases hw:ws=[]
 ·exact concat_meets ⟨_,ho,rfl⟩ ⟨_,ho2,rfl⟩ noFill_tuple_add seq_tuple_add PySem.F.slot_tuple_add PySem.F.entry_tuple_add (PySem.F.args_tuple_add_2 _ _)
   (tuple_addW1 t b vs.toArray ws.toArray n n2 dd dd2 sl sl2 (by simpa using hv) (by simp[hw])) ⟨ho,ho2,h1 hw⟩
 ·refine concat_meets ⟨_,ho,rfl⟩ ⟨_,ho2,rfl⟩ noFill_tuple_add seq_tuple_add PySem.F.slot_tuple_add PySem.F.entry_tuple_add (PySem.F.args_tuple_add_2 _ _)
   (tuple_addW2 t b vs.toArray ws.toArray n n2 dd dd2 sl sl2 (by simpa using hv) (by simpa using hw) (by rw[List.size_toArray,List.size_toArray];exact hsz)) ⟨ho,ho2,?_⟩
  rw[e]
  exact h2 hw
def j8(n d:Nat):Option Int→Nat
 | none=>d
 | some v=>if v<0 then(v+(n:Int)).toNat else min v.toNat n
end
end HT
namespace L2
open PySem PySem.Spec PyProof.Rows
abbrev TO:=St→Hp→(Option Int→Hp→Prop)→Prop
theorem intsAre_of{ns:List Int}:∀{us:List Value},Vals (ns.map V.int) us→IntsAre us ns:=by
 induction ns with
 | nil=>intro us r;rw[List.map_nil]at r;cases r;exact .nil
 | cons n ns ih=>
  intro us r
  rw[List.map_cons]at r
  cases r with
  | cons r1 r2=>
   obtain⟨t,e⟩:=r1
   subst e
   exact .cons n t (ih r2)
section
variable{X:Cx}{e:Expr}{te:TE}{lo hi:Option Expr}{tl th:TO}{pos p2:Pos}
def SlR(X:Cx)(r:V→Option Int→Option Int→Hp→VK→Prop):Prop:=
 ∀(pins:List (Addr×Obj)) (s:Shared) (σ:St) (H:Hp) (x:V) (v vl vu:Value) (lo hi:Option Int) (sl:Addr) (Q:VK),Inv X pins σ H s→RelV x v→s.heap.IsSliceOf sl vl vu .none→IsPart vl lo→IsPart vu hi→r x lo hi H Q→
  ∃T id,typeLookup (.type T) "__getitem__" = pure (some (.builtin id))∧s.TypeIs v T∧wpAny (model X.prog X.w) X.A (getItem v (.ref sl)) (EP X pins σ Q) X.xe s
def Pq(xs:List V)(lo hi:Option Int):List V:=(xs.drop (HT.j8 xs.length 0 lo)).take (HT.j8 xs.length xs.length hi - HT.j8 xs.length 0 lo)
theorem Dc(xs:List V)(lo hi:Option Int):(Pq xs lo hi).length≤xs.length:=by
 unfold Pq
 rw[List.length_take,List.length_drop]
 omega
def abN(K:Frag):R2:=fun x y H Q=>∃a b ns ms,x= .ref a∧y= .ref b∧oG K H a (ns.map V.int)∧oG K H b (ms.map V.int)∧Q (.bl (HT.lexLt ns ms)) H
theorem SN(hu:X.A.units<cLine):rB X (compareOp .Lt) (abN X.K):=by
 intro pins s σ H x y v u Q I rx ry h
 obtain⟨a,b,ns,ms,rfl,rfl,ha,hb,q⟩:=h
 cases rx
 cases ry
 obtain⟨its,r1,p1,_⟩:=I.tuple ha
 obtain⟨its2,r2,p2,_⟩:=I.tuple hb
 have i1:IntsAre its.toArray.toList ns:=intsAre_of r1
 have i2:IntsAre its2.toArray.toList ms:=intsAre_of r2
 exact HT.Es p1 p2 i1 i2 hu ⟨.bl (HT.lexLt ns ms),H,I,rfl,q⟩
def Wl(K:Frag):R2:=fun x y H Q=>∃a b xs ys,x= .ref a∧y= .ref b∧oG K H a xs∧oG K H b ys∧xs≠[]∧xs.length+ys.length≤sizeLine∧
 (ys=[]→Q (.ref a) H)∧(ys≠[]→∀p,H p=none→Q (.ref p) (upd H p (.tup (xs++ys))))
theorem Vals.Aj{xs:List V}{us:List Value}(r:Vals xs us):us=[]↔xs=[]:=by
 cases r with
 | nil=>simp
 | cons _ _=>simp
theorem Om:rB X (binaryOp .Add) (Wl X.K):=by
 intro pins s σ H x y v u Q I rx ry h
 obtain⟨a,b,xs,ys,rfl,rfl,ha,hb,hx,hz,q1,q2⟩:=h
 cases rx
 cases ry
 obtain⟨its,r1,p1,_⟩:=I.tuple ha
 obtain⟨its2,r2,p2,_⟩:=I.tuple hb
 refine HT.PL p1 p2 (fun z=>hx (r1.Aj.mp z)) (fun z=>⟨.ref a,H,I,rfl,q1 (r2.Aj.mp z)⟩) (fun z=> ?_) (by rw[←r1.length,←r2.length];exact hz)
 refine⟨.ref s.heap.objs.size,_,I.laid (t':=s.toks) (o:= .tup (xs++ys)) (fun b ob q=>Heap.get?_push_of_some _ q) (Nat.le_refl _) ?_,rfl,q2 (fun w=>z (r2.Aj.mpr w)) _ (I.hok.fresh (Nat.le_refl _))⟩
 exact⟨by rw[List.length_append];exact hz,_,r1.append r2,IsTup.new _ _⟩
end
def TV(n:Nat)(i:Int):Option Nat:=if 0≤i then(if i<n then some i.toNat else none)else if -(n:Int)≤i then some (i+n).toNat else none
def yH{α:Type}(xs:List α)(i:Int):Option α:=(TV xs.length i).bind fun j=>xs[j]?
theorem O3{n:Nat}{i:Int}{j:Nat}(h:TV n i=some j):seqIndex? i n=some j∧j<n∧ -(n:Int)≤i∧i<n:=by
 unfold TV at h
 by_cases h0:0≤i
 ·rw[if_pos h0]at h
  by_cases h1:i<n
  ·rw[if_pos h1]at h
   have e:i.toNat=j:=Option.some.inj h
   exact⟨by rw[seqIndex_of h0 h1,e],by omega,by omega,h1⟩
  ·rw[if_neg h1]at h;cases h
 ·rw[if_neg h0]at h
  by_cases h1: -(n:Int)≤i
  ·rw[if_pos h1]at h
   have e:(i+n).toNat=j:=Option.some.inj h
   exact⟨by rw[seqIndex_neg (by omega) h1,e],by omega,h1,by omega⟩
  ·rw[if_neg h1]at h;cases h
theorem Bm{α:Type}{xs:List α}{i:Int}{v:α}(h:yH xs i=some v):∃j,seqIndex? i xs.length=some j∧xs[j]? = some v∧j<xs.length∧ -(xs.length:Int)≤i∧i<xs.length:=by
 unfold yH at h
 cases e:TV xs.length i with
 | none=>rw[e]at h;cases h
 | some j=>
  rw[e]at h
  obtain⟨h1,h2,h3,h4⟩:=O3 e
  exact⟨j,h1,h,h2,h3,h4⟩
def G4(b:Expr):Prop:=∀o i,subscripted b false o i=operate [o,i] (getItem o i)
def Qi(X:Cx)(r:R2):Prop:=
 ∀(value slice:Expr) (pins:List (Addr×Obj)) (s:Shared) (σ:St) (H:Hp) (x y:V) (v u:Value) (Q:VK),Inv X pins σ H s→RelV x v→RelV y u→r x y H Q→
  subscripted slice false v u=operate [v,u] (getItem v u)→wpAny (model X.prog X.w) X.A (subscriptTail value slice v u) (EP X pins σ Q) X.xe s
def MtR(X:Cx)(id:String)(r:V→List V→Hp→VK→Prop):Prop:=
 ∀(pins:List (Addr×Obj)) (s:Shared) (σ:St) (H:Hp) (x:V) (xs:List V) (v:Value) (us:List Value) (Q:VK),Inv X pins σ H s→RelV x v→Vals xs us→r x xs H Q→
  wpAny (model X.prog X.w) X.A (call (.builtin id) (v::us)) (EP X pins σ Q) X.xe s
section
variable{X:Cx}{a b:Expr}{ta tb:TE}{pos:Pos}
theorem Qi.or{r r':R2}(h:Qi X r)(h':Qi X r'):Qi X (fun x y H Q=>r x y H Q∨r' x y H Q):=by
 intro value slice pins s σ H x y v u Q I rx ry q hs
 rcases q with q | q
 ·exact h value slice pins s σ H x y v u Q I rx ry q hs
 ·exact h' value slice pins s σ H x y v u Q I rx ry q hs
theorem WW{r:R2}(hr:Qi X r)(ha:PE X a ta)(hb:PE X b tb)(hs:G4 b):PE X (.Subscript a b pos) (VD r ta tb):=by
 intro pins s σ H Q I h
 exact Subscript_ (U8 ha hb I h fun v u s2 x y H2 I2 rx ry q=>hr a b pins s2 σ H2 x y v u Q I2 rx ry q (hs _ _))
def Wi(K:Frag):R2:=fun x y H Q=>∃p xs i v,x= .ref p∧y= .int i∧ql K H p xs∧yH xs i=some v∧Q v H
def Wg(K:Frag):R2:=fun x y H Q=>∃p xs i v,x= .ref p∧y= .int i∧oG K H p xs∧yH xs i=some v∧Q v H
def Wh:R2:=fun x y H Q=>∃z i c,x= .str z∧y= .int i∧z.length≤sizeLine∧yH z.cps.toList i=some c∧Q (.str ⟨#[c]⟩) H
theorem O1:Qi X (Wi X.K):=by
 intro value slice pins s σ H x y v u Q I rx ry h hs
 obtain⟨p,xs,i,z,rfl,rfl,hq,he,q⟩:=h
 cases rx
 obtain⟨t,rfl⟩:=ry
 obtain⟨its,r,pl,hz⟩:=I.list hq
 obtain⟨j,h1,h2,h3,h4,h5⟩:=Bm he
 obtain⟨w,ew,rw'⟩:=r.get h2
 have hl:=r.length
 have hn:=xP
 have fin:EP X pins σ Q w s:=⟨z,H,I,rw',q⟩
 by_cases h0:0≤i
 ·have hj:i.toNat=j:=by
   rw[seqIndex_of h0 h5]at h1
   exact Option.some.inj h1
  exact item_listR pl.isList h0 (by omega) (by rw[hj];simpa using ew) fin hs
 ·have hj:(i+(its.toArray.size:Int)).toNat=j:=by
   rw[seqIndex_neg (by omega) h4]at h1
   rw[List.size_toArray,←hl]
   exact Option.some.inj h1
  exact subscriptTail_builtinR (x:=w) pl.isList.typeIs slot_list_getitem.lookup
   (wpAny_getItem_list_neg (Q:=fun r s'=>r=w∧EP X pins σ Q r s') pl.isList (by omega) (by rw[List.size_toArray]<;>omega) (by omega) (by rw[hj];simpa using ew) ⟨rfl,fin⟩) hs
theorem TJ:Qi X (Wg X.K):=by
 intro value slice pins s σ H x y v u Q I rx ry h hs
 obtain⟨p,xs,i,z,rfl,rfl,hq,he,q⟩:=h
 cases rx
 obtain⟨t,rfl⟩:=ry
 obtain⟨its,r,pl,hz⟩:=I.tuple hq
 obtain⟨j,h1,h2,h3,h4,h5⟩:=Bm he
 obtain⟨w,ew,rw'⟩:=r.get h2
 have hl:=r.length
 have hn:=xP
 have fin:EP X pins σ Q w s:=⟨z,H,I,rw',q⟩
 exact subscriptTail_builtinR (x:=w) pl.typeIs slot_tuple_getitem.lookup
  (getItem_tuple (j:=j) (Q:=fun r s'=>r=w∧EP X pins σ Q r s') pl (by omega) (by omega) (by rw[List.size_toArray,←hl];exact h1) (by simpa using ew) ⟨rfl,fin⟩) hs
theorem TQ:Qi X Wh:=by
 intro value slice pins s σ H x y v u Q I rx ry h hs
 obtain⟨z,i,c,rfl,rfl,hz,he,q⟩:=h
 obtain⟨t,rfl⟩:=rx
 obtain⟨t',rfl⟩:=ry
 obtain⟨j,h1,h2,h3,h4,h5⟩:=Bm he
 have hl:z.cps.toList.length=z.length:=by simp[Str.length]
 rw[hl]at h1 h4 h5
 have hn:=xP
 exact tail_any (typeIs_str s z t) slot_str_getitem.lookup (getItem_str (c:=c) (by
  have e1:decide (i< -(2 ^ 63:Int))=false:=decide_eq_false (by omega)
  have e2:decide (i≥2 ^ 63)=false:=decide_eq_false (by omega)
  rw[e1,e2,Bool.or_false]) (by rw[h1];simpa using h2) ⟨.str ⟨#[c]⟩,H,I.tok _,⟨_,rfl⟩,q⟩) hs
theorem Inv.lst{pins:List (Addr×Obj)}{σ:St}{H:Hp}{s:Shared}{p:Addr}{xs:List V}(I:Inv X pins σ H s)(h:H p=some (.lst xs)):
  ∃(its:List Value) (n:Nat),Vals xs its∧s.heap.get? p=some {cls:= .type "list",data:= .seq its.toArray n}∧xs.length≤sizeLine:=by
 obtain⟨z,its,n,r,e⟩:=I.hok p _ h
 exact⟨its,n,r,e,z⟩
theorem zM(lo hi:Option Int)(n:Nat):(sliceBounds lo hi none n).1=((HT.j8 n 0 lo:Nat):Int)∧(sliceBounds lo hi none n).2.1=((HT.j8 n n hi:Nat):Int)∧(sliceBounds lo hi none n).2.2=1:=by
 refine⟨?_,?_,rfl⟩
 ·cases lo with
  | none=>simp[sliceBounds,HT.j8]
  | some i=>
   simp only[sliceBounds,HT.j8,Option.getD_none,show(1:Int) > 0 by decide,if_true]
   by_cases h:i<0
   ·simp only[h,if_true]<;>omega
   ·simp only[h,if_false]<;>omega
 ·cases hi with
  | none=>simp[sliceBounds,HT.j8]
  | some i=>
   simp only[sliceBounds,HT.j8,Option.getD_none,show(1:Int) > 0 by decide,if_true]
   by_cases h:i<0
   ·simp only[h,if_true]<;>omega
   ·simp only[h,if_false]<;>omega
theorem yu(its:List Value)(lo hi:Option Int):slicePick its.toArray lo hi none=((its.drop (HT.j8 its.length 0 lo)).take (HT.j8 its.length its.length hi - HT.j8 its.length 0 lo)).toArray:=by
 obtain⟨h1,h2,h3⟩:=zM lo hi its.toArray.size
 unfold slicePick
 rw[h1,h2,h3]
 simp only[sliceRange_one,pick_run,List.size_toArray]<;>rfl
def abL(K:Frag):V→Option Int→Option Int→Hp→VK→Prop:=fun x lo hi H Q=>∃a xs,x= .ref a∧ql K H a xs∧∀p,H p=none→Q (.ref p) (upd H p (.lst (Pq xs lo hi)))
theorem ZZ:SlR X (abL X.K):=by
 intro pins s σ H x v vl vu lo hi sl Q I rx hs pl pu h
 obtain⟨a,xs,rfl,hx,q⟩:=h
 cases rx
 obtain⟨its,r,ht,hz⟩:=I.list hx
 have hlen:=r.length
 refine⟨"list",_,slot_list_getitem.lookup,ht.isList.typeIs,?_⟩
 refine wpAny_getItem_list_slice ht.isList hs pl pu .none (by simp) ?_ (by rw[List.size_toArray]<;>omega)
 rw[yu,←hlen]
 refine⟨.ref s.heap.objs.size,_,I.laid (t':=s.toks) (o:= .lst (Pq xs lo hi)) (fun b ob q=>Heap.get?_push_of_some _ q) (Nat.le_refl _) ?_,rfl,q _ (I.hok.fresh (Nat.le_refl _))⟩
 exact⟨Nat.le_trans (Dc xs lo hi) hz,_,0,(r.drop (HT.j8 xs.length 0 lo)).take (HT.j8 xs.length xs.length hi - HT.j8 xs.length 0 lo),Heap.get?_push_size _ rfl⟩
def rP:V→Bool
 | .non=>true
 | .bl _=>true
 | .int _=>true
 | .str _=>true
 | _=>false
def QH:V→V→Bool
 | .non,.non=>true
 | .bl a,.bl b=>a==b
 | .bl a,.int b=>(if a then 1 else 0)==b
 | .int a,.bl b=>a==(if b then 1 else 0)
 | .int a,.int b=>a==b
 | .str a,.str b=>a==b
 | _,_=>false
theorem Uc{A:Around}{s:Shared}{y x:V}{u v:Value}(ry:RelV y u)(rx:RelV x v)(fy:rP y=true)(fx:rP x=true):SeqAt.EqAt A s u v (QH y x):=by
 cases y with
 | non=>
  cases ry
  cases x with
  | non=>cases rx;exact SeqAt.EqAt.same _
  | bl b=>cases rx;exact SeqAt.EqAt.none_bool b
  | int b=>obtain⟨t,rfl⟩:=rx;exact SeqAt.EqAt.none_int b t
  | str b=>obtain⟨t,rfl⟩:=rx;exact SeqAt.EqAt.none_str b t
  | _=>exact absurd (show false=true from fx) Bool.false_ne_true
 | bl a=>
  cases ry
  cases x with
  | non=>cases rx;exact SeqAt.EqAt.bool_none a
  | bl b=>cases rx;exact SeqAt.EqAt.bool_bool a b
  | int b=>obtain⟨t,rfl⟩:=rx;exact SeqAt.EqAt.bool_int a b t
  | str b=>obtain⟨t,rfl⟩:=rx;exact SeqAt.EqAt.bool_str a b t
  | _=>exact absurd (show false=true from fx) Bool.false_ne_true
 | int a=>
  obtain⟨t',rfl⟩:=ry
  cases x with
  | non=>cases rx;exact SeqAt.EqAt.int_none a t'
  | bl b=>cases rx;exact SeqAt.EqAt.int_bool a t' b
  | int b=>obtain⟨t,rfl⟩:=rx;exact SeqAt.EqAt.int_int a t' b t
  | str b=>obtain⟨t,rfl⟩:=rx;exact SeqAt.EqAt.int_str a t' b t
  | _=>exact absurd (show false=true from fx) Bool.false_ne_true
 | str a=>
  obtain⟨t',rfl⟩:=ry
  cases x with
  | non=>cases rx;exact SeqAt.EqAt.str_none a t'
  | bl b=>cases rx;exact SeqAt.EqAt.str_bool a t' b
  | int b=>obtain⟨t,rfl⟩:=rx;exact SeqAt.EqAt.str_int a t' b t
  | str b=>obtain⟨t,rfl⟩:=rx;exact SeqAt.EqAt.str_str a t' b t
  | _=>exact absurd (show false=true from fx) Bool.false_ne_true
 | _=>exact absurd (show false=true from fy) Bool.false_ne_true
def Pa(x:V)(u:Value):Bool:=match u with
 | .none=>QH .non x
 | .bool b=>QH (.bl b) x
 | .int i _=>QH (.int i) x
 | .str z _=>QH (.str z) x
 | _=>false
theorem K9{x y:V}{u:Value}(r:RelV y u)(f:rP y=true):Pa x u=QH y x:=by
 cases y with
 | non=>cases r;rfl
 | bl b=>cases r;rfl
 | int i=>obtain⟨t,rfl⟩:=r;rfl
 | str z=>obtain⟨t,rfl⟩:=r;rfl
 | _=>exact absurd (show false=true from f) Bool.false_ne_true
theorem Bo{x:V}:∀{xs:List V} {us:List Value},Vals xs us→xs.all rP=true→us.any (Pa x)=xs.any fun y=>QH y x
 | _,_,.nil,_=>rfl
 | y::xs,u::us,.cons r t,f=>by
  rw[List.all_cons,Bool.and_eq_true]at f
  rw[List.any_cons,List.any_cons,K9 r f.1,Bo t f.2]
theorem xK{A:Around}{s:Shared}{x:V}{v:Value}(rx:RelV x v)(fx:rP x=true):∀{xs:List V} {us:List Value},Vals xs us→xs.all rP=true→∀u∈us,SeqAt.EqAt A s u v (Pa x u)
 | _,_,.nil,_=>fun u hu=>by cases hu
 | y::xs,u::us,.cons r t,f=>fun u' hu=>by
  rw[List.all_cons,Bool.and_eq_true]at f
  rcases List.mem_cons.mp hu with rfl | hu
  ·rw[K9 r f.1];exact Uc r rx f.1 fx
  ·exact xK rx fx t f.2 u' hu
def inV(x:V)(xs:List V):Bool:=xs.any fun y=>QH y x
def rIn(K:Frag)(neg:Bool):R2:=fun x y H Q=>∃p xs,y= .ref p∧(ql K H p xs∨oG K H p xs)∧rP x=true∧xs.all rP=true∧Q (.bl (if neg then !inV x xs else inV x xs)) H
theorem HH:rB X (compareOp .In) (rIn X.K false):=by
 intro pins s σ H x y v u Q I rx ry h
 obtain⟨p,xs,rfl,hq,fx,fs,q⟩:=h
 cases ry
 rcases hq with hq | hq
 ·obtain⟨its,r,pl,hz⟩:=I.list hq
  refine SeqAt.in_listAt (Pa x) pl.isList (fun w hw=>xK rx fx r fs w (by simpa using hw)) ⟨.bl _,H,I,rfl,?_⟩
  rw[show its.toArray.any (Pa x)=its.any (Pa x) by simp,Bo r fs]
  exact q
 ·obtain⟨its,r,pl,hz⟩:=I.tuple hq
  refine SeqAt.in_tupleAt (Pa x) pl (fun w hw=>xK rx fx r fs w (by simpa using hw)) ⟨.bl _,H,I,rfl,?_⟩
  rw[show its.toArray.any (Pa x)=its.any (Pa x) by simp,Bo r fs]
  exact q
theorem Bh:mD X (.builtin "len") (fun xs H Q=>∃p ys,xs=[.ref p]∧(ql X.K H p ys∨oG X.K H p ys)∧Q (.int ys.length) H):=by
 intro pins s σ H xs us Q I r h
 obtain⟨p,ys,rfl,hq,q⟩:=h
 obtain⟨u,rfl,rx⟩:=vals1 r
 cases rx
 have hn:=xP
 rcases hq with hq | hq
 ·obtain⟨its,r',pl,hz⟩:=I.list hq
  have hlen:=r'.length
  exact Calls.call_len_list pl.isList (by simp only[List.size_toArray]<;>omega) ⟨.int ys.length,H,I.tok _,⟨s.toks+1,by rw[List.size_toArray,hlen]⟩,q⟩
 ·obtain⟨its,r',pl,hz⟩:=I.tuple hq
  have hlen:=r'.length
  exact len_tuple pl (by simp only[List.size_toArray]<;>omega) ⟨.int ys.length,H,I.tok _,⟨s.toks+1,by rw[List.size_toArray,hlen]⟩,q⟩
theorem Bg:mD X (.builtin "len") (fun xs H Q=>∃z,xs=[.str z]∧z.length≤sizeLine∧Q (.int z.length) H):=by
 intro pins s σ H xs us Q I r h
 obtain⟨z,rfl,hz,q⟩:=h
 obtain⟨u,rfl,t,rfl⟩:=vals1 r
 have hn:=xP
 exact len_str (by omega) ⟨.int z.length,H,I.tok _,⟨_,rfl⟩,q⟩
theorem mD.or{f:Value}{r r':List V→Hp→VK→Prop}(h:mD X f r)(h':mD X f r'):mD X f (fun xs H Q=>r xs H Q∨r' xs H Q):=by
 intro pins s σ H xs us Q I rs q
 rcases q with q | q
 ·exact h pins s σ H xs us Q I rs q
 ·exact h' pins s σ H xs us Q I rs q
theorem Bf:mD X (.type "list") (fun xs H Q=>∃p ys,xs=[.ref p]∧(ql X.K H p ys∨oG X.K H p ys)∧∀l,H l=none→Q (.ref l) (upd H l (.lst ys))):=by
 intro pins s σ H xs us Q I r h
 obtain⟨p,ys,rfl,hq,q⟩:=h
 obtain⟨u,rfl,rx⟩:=vals1 r
 cases rx
 have fin:∀(its:List Value),Vals ys its→ys.length≤sizeLine→∀(h':Heap) (c':Nat),(∀b o',s.heap.get? b=some o'→h'.get? b=some o')→
   h'.get? s.heap.objs.size=some {cls:= .type "list",dict:=none,data:= .seq its.toArray c',slots:= #[]}→EP X pins σ Q (.ref s.heap.objs.size) {s with heap:=h'}:=fun its r' hz h' c' kp e=>
  ⟨.ref s.heap.objs.size,_,I.laid (t':=s.toks) kp (Nat.le_refl _) (show d8 X.prog X.w _ h' _ (.lst ys)from⟨hz,its,c',r',e⟩),rfl,q _ (I.hok.fresh (Nat.le_refl _))⟩
 rcases hq with hq | hq
 ·obtain⟨its,r',pl,hz⟩:=I.list hq
  have hlen:=r'.length
  obtain⟨o,ho,hc,n,hd⟩:=pl.isList
  exact call_list_seq p (.inl rfl) ho hc hd (fun h' c' kp e=>fin its r' hz h' c' kp e) (by simp only[List.size_toArray]<;>omega)
 ·obtain⟨its,r',pl,hz⟩:=I.tuple hq
  have hlen:=r'.length
  obtain⟨o,ho,hc,n,hd⟩:=pl
  exact call_list_seq p (.inr rfl) ho hc hd (fun h' c' kp e=>fin its r' hz h' c' kp e) (by simp only[List.size_toArray]<;>omega)
def tyV(K:Frag)(T:String)(x:V)(H:Hp):Prop:=match x with
 | .str _=>T= "str"
 | .int _=>T= "int"
 | .ref p=>(T= "list" ∧ ∃xs,ql K H p xs)∨(T= "tuple" ∧ ∃o,K.lookup p=some o∧o.cls= .type "tuple" ∧ o.dict=none)∨
   (T= "dict" ∧ ((∃kvs,H p=some (.dK kvs))∨∃kvs,H p=some (.dT kvs)))∨(T= "set" ∧ ∃S n,H p=some (.set S n))
 | _=>False
theorem Q4{pins:List (Addr×Obj)}{σ:St}{H:Hp}{s:Shared}{T:String}{x:V}{v:Value}(I:Inv X pins σ H s)(r:RelV x v)(ty:tyV X.K T x H):
  s.TypeIs v T∧∀a,v= .ref a→∃ob,s.heap.get? a=some ob∧ob.dict=none:=by
 cases x with
 | str z=>
  obtain⟨t,rfl⟩:=r
  cases(show T= "str" from ty)
  exact⟨typeIs_str s z t,fun _ e=>nomatch e⟩
 | int i=>
  obtain⟨t,rfl⟩:=r
  cases(show T= "int" from ty)
  exact⟨typeIs_int s i t,fun _ e=>nomatch e⟩
 | ref p=>
  cases r
  rcases ty with⟨rfl,xs,hq⟩ | ⟨rfl,o,hk,hc,hd⟩ | ⟨rfl,hk⟩ | ⟨rfl,S,n,hk⟩
  ·obtain⟨its,_,pl,_⟩:=I.list hq
   refine⟨pl.isList.typeIs,fun a e=> ?_⟩
   cases e
   obtain⟨o,n,e,c,hd,_⟩:=pl
   exact⟨o,e,hd⟩
  ·refine⟨⟨o,I.su p o hk,hc⟩,fun a e=> ?_⟩
   cases e
   exact⟨o,I.su _ o hk,hd⟩
  ·have z:∃o,s.heap.get? p=some o∧o.ExactDict:=by
    rcases hk with⟨kvs,hk⟩ | ⟨kvs,hk⟩
    ·obtain⟨_,_,_,_,o,_,_,e,ex,_⟩:=I.hok p _ hk
     exact⟨o,e,ex⟩
    ·obtain⟨_,_,_,_,o,_,_,e,ex,_⟩:=I.hok p _ hk
     exact⟨o,e,ex⟩
   obtain⟨o,e,ex⟩:=z
   refine⟨⟨o,e,ex.1⟩,fun a e2=> ?_⟩
   cases e2
   exact⟨o,e,ex.2.1⟩
  ·obtain⟨o,_,_,_,e,ex,_⟩:=I.hok p _ hk
   refine⟨⟨o,e,ex.1⟩,fun a e2=> ?_⟩
   cases e2
   exact⟨o,e,ex.2.1⟩
 | _=>exact False.elim ty
def tBM(K:Frag)(T:String)(r:V→List V→Hp→VK→Prop)(to:TE)(t:TA):TE:=fun σ H Q=>to σ H fun x H1=>tyV K T x H1∧t σ H1 fun xs H2=>r x xs H2 Q
variable{o e:Expr}{es:List Expr}{to:TE}{t:TA}{name:Str}{apos cpos:Pos}{T id:String}{r:V→List V→Hp→VK→Prop}
theorem Qx(pa:PlainAttrs T)(slot:Slot T name id)(hty:typeOf (.builtin id)=pure (.type "method_descriptor"))(hm:MtR X id r)(ho:PE X o to)(ha:PA X (e::es) t)
  (hbase:attributeBase o name X.env (eval o X.env)=eval o X.env:=by rfl)
  (hfew:((backTo cpos (starEach (e::es) X.env)).all (fun x=> !x.1)&&(backToKw cpos (keywordEach [] X.env)).all (fun x=>x.1.isSome)
   && decide ((e::es).length+([]:List Keyword).length+(if([]:List Keyword).isEmpty then 0 else 1)<30))=true:=by rfl)
  (hline:(apos.endLine==cpos.line)=true:=by rfl) (hs:starEach (e::es) X.env=(false,eval e X.env)::starEach es X.env:=by rfl) (hplain:(backTo cpos (starEach es X.env)).any (·.1)=false:=by rfl):
  PE X (.Call (.Attribute o name apos) (e::es) [] cpos) (tBM X.K T r to t):=by
 intro pins s σ H Q I h
 refine wpAny_Call_method_late hbase hfew hline rfl (je (ho pins s σ H _ I h) fun v s1 ⟨x,H1,I1,r1,ty,q1⟩=> ?_)
 obtain⟨h1,h2⟩:=Q4 I1 r1 ty
 refine⟨T,id,pa,slot,hty,h1,h2,?_⟩
 have hA:=ha cpos pins s1 σ H1 _ I1 q1
 rw[hs]at hA ⊢
 refine Calls.callWith_builtin (by show(false||(backTo cpos (starEach es X.env)).any (·.1))=false;rw[hplain]<;>rfl) (Calls.evalArgs_plain ?_)
 exact je hA fun us s2 ⟨vs,H2,I2,r2,q2⟩=>hm pins s2 σ H2 x vs v us Q I2 r1 r2 q2
end
def MtM(X:Cx)(id:String)(r:V→List V→Hp→VK→Prop):Prop:=
 ∀(pins:List (Addr×Obj)) (s:Shared) (σ:St) (H:Hp) (x:V) (xs:List V) (v:Value) (us:List Value) (Q:VK),Inv X pins σ H s→RelV x v→Vals xs us→r x xs H Q→
  wpAny (model X.prog X.w) X.A (call (.builtin id) (v::us)) (EP X pins σ Q) X.xe s
theorem Vals.one:∀{x:V} {us:List Value},Vals [x] us→∃u,us=[u]∧RelV x u
 | _,_,.cons r .nil=>⟨_,rfl,r⟩
theorem Vals.zero:∀{us:List Value},Vals [] us→us=[]
 | _,.nil=>rfl
section
variable{X:Cx}{pins:List (Addr×Obj)}{σ:St}{H:Hp}{s:Shared}{l b:Addr}{xs ys zs:List V}
theorem Inv.Ti{its its':List Value}{n:Nat}{f:Array Value→Array Value}{t':Nat}(I:Inv X pins σ H s)(hH:H l=some (.lst xs))
  (e:s.heap.get? l=some {cls:= .type "list",data:= .seq its.toArray n}) (hf:f its.toArray=its'.toArray) (hv:Vals ys its') (hz:ys.length≤sizeLine):
  Inv X pins σ (upd H l (.lst ys)) {s with heap:=s.heap.update l (Obj.mapSeq f),toks:=t'}:=by
 have q:=PySem.IsL.update e f
 rw[hf]at q
 refine I.write (x:=l) (e:=l) (by rw[hH];exact trivial) (.inl rfl) (fun b' u hb hu=>(Heap.get?_update_other s.heap (Obj.mapSeq f) (Ne.symm hb)).trans hu) ⟨_,q⟩ ?_
 exact⟨hz,its',_,hv,q⟩
theorem Inv.acE{its:List Value}{t':Nat}(I:Inv X pins σ H s)(hv:Vals ys its)(hz:ys.length≤sizeLine):
  Inv X pins σ (upd H s.heap.objs.size (.lst ys)) {s with heap:=s.heap.push {cls:= .type "list",data:= .seq its.toArray},toks:=t'}:=
 I.laid (fun _ _ q=>Heap.get?_push_of_some _ q) (Nat.le_refl _) ⟨hz,its,0,hv,Heap.get?_push_size _ rfl⟩
theorem Inv.fresh(I:Inv X pins σ H s):H s.heap.objs.size=none:=I.hok.fresh (Nat.le_refl _)
theorem Inv.HW(I:Inv X pins σ H s)(hH:H l=some (.lst xs)):xs.length≤sizeLine∧∃(its:List Value) (n:Nat),Vals xs its∧xs.length=its.length∧s.heap.get? l=some {cls:= .type "list",data:= .seq its.toArray n}:=by
 obtain⟨z,its,n,r,e⟩:=I.hok l _ hH
 exact⟨z,its,n,r,r.length,e⟩
theorem Kg{n:Nat}(h:n≤sizeLine):Builtin.List.listTooLong n=false:=by
 unfold Builtin.List.listTooLong
 exact decide_eq_false (by omega)
end
section
variable{X:Cx}
def Gb:V→List V→Hp→VK→Prop:=fun x vs H Q=>∃l xs y,x= .ref l∧vs=[y]∧H l=some (.lst xs)∧xs.length<sizeLine∧Q .non (upd H l (.lst (xs++[y])))
theorem HN:MtM X "list.append" Gb:=by
 intro pins s σ H x vs v us Q I rx rv h
 obtain⟨l,xs,y,rfl,rfl,hH,hz,q⟩:=h
 cases rx
 obtain⟨u,rfl,ru⟩:=rv.one
 obtain⟨z,its,n,r,hl,e⟩:=I.HW hH
 refine call_meets F.slot_list_append ⟨_,e,rfl⟩ F.entry_list_append (F.args_list_append_2 _ _) (PySem.list_append l its.toArray n u (by rw[List.size_toArray];omega)) ⟨e,?_⟩
 refine⟨.non,_,I.Ti (its':=its++[u]) hH e (by simp) (r.append (.cons ru .nil)) ?_,rfl,q⟩
 rw[List.length_append,List.length_singleton]
 omega
def NP:V→List V→Hp→VK→Prop:=fun x vs H Q=>∃l b xs zs,x= .ref l∧vs=[.ref b]∧H l=some (.lst xs)∧H b=some (.lst zs)∧xs.length+zs.length≤sizeLine∧Q .non (upd H l (.lst (xs++zs)))
theorem Vl:MtM X "list.extend" NP:=by
 intro pins s σ H x vs v us Q I rx rv h
 obtain⟨l,b,xs,zs,rfl,rfl,hH,hB,hz,q⟩:=h
 cases rx
 obtain⟨u,rfl,ru⟩:=rv.one
 cases ru
 obtain⟨z,its,n,r,hl,e⟩:=I.HW hH
 obtain⟨z2,its2,n2,r2,hl2,e2⟩:=I.HW hB
 have hsz:its.toArray.size+its2.toArray.size≤sizeLine:=by rw[List.size_toArray,List.size_toArray];omega
 have Yb:¬(!its.toArray.isEmpty&&Builtin.List.listTooLong (its.toArray.size+its2.toArray.size))=true:=by
  rw[Kg hsz,Bool.and_false]
  exact Bool.false_ne_true
 refine call_meets F.slot_list_extend ⟨_,e,rfl⟩ F.entry_list_extend (F.args_list_extend_2 _ _)
  (AutoSeq1.list_extend_list_list_0 l its.toArray n b its2.toArray n2 Yb (by rw[List.size_toArray];omega) (by omega)) ⟨e,e2,?_⟩
 refine⟨.non,_,I.Ti (its':=its++its2) hH e (by simp) (r.append r2) ?_,rfl,q⟩
 rw[List.length_append]
 omega
def abP:R2:=fun x y H Q=>∃l b xs zs,x= .ref l∧y= .ref b∧H l=some (.lst xs)∧H b=some (.lst zs)∧xs.length+zs.length≤sizeLine∧∀p,H p=none→Q (.ref p) (upd H p (.lst (xs++zs)))
theorem S7:rB X (binaryOp .Add) abP:=by
 intro pins s σ H x y v u Q I rx ry h
 obtain⟨l,b,xs,zs,rfl,rfl,hH,hB,hz,q⟩:=h
 cases rx
 cases ry
 obtain⟨z,its,n,r,hl,e⟩:=I.HW hH
 obtain⟨z2,its2,n2,r2,hl2,e2⟩:=I.HW hB
 refine PySem.P.add_list e e2 ?_ (by rw[List.size_toArray,List.size_toArray];omega)
 have ea:its.toArray++its2.toArray=(its++its2).toArray:=by simp
 rw[ea]
 exact⟨.ref _,_,I.acE (t':=s.toks) (r.append r2) (by rw[List.length_append];omega),rfl,q _ I.fresh⟩
end
end L2
namespace Att
open PySem PySem.W PySem.Calls PyProof.Rows
theorem vP{P:Params}{h:Heap}:∀(ns:List Int) (vs:List Value),WellAll P h vs (ns.map WData.int)→IntsAre vs ns:=by
 intro ns
 induction ns with
 | nil=>
  intro vs w
  rw[List.map_nil]at w
  cases w
  exact .nil
 | cons n ns ih=>
  intro vs w
  rw[List.map_cons]at w
  cases w with
  | cons a b=>
   cases a
   exact .cons _ _ (ih _ b)
theorem Hh{l:OpenLaw}{n:Nat}(hn:l.most=some n){P:Params}{h:Heap}{args:List WData}{vals:List Value}
  (hpre:l.row.toRowW.claim.pre args=true) (hwl:WellAll P h vals args):
  ∃a vs ns,vals=[Value.ref a]∧args=[WData.list (ns.map WData.int)]∧h.get? a=some {cls:= .type "list",data:= .seq vs.toArray}∧IntsAre vs ns∧ns.length≤n:=by
 have hsh:WShape.hasAll [] args [.list .int]=true:=(pre_splitW hpre).1
 have hc:l.pre.holds [] {args:=args}=true:=(pre_splitW hpre).2
 obtain⟨d,r,rfl,h1,h2⟩:=hasAllW_cons hsh
 obtain rfl:=hasAllW_nil h2
 obtain⟨xs,rfl,h3⟩:=hasW_list h1
 obtain⟨ns,rfl⟩:=items_int h3
 have hlen:ns.length≤n:=by
  unfold OpenLaw.pre at hc
  have h4:(WTm.not (.lt (.lit (.int (n:Int))) (.len (.arg 0)))).holds [] {args:=[.list (ns.map .int)]}=true:=by
   have h4:=(holds_andW hc).1
   rw[hn]at h4
   exact h4
  have h5:=condW_of h4 (w_not (w_lt w_lit (w_len_list (w_arg rfl))))
  rw[List.length_map]at h5
  refine Nat.le_of_not_lt fun q=> ?_
  have q':(n:Int)<((ns.length:Nat):Int):=by omega
  first
   | (rw[decide_eq_true q']at h5;exact absurd h5 (by decide))
   | (simp at h5;omega)
 cases hwl with
 | cons w1 w2=>
  cases w2
  cases w1 with
  | list ho hall=>exact⟨_,_,ns,rfl,rfl,ho,vP ns _ hall,hlen⟩
theorem Hs(l:OpenLaw)(args:List WData):l.row.toRowW.claim.post args (.bool true) args=true:=
 postW_of (r:=l.row.toRowW) (X:=(true==true))
  (show WShape.has [] (.bool true) .bool=true by first | rfl | decide | simp[WShape.has,WShape.arms,WShape.armsAll])
  (show(WTm.eq .res (.lit (.bool true))).value [] {args:=args,res:=some (.bool true),after:=args}=some (.bool (true==true))from w_eq_bool (w_res rfl) w_lit) rfl
theorem Dh{l:OpenLaw}{n:Nat}{q:Program}{loose:List Str}{XP:(Str→Option Value)→Heap→Prop}{YP:World→Heap→Prop}{d:DefRec}
  (hn:l.most=some n) (hdf:d.params.defaults=[])
  (call:∀(w:World) (s₀ s₁:Shared) (mg mb:Str→Option Value) (fa:Addr) (o:Obj) (pm cd doc:Value) (a:Addr) (vs:List Value) (ns:List Int),
   Ground q loose [] XP w s₀ mg mb s₁.heap→YP w s₁.heap→
   s₁.heap.get? fa=some o→o.data= .func (docDef d.name d.params d.body d.scope pm cd doc)→s₁.heap.CodeRec cd d.name→mg d.name=some (.ref fa)→
   s₁.heap.get? a=some {cls:= .type "list",data:= .seq vs.toArray}→IntsAre vs ns→ns.length≤n→s₁.gens= #[]→
   codeAny (model l.prog w) callerA (.call (.ref fa) ⟨[.ref a],[]⟩) (fun r s'=>r= .ok (.ret (.bool true))∧OldK s₁.heap s'.heap∧s'.os=s₁.os∧AllBare s'.gens) s₁):
  WalkO q loose XP YP l.row.toRowW d [] (fun f vs=>PySem.call f vs):=by
 intro w s₀ s₁ mg mb G Y fa o pm cd doc dV kV ho hd hcd hD hmg hg args vals as hpre hlay hrd hwl hlo
 obtain rfl:dV= .none:=Dflts.none hD hdf
 obtain rfl:kV= .none:=Dflts.noKw hD
 obtain⟨a,vs,ns,rfl,rfl,hobj,hints,hlen⟩:=Hh hn hpre hwl
 refine enter_call (codeAny_mono (call w s₀ s₁ mg mb fa o pm cd doc a vs ns G Y ho (fd_plain hd) hcd hmg hobj hints hlen hg) fun r s' hq=> ?_)
 obtain⟨rfl,h2,h3,h4⟩:=hq
 exact⟨.inl ⟨.bool true,.bool true,[],rfl,fun _=>rfl,.bool true,Hs l _,fun _=>⟨List.Pairwise.nil,fun _ hm=>(nomatch hm)⟩⟩,h2,h3,h4⟩
end Att
namespace L2
open PySem PySem.Spec PyProof.Rows
theorem yM:∀{vs:List Value} {ns:List Int},IntsAre vs ns→Vals (ns.map V.int) vs
 | _,_,.nil=> .nil
 | _,_,.cons n t h=> .cons ⟨t,rfl⟩ (yM h)
def Only(H:Hp):Prop:=∀b,H b=none∨∃o xs,H b=some (.gZ o (.lst xs))
abbrev KOf{K:Frag}{h:Heap}(_:K.In h):Frag:=K
def inClass(s:Stmt)(j:Nat):Stmt:=match s with
 | .ClassDef _ _ _ body _ _ _ _ _ _ _=>body.getD j (.Pass ⟨0,0,0,0⟩)
 | _=> .Pass ⟨0,0,0,0⟩
def aG(s:Stmt):Arguments:=match s with
 | .FunctionDef _ a _ _ _ _ _ _ _ _=>a
 | _=>{posonlyargs:=[],args:=[],vararg:=none,kwonlyargs:=[],kw_defaults:=[],kwarg:=none,defaults:=[]}
def aD(s:Stmt):List Stmt:=match s with
 | .FunctionDef _ _ b _ _ _ _ _ _ _=>b
 | _=>[]
def au(s:Stmt):Scope:=match s with
 | .FunctionDef _ _ _ _ _ _ sc _ _ _=>sc
 | _=>{kind:= .function,names:=[],isGenerator:=false,isCoroutine:=false}
abbrev QW:Fp:=fun _ _ _ _ _ _=>False
abbrev E0:XK:=fun _ _ _=>False
structure Fun(K:Frag)(x qual:Str)(st:Stmt)(f:Addr)(fd:FuncData):Prop where
 ex:∃(oc:Value) (od:Option Addr) (kV doc pm:Value) (an:Option Addr) (cdv ct:Value) (osl:Array (Option Value)),
  fd=fnOf x qual (aG st) (aD st) (au st) .none kV doc pm an cdv ct∧K.lookup f=some ⟨oc,od,.func fd,osl⟩∧codeIn K cdv qual=true
 kp:keepIn K (.ref f)=true
section
variable{P:Program}{w:World}{K:Frag}{mg:Str→Option Value}{base:Heap}
theorem Fun.ok{x qual:Str}{st:Stmt}{f:Addr}{fd:FuncData}{N ps:List Str}{k:Nat}{sp:Sp}(F:Fun K x qual st f fd)(S:bf N ps (au st))(len:∀vs H Q E,sp vs H Q E→vs.length=ps.length)
  (hbody:∀(cdv:Value) (A:Around) (outer:List Env) (s:Shared) (H:Hp) (vs:List V) (Q:VK) (E:XK),gF k (A.deeper (envOfC qual (au st) s.heap.objs.size f cdv))→sp vs H Q E→
   ∃t,yj (kJ QW P w K mg base N qual (au st) f cdv A outer s H E).Mp (aD st) t∧t {nx:=fun _ H'=>Q .non H',rt:=Q} (start N vs) H):aY P w K mg base QW (k+1) f fd ps sp:=by
 obtain⟨oc,od,kV,doc,pm,an,cdv,ct,osl,rfl,lk,hcd⟩:=F.ex
 refine K7 lk hcd S len fun A outer s H vs Q E hr hsp=> ?_
 obtain⟨t,h,q⟩:=hbody cdv A outer s H vs Q E hr hsp
 exact⟨t,h.Mp,q⟩
end
section
variable{X:Cx}
theorem pv(i:Nat){x:Str}{pos:Pos}(hN:X.N[i]? = some x:=by rfl)(hv:ZK X.env.scope x:=by first | exact Or.inl rfl | exact Or.inr (Or.inl rfl) | exact Or.inr (Or.inr rfl))(hd:(x==("__debug__" : Str))=false:=by decide)
  (hcd:(x==("__classdict__" : Str))=false:=by decide):PE X (.Name x pos) (MJ i):=Ac hN hv hd hcd
end
def yg(H H':Hp):Prop:=∀b o,H b=some o→H' b=some o
theorem yg.trans{H H1 H2:Hp}(a:yg H H1)(b:yg H1 H2):yg H H2:=fun c o h=>b c o (a c o h)
theorem yg.free{H H':Hp}(e:yg H H'){l:Addr}(h:H' l=Option.none):H l=Option.none:=by
 cases q:H l with
 | none=>rfl
 | some o=>
  rw[e l o q]at h
  cases h
theorem yg.seq{K:Frag}{H H':Hp}{a:Addr}{xs:List V}(e:yg H H')(h:ql K H a xs):ql K H' a xs:=by
 rcases h with(h | ⟨o,h⟩) | h
 ·exact .inl (.inl (e _ _ h))
 ·exact .inl (.inr ⟨o,e _ _ h⟩)
 ·exact .inr h
theorem Ff{env:Env}{scope:Scope}(h:∀n,(n,NameKind.free)∈scope.names→∃c,env.cells.lookup n=some c):
  ∃cl,closureFor scope env=pure cl∧(∀n c,cl.lookup n=some c→env.cells.lookup n=some c)∧∀n,(n,NameKind.free)∈scope.names→∃c,cl.lookup n=some c:=by
 have go:∀(names:List (Str×NameKind)) (acc:List (Str×Addr)),(∀n,(n,NameKind.free)∈names→∃c,env.cells.lookup n=some c)→(∀n c,acc.lookup n=some c→env.cells.lookup n=some c)→
   ∃cl,(forIn names acc fun(x:Str×NameKind) (r:List (Str×Addr))=>if(x.2==NameKind.free)=true then do let a ←cellOf env x.1;pure (ForInStep.yield ((x.1,a)::r))else pure (ForInStep.yield r):Sem (List (Str×Addr)))=pure cl∧
    (∀n c,cl.lookup n=some c→env.cells.lookup n=some c)∧(∀n,(n,NameKind.free)∈names→∃c,cl.lookup n=some c)∧∀n c,acc.lookup n=some c→∃c,cl.lookup n=some c:=by
  intro names
  induction names with
  | nil=>intro acc _ h2;exact⟨acc,rfl,h2,(fun _ z=>nomatch z),fun n c e=>⟨c,e⟩⟩
  | cons x r ih=>
   intro acc h1 h2
   obtain⟨n,k⟩:=x
   by_cases hk:k=NameKind.free
   ·subst hk
    obtain⟨c,hc⟩:=h1 n List.mem_cons_self
    obtain⟨cl,e1,e2,e3,e4⟩:=ih ((n,c)::acc) (fun m z=>h1 m (List.mem_cons_of_mem _ z)) (fun m d e=>by
     rw[List.lookup_cons]at e
     cases q:m==n with
     | true=>rw[q]at e;cases e;rw[eq_of_beq q];exact hc
     | false=>rw[q]at e;exact h2 m d e)
    refine⟨cl,?_,e2,fun m z=> ?_,fun m d e=> ?_⟩
    ·rw[List.forIn_cons]
     have:cellOf env n=pure c:=by unfold cellOf;rw[hc]
     simp only[this,beq_self_eq_true,if_true]
     exact e1
    ·rcases List.mem_cons.mp z with z | z
     ·cases z
      exact e4 n c (by rw[List.lookup_cons,beq_self_eq_true])
     ·exact e3 m z
    ·cases q:m==n with
     | true=>exact e4 m c (by rw[List.lookup_cons,q])
     | false=>exact e4 m d (by rw[List.lookup_cons,q];exact e)
   ·obtain⟨cl,e1,e2,e3,e4⟩:=ih acc (fun m z=>h1 m (List.mem_cons_of_mem _ z)) h2
    refine⟨cl,?_,e2,fun m z=> ?_,e4⟩
    ·rw[List.forIn_cons]
     have:(k==NameKind.free)=false:=by simpa using hk
     simp only[this,Bool.false_eq_true,if_false]
     exact e1
    ·rcases List.mem_cons.mp z with z | z
     ·cases z;exact absurd rfl hk
     ·exact e3 m z
 obtain⟨cl,e1,e2,e3,_⟩:=go scope.names [] h (fun _ _ e=>nomatch e)
 refine⟨cl,?_,e2,e3⟩
 unfold closureFor
 show(forIn scope.names [] _ >>= fun r=>pure r)=_
 rw[show(forIn scope.names [] fun(x:Str×NameKind) (r:List (Str×Addr))=>_:Sem (List (Str×Addr)))=pure cl from e1]
 rfl
def dj(env:Env)(x:Str×NameKind):Str×NameKind:=if(x.2== .free&&env.scope.kind== .function&&env.kindOf x.1==some .cell)then(x.1,.cell)else(x.1,x.2)
theorem xj(env:Env)(x:Str×NameKind):(dj env x).1=x.1:=by
 unfold dj;split<;>rfl
theorem Ga{env:Env}{y:Str}:∀{names:List (Str×NameKind)},(∀z∈names,z.2≠ .cell)→((names.map (dj env)).lookup y=some .cell∨(names.map (dj env)).lookup y=some .free)→(y,NameKind.free)∈names
 | [],_,h=>by rcases h with h | h<;>cases h
 | (n,k)::r,hc,h=>by
  rw[List.map_cons]at h
  have e1:(dj env (n,k)).1=n:=xj env (n,k)
  cases hx:y==n with
  | true=>
   have ey:=eq_of_beq hx
   subst ey
   have hk:k≠ .cell:=hc (y,k) List.mem_cons_self
   have q:(dj env (y,k)).2= .cell∨(dj env (y,k)).2= .free:=by
    have l:∀kk,List.lookup y (dj env (y,k)::List.map (dj env) r)=some kk→(dj env (y,k)).2=kk:=fun kk z=>by
     rw[show dj env (y,k)=(y,(dj env (y,k)).2)from Prod.ext e1 rfl,List.lookup_cons,beq_self_eq_true]at z
     exact Option.some.inj z
    rcases h with h | h
    ·exact .inl (l _ h)
    ·exact .inr (l _ h)
   have hk2:k= .free:=by
    unfold dj at q
    split at q
    ·rename_i z
     rw[Bool.and_eq_true,Bool.and_eq_true]at z
     simpa using z.1.1
    ·rcases q with q | q
     ·exact absurd q hk
     ·exact q
   rw[hk2]
   exact List.mem_cons_self
  | false=>
   have l:List.lookup y (dj env (n,k)::List.map (dj env) r)=List.lookup y (List.map (dj env) r):=by
    rw[show dj env (n,k)=(n,(dj env (n,k)).2)from Prod.ext e1 rfl,List.lookup_cons,hx]
   rw[l]at h
   exact List.mem_cons_of_mem _ (Ga (fun z hz=>hc z (List.mem_cons_of_mem _ hz)) h)
theorem JW{env:Env}{y:Str}:∀{names:List (Str×NameKind)},names.lookup y=some .free→(names.map (dj env)).lookup y=some .cell∨(names.map (dj env)).lookup y=some .free
 | [],h=>by cases h
 | (n,k)::r,h=>by
  rw[List.map_cons]
  have e1:(dj env (n,k)).1=n:=xj env (n,k)
  rw[show dj env (n,k)=(n,(dj env (n,k)).2)from Prod.ext e1 rfl,List.lookup_cons]
  rw[List.lookup_cons]at h
  cases hx:y==n with
  | true=>
   rw[hx]at h
   have hk:k= .free:=Option.some.inj h
   subst hk
   show some (dj env (n,NameKind.free)).2=some NameKind.cell∨some (dj env (n,NameKind.free)).2=some NameKind.free
   unfold dj
   split
   ·exact .inl rfl
   ·exact .inr rfl
  | false=>
   rw[hx]at h
   exact JW h
section
variable{prog:Program}{w:World}{A:Around}{R:Result→Shared→Prop}
theorem Jt{elt tg iter:Expr}{ifs:List Expr}{scope:Scope}{pos:Pos}{it acc:Value}{env:Env}(W:Nat→Shared→Prop){s:Shared}
  (turn:∀n s,W n s→wpAny (model prog w) A (pyNext it) (fun r s1=>match r with
   | none=>R (.ok .next) s1
   | some v=>wpAny (model prog w) A (letOwnedTupleGo tg it v) (fun _ s2=>wpAny (model prog w) A (assign tg env v) (fun _ s3=>
     wpAny (model prog w) A (forIn ifs true fun c r=>if r=true then do let ok ←isTrue c env (eval c env);pure (ForInStep.yield ok)else pure (ForInStep.yield r)) (fun ok s4=>
      if ok=true then wpAny (model prog w) A (eval elt env) (fun x s5=>wpAny (model prog w) A (call (.builtin "list.append") [acc,x]) (fun _ s6=>∃m,m<n∧W m s6) (fun _ _=>False) s5) (fun _ _=>False) s4
      else ∃m,m<n∧W m s4) (fun _ _=>False) s3) (fun _ _=>False) s2) (fun _ _=>False) s1) (fun _ _=>False) s)
  (n:Nat) (h:W n s):codeAny (model prog w) A (.compLoop (.ListComp elt [⟨tg,iter,ifs,0⟩] scope pos) 0 it acc env) R s:=by
 have ex:∀{α:Type} {t:Sem α} {Q Q':α→Shared→Prop} {E:Value→Shared→Prop} {s:Shared},wpAny (model prog w) A t Q (fun _ _=>False) s→(∀a s,Q a s→Q' a s)→wpAny (model prog w) A t Q' E s:=
  fun h f=>wpAny_mono h f fun _ _ z=>z.elim
 refine codeAny_loop rfl W (fun n s hI=> ?_) n h
 show wpAny _ A ((compTurn (.ListComp elt [⟨tg,iter,ifs,0⟩] scope pos) 0 it acc env).onRaise (fun x=>do noteFrame x env;theTreesLotGoes x)) _ _ s
 refine wpAny_noted ?_
 rw[compTurn_list]
 refine wpAny_bind (wpAny_standAt (wpAny_bind (ex (turn n s hI) fun r s1 h1=> ?_)))
 cases r with
 | none=>exact wpAny_pure h1
 | some v=>
  refine wpAny_bind (ex h1 fun _ s2 h2=>wpAny_bind (ex h2 fun _ s3 h3=>wpAny_bind (ex h3 fun ok s4 h4=> ?_)))
  cases ok with
  | false=>exact wpAny_pure ⟨rfl,h4⟩
  | true=>exact wpAny_bind (wpAny_bind (ex h4 fun x s5 h5=>wpAny_bind (ex h5 fun _ s6 h6=>wpAny_pure (wpAny_pure ⟨rfl,h6⟩))))
end
def gq(X:Cx)(scope:Scope)(cl:List (Str×Addr))(C:Addr)(N:List Str)(fp:List Addr)(s:Shared)(H:Hp):Cx where
 prog:=X.prog
 w:=X.w
 K:=X.K
 mg:=X.mg
 base:=X.base
 A:=X.A
 N:=N
 s₀:=s
 H₀:=H
 env:=compEnvC scope cl C X.env
 outer:=X.stack
 stack:=X.stack
 ex:=fp
 fn:=fun _=>false
 calm:=X.calm
 pn:=[]
 xe:=fun _ _=>False
def rT(X:Cx)(scope:Scope):List Str→List Nat→Prop
 | [],[]=>True
 | y::cs,i::js=>(X.N[i]? = some y∧scope.names.lookup y=some .free∧(X.env.kindOf y=some .cell∨X.env.kindOf y=some .free))∧rT X scope cs js
 | _,_=>False
theorem rT.len{X:Cx}{scope:Scope}:∀{cs:List Str} {js:List Nat},rT X scope cs js→js.length=cs.length
 | [],[],_=>rfl
 | _::_,_::_,h=>by rw[List.length_cons,List.length_cons,rT.len h.2]
 | [],_::_,h=>h.elim
 | _::_,[],h=>h.elim
theorem rT.get{X:Cx}{scope:Scope}{y:Str}:∀{cs:List Str} {js:List Nat} {j:Nat},rT X scope cs js→cs[j]? = some y→
  ∃i,js[j]? = some i∧X.N[i]? = some y∧scope.names.lookup y=some .free∧(X.env.kindOf y=some .cell∨X.env.kindOf y=some .free)
 | [],[],_,_,e=>by simp at e
 | _::_,i::_,0,h,e=>by simp at e;subst e;exact⟨i,rfl,h.1.1,h.1.2⟩
 | _::_,_::_,j+1,h,e=>by
  obtain⟨i,e1,r⟩:=rT.get (j:=j) h.2 (by simpa using e)
  exact⟨i,by simpa using e1,r⟩
 | [],_::_,_,h,_=>h.elim
 | _::_,[],_,h,_=>h.elim
def caps(js:List Nat)(σ:St):St:=js.map fun i=>(σ[i]?).join
def PTs(X:Cx)(ifs:List Expr)(t:TT):Prop:=
 ∀(pins:List (Addr×Obj)) (s:Shared) (σ:St) (H:Hp) (Q:Bool→Hp→Prop),Inv X pins σ H s→t σ H Q→
  wpAny (model X.prog X.w) X.A (forIn ifs true fun c r=>if r=true then do let ok ←isTrue c X.env (eval c X.env);pure (ForInStep.yield ok)else pure (ForInStep.yield r)) (TP X pins σ Q) X.xe s
def abo:TT:=fun _ H Q=>Q true H
theorem NZ{X:Cx}:PTs X [] abo:=fun _ _ _ H _ I h=>wpAny_pure ⟨H,I,h⟩
def Ve(js:List Nat)(tt:TT)(te:TE)(σ:St)(Q:VK)(J:It)(H1:Hp):Prop:=
 ∃W:Nat→Nat→List V→Hp→Prop,(∃m,W 0 m [] H1)∧∀i m ys H,W i m ys H→
  (J.stop i H∧ys.length≤sizeLine∧∀p,H p=none→Q (.ref p) (upd H p (.lst ys)))∨
  (J.go i H∧∃N:List V→Hp→Prop,(∀ys' H',N ys' H'→ys'.length≤sizeLine∧∃m',m'<m∧W (i+1) m' ys' H')∧∀x H',J.Mv i H x H'→tt (some x::caps js σ) H' fun b H2=>
   if b=true then te (some x::caps js σ) H2 fun y H3=>N (ys++[y]) H3 else N ys H2)
def Qp(js:List Nat)(wi:TI)(tt:TT)(te:TE):TE:=fun σ H Q=>wi σ H fun J H1=>Ve js tt te σ Q J H1
theorem oY.track{P:Program}{w:World}{H:Hp}{h:Heap}{a:Addr}{o:HO}(x:oY P w H h)(hn:H a=none)(new:d8 P w (upd H a o) h a o):oY P w (upd H a o) h:=fun b u e=>by
 by_cases hb:b=a
 ·subst hb;rw[aX]at e;cases e;exact new
 ·rw[aJ hb]at e
  exact(x b u e).stay (fun c v _ q=>q) (fun c q=>by rw[aJ (bB q hn)];exact q) fun c xs q=>by rw[aJ (bB q hn)];exact q
theorem Un.track{fs ex:List Addr}{H H1:Hp}{h h1:Heap}{a:Addr}{o:HO}(u:Un fs ex H H1 h h1)(hn:h.get? a=none)(hH:H a=none):Un fs ex H (upd H1 a o) h h1 where
 keep:=u.keep
 slot:=u.slot
 free:=fun b ob e n hx=>by rw[aJ (by rintro rfl;rw[hn]at e;cases e)];exact u.free b ob e n hx
 there:=u.there
 tups:=fun b xs e=>by rw[aJ (bB e hH)];exact u.tups b xs e
 oU:=fun b ob xs e=>by rw[aJ (bB e hH)];exact u.oU b ob xs e
 pK:=fun b ps e=>by rw[aJ (bB e hH)];exact u.pK b ps e
section
variable{X:Cx}{x:Str}{px:Pos}{elt iter:Expr}{ifs:List Expr}{scope:Scope}{cs:List Str}{js:List Nat}{tt:TT}{te:TE}{pos:Pos}
theorem Fe{cl:List (Str×Addr)}{pins:List (Addr×Obj)}{σ:St}{H2:Hp}{s2:Shared}{it:Addr}{fp:List Addr}{tn:Nat→Heap→Prop}{J:It}{Q:VK}{RR:Value→Addr→Result→Shared→Prop}
  (hc:X.calm=true) (hcap:rT X scope cs js) (ht:∀cl C fp s H,PTs (gq X scope cl C (x::cs) fp s H) ifs tt) (he:∀cl C fp s H,PE (gq X scope cl C (x::cs) fp s H) elt te)
  (hcell:∀y∈scope.names,y.2≠ .cell) (hkind:scope.kind= .function) (hx:scope.names.lookup x=some .local) (hnd:(x::cs).Nodup)
  (Az:∀n c,cl.lookup n=some c→X.env.cells.lookup n=some c) (O5:∀n,(n,NameKind.free)∈scope.names→∃c,cl.lookup n=some c)
  (I2:Inv X pins σ H2 s2) (T:Turn X.prog X.w X.K (.Name x px) J fp it tn) (st2:tn 0 s2.heap) (f2:∀b∈fp,Dr X pins H2 b)
  (W:Nat→Nat→List V→Hp→Prop) (w0:∃m,W 0 m [] H2)
  (step:∀i m ys H,W i m ys H→
   (J.stop i H∧ys.length≤sizeLine∧∀p,H p=none→Q (.ref p) (upd H p (.lst ys)))∨
   (J.go i H∧∃N:List V→Hp→Prop,(∀ys' H',N ys' H'→ys'.length≤sizeLine∧∃m',m'<m∧W (i+1) m' ys' H')∧∀x H',J.Mv i H x H'→tt (some x::caps js σ) H' fun b H2=>
    if b=true then te (some x::caps js σ) H2 fun y H3=>N (ys++[y]) H3 else N ys H2))
  (fin:∀(D C:Addr) (H3:Hp) (s4:Shared) (m':Str→Option Value),Inv X pins σ H3 s4→s4.heap.Ns C m'→s2.heap.objs.size≤C→H3 C=none→Q (.ref D) H3→RR (.ref D) C (.ok .next) s4):
  wpAny (model X.prog X.w) X.A (newList []) (fun acc s3=>wpAny (model X.prog X.w) X.A (newFunctionEnv scope X.env.globals cl [] X.env.qual none .none (some X.env)) (fun cenv s4=>
   codeAny (model X.prog X.w) X.A (.compStart (.ListComp elt [⟨.Name x px,iter,ifs,0⟩] scope pos) 0 (.ref it) acc {cenv with scope:=relabel scope X.env}) (RR acc cenv.locals) s4) X.xe s3) X.xe s2:=by
 refine wpAny_newObj_type (wpAny_newFunctionEnv hcell (by intro y hy;simp at hy) (fun h1 hns hsb=> ?_) hkind)
 dsimp only at hns hsb ⊢
 generalize hP:s2.heap.push {cls:= .type "list",dict:=none,data:= .seq ([]:List Value).toArray}=hq at hns hsb ⊢
 have eC:hq.objs.size=s2.heap.objs.size+1:=by rw[←hP,Heap.size_push]
 generalize eD:s2.heap.objs.size=D at eC ⊢
 generalize eCC:hq.objs.size=C at hns hsb eC ⊢
 have DC:D≠C:=by omega
 have old:∀b o,s2.heap.get? b=some o→h1.get? b=some o:=fun b o e=>by
  have lt: @LT.lt Nat _ b s2.heap.objs.size:=Heap.lt_size e
  exact hsb.extBut b o (fun z=>by subst z;omega) (Heap.get?_push_of_some _ (hP▸Heap.get?_push_of_some _ e))
 have adu:h1.get? D=some {cls:= .type "list",dict:=none,data:= .seq ([]:List Value).toArray}:=hsb.extBut _ _ DC (Heap.get?_push_of_some _ (hP▸eD▸Heap.get?_push_size _ rfl))
 have noD:s2.heap.get? D=none:=Heap.get?_none_of_le (by omega)
 have HD:H2 D=none:=I2.hok.fresh (by omega)
 have HC:H2 C=none:=I2.hok.fresh (by omega)
 have Yk:∀b∈fp,@LT.lt Nat _ b D:=fun b hb=>by
  obtain⟨o,e,_⟩:=T.obj _ _ st2 b hb
  have q: @LT.lt Nat _ b s2.heap.objs.size:=Heap.lt_size e
  omega
 have Dfp:D∉fp:=fun z=>Nat.lt_irrefl _ (Yk D z)
 have ac_:∀b∈frs X.stack,@LT.lt Nat _ b D:=fun b hb=>by
  obtain⟨_,o,ho,_⟩:=I2.stack.mem hb
  have q: @LT.lt Nat _ b s2.heap.objs.size:=Heap.lt_size ho
  omega
 have adf:∀y c,cl.lookup y=some c→ @LT.lt Nat _ c D:=fun y c e=>by
  obtain⟨v,z⟩:=I2.cell y c (Az y c e)
  have q: @LT.lt Nat _ c s2.heap.objs.size:=z.lt
  omega
 have ok:(gq X scope cl C (x::cs) fp s2 H2).Ok:=by
  refine⟨I2.ok.mod,hkind,I2.ok.glob,I2.ok.blt,(by show s2.heap.objs.size≤C;omega),fun y z c e1 e2=>I2.ok.inj y z c (Az y c e1) (Az z c e2),fun y hy=>O5 y (Ga hcell hy),fun y c e=>(by cases e),I2.ok.hd,I2.ok.frames,.inl rfl,
   fun b hb=>⟨?_,fun y c e=>(f2 b hb).2.2.2.2.1 y c (Az y c e)⟩,I2.bs,Nat.le_trans I2.ok.GR I2.sz,fun b o e hb=> ?_,fun b hb z=> ?_,I2.stack,I2.tu⟩
  ·have q:=Yk b hb
   show b≠C
   intro z
   subst z
   omega
  ·rcases(f2 b hb).2.2.2.1 with z | z
   ·exact I2.ok.Ek b o e z
   ·have l: @LT.lt Nat _ b X.base.objs.size:=Heap.lt_size e
    have l2:=I2.ok.GR
    have l3: @LE.le Nat _ X.s₀.heap.objs.size b:=z
    omega
  ·rcases List.mem_cons.mp (I2.wK b z)with e | e
   ·exact(f2 b hb).2.1 e
   ·exact(f2 b hb).2.2.1 e
 have I0:Inv (gq X scope cl C (x::cs) fp s2 H2) [(D,{cls:= .type "list",dict:=none,data:= .seq ([]:List Value).toArray})] (none::caps js σ) H2 {s2 with heap:=h1,toks:=s2.toks+([]:List (Str×Value)).length}:=by
  refine⟨ok,rfl,I2.bare,Un.kept old,⟨_,hns,fun i y v e1 e2 e3=> ?_⟩,fun y c e=> ?_,HC,fun y c e=>(I2.mY y c (Az y c e)).imp (fun _=>rfl) id fun _ _ z=>z,fun p hp=> ?_,I2.hok.kept old,?_⟩
  ·cases i with
   | zero=>simp at e2
   | succ j=>
    have e1':cs[j]? = some y:=by simpa[gq]using e1
    obtain⟨i0,q1,q2,q3,q4⟩:=hcap.get e1'
    have e2':σ[i0]? = some (some v):=by
     have z:(caps js σ)[j]? = some (some v):=by simpa using e2
     unfold caps at z
     rw[List.getElem?_map,q1]at z
     have z':(σ[i0]?).join=some v:=by simpa using z
     cases r:σ[i0]? with
     | none=>rw[r]at z';cases z'
     | some r'=>rw[r]at z';exact congrArg some z'
    obtain⟨m,_,hl⟩:=I2.loc
    obtain⟨u,r,l⟩:=hl i0 y v q2 e2' (by rcases q4 with q | q;exact .inr (.inl q);exact .inr (.inr q))
    obtain⟨c,hcy⟩:=O5 y (PySem.mem_of_lookup q3)
    refine⟨u,r,.inr ⟨JW q3,c,hcy,?_⟩⟩
    rcases l with⟨k,_⟩ | ⟨_,c',ec,o,ho,hd⟩
    ·rcases q4 with q | q<;>rw[q]at k<;>cases k
    ·rw[Az y c hcy]at ec
     cases ec
     exact⟨o,old _ _ ho,hd⟩
  ·obtain⟨v,o,ho,hd⟩:=I2.cell y c (Az y c e)
   exact⟨v,o,old _ _ ho,hd⟩
  ·have ep:p=(D,{cls:= .type "list",dict:=none,data:= .seq ([]:List Value).toArray}):=by simpa[gq]using hp
   subst ep
   exact⟨adu,HD,(by show D≠C;omega),(fun z=>Nat.lt_irrefl _ (ac_ D z)),fun v z=>by cases z⟩
  ·show(none::caps js σ).length=(x::cs).length
   unfold caps
   rw[List.length_cons,List.length_cons,List.length_map,hcap.len]
 have stat:∀{pn:List (Addr×Obj)} {H':Hp},(∀b∈fp,H' b=none)→(∀p∈pn,p.1∉fp)→∀b∈fp,Dr (gq X scope cl C (x::cs) fp s2 H2) pn H' b:=fun hn hpn b hb=>
  ⟨hn b hb,(ok.Vr b hb).1,ok.E_ b hb,.inl hb,fun y c e=>(ok.Vr b hb).2 y c e,fun p hp z=>hpn p (by simpa[gq]using hp) (z▸hb)⟩
 have loop:∀s3:Shared,s3={s2 with heap:=h1,toks:=s2.toks+([]:List (Str×Value)).length}→
   codeAny (model X.prog X.w) X.A (.compLoop (.ListComp elt [⟨.Name x px,iter,ifs,0⟩] scope pos) 0 (.ref it) (.ref D) (compEnvC scope cl C X.env)) (RR (.ref D) C) s3:=by
  rintro s3 rfl
  obtain⟨m0,w0⟩:=w0
  refine Jt (fun n s=>∃(i:Nat) (ys:List V) (its:List Value) (c:Nat) (H:Hp),Inv (gq X scope cl C (x::cs) fp s2 H2) [(D,{cls:= .type "list",data:= .seq its.toArray c})] (none::caps js σ) H s∧
   tn i s.heap∧(∀b∈fp,H b=none)∧Vals ys its∧W i n ys H) ?_ m0 ⟨0,[],[],0,H2,I0,T.keep _ _ _ st2 fun b _ o e=>old b o e,fun b hb=>(f2 b hb).1,.nil,w0⟩
  rintro n s3 ⟨i,ys,its,c,H3,I3,st3,Yj,rv,w3⟩
  have pD:∀p∈[((D,{cls:= .type "list",data:= .seq its.toArray c}):Addr×Obj)],p.1∉fp:=fun p hp=>by
   have:p=(D,{cls:= .type "list",data:= .seq its.toArray c}):=by simpa using hp
   subst this
   exact Dfp
  rcases step i n ys H3 w3 with⟨stop,hlen,qn⟩ | ⟨go,N,hN,step⟩
  ·refine je (T.done (gq X scope cl C (x::cs) fp s2 H2) rfl rfl rfl hc i _ s3 _ H3 (fun _ _=>False) I3 (stat Yj pD) st3 stop) fun r s4 ⟨hr,I4⟩=> ?_
   subst hr
   obtain⟨gD,nD,_⟩:=I4.pin _ (List.mem_append_right _ List.mem_cons_self)
   obtain⟨m',hn',_⟩:=id I4.loc
   have u4:Un (frs X.stack) fp H2 H3 s2.heap s4.heap:=I4.base
   have k4:oY X.prog X.w (upd H3 D (.lst ys)) s4.heap:=oY.track I4.hok nD ⟨hlen,its,c,rv,gD⟩
   have I5:Inv X pins σ (upd H3 D (.lst ys)) s4:=I2.call' (ch:=fp) I4.os (u4.track noD HD) k4 I4.bare fun b hb=>⟨(f2 b hb).2.2.2.1,(f2 b hb).2.1,(f2 b hb).2.2.2.2.1,(f2 b hb).2.2.2.2.2⟩
   exact fin D C _ s4 m' I5 hn' (by omega) (by rw[aJ (Ne.symm DC)];exact I4.free) (qn D nD)
  ·refine je (T.item (gq X scope cl C (x::cs) fp s2 H2) rfl rfl rfl hc i _ s3 _ H3 (fun _ _=>False) I3 (stat Yj pD) st3 go) fun r s4 ⟨u,hr,h4⟩=> ?_
   subst hr
   refine je h4 fun _ s5 ⟨v,H5,I5,r5,y5,Qq,fr5⟩=> ?_
   have I5':=I5.pinned (stat fr5 pD) (T.obj _ _ Qq)
   have hxl:(compEnvC scope cl C X.env).scope.names.lookup x=some .local:=lookup_relabel_local hx
   refine wpAny_assign_Name (wJ (X:=gq X scope cl C (x::cs) fp s2 H2) (i:=0) I5' hnd rfl (.inl hxl) r5 (fun s6 I6=> ?_) (.inr hxl))
   have weak:∀{pn:List (Addr×Obj)} {H':Hp} {s':Shared},Inv (gq X scope cl C (x::cs) fp s2 H2) pn (some v::caps js σ) H' s'→Inv (gq X scope cl C (x::cs) fp s2 H2) pn (none::caps js σ) H' s':=fun I'=>
    I'.weak rfl fun j z e=>by
     cases j with
     | zero=>simp at e
     | succ j=>simpa using e
   have ZX:∀{σ':St} {H':Hp} {s':Shared},Inv (gq X scope cl C (x::cs) fp s2 H2) ([(D,{cls:= .type "list",data:= .seq its.toArray c})]++xq fp s5.heap) σ' H' s'→(∀b∈fp,∀o,s5.heap.get? b=some o→s'.heap.get? b=some o)∧∀b∈fp,H' b=none:=fun I'=>
    ⟨fun b hb o e=>(I'.pin (b,o) (List.mem_append_right _ (List.mem_append_right _ (pO hb e)))).1,fun b hb=>by
     obtain⟨o,e,_⟩:=T.obj _ _ Qq b hb
     exact(I'.pin (b,o) (List.mem_append_right _ (List.mem_append_right _ (pO hb e)))).2.1⟩
   refine je (ht cl C fp s2 H2 _ s6 (some v::caps js σ) H5 _ I6 (step v H5 y5)) fun b s7 ⟨H7,I7,q7⟩=> ?_
   cases b with
   | false=>
    rw[if_neg Bool.false_ne_true]at q7 ⊢
    obtain⟨_,m',hm,w7⟩:=hN _ _ q7
    exact⟨m',hm,i+1,ys,its,c,H7,weak I7.sY,T.keep _ _ _ Qq (ZX I7).1,(ZX I7).2,rv,w7⟩
   | true=>
    rw[if_pos rfl]at q7 ⊢
    refine je (he cl C fp s2 H2 _ s7 (some v::caps js σ) H7 _ I7 q7) fun yv s8 ⟨y,H8,I8,r8,q8⟩=> ?_
    obtain⟨hl8,m',hm,w8⟩:=hN _ _ q8
    rw[List.length_append,List.length_singleton]at hl8
    obtain⟨gD,nD,dC,dF,_⟩:=I8.pin (D,{cls:= .type "list",data:= .seq its.toArray c}) (List.mem_append_right _ (List.mem_append_left _ List.mem_cons_self))
    have el:=rv.length
    refine wpAny_list_append_plain (hsz:=by rw[List.size_toArray];omega) ⟨c,gD⟩ fun h9 p9 sb9=> ?_
    obtain⟨c9,g9⟩:=p9
    have g9':h9.get? D=some {cls:= .type "list",data:= .seq (its++[yv]).toArray c9}:=by simpa using g9
    have I9:Inv (gq X scope cl C (x::cs) fp s2 H2) [] (none::caps js σ) H8 {s8 with heap:=h9}:=
     (weak (I8.vX (tR:=[]) (fun p hp=>nomatch hp))).turned (t':=s8.toks) (it:=D) (fun b o hb e=>(sb9.2 b hb).trans e) nD dC (.inr (by show s2.heap.objs.size≤D;omega)) (fun y c e z=>by have q:=adf y c e;subst z;omega) (fun p hp=>nomatch hp)
    refine⟨m',hm,i+1,ys++[y],its++[yv],c9,H8,I9.vX fun p hp=> ?_,?_,(ZX I8).2,rv.append (.cons r8 .nil),w8⟩
    ·have:p=(D,{cls:= .type "list",data:= .seq (its++[yv]).toArray c9}):=by simpa using hp
     subst this
     exact⟨g9',nD,dC,dF,fun v z=>by cases z⟩
    ·exact T.keep _ _ _ Qq fun b hb o e=>(sb9.2 b (fun z=>Dfp (z▸hb))).trans ((ZX I8).1 b hb o e)
 exact codeAny_compStart_list (loop _ rfl) (T.self _ 0 _ _ _ (T.keep _ _ _ st2 fun b _ o e=>old b o e) (loop _ rfl))
theorem Inv.letGo{pins:List (Addr×Obj)}{σ:St}{H:Hp}{s:Shared}{C:Addr}{h':Heap}{s2:Shared}{H2:Hp}{σ2:St}(I2:Inv X pins σ2 H2 s2)(I:Inv X pins σ H s)(hC:s2.heap.objs.size≤C)(hn:H C=none)(sb:Heap.SameBut C s.heap h'):Inv X pins σ H {s with heap:=h'}:=
 I.turned (t':=s.toks) (fun b o hb e=>(sb.2 b hb).trans e) hn (Nat.ne_of_gt (Nat.lt_of_lt_of_le I2.lt hC)) (.inr (Nat.le_trans I2.sz hC))
  (fun y c e z=>by obtain⟨v,q⟩:=I2.cell y c e;exact absurd (Nat.lt_of_lt_of_le q.lt (by rw[z];exact hC)) (Nat.lt_irrefl _))
  (fun p hp z=>absurd (Nat.lt_of_lt_of_le (Heap.lt_size (I2.pin p hp).1) (by rw[z];exact hC)) (Nat.lt_irrefl _))
theorem Oe{wi:TI}(hc:X.calm=true)(cs:List Str)(js:List Nat)(hi:PI X (.Name x px) iter wi)(hcap:rT X scope cs js)(ht:∀cl C fp s H,PTs (gq X scope cl C (x::cs) fp s H) ifs tt)(he:∀cl C fp s H,PE (gq X scope cl C (x::cs) fp s H) elt te)
  (hall:∀y∈scope.names,y.2= .free→y.1∈cs) (hcell:∀y∈scope.names,y.2≠ .cell) (hnames:∀y∈scope.names,y.2= .local→scope.names.lookup y.1=some .local) (hnd:(x::cs).Nodup)
  (hkind:scope.kind= .function:=by rfl) (hx:scope.names.lookup x=some .local:=by rfl) (hs:∀v,foldedSetIterable iter X.env v=pure v:=by intro _;rfl):
  PE X (.ListComp elt [⟨.Name x px,iter,ifs,0⟩] scope pos) (Qp js wi tt te):=by
 intro pins s σ H Q I h
 obtain⟨cl,acY,Az,O5⟩:=Ff (env:=X.env) (scope:=scope) fun n hn=>by
  obtain⟨j,hj⟩:=List.getElem?_of_mem (hall _ hn rfl)
  obtain⟨_,_,_,_,k⟩:=hcap.get hj
  exact I.ok.has n k
 rw[eval_ListComp]
 refine wpAny_comprehension_free (use:=none) rfl hs acY hkind hnames (je (hi pins s σ H _ I h) fun v s1 h1=>je h1 fun itv s2 h2=> ?_)
 obtain⟨it,fp,tn,J,H2,e,I2,T,st2,f2,W,w0,step⟩:=h2
 subst e
 refine Fe (Q:=Q) (RR:=fun acc C=>compPost (model X.prog X.w) X.A X.xe none (EP X pins σ Q) acc C) hc hcap ht he hcell hkind hx hnd Az O5 I2 T st2 f2 W w0 step fun D C H3 s4 m' I4 hn hC hH q=> ?_
 exact⟨m',hn,fun h' sb=>⟨.ref D,H3,I2.letGo I4 hC hH sb,rfl,q⟩⟩
end
def K8:HO→Bool
 | .dT _=>false
 | .gZ _ (.dT _)=>false
 | .gZ _ (.ins _ _ _)=>false
 | .gZ _ (.gZ _ _)=>false
 | _=>true
def Flat(H:Hp):Prop:=∀a o,H a=some o→K8 o=true
def G6(H:Hp):Prop:=∀a C dx fs,H a=some (.ins C dx fs)→H dx=some (.own a)
structure Fgt(H H' Jg:Hp):Prop where
 sub:∀a o,Jg a=some o→H' a=some o
 flat:Flat Jg
 own:G6 H→G6 Jg
 tup:∀b xs,H b=some (.tup xs)→Jg b=some (.tup xs)
 gZ:∀b o u,H b=some (.gZ o u)→Jg b=some (.gZ o u)
 pH:∀b ps,H b=some (.pH ps)→∃more,Jg b=some (.pH (ps++more))
theorem Fgt.self{H H':Hp}(s:yg H H')(f:Flat H):Fgt H H' H:=
 ⟨s,f,id,fun _ _ e=>e,fun _ _ _ e=>e,fun _ ps e=>⟨#[],by rw[e];simp⟩⟩
theorem yg.upd{H:Hp}{p:Addr}{o:HO}(n:H p=none):yg H (upd H p o):=fun b u e=>by rw[aJ (bB e n)];exact e
theorem Flat.upd{H:Hp}{p:Addr}{o:HO}(f:Flat H)(h:K8 o=true):Flat (upd H p o):=fun a u e=>by
 by_cases z:a=p
 ·subst z;rw[aX]at e;cases e;exact h
 ·rw[aJ z]at e;exact f a u e
theorem d8.less{P:Program}{w:World}{H H':Hp}{h:Heap}{a:Addr}{o:HO}(x:d8 P w H' h a o)(f:K8 o=true)(hw:∀C dx fs,o= .ins C dx fs→H dx=some (.own a)):d8 P w H h a o:=by
 cases o with
 | dT kvs=>exact absurd f Bool.false_ne_true
 | ins C dx fs=>exact⟨hw C dx fs rfl,x.2⟩
 | gZ ob u=>
  cases u with
  | dT _=>exact absurd f Bool.false_ne_true
  | ins _ _ _=>exact absurd f Bool.false_ne_true
  | gZ _ _=>exact absurd f Bool.false_ne_true
  | _=>exact x
 | _=>exact x
theorem oY.less{P:Program}{w:World}{H H':Hp}{h:Heap}(x:oY P w H' h)(s:∀a o,H a=some o→H' a=some o)(f:Flat H)(hw:G6 H):oY P w H h:=fun a o e=>
 (x a o (s a o e)).less (f a o e) fun C dx fs z=>hw a C dx fs (by rw[←z];exact e)
theorem oY.own{P:Program}{w:World}{H:Hp}{h:Heap}(x:oY P w H h):G6 H:=fun a _ _ _ e=>(x a _ e).1
def O9(H:Hp)(Q:VK):VK:=fun v H'=>Q v H'∨∃Jg,Fgt H H' Jg∧Q v Jg
theorem aY.gc{P:Program}{w:World}{K:Frag}{mg:Str→Option Value}{base:Heap}{CX:Fp}{k:Nat}{f:Addr}{fd:FuncData}{ps:List Str}{sp VN:Sp}(F:aY P w K mg base CX k f fd ps sp)
  (h:∀vs H Q E,VN vs H Q E→sp vs H (O9 H Q) E):aY P w K mg base CX k f fd ps VN:=by
 refine⟨fun vs H Q E q=>F.len vs H _ E (h _ _ _ _ q),fun A outer s H args us vs Q E hr he hb hv hs=>codeAny_mono (F.run A outer s H args us vs (O9 H Q) E hr he hb hv (h _ _ _ _ hs)) fun r s' hq=> ?_⟩
 cases r with
 | error e=>exact hq
 | ok fl=>
  cases fl with
  | ret u=>
   obtain⟨v,H',os,bare,un,hok,rv,q⟩:=hq
   rcases q with q | ⟨Jg,g,q⟩
   ·exact⟨v,H',os,bare,un,hok,rv,q⟩
   refine⟨v,Jg,os,bare,⟨un.keep,un.slot,fun b o e n hx=> ?_,un.there,g.tup,g.gZ,g.pH⟩,hok.less g.sub g.flat (g.own he.hok.own),rv,q⟩
   cases z:Jg b with
   | none=>rfl
   | some o'=>
    have z':=g.sub b o' z
    rw[un.free b o e n hx]at z'
    cases z'
  | next=>exact hq
  | brk=>exact hq
  | cont=>exact hq
structure cM(K:Frag)(x qual:Str)(st:Stmt)(dV:Value)(f:Addr)(fd:FuncData):Prop where
 ex:∃(oc:Value) (od:Option Addr) (kV doc pm:Value) (an:Option Addr) (cdv ct:Value) (osl:Array (Option Value)),
  fd=fnOf x qual (aG st) (aD st) (au st) dV kV doc pm an cdv ct∧K.lookup f=some ⟨oc,od,.func fd,osl⟩∧codeIn K cdv qual=true
 kp:keepIn K (.ref f)=true
section
variable{P:Program}{w:World}{K:Frag}{mg:Str→Option Value}{base:Heap}
theorem cM.ok{x qual:Str}{st:Stmt}{dV:Value}{f:Addr}{fd:FuncData}{N ps:List Str}{k:Nat}{sp:Sp}(F:cM K x qual st dV f fd)(S:bf N ps (au st))(len:∀vs H Q E,sp vs H Q E→vs.length=ps.length)
  (hbody:∀(cdv:Value) (A:Around) (outer:List Env) (s:Shared) (H:Hp) (vs:List V) (Q:VK) (E:XK),gF k (A.deeper (envOfC qual (au st) s.heap.objs.size f cdv))→sp vs H Q E→
   ∃t,yj (kJ QW P w K mg base N qual (au st) f cdv A outer s H E).Mp (aD st) t∧t {nx:=fun _ H'=>O9 H Q .non H',rt:=O9 H Q} (start N vs) H):aY P w K mg base QW (k+1) f fd ps sp:=by
 obtain⟨oc,od,kV,doc,pm,an,cdv,ct,osl,rfl,lk,hcd⟩:=F.ex
 refine aY.gc (sp:=fun vs H Q' E=>∃Q,sp vs H Q E∧Q'=O9 H Q) (K7 lk hcd S (fun vs H Q E ⟨Q0,q,_⟩=>len vs H Q0 E q) fun A outer s H vs Q' E hr hsp=> ?_) fun vs H Q E q=>⟨Q,q,rfl⟩
 obtain⟨Q,hsp,rfl⟩:=hsp
 obtain⟨t,h,q⟩:=hbody cdv A outer s H vs Q E hr hsp
 exact⟨t,h.Mp,q⟩
theorem cM.binds{x qual:Str}{st:Stmt}{dV:Value}{f:Addr}{fd:FuncData}{ps:List Str}(F:cM K x qual st dV f fd)
  (h:∀(kV doc pm:Value) (an:Option Addr) (cdv ct:Value) (us:List Value),us.length=ps.length→bindArgs (fnOf x qual (aG st) (aD st) (au st) dV kV doc pm an cdv ct) ⟨us,[]⟩=pure (ps.zip us)):Binds K fd ps []:=by
 obtain⟨oc,od,kV,doc,pm,an,cdv,ct,osl,rfl,lk,hcd⟩:=F.ex
 exact .all (h kV doc pm an cdv ct)
theorem aM{x qual:Str}{st:Stmt}{dV:Value}{f:Addr}{oc:Value}{od an:Option Addr}{osl:Array (Option Value)}{kV doc pm cdv ct:Value}(l:K.lookup f=some ⟨oc,od,.func (fnOf x qual (aG st) (aD st) (au st) dV kV doc pm an cdv ct),osl⟩)
  (c:codeIn K cdv qual=true) (k:keepIn K (.ref f)=true):cM K x qual st dV f (fnOf x qual (aG st) (aD st) (au st) dV kV doc pm an cdv ct):=⟨⟨oc,od,kV,doc,pm,an,cdv,ct,osl,rfl,l,c⟩,k⟩
end
theorem qU:bootBuiltins "len" = some (.builtin "len"):=by decide +kernel
theorem b7:bootBuiltins "isinstance" = some (.builtin "isinstance"):=by decide +kernel
theorem UL:bootBuiltins "min" = some (.builtin "min"):=by decide +kernel
theorem UT:bootBuiltins "max" = some (.builtin "max"):=by decide +kernel
theorem UW:bootBuiltins "all" = some (.builtin "all"):=by decide +kernel
theorem Lk:bootBuiltins "int" = some (.type "int"):=by decide +kernel
theorem Bj:bootBuiltins "bool" = some (.type "bool"):=by decide +kernel
theorem uq:bootBuiltins "list" = some (.type "list"):=by decide +kernel
theorem Df:bootBuiltins "tuple" = some (.type "tuple"):=by decide +kernel
theorem Lj:bootBuiltins "str" = some (.type "str"):=by decide +kernel
theorem Only.flat{H:Hp}(o:Only H):Flat H:=fun a u e=>by
 rcases o a with z | ⟨ob,xs,z⟩
 ·rw[z]at e;cases e
 ·rw[z]at e;cases e;rfl
def cell(ns:List Int)(k:Nat):Int:=ns.getD k 0
def ZR(g:TG)(tb:TS)(D:Ends)(σ:St)(J:It)(H1:Hp):Prop:=
 ∃W:Nat→Nat→St→Hp→Prop,(∃m,W 0 m σ H1)∧∀i m σ H,W i m σ H→
  (J.stop i H∧D.nx σ H)∨(J.go i H∧∃N:St→Hp→Prop,(∀σ' H',N σ' H'→∃m',m'<m∧W (i+1) m' σ' H')∧∀x H',J.Mv i H x H'→g x σ H' fun σ2 H2=>tb {D with nx:=N,ct:=N,bk:=D.nx} σ2 H2)
def VG(wi:TI)(g:TG)(tb:TS):TS:=fun D σ H=>wi σ H fun J H1=>ZR g tb D σ J H1
theorem N_{X:Cx}{tg iter:Expr}{body:List Stmt}{wi:TI}{g:TG}{tb:TS}{pos:Pos}(hp:PassesOwn (model X.prog X.w) X.A X.env X.xe)(hc:X.calm=true)(hi:PI X tg iter wi)(hg:PG X tg g)(hb:yj X body tb)
  (hs:∀x,foldedSetIterable iter X.env x=pure x:=by intro _;rfl):PS X (.For tg iter body [] pos) (VG wi g tb):=RP hp hc hi hg hb hs
theorem oh{α:Type}{us:List α}(h:us.length=1):∃a,us=[a]:=match us,h with | [a],_=>⟨a,rfl⟩
theorem jW{α:Type}{us:List α}(h:us.length=2):∃a b,us=[a,b]:=match us,h with | [a,b],_=>⟨a,b,rfl⟩
theorem An{α:Type}{us:List α}(h:us.length=3):∃a b c,us=[a,b,c]:=match us,h with | [a,b,c],_=>⟨a,b,c,rfl⟩
theorem Oz{α:Type}{us:List α}(h:us.length=4):∃a b c d,us=[a,b,c,d]:=match us,h with | [a,b,c,d],_=>⟨a,b,c,d,rfl⟩
inductive Dt where
 | non | bl (b:Bool) | int (i:Int) | str (x:Str) | tup (ds:List Dt) | lst (ds:List Dt)
mutual
inductive Is (K:Frag) (H:Hp):V→Dt→Prop
 | non:Is K H .non .non
 | bl (b:Bool):Is K H (.bl b) (.bl b)
 | int (i:Int):Is K H (.int i) (.int i)
 | str (x:Str):Is K H (.str x) (.str x)
 | tup {a:Addr} {xs:List V} {ds:List Dt}:oG K H a xs→rK K H xs ds→Is K H (.ref a) (.tup ds)
 | lst {a:Addr} {xs:List V} {ds:List Dt}:ql K H a xs→rK K H xs ds→Is K H (.ref a) (.lst ds)
inductive rK (K:Frag) (H:Hp):List V→List Dt→Prop
 | nil:rK K H [] []
 | cons {x:V} {d:Dt} {xs:List V} {ds:List Dt}:Is K H x d→rK K H xs ds→rK K H (x::xs) (d::ds)
end
mutual
def bF:Dt→Dt→Bool
 | .non,.non=>true
 | .bl a,.bl b=>a==b
 | .bl a,.int b=>(if a then 1 else 0)==b
 | .int a,.bl b=>a==(if b then 1 else 0)
 | .int a,.int b=>a==b
 | .str a,.str b=>a==b
 | .tup ds,.tup es=>sE ds es
 | .lst ds,.lst es=>sE ds es
 | _,_=>false
def sE:List Dt→List Dt→Bool
 | [],[]=>true
 | d::ds,e::es=>bF d e&&sE ds es
 | _,_=>false
end
mutual
def dep:Dt→Nat
 | .tup ds=>deps ds+1
 | .lst ds=>deps ds+1
 | _=>0
def deps:List Dt→Nat
 | []=>0
 | d::ds=>max (dep d) (deps ds)
end
mutual
theorem yd:∀d:Dt,bF d d=true
 | .non=>by unfold bF;rfl
 | .bl a=>by unfold bF;simp
 | .int a=>by unfold bF;simp
 | .str a=>by unfold bF;simp
 | .tup ds=>by unfold bF;exact uT ds
 | .lst ds=>by unfold bF;exact uT ds
theorem uT:∀ds:List Dt,sE ds ds=true
 | []=>by unfold sE;rfl
 | d::ds=>by unfold sE;rw[yd d,uT ds];rfl
end
theorem nA:∀{ds es:List Dt},ds.length≠es.length→sE ds es=false
 | [],[],h=>absurd rfl h
 | [],_::_,_=>by unfold sE;rfl
 | _::_,[],_=>by unfold sE;rfl
 | d::ds,e::es,h=>by
  unfold sE
  rw[nA (ds:=ds) (es:=es) fun z=>h (by rw[List.length_cons,List.length_cons,z]),Bool.and_false]
theorem nC:∀{ds es:List Dt},ds.length=es.length→(List.range ds.length).all (fun j=>bF (ds.getD j .non) (es.getD j .non))=sE ds es
 | [],[],_=>by unfold sE;rfl
 | [],_::_,h=>by cases h
 | _::_,[],h=>by cases h
 | d::ds,e::es,h=>by
  have ih:=nC (ds:=ds) (es:=es) (Nat.succ.inj h)
  rw[List.length_cons,List.range_succ_eq_map,List.all_cons,List.all_map,sE,←ih]
  rfl
theorem rK.length{K:Frag}{H:Hp}:∀{xs:List V} {ds:List Dt},rK K H xs ds→xs.length=ds.length
 | _,_,.nil=>rfl
 | _,_,.cons _ r=>by rw[List.length_cons,List.length_cons,rK.length r]
theorem rK.get{K:Frag}{H:Hp}:∀{xs:List V} {ds:List Dt} {i:Nat} {x:V},rK K H xs ds→xs[i]? = some x→∃d,ds[i]? = some d∧Is K H x d
 | _,_,_,_,.nil,e=>by simp at e
 | _,_,0,_,.cons r _,e=>by simp at e;subst e;exact⟨_,rfl,r⟩
 | _,_,i+1,x,.cons _ t,e=>by
  obtain⟨d,h1,h2⟩:=rK.get (i:=i) (x:=x) t (by simpa using e)
  exact⟨d,by simpa using h1,h2⟩
theorem rK.at{K:Frag}{H:Hp}:∀{xs:List V} {ds:List Dt} {i:Nat} {d:Dt},rK K H xs ds→ds[i]? = some d→∃x,xs[i]? = some x∧Is K H x d
 | _,_,_,_,.nil,e=>by simp at e
 | _,_,0,_,.cons r _,e=>by simp at e;subst e;exact⟨_,rfl,r⟩
 | _,_,i+1,d,.cons _ t,e=>by
  obtain⟨x,h1,h2⟩:=rK.at (i:=i) (d:=d) t (by simpa using e)
  exact⟨x,by simpa using h1,h2⟩
theorem rK.take{K:Frag}{H:Hp}:∀{xs:List V} {ds:List Dt} (n:Nat),rK K H xs ds→rK K H (xs.take n) (ds.take n)
 | _,_,0,_=> .nil
 | _,_,_+1,.nil=> .nil
 | _,_,n+1,.cons r t=> .cons r (rK.take n t)
theorem rK.drop{K:Frag}{H:Hp}:∀{xs:List V} {ds:List Dt} (n:Nat),rK K H xs ds→rK K H (xs.drop n) (ds.drop n)
 | _,_,0,r=>r
 | _,_,_+1,.nil=> .nil
 | _,_,n+1,.cons _ t=>rK.drop n t
mutual
theorem Is.keep{K:Frag}{H H':Hp}(s1:∀a xs,oG K H a xs→oG K H' a xs)(s2:∀a xs,ql K H a xs→ql K H' a xs):∀{v:V} {d:Dt},Is K H v d→Is K H' v d
 | _,_,.non=> .non
 | _,_,.bl b=> .bl b
 | _,_,.int i=> .int i
 | _,_,.str x=> .str x
 | _,_,.tup e r=> .tup (s1 _ _ e) (rK.keep s1 s2 r)
 | _,_,.lst e r=> .lst (s2 _ _ e) (rK.keep s1 s2 r)
theorem rK.keep{K:Frag}{H H':Hp}(s1:∀a xs,oG K H a xs→oG K H' a xs)(s2:∀a xs,ql K H a xs→ql K H' a xs):∀{vs:List V} {ds:List Dt},rK K H vs ds→rK K H' vs ds
 | _,_,.nil=> .nil
 | _,_,.cons r t=> .cons (Is.keep s1 s2 r) (rK.keep s1 s2 t)
end
theorem Bb(ds es:List Dt):bF (.tup ds) (.tup es)=sE ds es:=by unfold bF;rfl
theorem rA(ds es:List Dt):bF (.lst ds) (.lst es)=sE ds es:=by unfold bF;rfl
section
variable{X:Cx}{pins:List (Addr×Obj)}{σ:St}{H:Hp}{s:Shared}
theorem Inv.Cu(I:Inv X pins σ H s){a:Addr}{xs ys:List V}(h:oG X.K H a xs)(h':ql X.K H a ys):False:=by
 obtain⟨its,_,pt,_⟩:=I.tuple h
 obtain⟨jts,_,pl,_⟩:=I.list h'
 obtain⟨o,e,c,_⟩:=pt
 obtain⟨o',n',e',c',_⟩:=pl
 rw[e]at e';cases e'
 rw[c]at c'
 injection c' with z
 exact absurd z (by decide)
mutual
theorem Inv.KJ(I:Inv X pins σ H s):∀{v:V} {d e:Dt},Is X.K H v d→Is X.K H v e→d=e
 | _,_,_,.non,.non=>rfl
 | _,_,_,.bl _,.bl _=>rfl
 | _,_,_,.int _,.int _=>rfl
 | _,_,_,.str _,.str _=>rfl
 | _,_,_,.tup q r,.tup q' r'=>congrArg Dt.tup (Inv.Aw I r (I.yN q q'▸r'))
 | _,_,_,.lst q r,.lst q' r'=>congrArg Dt.lst (Inv.Aw I r (I.CG q q'▸r'))
 | _,_,_,.tup q _,.lst q' _=>(I.Cu q q').elim
 | _,_,_,.lst q _,.tup q' _=>(I.Cu q' q).elim
theorem Inv.Aw(I:Inv X pins σ H s):∀{vs:List V} {ds es:List Dt},rK X.K H vs ds→rK X.K H vs es→ds=es
 | _,_,_,.nil,.nil=>rfl
 | _,_,_,.cons r t,.cons r' t'=>by rw[Inv.KJ I r r',Inv.Aw I t t']
end
theorem sG:∀{ds:List Dt} {j:Nat} {d:Dt},ds[j]? = some d→dep d≤deps ds
 | [],_,_,e=>by simp at e
 | d'::ds,0,d,e=>by simp at e;subst e;unfold deps;exact Nat.le_max_left _ _
 | d'::ds,j+1,d,e=>by
  have:=sG (ds:=ds) (j:=j) (d:=d) (by simpa using e)
  unfold deps
  exact Nat.le_trans this (Nat.le_max_right _ _)
theorem o9{A:Around}{xs ys:List V}{its jts:List Value}{ds es:List Dt}(r1:Vals xs its)(r2:Vals ys jts)(q1:rK X.K H xs ds)(q2:rK X.K H ys es)
  (ih:∀(j:Nat) (x y:V) (d e:Dt) (u v:Value),ds[j]? = some d→es[j]? = some e→Is X.K H x d→Is X.K H y e→RelV x u→RelV y v→SeqAt.EqAt A s u v (bF d e)):
  ∀j (h1:j<its.toArray.size) (h2:j<jts.toArray.size),SeqAt.EqAt A s its.toArray[j] jts.toArray[j] (bF (ds.getD j .non) (es.getD j .non)):=fun j h1 h2=>by
 have l1:=r1.length
 have l2:=r2.length
 have j1:j<xs.length:=by simp at h1;omega
 have j2:j<ys.length:=by simp at h2;omega
 obtain⟨w1,g1,p1⟩:=r1.get (i:=j) (x:=xs[j]) (by simp[j1])
 obtain⟨w2,g2,p2⟩:=r2.get (i:=j) (x:=ys[j]) (by simp[j2])
 obtain⟨d,e1,i1⟩:=q1.get (i:=j) (x:=xs[j]) (by simp[j1])
 obtain⟨e,e2,i2⟩:=q2.get (i:=j) (x:=ys[j]) (by simp[j2])
 have d1:ds.getD j .non=d:=by simp[List.getD,e1]
 have d2:es.getD j .non=e:=by simp[List.getD,e2]
 have c1:its.toArray[j]=w1:=by
  have:=List.getElem?_eq_some_iff.mp g1
  simpa using this.2
 have c2:jts.toArray[j]=w2:=by
  have:=List.getElem?_eq_some_iff.mp g2
  simpa using this.2
 rw[d1,d2,c1,c2]
 exact ih j _ _ d e _ _ e1 e2 i1 i2 p1 p2
theorem uA{n m:Nat}(h:n=m)(p:Nat→Bool):((List.range (min n m)).all p&&n==m)=(List.range n).all p:=by
 subst h
 rw[Nat.min_self]
 simp
theorem uQ(I:Inv X pins σ H s):∀(n:Nat) (A:Around) (x y:V) (d e:Dt) (u v:Value),dep d≤n→A.units+n<cLine→Is X.K H x d→Is X.K H y e→RelV x u→RelV y v→SeqAt.EqAt A s u v (bF d e)
 | n,A,x,y,d,e,u,v,hd,hu,hx,hy,rx,ry=>by
  have same:u=v→SeqAt.EqAt A s u v (bF d e):=fun z=>by
   subst z
   have xy:x=y:=rx.inj ry
   subst xy
   rw[I.KJ hx hy,yd]
   exact SeqAt.EqAt.same _
  have hu0:A.units<cLine:=by omega
  have in1:A.in1.units=A.units+1:=rfl
  cases hx with
  | non=>
   cases rx
   cases hy with
   | non=>cases ry;exact same rfl
   | bl b=>cases ry;unfold bF;exact SeqAt.EqAt.none_bool b
   | int b=>obtain⟨t,rfl⟩:=ry;unfold bF;exact SeqAt.EqAt.none_int b t
   | str b=>obtain⟨t,rfl⟩:=ry;unfold bF;exact SeqAt.EqAt.none_str b t
   | tup q r=>cases ry;obtain⟨its,_,p,_⟩:=I.tuple q;unfold bF;exact SeqAt.EqAt.none_tuple p hu0
   | lst q r=>cases ry;obtain⟨its,_,p,_⟩:=I.list q;unfold bF;exact SeqAt.EqAt.none_list p.isList hu0
  | bl a=>
   cases rx
   cases hy with
   | non=>cases ry;unfold bF;exact SeqAt.EqAt.bool_none a
   | bl b=>cases ry;unfold bF;exact SeqAt.EqAt.bool_bool a b
   | int b=>obtain⟨t,rfl⟩:=ry;unfold bF;exact SeqAt.EqAt.bool_int a b t
   | str b=>obtain⟨t,rfl⟩:=ry;unfold bF;exact SeqAt.EqAt.bool_str a b t
   | tup q r=>cases ry;obtain⟨its,_,p,_⟩:=I.tuple q;unfold bF;exact SeqAt.EqAt.bool_tuple a p hu0
   | lst q r=>cases ry;obtain⟨its,_,p,_⟩:=I.list q;unfold bF;exact SeqAt.EqAt.bool_list a p.isList hu0
  | int a=>
   obtain⟨t',rfl⟩:=rx
   cases hy with
   | non=>cases ry;unfold bF;exact SeqAt.EqAt.int_none a t'
   | bl b=>cases ry;unfold bF;exact SeqAt.EqAt.int_bool a t' b
   | int b=>obtain⟨t,rfl⟩:=ry;unfold bF;exact SeqAt.EqAt.int_int a t' b t
   | str b=>obtain⟨t,rfl⟩:=ry;unfold bF;exact SeqAt.EqAt.int_str a t' b t
   | tup q r=>cases ry;obtain⟨its,_,p,_⟩:=I.tuple q;unfold bF;exact SeqAt.EqAt.int_tuple a t' p hu0
   | lst q r=>cases ry;obtain⟨its,_,p,_⟩:=I.list q;unfold bF;exact SeqAt.EqAt.int_list a t' p.isList hu0
  | str a=>
   obtain⟨t',rfl⟩:=rx
   cases hy with
   | non=>cases ry;unfold bF;exact SeqAt.EqAt.str_none a t'
   | bl b=>cases ry;unfold bF;exact SeqAt.EqAt.str_bool a t' b
   | int b=>obtain⟨t,rfl⟩:=ry;unfold bF;exact SeqAt.EqAt.str_int a t' b t
   | str b=>obtain⟨t,rfl⟩:=ry;unfold bF;exact SeqAt.EqAt.str_str a t' b t
   | tup q r=>cases ry;obtain⟨its,_,p,_⟩:=I.tuple q;unfold bF;exact SeqAt.EqAt.str_tuple a t' p hu0
   | lst q r=>cases ry;obtain⟨its,_,p,_⟩:=I.list q;unfold bF;exact SeqAt.EqAt.str_list a t' p.isList hu0
  | @tup a xs ds q r=>
   cases(show u=Value.ref a from rx)
   obtain⟨its,r1,p1,_⟩:=I.tuple q
   cases hy with
   | non=>cases ry;unfold bF;exact SeqAt.EqAt.tuple_none p1 hu0
   | bl b=>cases ry;unfold bF;exact SeqAt.EqAt.tuple_bool b p1 hu0
   | int b=>obtain⟨t,rfl⟩:=ry;unfold bF;exact SeqAt.EqAt.tuple_int b t p1 hu0
   | str b=>obtain⟨t,rfl⟩:=ry;unfold bF;exact SeqAt.EqAt.tuple_str b t p1 hu0
   | lst q' r'=>cases ry;obtain⟨jts,_,p,_⟩:=I.list q';unfold bF;exact SeqAt.EqAt.tuple_list p1 p.isList hu0
   | @tup b ys es q' r'=>
    cases(show v=Value.ref b from ry)
    by_cases hab:a=b
    ·subst hab;exact same rfl
    ·obtain⟨jts,r2,p2,_⟩:=I.tuple q'
     refine SeqAt.EqAt.of_refs hab ?_
     have l1:=r1.length
     have l2:=r2.length
     have l3:=r.length
     have l4:=r'.length
     cases n with
     | zero=>unfold dep at hd;omega
     | succ n=>
      have dl:deps ds≤n:=by unfold dep at hd;omega
      have z:=SeqAt.RcAt.tuples (A:=A) (s:=s) (e:=fun j=>bF (ds.getD j .non) (es.getD j .non)) p1 p2 hu0 (o9 r1 r2 r r' fun j x y d e u v h1 h2 ix iy rx ry=>uQ I n A.in1 x y d e u v (Nat.le_trans (sG h1) dl) (by omega) ix iy rx ry)
      have ez:((List.range (min its.toArray.size jts.toArray.size)).all (fun j=>bF (ds.getD j .non) (es.getD j .non))&&its.toArray.size==jts.toArray.size)=bF (.tup ds) (.tup es):=by
       rw[Bb]
       by_cases hl:ds.length=es.length
       ·rw[uA (by simp;omega),←nC hl]
        congr 2
        simp;omega
       ·rw[nA hl]
        have:(its.toArray.size==jts.toArray.size)=false:=by simp;omega
        rw[this,Bool.and_false]
      rw[ez]at z
      exact z
  | @lst a xs ds q r=>
   cases(show u=Value.ref a from rx)
   obtain⟨its,r1,p1,_⟩:=I.list q
   cases hy with
   | non=>cases ry;unfold bF;exact SeqAt.EqAt.list_none p1.isList hu0
   | bl b=>cases ry;unfold bF;exact SeqAt.EqAt.list_bool b p1.isList hu0
   | int b=>obtain⟨t,rfl⟩:=ry;unfold bF;exact SeqAt.EqAt.list_int b t p1.isList hu0
   | str b=>obtain⟨t,rfl⟩:=ry;unfold bF;exact SeqAt.EqAt.list_str b t p1.isList hu0
   | tup q' r'=>cases ry;obtain⟨jts,_,p,_⟩:=I.tuple q';unfold bF;exact SeqAt.EqAt.list_tuple p1.isList p hu0
   | @lst b ys es q' r'=>
    cases(show v=Value.ref b from ry)
    by_cases hab:a=b
    ·subst hab;exact same rfl
    ·obtain⟨jts,r2,p2,_⟩:=I.list q'
     refine SeqAt.EqAt.of_refs hab ?_
     have l1:=r1.length
     have l2:=r2.length
     have l3:=r.length
     have l4:=r'.length
     cases n with
     | zero=>unfold dep at hd;omega
     | succ n=>
      have dl:deps ds≤n:=by unfold dep at hd;omega
      by_cases hl:ds.length=es.length
      ·have z:=SeqAt.RcAt.lists (A:=A) (s:=s) (e:=fun j=>bF (ds.getD j .non) (es.getD j .non)) p1.isList p2.isList (by simp;omega) hu0 (o9 r1 r2 r r' fun j x y d e u v h1 h2 ix iy rx ry=>uQ I n A.in1 x y d e u v (Nat.le_trans (sG h1) dl) (by omega) ix iy rx ry)
       have ez:(List.range its.toArray.size).all (fun j=>bF (ds.getD j .non) (es.getD j .non))=bF (.lst ds) (.lst es):=by
        rw[rA]
        rw[←nC hl]
        congr 2
        simp;omega
       rw[ez]at z
       exact z
      ·have z:=SeqAt.RcAt.lists_lengths (A:=A) (s:=s) p1.isList p2.isList (by simp;omega) hu0
       have ez:bF (.lst ds) (.lst es)=false:=by rw[rA];exact nA hl
       rw[ez]
       exact z
theorem Ry(I:Inv X pins σ H s)(A:Around){x y:V}{d e:Dt}{u v:Value}{n:Nat}(hd:dep d≤n)(hu:A.units+n<cLine)(hx:Is X.K H x d)(hy:Is X.K H y e)(rx:RelV x u)(ry:RelV y v):SeqAt.RcAt A s u v (bF d e):=by
 have hu0:A.units<cLine:=by omega
 have in1:A.in1.units=A.units+1:=rfl
 cases hx with
 | non=>
  cases rx
  cases hy with
  | non=>
   cases ry
   unfold bF
   exact SeqAt.RcAt.none_none
  | bl b=>
   cases ry
   unfold bF
   exact SeqAt.RcAt.none_bool  b
  | int b=>
   obtain⟨t,rfl⟩:=ry
   unfold bF
   exact SeqAt.RcAt.none_int  b t
  | str b=>
   obtain⟨t,rfl⟩:=ry
   unfold bF
   exact SeqAt.RcAt.none_str  b t
  | @tup b ys es q' r'=>
   cases(show v=Value.ref b from ry)
   obtain⟨jts,r2,p2,_⟩:=I.tuple q'
   unfold bF
   exact SeqAt.RcAt.none_tuple  p2 hu0
  | @lst b ys es q' r'=>
   cases(show v=Value.ref b from ry)
   obtain⟨jts,r2,p2,_⟩:=I.list q'
   unfold bF
   exact SeqAt.RcAt.none_list  p2.isList hu0
 | bl a=>
  cases rx
  cases hy with
  | non=>
   cases ry
   unfold bF
   exact SeqAt.RcAt.bool_none a
  | bl b=>
   cases ry
   unfold bF
   exact SeqAt.RcAt.bool_bool a b
  | int b=>
   obtain⟨t,rfl⟩:=ry
   unfold bF
   exact SeqAt.RcAt.bool_int a b t
  | str b=>
   obtain⟨t,rfl⟩:=ry
   unfold bF
   exact SeqAt.RcAt.bool_str a b t
  | @tup b ys es q' r'=>
   cases(show v=Value.ref b from ry)
   obtain⟨jts,r2,p2,_⟩:=I.tuple q'
   unfold bF
   exact SeqAt.RcAt.bool_tuple a p2 hu0
  | @lst b ys es q' r'=>
   cases(show v=Value.ref b from ry)
   obtain⟨jts,r2,p2,_⟩:=I.list q'
   unfold bF
   exact SeqAt.RcAt.bool_list a p2.isList hu0
 | int a=>
  obtain⟨t',rfl⟩:=rx
  cases hy with
  | non=>
   cases ry
   unfold bF
   exact SeqAt.RcAt.int_none a t'
  | bl b=>
   cases ry
   unfold bF
   exact SeqAt.RcAt.int_bool a t' b
  | int b=>
   obtain⟨t,rfl⟩:=ry
   unfold bF
   exact SeqAt.RcAt.int_int a t' b t
  | str b=>
   obtain⟨t,rfl⟩:=ry
   unfold bF
   exact SeqAt.RcAt.int_str a t' b t
  | @tup b ys es q' r'=>
   cases(show v=Value.ref b from ry)
   obtain⟨jts,r2,p2,_⟩:=I.tuple q'
   unfold bF
   exact SeqAt.RcAt.int_tuple a t' p2 hu0
  | @lst b ys es q' r'=>
   cases(show v=Value.ref b from ry)
   obtain⟨jts,r2,p2,_⟩:=I.list q'
   unfold bF
   exact SeqAt.RcAt.int_list a t' p2.isList hu0
 | str a=>
  obtain⟨t',rfl⟩:=rx
  cases hy with
  | non=>
   cases ry
   unfold bF
   exact SeqAt.RcAt.str_none a t'
  | bl b=>
   cases ry
   unfold bF
   exact SeqAt.RcAt.str_bool a t' b
  | int b=>
   obtain⟨t,rfl⟩:=ry
   unfold bF
   exact SeqAt.RcAt.str_int a t' b t
  | str b=>
   obtain⟨t,rfl⟩:=ry
   unfold bF
   exact SeqAt.RcAt.str_str a t' b t
  | @tup b ys es q' r'=>
   cases(show v=Value.ref b from ry)
   obtain⟨jts,r2,p2,_⟩:=I.tuple q'
   unfold bF
   exact SeqAt.RcAt.str_tuple a t' p2 hu0
  | @lst b ys es q' r'=>
   cases(show v=Value.ref b from ry)
   obtain⟨jts,r2,p2,_⟩:=I.list q'
   unfold bF
   exact SeqAt.RcAt.str_list a t' p2.isList hu0
 | @tup a xs ds q r=>
  cases(show u=Value.ref a from rx)
  obtain⟨its,r1,p1,_⟩:=I.tuple q
  cases hy with
  | non=>
   cases ry
   unfold bF
   exact SeqAt.RcAt.tuple_none  p1 hu0
  | bl b=>
   cases ry
   unfold bF
   exact SeqAt.RcAt.tuple_bool b p1 hu0
  | int b=>
   obtain⟨t,rfl⟩:=ry
   unfold bF
   exact SeqAt.RcAt.tuple_int b t p1 hu0
  | str b=>
   obtain⟨t,rfl⟩:=ry
   unfold bF
   exact SeqAt.RcAt.tuple_str b t p1 hu0
  | @tup b ys es q' r'=>
   cases(show v=Value.ref b from ry)
   obtain⟨jts,r2,p2,_⟩:=I.tuple q'
   have l1:=r1.length
   have l2:=r2.length
   have l3:=r.length
   have l4:=r'.length
   cases n with
   | zero=>unfold dep at hd;omega
   | succ n=>
    have dl:deps ds≤n:=by unfold dep at hd;omega
    have z:=SeqAt.RcAt.tuples (A:=A) (s:=s) (e:=fun j=>bF (ds.getD j .non) (es.getD j .non)) p1 p2 hu0 (o9 r1 r2 r r' fun j x y d e u v h1 h2 ix iy rx ry=>uQ I n A.in1 x y d e u v (Nat.le_trans (sG h1) dl) (by omega) ix iy rx ry)
    have ez:((List.range (min its.toArray.size jts.toArray.size)).all (fun j=>bF (ds.getD j .non) (es.getD j .non))&&its.toArray.size==jts.toArray.size)=bF (.tup ds) (.tup es):=by
     rw[Bb]
     by_cases hl:ds.length=es.length
     ·rw[uA (by simp;omega),←nC hl]
      congr 2
      simp;omega
     ·rw[nA hl]
      have:(its.toArray.size==jts.toArray.size)=false:=by simp;omega
      rw[this,Bool.and_false]
    rw[ez]at z
    exact z
  | @lst b ys es q' r'=>
   cases(show v=Value.ref b from ry)
   obtain⟨jts,r2,p2,_⟩:=I.list q'
   unfold bF
   exact SeqAt.RcAt.tuple_list p1 p2.isList hu0
 | @lst a xs ds q r=>
  cases(show u=Value.ref a from rx)
  obtain⟨its,r1,p1,_⟩:=I.list q
  cases hy with
  | non=>
   cases ry
   unfold bF
   exact SeqAt.RcAt.list_none  p1.isList hu0
  | bl b=>
   cases ry
   unfold bF
   exact SeqAt.RcAt.list_bool b p1.isList hu0
  | int b=>
   obtain⟨t,rfl⟩:=ry
   unfold bF
   exact SeqAt.RcAt.list_int b t p1.isList hu0
  | str b=>
   obtain⟨t,rfl⟩:=ry
   unfold bF
   exact SeqAt.RcAt.list_str b t p1.isList hu0
  | @tup b ys es q' r'=>
   cases(show v=Value.ref b from ry)
   obtain⟨jts,r2,p2,_⟩:=I.tuple q'
   unfold bF
   exact SeqAt.RcAt.list_tuple p1.isList p2 hu0
  | @lst b ys es q' r'=>
   cases(show v=Value.ref b from ry)
   obtain⟨jts,r2,p2,_⟩:=I.list q'
   have l1:=r1.length
   have l2:=r2.length
   have l3:=r.length
   have l4:=r'.length
   cases n with
   | zero=>unfold dep at hd;omega
   | succ n=>
    have dl:deps ds≤n:=by unfold dep at hd;omega
    by_cases hl:ds.length=es.length
    ·have z:=SeqAt.RcAt.lists (A:=A) (s:=s) (e:=fun j=>bF (ds.getD j .non) (es.getD j .non)) p1.isList p2.isList (by simp;omega) hu0 (o9 r1 r2 r r' fun j x y d e u v h1 h2 ix iy rx ry=>uQ I n A.in1 x y d e u v (Nat.le_trans (sG h1) dl) (by omega) ix iy rx ry)
     have ez:(List.range its.toArray.size).all (fun j=>bF (ds.getD j .non) (es.getD j .non))=bF (.lst ds) (.lst es):=by
      rw[rA,←nC hl]
      congr 2
      simp;omega
     rw[ez]at z
     exact z
    ·have z:=SeqAt.RcAt.lists_lengths (A:=A) (s:=s) p1.isList p2.isList (by simp;omega) hu0
     have ez:bF (.lst ds) (.lst es)=false:=by rw[rA];exact nA hl
     rw[ez]
     exact z
theorem Rx(I:Inv X pins σ H s)(A:Around){x y:V}{d e:Dt}{u v:Value}{n:Nat}(hd:dep d≤n)(hu:A.units+n<cLine)(hx:Is X.K H x d)(hy:Is X.K H y e)(rx:RelV x u)(ry:RelV y v):SeqAt.RcNeAt A s u v (!bF d e):=by
 have hu0:A.units<cLine:=by omega
 have in1:A.in1.units=A.units+1:=rfl
 cases hx with
 | non=>
  cases rx
  cases hy with
  | non=>
   cases ry
   unfold bF
   exact SeqAt.RcNeAt.none_none
  | bl b=>
   cases ry
   unfold bF
   exact SeqAt.RcNeAt.none_bool  b
  | int b=>
   obtain⟨t,rfl⟩:=ry
   unfold bF
   exact SeqAt.RcNeAt.none_int  b t
  | str b=>
   obtain⟨t,rfl⟩:=ry
   unfold bF
   exact SeqAt.RcNeAt.none_str  b t
  | @tup b ys es q' r'=>
   cases(show v=Value.ref b from ry)
   obtain⟨jts,r2,p2,_⟩:=I.tuple q'
   unfold bF
   exact SeqAt.RcNeAt.none_tuple  p2 hu0
  | @lst b ys es q' r'=>
   cases(show v=Value.ref b from ry)
   obtain⟨jts,r2,p2,_⟩:=I.list q'
   unfold bF
   exact SeqAt.RcNeAt.none_list  p2.isList hu0
 | bl a=>
  cases rx
  cases hy with
  | non=>
   cases ry
   unfold bF
   exact SeqAt.RcNeAt.bool_none a
  | bl b=>
   cases ry
   unfold bF
   exact SeqAt.RcNeAt.bool_bool a b
  | int b=>
   obtain⟨t,rfl⟩:=ry
   unfold bF
   exact SeqAt.RcNeAt.bool_int a b t
  | str b=>
   obtain⟨t,rfl⟩:=ry
   unfold bF
   exact SeqAt.RcNeAt.bool_str a b t
  | @tup b ys es q' r'=>
   cases(show v=Value.ref b from ry)
   obtain⟨jts,r2,p2,_⟩:=I.tuple q'
   unfold bF
   exact SeqAt.RcNeAt.bool_tuple a p2 hu0
  | @lst b ys es q' r'=>
   cases(show v=Value.ref b from ry)
   obtain⟨jts,r2,p2,_⟩:=I.list q'
   unfold bF
   exact SeqAt.RcNeAt.bool_list a p2.isList hu0
 | int a=>
  obtain⟨t',rfl⟩:=rx
  cases hy with
  | non=>
   cases ry
   unfold bF
   exact SeqAt.RcNeAt.int_none a t'
  | bl b=>
   cases ry
   unfold bF
   exact SeqAt.RcNeAt.int_bool a t' b
  | int b=>
   obtain⟨t,rfl⟩:=ry
   unfold bF
   exact SeqAt.RcNeAt.int_int a t' b t
  | str b=>
   obtain⟨t,rfl⟩:=ry
   unfold bF
   exact SeqAt.RcNeAt.int_str a t' b t
  | @tup b ys es q' r'=>
   cases(show v=Value.ref b from ry)
   obtain⟨jts,r2,p2,_⟩:=I.tuple q'
   unfold bF
   exact SeqAt.RcNeAt.int_tuple a t' p2 hu0
  | @lst b ys es q' r'=>
   cases(show v=Value.ref b from ry)
   obtain⟨jts,r2,p2,_⟩:=I.list q'
   unfold bF
   exact SeqAt.RcNeAt.int_list a t' p2.isList hu0
 | str a=>
  obtain⟨t',rfl⟩:=rx
  cases hy with
  | non=>
   cases ry
   unfold bF
   exact SeqAt.RcNeAt.str_none a t'
  | bl b=>
   cases ry
   unfold bF
   exact SeqAt.RcNeAt.str_bool a t' b
  | int b=>
   obtain⟨t,rfl⟩:=ry
   unfold bF
   exact SeqAt.RcNeAt.str_int a t' b t
  | str b=>
   obtain⟨t,rfl⟩:=ry
   unfold bF
   exact SeqAt.RcNeAt.str_str a t' b t
  | @tup b ys es q' r'=>
   cases(show v=Value.ref b from ry)
   obtain⟨jts,r2,p2,_⟩:=I.tuple q'
   unfold bF
   exact SeqAt.RcNeAt.str_tuple a t' p2 hu0
  | @lst b ys es q' r'=>
   cases(show v=Value.ref b from ry)
   obtain⟨jts,r2,p2,_⟩:=I.list q'
   unfold bF
   exact SeqAt.RcNeAt.str_list a t' p2.isList hu0
 | @tup a xs ds q r=>
  cases(show u=Value.ref a from rx)
  obtain⟨its,r1,p1,_⟩:=I.tuple q
  cases hy with
  | non=>
   cases ry
   unfold bF
   exact SeqAt.RcNeAt.tuple_none  p1 hu0
  | bl b=>
   cases ry
   unfold bF
   exact SeqAt.RcNeAt.tuple_bool b p1 hu0
  | int b=>
   obtain⟨t,rfl⟩:=ry
   unfold bF
   exact SeqAt.RcNeAt.tuple_int b t p1 hu0
  | str b=>
   obtain⟨t,rfl⟩:=ry
   unfold bF
   exact SeqAt.RcNeAt.tuple_str b t p1 hu0
  | @tup b ys es q' r'=>
   cases(show v=Value.ref b from ry)
   obtain⟨jts,r2,p2,_⟩:=I.tuple q'
   have l1:=r1.length
   have l2:=r2.length
   have l3:=r.length
   have l4:=r'.length
   cases n with
   | zero=>unfold dep at hd;omega
   | succ n=>
    have dl:deps ds≤n:=by unfold dep at hd;omega
    have z:=SeqAt.RcNeAt.tuples (A:=A) (s:=s) (e:=fun j=>bF (ds.getD j .non) (es.getD j .non)) p1 p2 hu0 (o9 r1 r2 r r' fun j x y d e u v h1 h2 ix iy rx ry=>uQ I n A.in1 x y d e u v (Nat.le_trans (sG h1) dl) (by omega) ix iy rx ry)
    have ez:((List.range (min its.toArray.size jts.toArray.size)).all (fun j=>bF (ds.getD j .non) (es.getD j .non))&&its.toArray.size==jts.toArray.size)=bF (.tup ds) (.tup es):=by
     rw[Bb]
     by_cases hl:ds.length=es.length
     ·rw[uA (by simp;omega),←nC hl]
      congr 2
      simp;omega
     ·rw[nA hl]
      have:(its.toArray.size==jts.toArray.size)=false:=by simp;omega
      rw[this,Bool.and_false]
    rw[ez]at z
    exact z
  | @lst b ys es q' r'=>
   cases(show v=Value.ref b from ry)
   obtain⟨jts,r2,p2,_⟩:=I.list q'
   unfold bF
   exact SeqAt.RcNeAt.tuple_list p1 p2.isList hu0
 | @lst a xs ds q r=>
  cases(show u=Value.ref a from rx)
  obtain⟨its,r1,p1,_⟩:=I.list q
  cases hy with
  | non=>
   cases ry
   unfold bF
   exact SeqAt.RcNeAt.list_none  p1.isList hu0
  | bl b=>
   cases ry
   unfold bF
   exact SeqAt.RcNeAt.list_bool b p1.isList hu0
  | int b=>
   obtain⟨t,rfl⟩:=ry
   unfold bF
   exact SeqAt.RcNeAt.list_int b t p1.isList hu0
  | str b=>
   obtain⟨t,rfl⟩:=ry
   unfold bF
   exact SeqAt.RcNeAt.list_str b t p1.isList hu0
  | @tup b ys es q' r'=>
   cases(show v=Value.ref b from ry)
   obtain⟨jts,r2,p2,_⟩:=I.tuple q'
   unfold bF
   exact SeqAt.RcNeAt.list_tuple p1.isList p2 hu0
  | @lst b ys es q' r'=>
   cases(show v=Value.ref b from ry)
   obtain⟨jts,r2,p2,_⟩:=I.list q'
   have l1:=r1.length
   have l2:=r2.length
   have l3:=r.length
   have l4:=r'.length
   cases n with
   | zero=>unfold dep at hd;omega
   | succ n=>
    have dl:deps ds≤n:=by unfold dep at hd;omega
    by_cases hl:ds.length=es.length
    ·have z:=SeqAt.RcNeAt.lists (A:=A) (s:=s) (e:=fun j=>bF (ds.getD j .non) (es.getD j .non)) p1.isList p2.isList (by simp;omega) hu0 (o9 r1 r2 r r' fun j x y d e u v h1 h2 ix iy rx ry=>uQ I n A.in1 x y d e u v (Nat.le_trans (sG h1) dl) (by omega) ix iy rx ry)
     have ez:(List.range its.toArray.size).all (fun j=>bF (ds.getD j .non) (es.getD j .non))=bF (.lst ds) (.lst es):=by
      rw[rA,←nC hl]
      congr 2
      simp;omega
     rw[ez]at z
     exact z
    ·have z:=SeqAt.RcNeAt.lists_lengths (A:=A) (s:=s) p1.isList p2.isList (by simp;omega) hu0
     have ez:bF (.lst ds) (.lst es)=false:=by rw[rA];exact nA hl
     rw[ez]
     exact z
end
def abO(K:Frag):R2:=fun x y H Q=>∃d e,Is K H x d∧Is K H y e∧dep d≤20∧Q (.bl (bF d e)) H
def abM(K:Frag):R2:=fun x y H Q=>∃d e,Is K H x d∧Is K H y e∧dep d≤20∧Q (.bl (!bF d e)) H
theorem S5{X:Cx}(hu:X.A.units+64<cLine):rB X (compareOp .Eq) (abO X.K):=by
 intro pins s σ H x y v u Q I rx ry h
 obtain⟨d,e,hx,hy,hd,q⟩:=h
 exact Ry I X.A hd (by omega) hx hy rx ry _ _ _ _ ⟨.bl _,H,I,rfl,q⟩
theorem SJ{X:Cx}(hu:X.A.units+64<cLine):rB X (compareOp .NotEq) (abM X.K):=by
 intro pins s σ H x y v u Q I rx ry h
 obtain⟨d,e,hx,hy,hd,q⟩:=h
 exact Rx I X.A hd (by omega) hx hy rx ry _ _ _ _ ⟨.bl _,H,I,rfl,q⟩
end L2
set_option Elab.async false
set_option linter.all false
set_option maxRecDepth 100000
namespace L2
open PySem PySem.Spec PyProof.Rows
section
variable{κ:Type}[DecidableEq κ]
def rD(kvs:List (κ×V))(k:κ):Option V:=(kvs.find? fun kv=>decide (kv.1=k)).map (·.2)
def putK(kvs:List (κ×V))(k:κ)(v:V):List (κ×V):=
 if(kvs.any fun kv=>decide (kv.1=k))=true then kvs.map (fun kv=>if kv.1=k then(kv.1,v)else kv)else kvs++[(k,v)]
def QK(kvs:List (κ×V))(k:κ):List (κ×V):=kvs.filter fun kv=>decide (kv.1≠k)
theorem sW{p:κ×V}{r:List (κ×V)}{k:κ}(e:p.1=k):rD (p::r) k=some p.2:=by simp[rD,List.find?_cons,e]
theorem sX{p:κ×V}{r:List (κ×V)}{k:κ}(e:¬p.1=k):rD (p::r) k=rD r k:=by simp[rD,List.find?_cons,e]
theorem Bx(k:κ):∀kvs:List (κ×V),(kvs.any fun kv=>decide (kv.1=k))=(rD kvs k).isSome
 | []=>rfl
 | p::r=>by
  rw[List.any_cons]
  by_cases e:p.1=k
  ·simp only[sW e,decide_eq_true e,Bool.true_or,Option.isSome_some]
  ·rw[sX e,decide_eq_false e,Bool.false_or];exact Bx k r
theorem vq(kvs:List (κ×V))(k:κ)(v:V):(putK kvs k v).length≤kvs.length+1:=by
 unfold putK
 split
 ·rw[List.length_map];omega
 ·rw[List.length_append,List.length_cons,List.length_nil];omega
theorem qu.uM{o:Option V}{u:Option Value}(r:qu o u):o.isSome=u.isSome:=by
 cases o with
 | none=>cases u with
  | none=>rfl
  | some _=>exact(show False from r).elim
 | some _=>cases u with
  | none=>exact(show False from r).elim
  | some _=>rfl
theorem qu.getD{o:Option V}{u:Option Value}{d:V}{d':Value}(r:qu o u)(rd:RelV d d'):RelV (o.getD d) (u.getD d'):=by
 cases o with
 | none=>cases u with
  | none=>exact rd
  | some _=>exact(show False from r).elim
 | some _=>cases u with
  | none=>exact(show False from r).elim
  | some _=>exact r
theorem KV.val{kvs:List (κ×V)}{vs:List (κ×Value)}(r:KV kvs vs)(k:κ):qu (rD kvs k) (valueAt vs k):=by
 unfold KV at r
 induction r with
 | nil=>exact True.intro
 | @cons p q ps qs h t ih=>
  obtain⟨h1,h2⟩:=h
  by_cases e:p.1=k
  ·have e':q.1=k:=h1.symm.trans e
   have b:valueAt (q::qs) k=some q.2:=by simp[valueAt,List.find?_cons,e']
   rw[sW e,b];exact h2
  ·have e':¬q.1=k:=fun z=>e (h1.trans z)
   have b:valueAt (q::qs) k=valueAt qs k:=by simp[valueAt,List.find?_cons,e']
   rw[sX e,b];exact ih
theorem KV.any{kvs:List (κ×V)}{vs:List (κ×Value)}(r:KV kvs vs)(k:κ):(kvs.any fun kv=>decide (kv.1=k))=vs.any fun kv=>decide (kv.1=k):=by
 unfold KV at r
 induction r with
 | nil=>rfl
 | cons h t ih=>rw[List.any_cons,List.any_cons,ih,h.1]
theorem KV.repl{kvs:List (κ×V)}{vs:List (κ×Value)}(r:KV kvs vs)(k:κ){y:V}{u:Value}(ry:RelV y u):
  KV (kvs.map fun kv=>if kv.1=k then(kv.1,y)else kv) (vs.map fun kv=>if kv.1=k then(kv.1,u)else kv):=by
 unfold KV at r ⊢
 induction r with
 | nil=>exact .nil
 | @cons p q ps qs h t ih=>
  rw[List.map_cons,List.map_cons]
  refine .cons ?_ ih
  obtain⟨h1,h2⟩:=h
  by_cases e:p.1=k
  ·rw[if_pos e,if_pos (h1.symm.trans e)];exact⟨h1,ry⟩
  ·rw[if_neg e,if_neg (fun z=>e (h1.trans z))];exact⟨h1,h2⟩
theorem KV.put{kvs:List (κ×V)}{vs:List (κ×Value)}(r:KV kvs vs)(k:κ){y:V}{u:Value}(ry:RelV y u):KV (putK kvs k y) (stored vs k u):=by
 unfold putK stored
 rw[r.any k]
 by_cases e:(vs.any fun kv=>decide (kv.1=k))=true
 ·rw[if_pos e,if_pos e];exact r.repl k ry
 ·rw[if_neg e,if_neg e];exact Paired.snoc r ⟨rfl,ry⟩
theorem KV.drop{kvs:List (κ×V)}{vs:List (κ×Value)}(r:KV kvs vs)(k:κ):KV (QK kvs k) (without vs k):=by
 unfold KV at r ⊢
 unfold QK without
 induction r with
 | nil=>exact .nil
 | @cons p q ps qs h t ih=>
  obtain⟨h1,h2⟩:=h
  rw[List.filter_cons,List.filter_cons]
  by_cases e:p.1=k
  ·have a:¬decide (p.1≠k)=true:=by simp[e]
   have b:¬decide (q.1≠k)=true:=by simp[h1.symm.trans e]
   rw[if_neg a,if_neg b];exact ih
  ·have e':¬q.1=k:=fun z=>e (h1.trans z)
   have a:decide (p.1≠k)=true:=by simp[e]
   have b:decide (q.1≠k)=true:=by simp[e']
   rw[if_pos a,if_pos b];exact .cons ⟨h1,h2⟩ ih
theorem KV.length{kvs:List (κ×V)}{vs:List (κ×Value)}(r:KV kvs vs):kvs.length=vs.length:=Paired.length r
end
theorem CK{P:Program}{w:World}{k:Key}{u:Value}(r:RelV (kV k) u):(gU P w).is k u=true:=by
 cases k with
 | inl i=>obtain⟨t,e⟩:=(show ∃t,u=Value.int i t from r);subst e;exact Cy P w i t
 | inr x=>obtain⟨t,e⟩:=(show ∃t,u=Value.str x t from r);subst e;exact Cw P w x t
theorem yW{P:Program}{w:World}:∀{ks:List Key} {us:List Value},Vals (ks.map kV) us→ItemsAre (gU P w) ks us
 | [],_,r=>by rw[List.map_nil]at r;cases r;exact .nil
 | k::ks,_,r=>by
  rw[List.map_cons]at r
  cases r with
  | cons h t=>exact .cons (CK h) (yW t)
abbrev KT(H:Hp):List (List Key×V)→List (List Key×Addr×Value)→Prop:=Paired fun p q=>p.1=q.1∧H q.2.1=some (.tup (p.1.map kV))∧RelV p.2 q.2.2
theorem KT.val{H:Hp}{kvs:List (List Key×V)}{xs:List (List Key×Addr×Value)}(r:KT H kvs xs)(k:List Key):qu (rD kvs k) ((atKey xs k).map (·.2)):=by
 induction r with
 | nil=>exact True.intro
 | @cons p q ps qs h t ih=>
  obtain⟨h1,_,h2⟩:=h
  by_cases e:p.1=k
  ·have e':q.1=k:=h1.symm.trans e
   have b:atKey (q::qs) k=some q.2:=by simp[atKey,List.find?_cons,e']
   rw[sW e,b];exact h2
  ·have e':¬q.1=k:=fun z=>e (h1.trans z)
   have b:atKey (q::qs) k=atKey qs k:=by simp[atKey,List.find?_cons,e']
   rw[sX e,b];exact ih
theorem KT.repl{H:Hp}{kvs:List (List Key×V)}{xs:List (List Key×Addr×Value)}(r:KT H kvs xs)(k:List Key){y:V}{u:Value}(ry:RelV y u):
  KT H (kvs.map fun kv=>if kv.1=k then(kv.1,y)else kv) (xs.map (putAt k u)):=by
 induction r with
 | nil=>exact .nil
 | @cons p q ps qs h t ih=>
  rw[List.map_cons,List.map_cons]
  refine .cons ?_ ih
  obtain⟨h1,h2,h3⟩:=h
  unfold putAt
  by_cases e:p.1=k
  ·rw[if_pos e,if_pos (h1.symm.trans e)];exact⟨h1,h2,ry⟩
  ·rw[if_neg e,if_neg (fun z=>e (h1.trans z))];exact⟨h1,h2,h3⟩
theorem KT.put{H:Hp}{kvs:List (List Key×V)}{xs:List (List Key×Addr×Value)}(r:KT H kvs xs)(k:List Key){b:Addr}{y:V}{u:Value}(hb:H b=some (.tup (k.map kV)))(ry:RelV y u):
  KT H (putK kvs k y) (storedH xs k b u):=by
 have e:(kvs.any fun kv=>decide (kv.1=k))=(atKey xs k).isSome:=by
  rw[Bx,(r.val k).uM,Option.isSome_map]
 unfold putK storedH
 rw[e]
 by_cases q:(atKey xs k).isSome=true
 ·rw[if_pos q,if_pos q];exact r.repl k ry
 ·rw[if_neg q,if_neg q];exact Paired.snoc r ⟨rfl,hb,ry⟩
theorem KT.keeps{H H':Hp}{kvs:List (List Key×V)}{xs:List (List Key×Addr×Value)}(r:KT H kvs xs)(ht:∀b ys,H b=some (.tup ys)→H' b=some (.tup ys)):KT H' kvs xs:=
 Paired.Te r fun _ _ z=>⟨z.1,ht _ _ z.2.1,z.2.2⟩
section
variable{P:Program}{w:World}{H:Hp}{h:Heap}{a:Addr}
theorem Qw{u:HO}(ok:oY P w H h)(e:Rd H a u):d8 P w H h a u:=e.ok ok
theorem yc{kvs:List (Key×V)}(ok:oY P w H h)(e:Rd H a (.dK kvs)):kvs.length≤sizeLine∧(a==sysModules)=false∧∃vs,KV kvs vs∧h.DictOf (gU P w) a vs:=
 show d8 P w H h a (.dK kvs)from Qw ok e
theorem QL{kvs:List (Key×V)}(ok:oY P w H h)(e:H a=some (.dK kvs)):kvs.length≤sizeLine∧(a==sysModules)=false∧∃vs,KV kvs vs∧h.DictOf (gU P w) a vs:=yc ok (.inl e)
theorem xT{ks:List Key}(ok:oY P w H h)(e:H a=some (.tup (ks.map kV))):(tupleKind (gU P w)).is h ks a:=by
 obtain⟨_,its,r,o,h1,h2,n,h3⟩:=(show d8 P w H h a (.tup (ks.map kV))from ok a _ e)
 exact⟨o,its.toArray,n,h1,h2,h3,by simpa using yW r⟩
theorem zb{kvs:List (List Key×V)}(ok:oY P w H h)(e:Rd H a (.dT kvs)):kvs.length≤sizeLine∧(a==sysModules)=false∧
  ∃xs,KT H kvs xs∧h.DictOfH (tupleKind (gU P w)) a xs:=by
 obtain⟨z,y,xs,r,o,es,ep,h1,h2,h3,h4,h5⟩:=(show d8 P w H h a (.dT kvs)from Qw ok e)
 refine⟨z,y,xs,r,o,es,ep,h1,h2,h3,h4,fun x hx=> ?_,h5⟩
 have all:∀{l:List (List Key×V)} {m:List (List Key×Addr×Value)},KT H l m→∀x∈m,(tupleKind (gU P w)).is h x.1 x.2.1:=by
  intro l m q
  induction q with
  | nil=>intro x hx;exact nomatch hx
  | @cons p q ps qs hq t ih=>
   intro x hx
   rcases List.mem_cons.mp hx with e | hx
   ·subst e
    exact xT ok (by rw[←hq.1];exact hq.2.1)
   ·exact ih x hx
 exact all r x hx
theorem QJ{kvs:List (List Key×V)}(ok:oY P w H h)(e:H a=some (.dT kvs)):kvs.length≤sizeLine∧(a==sysModules)=false∧
  ∃xs,KT H kvs xs∧h.DictOfH (tupleKind (gU P w)) a xs:=zb ok (.inl e)
end
def uZ(H:Hp)(a:Addr)(y:V)(r:Option V):Prop:=
 (∃kvs k,Rd H a (.dK kvs)∧y=kV k∧r=rD kvs k)∨∃kvs k b,Rd H a (.dT kvs)∧y= .ref b∧H b=some (.tup (k.map kV))∧r=rD kvs k
def Bu(H:Hp)(a:Addr)(y v:V)(H':Hp):Prop:=
 (∃kvs k,H a=some (.dK kvs)∧y=kV k∧kvs.length<sizeLine∧H'=upd H a (.dK (putK kvs k v)))∨
 ∃kvs k b,H a=some (.dT kvs)∧y= .ref b∧H b=some (.tup (k.map kV))∧kvs.length<sizeLine∧H'=upd H a (.dT (putK kvs k v))
theorem uZ.k{H:Hp}{a:Addr}{kvs:List (Key×V)}{k:Key}(e:H a=some (.dK kvs)):uZ H a (kV k) (rD kvs k):= .inl ⟨kvs,k,.inl e,rfl,rfl⟩
theorem uZ.t{H:Hp}{a b:Addr}{kvs:List (List Key×V)}{k:List Key}(e:H a=some (.dT kvs))(eb:H b=some (.tup (k.map kV))):uZ H a (.ref b) (rD kvs k):= .inr ⟨kvs,k,b,.inl e,rfl,eb,rfl⟩
theorem Bu.k{H:Hp}{a:Addr}{kvs:List (Key×V)}{k:Key}{v:V}(e:H a=some (.dK kvs))(hl:kvs.length<sizeLine):Bu H a (kV k) v (upd H a (.dK (putK kvs k v))):= .inl ⟨kvs,k,e,rfl,hl,rfl⟩
theorem Bu.t{H:Hp}{a b:Addr}{kvs:List (List Key×V)}{k:List Key}{v:V}(e:H a=some (.dT kvs))(eb:H b=some (.tup (k.map kV)))(hl:kvs.length<sizeLine):
  Bu H a (.ref b) v (upd H a (.dT (putK kvs k v))):= .inr ⟨kvs,k,b,e,rfl,eb,hl,rfl⟩
section
variable{X:Cx}{pins:List (Addr×Obj)}{σ:St}{H:Hp}{s:Shared}{a:Addr}{y v:V}{u r:Value}{o:Option V}{A:Around}{E:Value→Shared→Prop}
theorem Inv.big(I:Inv X pins σ H s):sysModules<s.heap.objs.size:=by
 have h:mainGlobals<s.heap.objs.size:=(I.mod.glob.keeps I.bk).lt
 exact Nat.lt_trans (by decide) h
theorem Io{Q:Value→Shared→Prop}(hu:A.units+1<cLine)(I:Inv X pins σ H s)(g:uZ H a y (some v))(ry:RelV y u)(h:∀w' s',Inv X pins σ H s'→RelV v w'→Q w' s'):
  wpAny (model X.prog X.w) A (getItem (.ref a) u) Q E s:=by
 rcases g with⟨kvs,k,e,ey,l⟩ | ⟨kvs,k,b,e,ey,eb,l⟩
 ·subst ey
  obtain⟨z,hd,vs,rel,dd⟩:=yc I.hok e
  obtain⟨w',hw,rw'⟩:=qu.some_of (v:=v) (o:=valueAt vs k) (by rw[l];exact rel.val k)
  exact wpAny_getItem_of (CK ry) dd.mapOf hw (h w' _ (I.tok _) rw')
 ·subst ey
  cases(show u=Value.ref b from ry)
  obtain⟨z,hd,xs,rel,dd⟩:=zb I.hok e
  obtain⟨w',hw,rw'⟩:=qu.some_of (v:=v) (o:=(atKey xs k).map (·.2)) (by rw[l];exact rel.val k)
  obtain⟨p,hp,hp2⟩:=Option.map_eq_some_iff.mp hw
  refine wpAny_getItem_heap (tupleKind_room_in1 hu) (xT I.hok eb) dd hp ?_
  rw[hp2]
  exact h w' _ (I.tok _) rw'
theorem ade{Q:Value→Shared→Prop}(hu:A.units+1<cLine)(I:Inv X pins σ H s)(g:uZ H a y o)(ry:RelV y u)(h:∀s',Inv X pins σ H s'→Q (.bool o.isSome) s'):
  wpAny (model X.prog X.w) A (compareOp .In u (.ref a)) Q E s:=by
 rcases g with⟨kvs,k,e,ey,l⟩ | ⟨kvs,k,b,e,ey,eb,l⟩
 ·subst ey
  obtain⟨z,hd,vs,rel,dd⟩:=yc I.hok e
  refine wpAny_in_of (CK ry) hd dd.mapOf ?_
  rw[←(rel.val k).uM,←l]
  exact h _ (I.tok _)
 ·subst ey
  cases(show u=Value.ref b from ry)
  obtain⟨z,hd,xs,rel,dd⟩:=zb I.hok e
  refine wpAny_in_heap (tupleKind_room_in1 hu) (xT I.hok eb) hd dd ?_
  have q:=(rel.val k).uM
  rw[Option.isSome_map]at q
  rw[←q,←l]
  exact h _ (I.tok _)
theorem Bc{h':Heap}{t':Nat}{ob:HO}(I:Inv X pins σ H s)(mu:ZL (H a))(hs:Heap.SameBut a s.heap h')(he:∃q,h'.get? a=some q)(new:d8 X.prog X.w (upd H a ob) h' a ob):
  Inv X pins σ (upd H a ob) {s with heap:=h',toks:=t'}:=
 I.write (x:=a) (e:=a) mu (.inl rfl) (fun b q hb z=>(hs.2 b hb).trans z) he new
theorem Uj{P:Program}{w:World}{H':Hp}{h':Heap}{kvs:List (Key×V)}{vs:List (Key×Value)}(z:kvs.length≤sizeLine)(hd:(a==sysModules)=false)(rel:KV kvs vs)(dd:h'.DictOf (gU P w) a vs):
  d8 P w H' h' a (.dK kvs):=⟨z,hd,vs,rel,dd⟩
theorem zg{H':Hp}{Q:Unit→Shared→Prop}(hu:A.units+1<cLine)(I:Inv X pins σ H s)(g:Bu H a y v H')(ry:RelV y u)(rv:RelV v r)(h:∀s',Inv X pins σ H' s'→Q () s'):
  wpAny (model X.prog X.w) A (setItem (.ref a) u r) Q E s:=by
 rcases g with⟨kvs,k,e,ey,l,eH⟩ | ⟨kvs,k,b,e,ey,eb,l,eH⟩
 ·subst ey eH
  obtain⟨z,hd,vs,rel,dd⟩:=QL I.hok e
  have hz:vs.length≤sizeLine:=by rw[←rel.length];exact z
  have hl:(putK kvs k v).length≤sizeLine:=by have:=vq kvs k v;omega
  refine wpAny_setItem_pairs (hsz:=hz) (CK ry) dd fun h' dd' hs=>h _ ?_
  have he:∃q,h'.get? a=some q:=let⟨q,_,_,hq,_⟩:=dd';⟨q,hq⟩
  exact Bc I (by rw[e];exact True.intro) hs he (Uj hl hd (rel.put k rv) dd')
 ·subst ey eH
  cases(show u=Value.ref b from ry)
  obtain⟨z,hd,xs,rel,dd⟩:=QJ I.hok e
  have hz:xs.length≤sizeLine:=by rw[←Paired.length rel];exact z
  have hl:(putK kvs k v).length≤sizeLine:=by have:=vq kvs k v;omega
  refine wpAny_setItem_heap (hsz:=hz) (tupleKind_room_in1 hu) (xT I.hok eb) dd fun h' dd' hs=>h _ ?_
  obtain⟨q,es,ep,hq,h2,h3,h4,_,h5⟩:=dd'
  refine Bc I (by rw[e];exact True.intro) hs ⟨q,hq⟩ ⟨hl,hd,_,(rel.put k eb rv).keeps fun c ys ec=> ?_,q,es,ep,hq,h2,h3,h4,h5⟩
  rw[aJ (W9 ec e (fun z=>nomatch z))]
  exact ec
end
section
variable{X:Cx}{pins:List (Addr×Obj)}{σ:St}{H:Hp}{s:Shared}{a:Addr}{kvs:List (Key×V)}{k:Key}{u:Value}{A:Around}{E:Value→Shared→Prop}
theorem Y0{Q:Value→Shared→Prop}(I:Inv X pins σ H s)(e:Rd H a (.dK kvs))(h:∀t s',Inv X pins σ H s'→Q (.int kvs.length t) s'):wpAny (model X.prog X.w) A (call (.builtin "len") [.ref a]) Q E s:=by
 obtain⟨z,hd,vs,rel,dd⟩:=yc I.hok e
 refine call_len_dict hd dd (by rw[←rel.length];rw[sizeLine_eq]at z;omega) ?_
 rw[←rel.length]
 exact h _ _ (I.tok _)
end
theorem C_{X:Cx}{pins:List (Addr×Obj)}{σ:St}{H:Hp}{s:Shared}{a:Addr}{y:V}{o:Option V}(I:Inv X pins σ H s)(g:uZ H a y o):s.TypeIs (.ref a) "dict" := by
 rcases g with⟨kvs,k,e,_,_⟩ | ⟨kvs,k,b,e,_,_,_⟩
 ·obtain⟨_,_,vs,_,dd⟩:=yc I.hok e
  exact dd.typeIs
 ·obtain⟨_,_,xs,_,dd⟩:=zb I.hok e
  exact dd.typeIs
theorem Lh{P:Program}{w:World}{H:Hp}(h:Heap)(hb:sysModules<h.objs.size):d8 P w H (h.push {cls:= .type "dict",data:= .dict #[]}) h.objs.size (.dK []):=
 ⟨Nat.zero_le _,beq_eq_false_iff_ne.mpr (Ne.symm (Nat.ne_of_lt hb)),[],.nil,Heap.DictOf.new h⟩
def Q9:TE:=fun _ H Q=>∀p,H p=none→Q (.ref p) (upd H p (.dK []))
section
variable{X:Cx}{pos:Pos}
theorem J8:PE X (.Dict [] [] pos) Q9:=fun pins s σ H Q I h=>
 wpAny_Dict_empty ⟨.ref s.heap.objs.size,_,I.laid (a:=s.heap.objs.size) (o:= .dK []) (t':=s.toks) (fun _ _ q=>Heap.get?_push_of_some _ q) (Nat.le_refl _) (Lh s.heap I.big),rfl,h _ (I.hok.fresh (Nat.le_refl _))⟩
end
structure M1(X:Cx)(o:Expr)(m:Str)(apos:Pos)(e:Expr)(cpos:Pos):Prop where
 base:attributeBase o m X.env (eval o X.env)=eval o X.env
 few:((backTo cpos (starEach [e] X.env)).all (fun x=> !x.1)&&(backToKw cpos (keywordEach [] X.env)).all (fun x=>x.1.isSome)
  && decide (([e]:List Expr).length+([]:List Keyword).length+(if([]:List Keyword).isEmpty then 0 else 1)<30))=true
 line:(apos.endLine==cpos.line)=true
 trees:backTo cpos (starEach [e] X.env)=[(false,eval e X.env)]
structure M2(X:Cx)(o:Expr)(m:Str)(apos:Pos)(e f:Expr)(cpos:Pos):Prop where
 base:attributeBase o m X.env (eval o X.env)=eval o X.env
 few:((backTo cpos (starEach [e,f] X.env)).all (fun x=> !x.1)&&(backToKw cpos (keywordEach [] X.env)).all (fun x=>x.1.isSome)
  && decide (([e,f]:List Expr).length+([]:List Keyword).length+(if([]:List Keyword).isEmpty then 0 else 1)<30))=true
 line:(apos.endLine==cpos.line)=true
 trees:backTo cpos (starEach [e,f] X.env)=[(false,eval e X.env),(false,eval f X.env)]
def IsD(H:Hp)(a:Addr):Prop:=(∃kvs,Rd H a (.dK kvs))∨∃kvs,Rd H a (.dT kvs)
theorem TX{X:Cx}{pins:List (Addr×Obj)}{σ:St}{H:Hp}{s:Shared}{a:Addr}(I:Inv X pins σ H s)(d:IsD H a):
  s.TypeIs (.ref a) "dict" ∧ (∀b,Value.ref a= .ref b→∃ob,s.heap.get? b=some ob∧ob.dict=none)∧(a==sysModules)=false:=by
 rcases d with⟨kvs,e⟩ | ⟨kvs,e⟩
 ·obtain⟨_,hd,vs,_,dd⟩:=yc I.hok e
  refine⟨dd.typeIs,fun b q=> ?_,hd⟩
  cases q
  obtain⟨ob,_,_,h1,h2,_⟩:=dd
  exact⟨ob,h1,h2.2.1⟩
 ·obtain⟨_,hd,xs,_,dd⟩:=zb I.hok e
  refine⟨dd.typeIs,fun b q=> ?_,hd⟩
  cases q
  obtain⟨ob,_,_,h1,h2,_⟩:=dd
  exact⟨ob,h1,h2.2.1⟩
section
variable{X:Cx}{pins:List (Addr×Obj)}{σ:St}{H:Hp}{s:Shared}{a:Addr}{y d:V}{u r:Value}{o:Option V}{A:Around}{E:Value→Shared→Prop}
theorem Uk{Q:Value→Shared→Prop}(hu:A.units+1<cLine)(I:Inv X pins σ H s)(g:uZ H a y o)(ry:RelV y u)(rd:RelV d r)(h:∀w' s',Inv X pins σ H s'→RelV (o.getD d) w'→Q w' s'):
  wpAny (model X.prog X.w) A (call (.builtin "dict.get") [.ref a,u,r]) Q E s:=by
 rcases g with⟨kvs,k,e,ey,l⟩ | ⟨kvs,k,b,e,ey,eb,l⟩
 ·subst ey
  obtain⟨z,hd,vs,rel,dd⟩:=yc I.hok e
  refine call_meetsIn PySem.F.slot_dict_get dd.typeIs PySem.F.entry_dict_get (PySem.F.args_dict_get_3 _ _ _) (meets_dict_get_default (gU X.prog X.w) a (CK ry) hd r) ⟨_,dd.mapOf,h _ _ (I.tok _) ?_⟩
  rw[l]
  exact(rel.val k).getD rd
 ·subst ey
  cases(show u=Value.ref b from ry)
  obtain⟨z,hd,xs,rel,dd⟩:=zb I.hok e
  refine call_meetsIn PySem.F.slot_dict_get dd.typeIs PySem.F.entry_dict_get (PySem.F.args_dict_get_3 _ _ _) (meetsH_dict_get_default (tupleKind (gU X.prog X.w)) a b hd r) ⟨tupleKind_room_in1 hu,k,xs,xT I.hok eb,dd,h _ _ (I.tok _) ?_⟩
  rw[l]
  exact(rel.val k).getD rd
end
section
variable{X:Cx}
theorem Iz:mD X (.builtin "len") (fun xs H Q=>∃a kvs,xs=[V.ref a]∧H a=some (.dK kvs)∧Q (.int kvs.length) H):=by
 intro pins s σ H xs us Q I r h
 obtain⟨a,kvs,rfl,ha,q⟩:=h
 obtain⟨u,rfl,ru⟩:=vals1 r
 cases ru
 exact Y0 I (.inl ha) fun t s' I'=>⟨.int kvs.length,H,I',⟨t,rfl⟩,q⟩
end
structure Qe(K:Frag)(C:Addr)(name:Str):Prop where
 cd:∃cd,PySem.W.clsIn K C=some cd∧cd.hasDict=true∧cd.mro.isEmpty=false∧cd.mro.contains (.type "object")=true∧cd.mro.contains (.type "BaseException")=true∧(∀self,refuseLoop self "__setattr__" cd.mro=pure ())
 sa:findIn K (.ref C) "__setattr__" = some (some (.builtin "object.__setattr__"))
 ga:findIn K (.ref C) "__getattribute__" = some (some (.builtin "BaseException.__getattribute__"))
 no:findIn K (.ref C) name=some none
end L2
namespace L2
open PySem
structure Exc(h:Heap)(e C:Addr)(dx T:Option Addr)(fl:Value):Prop where
 at_:∃vs,h.get? e=some {cls:= .ref C,dict:=dx,data:= .fields vs}∧(match T with
  | none=>vs[1]? = some .none
  | some T=>vs[1]? = some (.ref T)∧T≠e∧∃oT ts,h.get? T=some oT∧oT.data= .fields ts∧ts[3]? = some fl)
def kh(fs:List Addr)(e:Addr)(T:Option Addr)(h h':Heap):Prop:=
 (h.objs.size≤h'.objs.size∧∀b o,h.get? b=some o→∃o',h'.get? b=some o')∧(∀b o,b≠e→some b≠T→b∉fs→h.get? b=some o→h'.get? b=some o)∧(∀b o,b≠e→some b≠T→h.get? b=some o→∃sl,h'.get? b=some {o with slots:=sl})
theorem kh.refl{fs:List Addr}{e:Addr}{T:Option Addr}{h:Heap}:kh fs e T h h:=⟨⟨Nat.le_refl _,fun b o q=>⟨o,q⟩⟩,fun _ _ _ _ _ x=>x,fun _ o _ _ x=>⟨o.slots,x⟩⟩
theorem kh.trans{fs:List Addr}{e:Addr}{T T':Option Addr}{h h1 h2:Heap}(x:kh fs e T h h1)(y:kh fs e T' h1 h2)(hT:T'=T∨∃t,T'=some t∧h.objs.size≤t):kh fs e T h h2:=by
 have ne:∀b o,some b≠T→h.get? b=some o→some b≠T':=fun b o n q z=>by
  rcases hT with r | ⟨t,r,q2⟩
  ·exact n (z.trans r)
  ·rw[r]at z;cases z
   exact absurd (Nat.lt_of_lt_of_le (Heap.lt_size q) q2) (Nat.lt_irrefl _)
 refine⟨⟨Nat.le_trans x.1.1 y.1.1,fun b o q=>let⟨o1,q1⟩:=x.1.2 b o q;y.1.2 b o1 q1⟩,fun b o n1 n2 n3 q=>y.2.1 b o n1 (ne b o n2 q) n3 (x.2.1 b o n1 n2 n3 q),fun b o n1 n2 q=> ?_⟩
 obtain⟨sl,e1⟩:=x.2.2 b o n1 n2 q
 obtain⟨sl2,e2⟩:=y.2.2 b _ n1 (ne b o n2 q) e1
 exact⟨sl2,e2⟩
section
variable{M:Model}{A:Around}{E:Value→Shared→Prop}{s:Shared}
theorem Fv{base:Heap}{env:Env}{outer:List Env}{L e C:Addr}{dx:Option Addr}{vs:Array Value}{head:Value}{hadNext:Bool}{Q:Unit→Shared→Prop}
  (hfr:A.frames=some (env::outer)) (hl:s.heap.FunFrames base (env::outer)) (hf:env.frame=some L)
  (he:s.heap.get? e=some {cls:= .ref C,dict:=dx,data:= .fields vs}) (hsz:1<vs.size)
  (h:∀h' T,s.heap.objs.size≤T→kh ((env::outer).filterMap (·.frame)) e (some T) s.heap h'→Exc h' e C dx (some T) (rawInt L)→Q () {s with heap:=h'}):
  wpAny M A (do let a ←frameOf env;let pl ←entryPlaceOf L hadNext;let b ←EntryCells.newEntry head a .none (rawInt L) .none pl;setField (.ref e) 1 b) Q E s:=by
 have hene:e∉(env::outer).filterMap (·.frame):=fun hm=>by
  obtain⟨_,o,ho,hnf⟩:=hl.mem hm
  rw[he]at ho;injection ho with ho;subst ho;exact hnf vs rfl
 refine wpAny_bind (wpAny_frameOf_fun hfr hl hf fun h₁ hs₁=> ?_)
 refine wpAny_bind (wpAny_entryPlaceOf fun pl hpl=> ?_)
 unfold EntryCells.newEntry newFields
 refine wpAny_bind (wpAny_newObj_type ?_ (hpl.sizeOk5 _ _ _ _ _))
 have he₁:h₁.get? e=some {cls:= .ref C,dict:=dx,data:= .fields vs}:=(hs₁.2.1 e hene).trans he
 have he₂:=Heap.get?_push_of_some (h:=h₁) {cls:= .type "traceback",dict:=none,data:= .fields ([head,.ref L,.none,rawInt L,.none]++(if pl.isEmpty then List.replicate 6 Value.none else pl)).toArray} he₁
 refine wpAny_setField he₂ rfl hsz (h _ h₁.objs.size (by rw[hs₁.1];exact Nat.le_refl _) ?_ ?_)
 ·refine⟨⟨?_,fun b o q=> ?_⟩,fun b o n1 n2 n3 q=> ?_,fun b o n1 n2 q=> ?_⟩
  ·rw[Heap.size_after_update,Heap.size_push,hs₁.1];omega
  ·by_cases n1:b=e
   ·subst n1
    exact⟨_,Heap.get?_update_self _ he₂ (Obj.isFreed_of_fields (Obj.data_mapFields rfl _))⟩
   ·obtain⟨sl,q1⟩:=hs₁.2.2 b o q
    exact⟨_,(Heap.get?_update_other _ _ (Ne.symm n1)).trans (Heap.get?_push_of_some _ q1)⟩
  ·rw[Heap.get?_update_other _ _ (Ne.symm n1)]
   exact Heap.get?_push_of_some _ ((hs₁.2.1 b n3).trans q)
  ·obtain⟨sl,q1⟩:=hs₁.2.2 b o q
   refine⟨sl,?_⟩
   rw[Heap.get?_update_other _ _ (Ne.symm n1)]
   exact Heap.get?_push_of_some _ q1
 ·have hTe:h₁.objs.size≠e:=Nat.ne_of_gt (Heap.lt_size he₁)
  have hd₃:=Obj.data_mapFields (o:={cls:= .ref C,dict:=dx,data:= .fields vs}) rfl (·.setIfInBounds 1 (Value.ref h₁.objs.size))
  have he₃:=Heap.get?_update_self (Obj.mapFields (·.setIfInBounds 1 (Value.ref h₁.objs.size))) he₂ (Obj.isFreed_of_fields hd₃)
  have hT₃:=(Heap.get?_update_other (h₁.push {cls:= .type "traceback",dict:=none,data:= .fields ([head,.ref L,.none,rawInt L,.none]++(if pl.isEmpty then List.replicate 6 Value.none else pl)).toArray})
   (Obj.mapFields (·.setIfInBounds 1 (Value.ref h₁.objs.size))) (Ne.symm hTe)).trans (Heap.get?_push_size h₁ rfl)
  refine⟨⟨_,he₃,by simp[hsz],hTe,_,_,hT₃,rfl,by first | (simp;done) | (rcases hpl with rfl | ⟨_,_,_,_,_,_,_,rfl⟩<;>simp)⟩⟩
theorem kh.upd{fs:List Addr}{e T:Addr}{h:Heap}{f:Obj→Obj}{oT:Obj}(ho:h.get? T=some oT)(hfr:(f oT).isFreed=false):kh fs e (some T) h (h.update T f):=by
 have k:∀b o,some b≠some T→h.get? b=some o→(h.update T f).get? b=some o:=fun b o n q=>by
  rw[Heap.get?_update_other _ _ (fun z=>n (by rw[z]))];exact q
 refine⟨⟨by rw[Heap.size_after_update];exact Nat.le_refl _,fun b o q=> ?_⟩,fun b o _ n2 _ q=>k b o n2 q,fun b o _ n2 q=>⟨o.slots,k b o n2 q⟩⟩
 by_cases z:b=T
 ·subst z;exact⟨_,Heap.get?_update_self _ ho hfr⟩
 ·exact⟨o,k b o (fun y=>z (Option.some.inj y)) q⟩
theorem Bw{e C:Addr}{dx T:Option Addr}{fl:Value}{fr:Option Addr}{Q:Unit→Shared→Prop}(x:Exc s.heap e C dx T fl)
  (h:∀h',kh [] e T s.heap h'→Exc h' e C dx T (fr.elim .none fun f=>rawInt f)→Q () {s with heap:=h'}):wpAny M A (setFlight (.ref e) fr) Q E s:=by
 obtain⟨vs,he,hT⟩:=x.at_
 unfold setFlight
 cases T with
 | none=>
  refine wpAny_bind (wpAny_field he rfl hT ?_)
  rw[if_neg (by decide)]
  exact wpAny_pure (h s.heap .refl ⟨vs,he,hT⟩)
 | some T=>
  obtain⟨h1,hne,oT,ts,hoT,hd,h3⟩:=hT
  refine wpAny_bind (wpAny_field he rfl h1 ?_)
  rw[if_pos (show(Value.ref T != Value.none)=true from by simp)]
  have hsz3:3<ts.size:=(Array.getElem?_eq_some_iff.mp h3).1
  refine wpAny_setField hoT hd hsz3 (h _ (.upd hoT (Obj.isFreed_of_fields (Obj.data_mapFields hd _))) ⟨vs,?_,h1,hne,_,_,Heap.get?_update_self _ hoT (Obj.isFreed_of_fields (Obj.data_mapFields hd _)),Obj.data_mapFields hd _,by simp[hsz3]⟩)
  rw[Heap.get?_update_other _ _ hne];exact he
theorem Jp{base:Heap}{env:Env}{outer:List Env}{L e C:Addr}{dx T:Option Addr}{fl:Value}{Q:Unit→Shared→Prop}
  (hfr:A.frames=some (env::outer)) (hl:s.heap.FunFrames base (env::outer)) (hf:env.frame=some L) (x:Exc s.heap e C dx T fl) (hfl:fl=fl∨fl=rawInt L)
  (h:∀h' T',(T=some T'∨s.heap.objs.size≤T')→kh ((env::outer).filterMap (·.frame)) e T s.heap h'→Exc h' e C dx (some T') (rawInt L)→Q () {s with heap:=h'}):wpAny M A (noteFrame (.ref e) env) Q E s:=by
 obtain⟨vs,he,hT⟩:=x.at_
 unfold noteFrame
 simp only[hf]
 cases T with
 | none=>
  refine wpAny_bind (wpAny_field he rfl hT ?_)
  rw[if_neg (by decide)]
  refine Fv hfr hl hf he (Array.getElem?_eq_some_iff.mp hT).1 fun h' T hs k x'=>h h' T (.inr hs) ?_ x'
  exact⟨k.1,fun b o n1 _ n3 q=>k.2.1 b o n1 (fun z=>by cases z;exact absurd (Nat.lt_of_lt_of_le (Heap.lt_size q) hs) (Nat.lt_irrefl _)) n3 q,fun b o n1 _ q=>k.2.2 b o n1 (fun z=>by cases z;exact absurd (Nat.lt_of_lt_of_le (Heap.lt_size q) hs) (Nat.lt_irrefl _)) q⟩
 | some T=>
  obtain⟨h1,hne,oT,ts,hoT,hd,h3⟩:=hT
  refine wpAny_bind (wpAny_field he rfl h1 ?_)
  rw[if_pos (show(Value.ref T != Value.none)=true from by simp)]
  refine wpAny_bind (wpAny_field hoT hd h3 ?_)
  by_cases hq:fl=rawInt L
  ·subst hq
   rw[if_pos (show(rawInt L==rawInt L)=true from by simp)]
   exact wpAny_pure (h s.heap T (.inl rfl) .refl x)
  ·rw[if_neg (show ¬((fl==rawInt L)=true)from by simpa using hq)]
   have hsz3:3<ts.size:=(Array.getElem?_eq_some_iff.mp h3).1
   refine wpAny_bind (wpAny_setField hoT hd hsz3 ?_)
   have other:∀b,b≠T→(s.heap.update T (Obj.mapFields (·.setIfInBounds 3 Value.none))).get? b=s.heap.get? b:=fun b hb=>Heap.get?_update_other _ _ (Ne.symm hb)
   have noRecord:∀b o,s.heap.get? b=some o→(∀vs,o.data≠ .fields vs)→b≠T:=fun b o hb hnf q=>by
    rw[q,hoT]at hb;injection hb with hb;subst hb;exact hnf ts hd
   refine Fv hfr (hl.of_keeps fun b o hb hnf=>⟨o,(other b (noRecord b o hb hnf)).trans hb,rfl⟩) hf ((other e (Ne.symm hne)).trans he) (Array.getElem?_eq_some_iff.mp h1).1 fun h' T' hs k x'=> ?_
   rw[Heap.size_after_update]at hs
   exact h h' T' (.inr hs) ((kh.upd hoT (Obj.isFreed_of_fields (Obj.data_mapFields hd _))).trans k (.inr ⟨T',rfl,hs⟩)) x'
theorem Ft{base:Heap}{env:Env}{outer:List Env}{L e C:Addr}{dx T:Option Addr}{fl:Value}{Q:Unit→Shared→Prop}
  (hfr:A.frames=some (env::outer)) (hl:s.heap.FunFrames base (env::outer)) (hf:env.frame=some L) (x:Exc s.heap e C dx T fl) (hfl:fl=fl∨fl=rawInt L)
  (h:∀h' T',(T=some T'∨s.heap.objs.size≤T')→kh ((env::outer).filterMap (·.frame)) e T s.heap h'→Exc h' e C dx (some T') .none→Q () {s with heap:=h'}):wpAny M A (leaving env (.ref e)) Q E s:=by
 unfold leaving
 refine wpAny_bind (Jp hfr hl hf x hfl fun h' T' hT k x'=> ?_)
 refine Bw (fr:=none) (s:={s with heap:=h'}) x' fun h2 k2 x2=>h h2 T' hT (k.trans (T':=some T') ⟨k2.1,fun b o n1 n2 _ q=>k2.2.1 b o n1 n2 (by simp) q,k2.2.2⟩ ?_) x2
 rcases hT with r | r
 ·exact .inl r.symm
 ·exact .inr ⟨T',rfl,r⟩
end
end L2
namespace L2
open PySem PySem.Spec PyProof.Rows
def drop(H:Hp)(a:Addr):Hp:=fun b=>if b=a then none else H b
def fX(P:Program)(w:World):Fp:=fun outer H s E ev s'=>∃e C dx T H',ev=Value.ref e∧s'.os=s.os∧AllBare s'.gens∧Un (frs outer) [] H H' s.heap s'.heap∧oY P w H' s'.heap∧Exc s'.heap e C (some dx) (some T) .none∧
 s.heap.objs.size≤e∧s.heap.objs.size≤T∧H' e=none∧H' T=none∧E (.ref C) (some dx) H'
abbrev aU:=Addr→Addr→St→Hp→Prop
structure Dj(X:Cx)(pins:List (Addr×Obj))(H:Hp)(a:Addr):Prop where
 no:H a=none
 new:X.s₀.heap.objs.size≤a
 pin:∀p∈X.pn++pins,p.1≠a
def gw(X:Cx)(W:aU):Value→Shared→Prop:=fun ev s=>∃e C dx T fl pins σ H,ev=Value.ref e∧Inv X pins σ H s∧Exc s.heap e C (some dx) T fl∧(fl=fl∨fl=rawInt X.env.locals)∧Dj X pins H e∧(∀t,T=some t→Dj X pins H t)∧W C dx σ H
section
variable{X:Cx}{pins:List (Addr×Obj)}{σ:St}{H:Hp}{s:Shared}
theorem gw.Gf{W:aU}{E:XK}{ev:Value}{s':Shared}(I:Inv X pins σ H s)(h:fX X.prog X.w X.stack H s E ev s')(hE:∀C dx H',E (.ref C) (some dx) H'→W C dx σ H'):gw X W ev s':=by
 obtain⟨e,C,dx,T,H',rfl,os,bare,un,hok,x,ne,nT,fe,fT,hq⟩:=h
 have old:∀a,s.heap.objs.size≤a→∀p∈X.pn++pins,p.1≠a:=fun a ha p hp z=>by
  have:=Heap.lt_size (I.pin p hp).1
  rw[z]at this
  exact absurd (Nat.lt_of_lt_of_le this ha) (Nat.lt_irrefl _)
 exact⟨e,C,dx,some T,.none,pins,σ,H',rfl,I.call' os un hok bare (fun b z=>absurd z (by simp)),x,.inl rfl,⟨fe,Nat.le_trans I.sz ne,old e ne⟩,fun t z=>by cases z;exact⟨fT,Nat.le_trans I.sz nT,old T nT⟩,hE C dx H' hq⟩
theorem uN{P:Program}{w:World}{fs:List Addr}{e:Addr}{T:Option Addr}{h h':Heap}(ok:oY P w H h)(k:kh fs e T h h')(he:H e=none)(hT:∀t,T=some t→H t=none)(hf:∀b∈fs,H b=none):oY P w H h':=by
 have kp:∀b u o,H b=some o→h.get? b=some u→h'.get? b=some u:=fun b u o q z=>
  k.2.1 b u (fun y=>by subst y;rw[he]at q;cases q) (fun y=>by rw[hT b y.symm]at q;cases q) (fun y=>by rw[hf b y]at q;cases q) z
 intro b o q
 refine(ok b o q).stay (fun b' u hb z=> ?_) (fun _ z=>z) fun _ _ z=>z
 rcases hb with rfl | hb
 ·exact kp _ u o q z
 ·exact kp _ u _ hb z
end
theorem gw.leave{P:Program}{w:World}{K:Frag}{mg:Str→Option Value}{base:Heap}{N:List Str}{qual:Str}{scope:Scope}{f:Addr}{cd:Value}{A:Around}{outer:List Env}{s:Shared}{H:Hp}{E:XK}{W:aU}{ev:Value}{s':Shared}
  (h:gw (kJ (fX P w) P w K mg base N qual scope f cd A outer s H E) W ev s') (hE:∀C dx σ H',W C dx σ H'→E (.ref C) (some dx) H'):
  (kJ (fX P w) P w K mg base N qual scope f cd A outer s H E).xe ev s':=by
 obtain⟨e,C,dx,T,fl,pins,σ,H',rfl,I,x,hfl,fe,fT,hW⟩:=h
 show wpAny _ _ (leaving _ (.ref e)) _ _ s'
 refine Ft I.ok.frames I.stack rfl x hfl fun h2 T' hT k x'=> ?_
 have Yd:∀t,T=some t→H' t=none:=fun t z=>(fT t z).no
 have nT:s.heap.objs.size≤T':=by
  rcases hT with r | r
  ·exact(fT T' r).new
  ·exact Nat.le_trans I.sz r
 have fT':H' T'=none:=by
  rcases hT with r | r
  ·exact Yd T' r
  ·exact I.hok.fresh r
 have ok2:=uN I.hok k fe.no Yd I.tu
 have ne:∀b o,s.heap.get? b=some o→b≠e∧some b≠T:=fun b o q=>⟨fun z=>absurd (Nat.lt_of_lt_of_le (Heap.lt_size q) (z▸fe.new)) (Nat.lt_irrefl _),fun z=>absurd (Nat.lt_of_lt_of_le (Heap.lt_size q) (fT b z.symm).new) (Nat.lt_irrefl _)⟩
 have nL:∀b o,s.heap.get? b=some o→b≠s.heap.objs.size:=fun b o q=>Nat.ne_of_lt (Heap.lt_size q)
 refine⟨e,C,dx,T',H',rfl,I.os,I.bare,⟨fun b o q n hb _=> ?_,fun b o q n hb _=> ?_,fun b o q n _=>I.base.free b o q n (by simp[kJ]),fun b o q _=> ?_,I.base.tups,I.base.oU,I.base.pK⟩,ok2,x',fe.new,nT,fe.no,fT',hE C dx σ H' hW⟩
 ·obtain⟨n1,n2⟩:=ne b o q
  refine k.2.1 b o n1 n2 (fun z=> ?_) (I.base.keep b o q n hb (by simp[kJ]))
  rcases List.mem_cons.mp (I.wK b z)with y | y
  ·exact nL b o q y
  ·exact hb y
 ·obtain⟨n1,n2⟩:=ne b o q
  obtain⟨sl,q1⟩:=I.base.slot b o q n hb (by simp[kJ])
  obtain⟨sl2,q2⟩:=k.2.2 b _ n1 n2 q1
  exact⟨sl2,q2⟩
 ·obtain⟨n1,n2⟩:=ne b o q
  obtain⟨o1,q1⟩:=I.base.there b o q (by simp[kJ])
  obtain⟨sl2,q2⟩:=k.2.2 b _ n1 n2 q1
  exact⟨_,q2⟩
section
variable{X:Cx}{pins:List (Addr×Obj)}{σ:St}{H:Hp}{s:Shared}{e C:Addr}{dx T:Option Addr}{fl:Value}{h':Heap}{W:aU}
theorem Inv.z8{a:Addr}{o:Obj}{vs:Array Value}(I:Inv X pins σ H s)(h:s.heap.get? a=some o)(d:o.data= .fields vs):a≠X.env.locals∧∀x c,X.env.cells.lookup x=some c→c≠a:=by
 refine⟨fun z=> ?_,fun x c hc z=> ?_⟩
 ·obtain⟨m,⟨o',es,ep,ho,hd,_⟩,_⟩:=I.loc
  subst z
  rw[ho]at h;cases h;rw[hd]at d;cases d
 ·obtain⟨v,o',ho,hd⟩:=I.cell x c hc
  subst z
  rw[ho]at h;cases h;rw[hd]at d;cases d
theorem Inv.Qj(I:Inv X pins σ H s)(x:Exc s.heap e C dx T fl)(fe:Dj X pins H e)(fT:∀t,T=some t→Dj X pins H t)(k:kh (frs X.stack) e T s.heap h')(hE:∃o,h'.get? e=some o)(hTt:∀t,T=some t→∃o,h'.get? t=some o):
  Inv X pins σ H {s with heap:=h'}:=by
 obtain⟨vs,he,hT⟩:=x.at_
 have ok2:=uN I.hok k fe.no (fun t z=>(fT t z).no) I.tu
 refine I.call (t':=s.toks) (g':=s.gens) (d':=s.drawn) (ch:=e::T.toList) ⟨fun b o q n hb hc=> ?_,fun b o q n hb hc=> ?_,fun b o q n _=>n,fun b o q hc=> ?_,fun _ _ q=>q,fun _ _ _ q=>q,fun b ps q=>⟨#[],by rw[q];simp⟩⟩ ok2 I.bare fun b hb=> ?_
 ·simp at hc
  exact k.2.1 b o hc.1 (fun z=>hc.2 z.symm) hb q
 ·simp at hc
  exact k.2.2 b o hc.1 (fun z=>hc.2 z.symm) q
 ·simp at hc
  obtain⟨sl,z⟩:=k.2.2 b o hc.1 (fun z=>hc.2 z.symm) q
  exact⟨_,z⟩
 ·simp at hb
  rcases hb with rfl | hb
  ·exact⟨.inr fe.new,(I.z8 he rfl).1,(I.z8 he rfl).2,fe.pin⟩
  ·subst hb
   obtain⟨_,_,oT,ts,hoT,hd,_⟩:=hT
   exact⟨.inr (fT b rfl).new,(I.z8 hoT hd).1,(I.z8 hoT hd).2,(fT b rfl).pin⟩
theorem kh.mono{fs fs':List Addr}{h:Heap}(k:kh fs e T h h')(hs:∀b∈fs,b∈fs'):kh fs' e T h h':=⟨k.1,fun b o n1 n2 n3 q=>k.2.1 b o n1 n2 (fun z=>n3 (hs b z)) q,k.2.2⟩
theorem Exc.here(x:Exc h' e C dx T fl):(∃o,h'.get? e=some o)∧∀t,T=some t→∃o,h'.get? t=some o:=by
 obtain⟨vs,he,hT⟩:=x.at_
 refine⟨⟨_,he⟩,fun t z=> ?_⟩
 subst z
 obtain⟨_,_,oT,_,hoT,_⟩:=hT
 exact⟨oT,hoT⟩
theorem gw.Hz(hst:X.stack=X.env::X.outer)(hf:X.env.frame=some X.env.locals){A:Around}(hA:A.frames=some X.stack):∀ev s',gw X W ev s'→wpAny (model X.prog X.w) A (noteFrame ev X.env) (fun _ s2=>cameBackBy (model X.prog X.w) X.A X.env (gw X W) ev s2) (cameBackBy (model X.prog X.w) X.A X.env (gw X W)) s':=by
 rintro ev s' ⟨e,C,dx,T,fl,pins,σ,H,rfl,I,x,hfl,fe,fT,hW⟩
 have X_:=I.stack
 rw[hst]at X_
 refine Jp (by rw[hA,hst]) X_ hf x hfl fun h1 T1 hT1 k1 x1=> ?_
 have fT1:Dj X pins H T1:=by
  rcases hT1 with r | r
  ·exact fT T1 r
  ·refine⟨I.hok.fresh r,Nat.le_trans I.sz r,fun p hp z=> ?_⟩
   have:=Heap.lt_size (I.pin p hp).1
   rw[z]at this
   exact absurd (Nat.lt_of_lt_of_le this r) (Nat.lt_irrefl _)
 have hTt:∀t,T=some t→∃o,h1.get? t=some o:=fun t z=>by
  obtain⟨o,q⟩:=x.here.2 t z
  exact k1.1.2 t o q
 have I1:=I.Qj x fe fT (k1.mono (by rw[hst];exact fun b z=>z)) x1.here.1 hTt
 unfold cameBackBy
 obtain⟨vs,he,h2,_⟩:=x1.at_
 refine wpAny_bind (wpAny_field he rfl h2 ?_)
 rw[if_neg (by simp)]
 refine Bw (s:={s' with heap:=h1}) x1 fun h2 k2 x2=>⟨e,C,dx,some T1,_,pins,σ,H,rfl,I1.Qj x1 fe (fun t z=>by cases z;exact fT1) (k2.mono (by simp)) x2.here.1 x2.here.2,x2,.inr (by rw[hf];rfl),fe,fun t z=>by cases z;exact fT1,hW⟩
end
def Tk(X:Cx)(W:aU):Prop:=∀ev s,gw X W ev s→X.xe ev s
def EW(W:aU)(σ:St):XK:=fun cv dxo H'=>∃C dx,cv=Value.ref C∧dxo=some dx∧W C dx σ H'
theorem gw.jo{X:Cx}{W W':aU}{ev:Value}{s:Shared}(h:gw (X.wish (gw X W)) W' ev s):gw X W' ev s:=by
 obtain⟨e,C,dx,T,fl,pins,σ,H,ee,I,x,hfl,fe,fT,hW⟩:=h
 exact⟨e,C,dx,T,fl,pins,σ,H,ee,I.jo,x,hfl,⟨fe.no,fe.new,fe.pin⟩,fun t z=>⟨(fT t z).no,(fT t z).new,(fT t z).pin⟩,hW⟩
theorem Tk.wish{X:Cx}{W:aU}:Tk (X.wish (gw X W)) W:=fun _ _ h=>h.jo
section
variable{X:Cx}{k:Nat}{f C:Addr}{fd:FuncData}{ps:List Str}{sp:Sp}{qt:List V}{ds:List Value}{W:aU}{x m:Str}{p pos apos:Pos}{e o:Expr}{es:List Expr}{ta:TE}{t:TA}
theorem z6{pins:List (Addr×Obj)}{σ:St}{H:Hp}{s:Shared}{Q:VK}{us:List Value}{vs:List V}(F:aY X.prog X.w X.K X.mg X.base (fX X.prog X.w) k f fd ps sp)(hr:gF k X.A)(hb:Binds X.K fd ps ds)(hd:Vals qt ds)(hx:Tk X W)
  (I:Inv X pins σ H s) (r:Vals vs us) (h:sp (vs++qt) H Q (EW W σ)):wpAny (model X.prog X.w) X.A (call (.ref f) us) (EP X pins σ Q) X.xe s:=by
 have r2:=r.append hd
 have hl:(us++ds).length=ps.length:=by rw[←r2.length];exact F.len _ _ _ _ h
 refine wpAny_call (codeAny_mono (F.run X.A X.stack s H ⟨us,[]⟩ (us++ds) (vs++qt) Q _ hr I.env0 (hb s us I.su hl) r2 h) fun r s' hq=> ?_)
 match r,hq with
 | .error e,hq=>exact hx _ _ (gw.Gf I hq fun C dx H' ⟨C',dx',e1,e2,w⟩=>by cases e1;cases e2;exact w)
 | .ok (.ret u),hq=>exact I.after hq
def Jz(sp:Sp)(qt:List V)(W:aU)(t:TA):TE:=fun σ H Q=>t σ H fun vs H1=>sp (vs++qt) H1 Q (EW W σ)
theorem J9(F:aY X.prog X.w X.K X.mg X.base (fX X.prog X.w) k f fd ps sp)(hr:gF k X.A)(hg:Gl X x)(hm:X.mg x=some (.ref f))(hk:keepIn X.K (.ref f)=true)(hb:Binds X.K fd ps ds)(hd:Vals qt ds)(hx:Tk X W)
  (ha:PA X (e::es) t) (hdb:(x==("__debug__" : Str))=false:=by decide) (he:starEach (e::es) X.env=(false,eval e X.env)::starEach es X.env:=by rfl) (hpl:(backTo pos (starEach es X.env)).any (·.1)=false:=by rfl):
  PE X (.Call (.Name x p) (e::es) [] pos) (Jz sp qt W t):=by
 intro pins s σ H Q I h
 exact wpAny_Call_Name_kw (wu I hg hm (PySem.W.callWith_K (h₀:=X.base) I.ok.mod.Tu hk (je (ha pos pins s σ H _ I h) fun us s1 ⟨vs,H1,I1,r,q⟩=>⟨I1.su,z6 F hr hb hd hx I1 r q⟩) he hpl) hdb)
def DP(C:Addr)(m:Str)(sp:Sp)(qt:List V)(W:aU)(ta:TE)(t:TA):TE:=fun σ H Q=>ta σ H fun x H1=>∃a dx fs,x= .ref a∧H1 a=some (.ins C dx fs)∧fs.lookup m=none∧t σ H1 fun vs H2=>sp (x::(vs++qt)) H2 Q (EW W σ)
theorem J5{pl:Sem Bool}(he:PE X o ta)(c:zA X.K C)(hm:Meth X.K C m f)(F:aY X.prog X.w X.K X.mg X.base (fX X.prog X.w) k f fd ps sp)(hr:gF k X.A)(hb:Binds X.K fd ps ds)(hd:Vals qt ds)(hx:Tk X W)(ha:PA X (e::es) t)
  (hst:starEach (e::es) X.env=(false,eval e X.env)::starEach es X.env:=by rfl) (hpl:(backTo pos (starEach es X.env)).any (·.1)=false:=by rfl)
  (ht:eval (.Call (.Attribute o m apos) (e::es) [] pos) X.env=(do
   let ov ←eval o X.env
   standAt apos.atName
   let(f,first) ←holding [ov] (getMethod ov m pl)
   callWith pos f first (backTo pos (starEach (e::es) X.env)) (backToKw pos (keywordEach [] X.env))):=by rfl):
  PE X (.Call (.Attribute o m apos) (e::es) [] pos) (DP C m sp qt W ta t):=by
 intro pins s σ H Q I h
 refine PySem.W.methodCall_KW (pl:=pl) (je (he pins s σ H _ I h) fun u s1 ⟨x,H1,I1,rx,a,dx,fs,ex,ea,l,q⟩=> ?_) ht
 subst ex
 obtain rfl:u=Value.ref a:=rx
 refine xY I1 ea c hm l ?_
 exact PySem.W.callWith_K (h₀:=X.base) (first:=[.ref a]) I1.ok.mod.Tu hm.kp (je (ha pos pins s1 σ H1 _ I1 q) fun us s2 ⟨vs,H2,I2,r,q2⟩=>⟨I2.su,z6 (us:= .ref a::us) (vs:= .ref a::vs) F hr hb hd hx I2 (.cons rfl r) q2⟩) hst hpl
theorem Hu{pl:Sem Bool}(he:PE X o ta)(c:zA X.K C)(hm:Meth X.K C m f)(F:aY X.prog X.w X.K X.mg X.base (fX X.prog X.w) k f fd ps sp)(hr:gF k X.A)(hb:Binds X.K fd ps ds)(hd:Vals qt ds)(hx:Tk X W)
  (ht:eval (.Call (.Attribute o m apos) [] [] pos) X.env=(do
   let ov ←eval o X.env
   standAt apos.atName
   let(f,first) ←holding [ov] (getMethod ov m pl)
   callWith pos f first (backTo pos (starEach [] X.env)) (backToKw pos (keywordEach [] X.env))):=by rfl):
  PE X (.Call (.Attribute o m apos) [] [] pos) (DP C m sp qt W ta MK):=by
 intro pins s σ H Q I h
 refine PySem.W.methodCall_KW (pl:=pl) (je (he pins s σ H _ I h) fun u s1 ⟨x,H1,I1,rx,a,dx,fs,ex,ea,l,q⟩=> ?_) ht
 subst ex
 obtain rfl:u=Value.ref a:=rx
 exact xY I1 ea c hm l (PySem.W.callWith_K0 (first:=[.ref a]) I1.su hm.kp (z6 (us:=[.ref a]) (vs:=[.ref a]) F hr hb hd hx I1 (.cons rfl .nil) q))
end
theorem cM.okX{P:Program}{w:World}{K:Frag}{mg:Str→Option Value}{base:Heap}{x qual:Str}{st:Stmt}{dV:Value}{f:Addr}{fd:FuncData}{N ps:List Str}{k:Nat}{sp:Sp}(F:cM K x qual st dV f fd)(S:bf N ps (au st))(len:∀vs H Q E,sp vs H Q E→vs.length=ps.length)
  (hbody:∀(cdv:Value) (A:Around) (outer:List Env) (s:Shared) (H:Hp) (vs:List V) (Q:VK) (E:XK),gF k (A.deeper (envOfC qual (au st) s.heap.objs.size f cdv))→sp vs H Q E→
   ∃t W,(∀C dx σ H',W C dx σ H'→E (.ref C) (some dx) H')∧yj ((kJ (fX P w) P w K mg base N qual (au st) f cdv A outer s H E).wish (gw (kJ (fX P w) P w K mg base N qual (au st) f cdv A outer s H E) W)) (aD st) t∧t {nx:=fun _ H'=>O9 H Q .non H',rt:=O9 H Q} (start N vs) H):
  aY P w K mg base (fX P w) (k+1) f fd ps sp:=by
 obtain⟨oc,od,kV,doc,pm,an,cdv,ct,osl,rfl,lk,hcd⟩:=F.ex
 refine aY.gc (sp:=fun vs H Q' E=>∃Q,sp vs H Q E∧Q'=O9 H Q) (K7 lk hcd S (fun vs H Q E ⟨Q0,q,_⟩=>len vs H Q0 E q) fun A outer s H vs Q' E hr hsp=> ?_) fun vs H Q E q=>⟨Q,q,rfl⟩
 obtain⟨Q,hsp,rfl⟩:=hsp
 obtain⟨t,W,hE,h,q⟩:=hbody cdv A outer s H vs Q E hr hsp
 refine⟨t,fun pins s1 σ H1 D I h1=> ?_,q⟩
 exact wpAny_mono (h pins s1 σ H1 D (I.wish _) h1) (fun _ _ z=>z.jo) fun _ _ z=>z.leave hE
abbrev Cx.pp(X:Cx)(pins:List (Addr×Obj)):Cx:={X with pn:=X.pn++pins}
section
variable{X:Cx}{pins tR:List (Addr×Obj)}{σ:St}{H:Hp}{s:Shared}{e:Addr}
theorem Inv.pp(I:Inv X (pins++tR) σ H s):Inv (X.pp pins) tR σ H s:=
 ⟨⟨I.ok.mod,I.ok.kind,I.ok.glob,I.ok.blt,I.ok.above,I.ok.inj,I.ok.has,I.ok.cab,I.ok.hd,I.ok.frames,I.ok.stk,I.ok.Vr,I.ok.bs,I.ok.GR,I.ok.Ek,I.ok.E_,I.ok.rJ,I.ok.K6⟩,I.os,I.bare,I.base,I.loc,I.cell,I.free,I.mY,fun p hp=>I.pin p (by rw[←List.append_assoc];exact hp),I.hok,I.len⟩
theorem SP.map{X':Cx}{tR:List (Addr×Obj)}{D:Ends}{f:Flow}{s':Shared}(g:∀σ H,Inv X' tR σ H s'→Inv X pins σ H s')(h:SP X' tR D f s'):SP X pins D f s':=by
 cases f with
 | next=>obtain⟨σ',H',I,q⟩:=h;exact⟨σ',H',g _ _ I,q⟩
 | brk=>obtain⟨σ',H',I,q⟩:=h;exact⟨σ',H',g _ _ I,q⟩
 | cont=>obtain⟨σ',H',I,q⟩:=h;exact⟨σ',H',g _ _ I,q⟩
 | ret u=>obtain⟨v,σ',H',I,r,q⟩:=h;exact⟨v,σ',H',g _ _ I,r,q⟩
end
abbrev xC(a C dx:Addr):HO:= .ext fun h=>∃vs,h.get? a=some {cls:= .ref C,dict:=some dx,data:= .fields vs}
section
variable{X:Cx}{pins:List (Addr×Obj)}{σ:St}{H:Hp}{s:Shared}{h':Heap}{t':Nat}
theorem Inv.locals(I:Inv X pins σ H s)(hsb:Heap.SameBut X.env.locals s.heap h')(loc:∃m,h'.Ns X.env.locals m∧∀(i:Nat) (x:Str) (v:V),X.N[i]? = some x→σ[i]? = some (some v)→ZK X.env.scope x→∃u,RelV v u∧Look X.env h' m x u):
  Inv X pins σ H {s with heap:=h',toks:=t'}:=by
 have nL:∀b o,X.s₀.heap.get? b=some o→b≠X.env.locals:=fun b o q=>Nat.ne_of_lt (Nat.lt_of_lt_of_le (Heap.lt_size q) I.ok.above)
 refine⟨I.ok,I.os,I.bare,⟨fun b o q n hb hx=>(hsb.2 b (nL b o q)).trans (I.base.keep b o q n hb hx),fun b o q n hb hx=> ?_,I.base.free,fun b o q hx=> ?_,I.base.tups,I.base.oU,I.base.pK⟩,loc,fun x c q=> ?_,I.free,I.mY,fun p hp=> ?_,fun b o q=> ?_,I.len⟩
 ·obtain⟨sl,z⟩:=I.base.slot b o q n hb hx
  exact⟨sl,(hsb.2 b (nL b o q)).trans z⟩
 ·obtain⟨o',z⟩:=I.base.there b o q hx
  exact⟨o',(hsb.2 b (nL b o q)).trans z⟩
 ·obtain⟨v,o,ho,hd⟩:=I.cell x c q
  exact⟨v,o,(hsb.2 c (I.PJ x c q)).trans ho,hd⟩
 ·obtain⟨z1,z2,z3,z4⟩:=I.pin p hp
  exact⟨(hsb.2 p.1 z3).trans z1,z2,z3,z4⟩
 ·have nl:∀b u,H b=some u→b≠X.env.locals:=fun b u z y=>by rw[y,I.free]at z;cases z
  refine(I.hok b o q).stay (fun b' u hb z=> ?_) (fun _ z=>z) fun _ _ z=>z
  rcases hb with rfl | hb
  ·exact(hsb.2 _ (nl _ _ q)).trans z
  ·exact(hsb.2 _ (nl _ _ hb)).trans z
end
structure XIs(K:Frag)(C:Addr):Prop where
 gn:findIn K (.ref C) "__getattr__" = some none
 ca:findIn K (.ref C) "__class__" = some (some (.builtin "object.__class__"))
 hn:PySem.W.specialIn K (.builtin "object.__class__") "__get__" = some (some (.builtin "getset_descriptor.__get__"))
 tk:PySem.W.takesIn K (.builtin "object.__class__")=some true
 mr:PySem.W.mroIn K C (.type "object")=some true
section
variable{X:Cx}{k:Nat}{f C:Addr}{fd:FuncData}{ps:List Str}{sp:Sp}{qt:List V}{ds:List Value}{W:aU}{x:Str}{p pos:Pos}{e:Expr}{es:List Expr}{t:TA}
def DQ(C:Addr)(sp:Sp)(qt:List V)(W:aU)(t:TA):TE:=fun σ H Q=>t σ H fun vs H1=>∀x dx,H1 x=none→H1 dx=none→dx≠x→
 sp (.ref x::(vs++qt)) (upd (upd H1 dx (.own x)) x (.ins C dx [])) (fun v H2=>v= .non∧Q (.ref x) H2) (EW W σ)
theorem yR{pins:List (Addr×Obj)}{σ:St}{H:Hp}{s:Shared}{Q:VK}{us:List Value}{vs:List V}(M:Mk X.K C f)(F:aY X.prog X.w X.K X.mg X.base (fX X.prog X.w) k f fd ps sp)(hr:gF (k+1) X.A)(hb:Binds X.K fd ps ds)(hd:Vals qt ds)
  (hx:Tk X W) (I:Inv X pins σ H s) (r:Vals vs us)
  (h:∀x dx,H x=none→H dx=none→dx≠x→sp (.ref x::(vs++qt)) (upd (upd H dx (.own x)) x (.ins C dx [])) (fun v H2=>v= .non∧Q (.ref x) H2) (EW W σ)):
  wpAny (model X.prog X.w) X.A (call (.ref C) us) (EP X pins σ Q) X.xe s:=by
 have hq:=h (s.heap.objs.size+1) s.heap.objs.size (I.hok.fresh (Nat.le_succ _)) (I.hok.fresh (Nat.le_refl _)) (Nat.ne_of_lt (Nat.lt_succ_self _))
 have I2:=Inv.made (C:=C) I
 have r2:Vals (V.ref (s.heap.objs.size+1)::(vs++qt)) (Value.ref (s.heap.objs.size+1)::(us++ds)):= .cons rfl (r.append hd)
 have hl:(Value.ref (s.heap.objs.size+1)::us++ds).length=ps.length:=by
  have e:=r2.length
  rw[F.len _ _ _ _ hq]at e
  exact e.symm
 refine wpAny_call (Kq (f:=f) I.su M.makes M.init (beq_iff_eq.mp M.fn) (codeAny_mono (F.run _ X.stack _ _ ⟨Value.ref (s.heap.objs.size+1)::us,[]⟩ (Value.ref (s.heap.objs.size+1)::(us++ds)) _ _ _ (hr.make C us [])
  (I2.env0.make C us []) (hb _ (Value.ref (s.heap.objs.size+1)::us) I2.su hl) r2 hq) fun r s' hq'=> ?_))
 match r,hq' with
 | .error e,hq'=>exact hx _ _ (gw.Gf I2 hq' fun C dx H' ⟨C',dx',e1,e2,w⟩=>by cases e1;cases e2;exact w)
 | .ok (.ret u),hq'=>
  obtain⟨v,H',I3,rv,ev,q3⟩:=I2.after hq'
  subst ev
  exact⟨rv,⟨V.ref (s.heap.objs.size+1),H',I3,rfl,q3⟩⟩
theorem J6(M:Mk X.K C f)(F:aY X.prog X.w X.K X.mg X.base (fX X.prog X.w) k f fd ps sp)(hr:gF (k+1) X.A)(hg:Gl X x)(hm:X.mg x=some (.ref C))(hb:Binds X.K fd ps ds)(hd:Vals qt ds)(hx:Tk X W)
  (ha:PA X (e::es) t) (hdb:(x==("__debug__" : Str))=false:=by decide) (he:starEach (e::es) X.env=(false,eval e X.env)::starEach es X.env:=by rfl) (hpl:(backTo pos (starEach es X.env)).any (·.1)=false:=by rfl):
  PE X (.Call (.Name x p) (e::es) [] pos) (DQ C sp qt W t):=fun pins s σ H Q I h=>
 wpAny_Call_Name_kw (wu I hg hm (PySem.W.callWith_K (h₀:=X.base) I.ok.mod.Tu M.kp (je (ha pos pins s σ H _ I h) fun us s1 ⟨vs,H1,I1,r,q⟩=>⟨I1.su,yR M F hr hb hd hx I1 r q⟩) he hpl) hdb)
theorem Hv(M:Mk X.K C f)(F:aY X.prog X.w X.K X.mg X.base (fX X.prog X.w) k f fd ps sp)(hr:gF (k+1) X.A)(hg:Gl X x)(hm:X.mg x=some (.ref C))(hb:Binds X.K fd ps ds)(hd:Vals qt ds)(hx:Tk X W)
  (hdb:(x==("__debug__" : Str))=false:=by decide):PE X (.Call (.Name x p) [] [] pos) (DQ C sp qt W MK):=fun pins s σ H Q I h=>
 wpAny_Call_Name_kw (wu I hg hm (PySem.W.callWith_K0 I.su M.kp (yR (us:=[]) M F hr hb hd hx I .nil h)) hdb)
end
section
variable{X:Cx}
theorem QM{pins:List (Addr×Obj)}{σ:St}{H:Hp}{s:Shared}{a:Addr}(I:Inv X pins σ H s)(e:H a=some (.dK [])):Inv X pins σ (upd H a (.dT [])) s:=by
 obtain⟨z,hd,vs,rel,o,es,ep,h1,h2,h3,h4,h5,h6⟩:=QL I.hok e
 have hv:vs=[]:=by cases rel;rfl
 subst hv
 have he:es.toList=[]:=by
  have:=h5.length
  exact List.length_eq_zero_iff.mp (by simpa using this)
 exact Bc (t':=s.toks) (h':=s.heap) I (by rw[e];exact True.intro) ⟨rfl,fun _ _=>rfl⟩ ⟨o,h1⟩ ⟨Nat.zero_le _,hd,[],.nil,o,es,ep,h1,h2,h3,by rw[he];rfl,List.nodup_nil⟩
def Jd(H:Hp)(a:Addr)(y:V)(o:Option V)(H':Hp):Prop:=(uZ H a y o∧H'=H)∨(H a=some (.dK [])∧(∃(k:List Key) (b:Addr),y= .ref b∧H b=some (.tup (k.map kV)))∧o=none∧H'=upd H a (.dT []))
theorem Jd.inv{pins:List (Addr×Obj)}{σ:St}{H H':Hp}{s:Shared}{a:Addr}{y:V}{o:Option V}(g:Jd H a y o H')(I:Inv X pins σ H s):Inv X pins σ H' s∧uZ H' a y o:=by
 rcases g with⟨g,rfl⟩ | ⟨e,⟨k,b,rfl,eb⟩,rfl,rfl⟩
 ·exact⟨I,g⟩
 ·refine⟨QM I e,.inr ⟨[],k,b,.inl aX,rfl,?_,rfl⟩⟩
  rw[aJ (fun z=>by subst z;rw[e]at eb;cases eb)]
  exact eb
def Wk(neg:Bool):R2:=fun y x H Q=>∃a o H',x= .ref a∧Jd H a y o H'∧Q (.bl (if neg=true then !o.isSome else o.isSome)) H'
theorem S6(hu:X.A.units+1<cLine):rB X (compareOp .In) (Wk false):=by
 intro pins s σ H y x v u Q I ry rx h
 obtain⟨a,o,H',rfl,g,q⟩:=h
 obtain rfl:u=Value.ref a:=rx
 obtain⟨I1,g1⟩:=g.inv I
 exact ade hu I1 g1 ry fun s' I'=>⟨.bl _,H',I',rfl,q⟩
def Wj:R2:=fun x y H Q=>∃a v,x= .ref a∧uZ H a y (some v)∧Q v H
theorem O2(hu:X.A.units+1<cLine):Qi X Wj:=by
 intro value slice pins s σ H x y v u Q I rx ry h hs
 obtain⟨a,d,rfl,g,q⟩:=h
 obtain rfl:v=Value.ref a:=rx
 exact tail_any (C_ I g) PySem.F.slot_dict_getitem.lookup (Io hu I g ry fun w' s' I' rw'=>⟨d,H,I',rw',q⟩) hs
section
variable{o e f i value:Expr}{apos cpos pos pos':Pos}{td ty tx tv:TE}
def Q8(td ty tx:TE):TE:=fun σ H Q=>td σ H fun x H1=>∃a,x= .ref a∧IsD H1 a∧ty σ H1 fun y H2=>tx σ H2 fun z H3=>∃o H4,Jd H3 a y o H4∧Q (o.getD z) H4
theorem J7(hu:X.A.units+1<cLine)(ho:PE X o td)(he:PE X e ty)(hf:PE X f tx)(m:M2 X o "get" apos e f cpos):PE X (.Call (.Attribute o "get" apos) [e,f] [] cpos) (Q8 td ty tx):=by
 intro pins s σ H Q I h
 refine wpAny_Call_method m.base m.few m.line PySem.F.plainAttrs_dict PySem.F.slot_dict_get PySem.F.type_dict_get (je (ho pins s σ H _ I h) fun u t ⟨x,H1,I1,rx,a,ex,d,q1⟩=> ?_)
 subst ex
 obtain rfl:u=Value.ref a:=rx
 have ty:=TX I1 d
 refine⟨ty.1,ty.2.1,?_⟩
 rw[m.trees]
 refine Calls.callWith_builtin rfl (Calls.evalArgs_plain (Calls.spliced_cons (je (he pins t σ H1 _ I1 q1) fun iv t2 ⟨y,H2,I2,ry,q2⟩=>Calls.spliced_cons (je (hf pins t2 σ H2 _ I2 q2) fun fv t3 ⟨z,H3,I3,rz,ov,H4,g,q3⟩=>Calls.spliced_nil ?_))))
 obtain⟨I4,g4⟩:=g.inv I3
 exact Uk hu I4 g4 ry rz fun w' t4 I5 rw'=>⟨_,H4,I5,rw',q3⟩
def ZS(H:Hp)(a:Addr)(y v:V)(H':Hp):Prop:=Bu H a y v H'∨∃(k:List Key) (b:Addr),H a=some (.dK [])∧y= .ref b∧H b=some (.tup (k.map kV))∧H'=upd H a (.dT [(k,v)])
def Wc(td ty tv:TE):TS:=fun D σ H=>tv σ H fun v H1=>td σ H1 fun x H2=>ty σ H2 fun y H3=>∃a H4,x= .ref a∧ZS H3 a y v H4∧D.nx σ H4
theorem Ob(hu:X.A.units+1<cLine)(ho:PE X o td)(hi:PE X i ty)(hv:PE X value tv)(hs:swapsWith value (some (.Subscript o i pos')) pos.line X.env=pure false):PS X (.Assign [.Subscript o i pos'] value pos) (Wc td ty tv):=by
 intro pins s σ H D I h
 refine wpAny_Assign_Subscript (je (hv pins s σ H _ I h) fun r t1 ⟨v,H1,I1,rv,q1⟩=>je (ho pins t1 σ H1 _ I1 q1) fun u t2 ⟨x,H2,I2,rx,q2⟩=>je (hi pins t2 σ H2 _ I2 q2) fun iv t3 ⟨y,H3,I3,ry,a,H4,ex,g,q3⟩=> ?_) hs
 subst ex
 obtain rfl:u=Value.ref a:=rx
 rcases g with g | ⟨k,b,e,rfl,eb,rfl⟩
 ·exact zg hu I3 g ry rv fun t4 I4=>⟨σ,H4,I4,q3⟩
 ·have eb':upd H3 a (.dT []) b=some (.tup (k.map kV)):=by
   rw[aJ (fun z=>by subst z;rw[e]at eb;cases eb)]
   exact eb
  refine zg hu (QM I3 e) (Bu.t aX eb' (by rw[sizeLine_eq];decide)) ry rv fun t4 I4=>⟨σ,_,I4,?_⟩
  rw[Mw]
  exact q3
end
end
section
variable{prog:Program}{w:World}{A:Around}{E:Value→Shared→Prop}{s:Shared}{κ:Type}[DecidableEq κ]{knd:HeapKind prog w κ}{a:Addr}{xs:List (κ×Addr×Value)}
theorem Et(hd:(a==sysModules)=false):MeetsIn prog w (Builtin.«dict.__len__» ⟨[.ref a],[]⟩) (fun _ R t=>∃ys:List (κ×Addr×Value),t.heap.DictOfH knd a ys∧R (.ok (.ret (.int ys.length t.toks))) {t with toks:=t.toks+1}):=
 .of_wp fun A R t ⟨ys,hm,q⟩=>by
  obtain⟨o,es,ep,e1,_,e2,e3,_⟩:=hm
  show wpAny _ _ (dictSize a >>= _) _ _ t
  unfold dictSize
  refine wpAny_bind (wpAny_bind (wpAny_dictEntries e1 e2 (wpAny_pure ?_)))
  show wpAny _ _ (Builtin.Dict.pendingCount a >>= _) _ _ t
  refine wpAny_bind (wpAny_pendingCount_other hd (wpAny_ret_mkInt ?_))
  have sz:es.size=ys.length:=by rw[←Array.length_toList,e3,List.length_map]
  rw[Nat.add_zero,sz]
  exact q
theorem acF{Q:Value→Shared→Prop}(hd:(a==sysModules)=false)(hm:s.heap.DictOfH knd a xs)(hz:(xs.length:Int)<2 ^ 63)(q:Q (.int xs.length (s.toks+1)) {s with toks:=s.toks+1+1}):wpAny (model prog w) A (call (.builtin "len") [.ref a]) Q E s:=by
 refine Calls.call_function_entry kind_len plain_len entry_len (args_len1 _) ?_
 unfold Builtin.«len»
 refine wpAny_bind (m:=oneArg "len" _) (wpAny_pure (wpAny_bind (m:=callSpecial? (.ref a) (Str.ofString "__len__")) ?_))
 refine wpAny_callSpecial?_slot (name:=Str.ofString "__len__") hm.typeIs F.slot_dict_len (call_meetsIn F.slot_dict_len hm.typeIs F.entry_dict_len (F.args_dict_len_1 _) (Et (knd:=knd) hd) ⟨xs,hm,?_⟩)
 show wpAny (model prog w) _ _ _ _ {s with toks:=s.toks+1}
 refine wpAny_bind (wpAny_holding (wpAny_pure (wpAny_bind (wpAny_letGo ?_))))
 show wpAny (model prog w) _ (if((xs.length:Nat):Int)<0 then _ else _) _ _ _
 rw[if_neg (by omega)]
 show wpAny (model prog w) _ (if((xs.length:Nat):Int)≥2 ^ 63 then _ else _) _ _ _
 rw[if_neg (by omega)]
 exact wpAny_bind (wpAny_mkInt (wpAny_pure ⟨_,rfl,q⟩))
end
theorem Iw{X:Cx}:mD X (.builtin "len") (fun xs H Q=>∃a kvs,xs=[V.ref a]∧H a=some (.dT kvs)∧Q (.int kvs.length) H):=by
 intro pins s σ H xs us Q I r h
 obtain⟨a,kvs,rfl,ha,q⟩:=h
 obtain⟨u,rfl,ru⟩:=vals1 r
 cases ru
 obtain⟨z,hd,ys,rel,dd⟩:=QJ I.hok ha
 have hl:=Paired.length rel
 refine acF hd dd (by rw[←hl];rw[sizeLine_eq]at z;omega) ⟨.int kvs.length,H,I.tok _,⟨_,by rw[hl]⟩,q⟩
end L2
namespace L2
open PySem PySem.W PyProof.Rows
def Way(n:Nat)(lt:Nat→Nat→Bool){α:Type}:KasT α→(α→Prop)→Prop
 | .ret a,Q=>Q a
 | .ask i j k,Q=>i<n∧j<n∧Way n lt (k (lt i j)) Q
theorem Way.bind{n:Nat}{lt:Nat→Nat→Bool}{α β:Type}{f:α→KasT β}{Q:β→Prop}:∀{t:KasT α},Way n lt t (fun a=>Way n lt (f a) Q)→Way n lt (t.bind f) Q
 | .ret _,h=>h
 | .ask _ _ _,h=>⟨h.1,h.2.1,Way.bind h.2.2⟩
theorem Way.mono{n:Nat}{lt:Nat→Nat→Bool}{α:Type}{Q Q':α→Prop}(hq:∀a,Q a→Q' a):∀{t:KasT α},Way n lt t Q→Way n lt t Q'
 | .ret _,h=>hq _ h
 | .ask _ _ _,h=>⟨h.1,h.2.1,Way.mono hq h.2.2⟩
structure Pm(n:Nat)(p:Array Nat):Prop where
 sz:p.size=n
 pm:p.Perm (List.range n).toArray
section
variable{n:Nat}{O:KeyOrd}{k:Nat→O.α}
theorem Pm.lt{p:Array Nat}(h:Pm n p){i:Nat}(hi:i<n):p.getD i 0<n:=by
 have hs:i<p.size:=by rw[h.sz];exact hi
 have e:p.getD i 0=p[i]:=by simp[Array.getD,hs]
 rw[e]
 have:=(Array.perm_iff_toList_perm.mp h.pm).mem_iff (a:=p[i])
 simpa using this.mp (by simp)
def kk(k:Nat→O.α)(p:Array Nat)(i:Nat):O.α:=k (p.getD i 0)
def Up(k:Nat→O.α)(p:Array Nat)(m:Nat):Prop:=∀i j,i≤j→j<m→O.kle (kk k p i) (kk k p j)
def Dn(k:Nat→O.α)(p:Array Nat)(m:Nat):Prop:=∀i j,i≤j→j<m→O.kle (kk k p j) (kk k p i)
theorem Up.more{p:Array Nat}{m:Nat}(h:Up (O:=O) k p m)(h1:1≤m)(e:O.kle (kk k p (m - 1)) (kk k p m)):Up k p (m+1):=fun i j a b=>by
 rcases Nat.lt_or_ge j m with q | q
 ·exact h i j a q
 ·obtain rfl:j=m:=by omega
  rcases Nat.lt_or_ge i j with z | z
  ·exact KeyOrd.kle_trans (h i (j - 1) (by omega) (by omega)) e
  ·obtain rfl:i=j:=by omega
   exact O.irrefl _
theorem Dn.more{p:Array Nat}{m:Nat}(h:Dn (O:=O) k p m)(h1:1≤m)(e:O.kle (kk k p m) (kk k p (m - 1))):Dn k p (m+1):=fun i j a b=>by
 rcases Nat.lt_or_ge j m with q | q
 ·exact h i j a q
 ·obtain rfl:j=m:=by omega
  rcases Nat.lt_or_ge i j with z | z
  ·exact KeyOrd.kle_trans e (h i (j - 1) (by omega) (by omega))
  ·obtain rfl:i=j:=by omega
   exact O.irrefl _
end
end L2
namespace L2
open PySem PySem.Spec PySem.W PyProof.Rows
def Vy(s:Str):List Int:=s.cps.toList.map Int.ofNat++[-1]
def Kin(c d:List Int):Prop:=∀r r':List Int,HT.lexLt (c++r) (d++r')=if c=d then HT.lexLt r r' else HT.lexLt c d
theorem wz:∀{c d:List Int},c.length=d.length→Kin c d
 | [],[],_=>fun r r'=>by rw[if_pos rfl];rfl
 | [],_::_,h=>by cases h
 | _::_,[],h=>by cases h
 | x::c,y::d,h=>fun r r'=>by
  have ih:=wz (c:=c) (d:=d) (by simpa using h) r r'
  rw[List.cons_append,List.cons_append,HT.cg,HT.cg]
  by_cases e:x=y
  ·subst e
   rw[if_pos rfl,if_pos rfl,ih]
   by_cases q:c=d
   ·rw[if_pos q,if_pos (by rw[q])]
   ·rw[if_neg q,if_neg (fun z=>q (by injection z))]
  ·rw[if_neg e,if_neg e,if_neg (fun z=>e (by injection z))]
theorem Gs:∀(a b:List Nat),Kin (a.map Int.ofNat++[-1]) (b.map Int.ofNat++[-1])∧HT.lexLt (a.map Int.ofNat++[-1]) (b.map Int.ofNat++[-1])=decide (a<b)∧(a.map Int.ofNat++[-1]=b.map Int.ofNat++[-1]→a=b)
 | [],[]=>⟨wz rfl,by simp[HT.lexLt],fun _=>rfl⟩
 | [],y::b=>by
  have e:(-1:Int)≠Int.ofNat y:=by simp
  have l:(-1:Int)<Int.ofNat y:=by simp;omega
  refine⟨fun r r'=> ?_,?_,fun h=> ?_⟩
  ·simp only[List.map_nil,List.nil_append,List.map_cons,List.cons_append]
   rw[HT.cg,HT.cg,if_neg e,if_neg e,if_neg (fun z=>e (by injection z))]
  ·simp only[List.map_nil,List.nil_append,List.map_cons,List.cons_append]
   rw[HT.cg,if_neg e,decide_eq_true l]
   simp
  ·simp only[List.map_nil,List.nil_append,List.map_cons,List.cons_append]at h
   exact absurd (by injection h) e
 | x::a,[]=>by
  have e:Int.ofNat x≠(-1:Int):=by simp
  have l:¬Int.ofNat x<(-1:Int):=by simp
  refine⟨fun r r'=> ?_,?_,fun h=> ?_⟩
  ·simp only[List.map_nil,List.nil_append,List.map_cons,List.cons_append]
   rw[HT.cg,HT.cg,if_neg e,if_neg e,if_neg (fun z=>e (by injection z))]
  ·simp only[List.map_nil,List.nil_append,List.map_cons,List.cons_append]
   rw[HT.cg,if_neg e,decide_eq_false l]
   simp
  ·simp only[List.map_nil,List.nil_append,List.map_cons,List.cons_append]at h
   exact absurd (by injection h) e
 | x::a,y::b=>by
  obtain⟨k,l,i⟩:=Gs a b
  by_cases e:x=y
  ·subst e
   refine⟨fun r r'=> ?_,?_,fun h=> ?_⟩
   ·simp only[List.map_cons,List.cons_append]
    rw[HT.cg,HT.cg,if_pos rfl,if_pos rfl,k]
    by_cases q:a.map Int.ofNat++[-1]=b.map Int.ofNat++[-1]
    ·rw[if_pos q,if_pos (by rw[q])]
    ·rw[if_neg q,if_neg (fun z=>q (by injection z))]
   ·simp only[List.map_cons,List.cons_append]
    rw[HT.cg,if_pos rfl,l]
    simp
   ·simp only[List.map_cons,List.cons_append]at h
    rw[i (by injection h)]
  ·have e':Int.ofNat x≠Int.ofNat y:=fun z=>e (Int.ofNat.inj z)
   refine⟨fun r r'=> ?_,?_,fun h=> ?_⟩
   ·simp only[List.map_cons,List.cons_append]
    rw[HT.cg,HT.cg,if_neg e',if_neg e',if_neg (fun z=>e' (by injection z))]
   ·simp only[List.map_cons,List.cons_append]
    rw[HT.cg,if_neg e']
    have:(Int.ofNat x<Int.ofNat y)↔x<y:=by simp
    simp[List.cons_lt_cons_iff,e]
   ·simp only[List.map_cons,List.cons_append]at h
    exact absurd (by injection h) e'
inductive Part (K:Frag) (H:Hp):V→List Int→Nat→Prop
 | int (i:Int):Part K H (.int i) [i] 0
 | str (x:Str):Part K H (.str x) (Vy x) 1
 | tup {a:Addr} {ns:List Int}:H a=some (.tup (ns.map V.int))→Part K H (.ref a) ns (ns.length+2)
theorem Part.Tu{K:Frag}{H:Hp}{x y:V}{c d:List Int}{k:Nat}(h:Part K H x c k)(h':Part K H y d k):Kin c d:=by
 cases h with
 | int i=>cases h' with
  | int j=>exact wz rfl
 | str a=>cases h' with
  | str b=>exact(Gs _ _).1
 | tup e=>
  generalize hk:_+2=k' at h'
  cases h' with
  | int j=>omega
  | str b=>omega
  | tup e'=>exact wz (by omega)
section
variable{X:Cx}{pins:List (Addr×Obj)}{σ:St}{H:Hp}{s:Shared}{A:Around}{E:Value→Shared→Prop}
inductive Parts (K:Frag) (H:Hp):List V→List Int→List Nat→Prop
 | nil:Parts K H [] [] []
 | cons {x:V} {xs:List V} {c cs:List Int} {k:Nat} {ks:List Nat}:Part K H x c k→Parts K H xs cs ks→Parts K H (x::xs) (c++cs) (k::ks)
end
inductive Qh (K:Frag) (H:Hp):List V→List (List Int)→Prop
 | flat {ys:List V} {cs:List (List Int)} (k:Nat) (hk:k<2) (hl:cs.length=ys.length) (h:∀(i:Nat) (y:V) (c:List Int),ys[i]? = some y→cs[i]? = some c→Part K H y c k):Qh K H ys cs
 | rows {ys:List V} {cs:List (List Int)} (k:Nat) (ks:List Nat) (hl:cs.length=ys.length) (h:∀(i:Nat) (y:V) (c:List Int),ys[i]? = some y→cs[i]? = some c→∃a xs,y=V.ref a∧H a=some (.tup xs)∧Parts K H xs c (k::ks)):Qh K H ys cs
theorem Qh.len{K:Frag}{H:Hp}{ys:List V}{cs:List (List Int)}(h:Qh K H ys cs):cs.length=ys.length:=by cases h<;>assumption
section
variable{X:Cx}{pins:List (Addr×Obj)}{σ:St}{H:Hp}{s:Shared}{A:Around}{E:Value→Shared→Prop}
structure Order(n:Nat)(cs:List (List Int))(q:List Nat):Prop where
 pm:q.Perm (List.range n)
 up:∀i j,i≤j→j<n→HT.lexLt (cs.getD (q.getD j 0) []) (cs.getD (q.getD i 0) [])=false
end
end L2
namespace L2
open PySem PySem.Spec PySem.W PySem.Calls PyProof.Rows
def Vc(h:Heap)(d:Addr)(es:Array DictEntry)(ep:Nat):Prop:=∃o,h.get? d=some o∧o.ExactDict∧o.data= .dict es ep
theorem Vc.keep{h h':Heap}{d:Addr}{es:Array DictEntry}{ep:Nat}(x:Vc h d es ep)(k:∀o,h.get? d=some o→h'.get? d=some o):Vc h' d es ep:=
 let⟨o,a,b⟩:=x;⟨o,k o a,b⟩
def itO(f0 f1:Value)(d:Addr)(i n ep:Nat)(ok ov:Value):Obj:=
 {cls:= .type "dict_itemiterator",dict:=none,data:= .fields #[f0,f1,.ref d,.int i 0,.int n 0,.int ep 0,ok,ov],slots:= #[]}
def Vb(h:Heap)(it d S:Addr)(i n ep:Nat):Prop:=∃f0 f1 ok ov,h.get? it=some (itO f0 f1 d i n ep ok ov)∧(f0= .none∨∃(a:Addr) (b:Bool) (oa:Obj),f0=rawInt a∧f1= .bool b∧h.get? a=some oa∧a≠it∧a≠S)
theorem Vb.keep{h h':Heap}{it d S:Addr}{i n ep:Nat}(x:Vb h it d S i n ep)(k:∀b o,b≠S→h.get? b=some o→h'.get? b=some o)(hS:it≠S):Vb h' it d S i n ep:=by
 obtain⟨f0,f1,ok,ov,e,z⟩:=x
 exact⟨f0,f1,ok,ov,k _ _ hS e,z.imp id fun⟨a,b,oa,q1,q2,q3,q4,q5⟩=>⟨a,b,oa,q1,q2,k _ _ q5 q3,q4,q5⟩⟩
section
variable{X:Cx}{pins:List (Addr×Obj)}{σ:St}{H:Hp}{s:Shared}{A:Around}{E:Value→Shared→Prop}
theorem Order.lt{n:Nat}{cs:List (List Int)}{q:List Nat}(h:Order n cs q):∀i∈q,i<n:=fun i hi=>by
 have:=(h.pm.mem_iff (a:=i)).mp hi
 simpa using this
theorem Parts.keep{K:Frag}{H H':Hp}(k:∀a xs,H a=some (.tup xs)→H' a=some (.tup xs)):∀{xs:List V} {c:List Int} {ks:List Nat},Parts K H xs c ks→Parts K H' xs c ks
 | _,_,_,.nil=> .nil
 | _,_,_,.cons p ps=> .cons (by
   cases p with
   | int i=>exact .int i
   | str x=>exact .str x
   | tup e=>exact .tup (k _ _ e)) (ps.keep k)
end
end L2
namespace S
open PySem PySem.Spec PyProof.Rows L2
inductive D where
 | non | bl (b:Bool) | int (i:Int) | str (x:Str) | tup (ds:List D) | ref (n:Nat) | cl (ds:List D) | ty (n:String) | cls (c:Nat) | exc (c:Nat) (d:D) | fn (l:Nat)
inductive MO where
 | lst (ds:List D) | ins (c:Nat) (fs:List (Str×D)) | dk (kvs:List (Key×D)) | dt (kvs:List (List Key×D))
abbrev St:=L2.St
abbrev Mem:=List MO
abbrev Sl:=List (Option D)
inductive Out (α:Type) where
 | ok (a:α) (M:Mem)
 | exc (c:Nat) (d:D) (M:Mem)
 | bad
def Out.bind{α β:Type}(o:Out α)(f:α→Mem→Out β):Out β:=match o with
 | .ok a M=>f a M
 | .exc c d M=> .exc c d M
 | .bad=> .bad
@[simp] theorem Out.j5{α β:Type}(c:Nat)(d:D)(M:Mem)(f:α→Mem→Out β):(Out.exc c d M:Out α).bind f= .exc c d M:=id rfl
@[simp] theorem Out.iI{α β:Type}(a:α)(M:Mem)(f:α→Mem→Out β):(Out.ok a M).bind f=f a M:=id rfl
@[simp] theorem Out.iu{α β:Type}(f:α→Mem→Out β):(Out.bad:Out α).bind f= .bad:=id rfl
def Mu(K:Frag)(H:Hp)(a:Addr)(xs:List V):Prop:=(∃o,H a=some (.gZ o (.lst xs)))∨
 ∃(o:Obj) (its:Array Value) (n:Nat),K.lookup a=some o∧o.cls= .type "list" ∧ o.dict=none∧o.data= .seq its n∧its.size≤sizeLine∧Vals xs its.toList
theorem Mu.sq{K:Frag}{H:Hp}{a:Addr}{xs:List V}(h:Mu K H a xs):ql K H a xs:=h.elim (fun z=> .inl (.inr z)) .inr
def t8:HO:= .ext fun _=>True
def Ja(o:Obj)(cv:Value)(c:Addr):Prop:=∃(name qual x p:Str) (p1 p2 p3 p4 pa:Pos) (scope:Scope) (pm ctv:Value),
 o={cls:= .type "function",data:= .func (PySem.W.kla_fn name qual ⟨[],[⟨p,none,pa⟩],none,[],[],none,[]⟩ (.Call (.Attribute (.Name x p1) "append" p2) [.Name p p3] [] p4) scope [(x,c)] pm cv ctv)}∧
 scope.kind= .function∧scope.isCoroutine=false∧scope.isGenerator=false∧scope.names.lookup x=some .free∧scope.names.lookup p=some .local∧(∀y∈scope.names,y.2≠ .cell)∧x≠p∧
 (x==("__debug__" : Str))=false∧(x==("__classdict__" : Str))=false∧(p==("__debug__" : Str))=false∧(p==("__classdict__" : Str))=false∧(p2.endLine==p4.line)=true∧(∀y,scope.names.lookup y=some .free→y=x)∧
 ∀u:Value,bindArgs (PySem.W.kla_fn name qual ⟨[],[⟨p,none,pa⟩],none,[],[],none,[]⟩ (.Call (.Attribute (.Name x p1) "append" p2) [.Name p p3] [] p4) scope [(x,c)] pm cv ctv) ⟨[u],[]⟩=pure [(p,u)]
def uw(H:Hp)(cv:Value):Prop:=∃c oc vs q t,cv= .ref c∧H c=some (.gZ oc t8)∧oc.data= .fields vs∧vs[1]? = some (.str q t)
mutual
inductive DV (K:Frag) (ct ι:Nat→Addr) (n:Nat) (H:Hp):D→V→Prop
 | non:DV K ct ι n H .non .non
 | bl (b:Bool):DV K ct ι n H (.bl b) (.bl b)
 | int (i:Int):DV K ct ι n H (.int i) (.int i)
 | str (x:Str):DV K ct ι n H (.str x) (.str x)
 | tup {a:Addr} {xs:List V} {ds:List D}:H a=some (.tup xs)→j9 K ct ι n H ds xs→DV K ct ι n H (.tup ds) (.ref a)
 | ref {i:Nat}:i<n→DV K ct ι n H (.ref i) (.ref (ι i))
 | cl {a:Addr} {xs:List V} {ds:List D}:Mu K H a xs→j9 K ct ι n H ds xs→DV K ct ι n H (.cl ds) (.ref a)
 | ty (s:String):DV K ct ι n H (.ty s) (.ty s)
 | cls (c:Nat):DV K ct ι n H (.cls c) (.ref (ct c))
 | exc {a dx:Addr} {c:Nat} {d:D} {v:V}:H a=some (xC a (ct c) dx)→H dx=some (.xd [("at",v)])→DV K ct ι n H d v→DV K ct ι n H (.exc c d) (.ref a)
 | fn {f c:Addr} {o oc:Obj} {uc:HO} {cv:Value} {l:Nat}:H f=some (.gZ o t8)→Ja o cv c→uw H cv→H c=some (.gZ oc uc)→oc.data= .cell (some (.ref (ι l)))→l<n→DV K ct ι n H (.fn l) (.ref f)
inductive j9 (K:Frag) (ct ι:Nat→Addr) (n:Nat) (H:Hp):List D→List V→Prop
 | nil:j9 K ct ι n H [] []
 | cons {d:D} {x:V} {ds:List D} {xs:List V}:DV K ct ι n H d x→j9 K ct ι n H ds xs→j9 K ct ι n H (d::ds) (x::xs)
end
structure Ext(K:Frag)(ι:Nat→Addr)(n:Nat)(H:Hp)(ι':Nat→Addr)(n':Nat)(H':Hp):Prop where
 tup:∀a xs,H a=some (.tup xs)→H' a=some (.tup xs)
 gZ:∀a xs,Mu K H a xs→Mu K H' a xs
 ex:∀a φ,H a=some (.ext φ)→H' a=some (.ext φ)
 xd:∀a fs,H a=some (.xd fs)→H' a=some (.xd fs)
 fz:∀a o u,H a=some (.gZ o u)→H' a=some (.gZ o u)
 le:n≤n'
 same:∀i,i<n→ι' i=ι i
theorem Ext.refl{K:Frag}{ι:Nat→Addr}{n:Nat}{H:Hp}:Ext K ι n H ι n H:=⟨fun _ _ h=>h,fun _ _ h=>h,fun _ _ h=>h,fun _ _ h=>h,fun _ _ _ h=>h,Nat.le_refl _,fun _ _=>rfl⟩
theorem Ext.trans{K:Frag}{ι fQ jd:Nat→Addr}{n n1 n2:Nat}{H H1 H2:Hp}(a:Ext K ι n H fQ n1 H1)(b:Ext K fQ n1 H1 jd n2 H2):Ext K ι n H jd n2 H2:=
 ⟨fun x xs h=>b.tup x xs (a.tup x xs h),fun x xs h=>b.gZ x xs (a.gZ x xs h),fun x xs h=>b.ex x xs (a.ex x xs h),fun x xs h=>b.xd x xs (a.xd x xs h),fun x o u h=>b.fz x o u (a.fz x o u h),Nat.le_trans a.le b.le,fun i hi=>(b.same i (Nat.lt_of_lt_of_le hi a.le)).trans (a.same i hi)⟩
theorem uw.mono{H H':Hp}{cv:Value}(h:uw H cv)(f:∀a o u,H a=some (.gZ o u)→H' a=some (.gZ o u)):uw H' cv:=
 let⟨c,oc,vs,q,t,a1,a2,r⟩:=h;⟨c,oc,vs,q,t,a1,f _ _ _ a2,r⟩
mutual
theorem DV.mono{K:Frag}{ct ι ι':Nat→Addr}{n n':Nat}{H H':Hp}(e:Ext K ι n H ι' n' H'):∀{d:D} {v:V},DV K ct ι n H d v→DV K ct ι' n' H' d v
 | _,_,.non=> .non
 | _,_,.bl b=> .bl b
 | _,_,.int i=> .int i
 | _,_,.str x=> .str x
 | _,_,.tup h hs=> .tup (e.tup _ _ h) (j9.mono e hs)
 | _,_,.ref (i:=i) h=>by rw[←e.same i h];exact .ref (Nat.lt_of_lt_of_le h e.le)
 | _,_,.cl h hs=> .cl (e.gZ _ _ h) (j9.mono e hs)
 | _,_,.ty s=> .ty s
 | _,_,.cls c=> .cls c
 | _,_,.exc h1 h2 h3=> .exc (e.ex _ _ h1) (e.xd _ _ h2) (DV.mono e h3)
 | _,_,.fn (l:=l) h1 h2 h3 h4 h5 h6=> .fn (e.fz _ _ _ h1) h2 (h3.mono e.fz) (e.fz _ _ _ h4) (by rw[e.same l h6];exact h5) (Nat.lt_of_lt_of_le h6 e.le)
theorem j9.mono{K:Frag}{ct ι ι':Nat→Addr}{n n':Nat}{H H':Hp}(e:Ext K ι n H ι' n' H'):∀{ds:List D} {vs:List V},j9 K ct ι n H ds vs→j9 K ct ι' n' H' ds vs
 | _,_,.nil=> .nil
 | _,_,.cons h hs=> .cons (DV.mono e h) (j9.mono e hs)
end
section
variable{K:Frag}{ct ι:Nat→Addr}{n:Nat}{H:Hp}
theorem j9.length:∀{ds:List D} {vs:List V},j9 K ct ι n H ds vs→vs.length=ds.length
 | _,_,.nil=>rfl
 | _,_,.cons _ h=>congrArg (· + 1) h.length
theorem j9.get:∀{ds:List D} {vs:List V} {i:Nat} {v:V},j9 K ct ι n H ds vs→vs[i]? = some v→∃d,ds[i]? = some d∧DV K ct ι n H d v
 | _,_,_,_,.nil,e=>by simp at e
 | _,_,0,_,.cons h _,e=>by simp at e;subst e;exact⟨_,rfl,h⟩
 | _,_,i+1,_,.cons _ hs,e=>by simpa using hs.get (i:=i) (by simpa using e)
theorem j9.at:∀{ds:List D} {vs:List V} {i:Nat} {d:D},j9 K ct ι n H ds vs→ds[i]? = some d→∃v,vs[i]? = some v∧DV K ct ι n H d v
 | _,_,_,_,.nil,e=>by simp at e
 | _,_,0,_,.cons h _,e=>by simp at e;subst e;exact⟨_,rfl,h⟩
 | _,_,i+1,_,.cons _ hs,e=>by simpa using hs.at (i:=i) (by simpa using e)
theorem j9.append:∀{ds es:List D} {vs ws:List V},j9 K ct ι n H ds vs→j9 K ct ι n H es ws→j9 K ct ι n H (ds++es) (vs++ws)
 | _,_,_,_,.nil,h=>h
 | _,_,_,_,.cons h hs,h'=> .cons h (hs.append h')
theorem j9.take:∀{ds:List D} {vs:List V} (k:Nat),j9 K ct ι n H ds vs→j9 K ct ι n H (ds.take k) (vs.take k)
 | _,_,0,_=>by simp;exact .nil
 | _,_,_+1,.nil=>by simp;exact .nil
 | _,_,k+1,.cons h hs=>by simp;exact .cons h (hs.take k)
theorem j9.drop:∀{ds:List D} {vs:List V} (k:Nat),j9 K ct ι n H ds vs→j9 K ct ι n H (ds.drop k) (vs.drop k)
 | _,_,0,h=>by simpa using h
 | _,_,_+1,.nil=>by simp;exact .nil
 | _,_,k+1,.cons _ hs=>by simp;exact hs.drop k
end
inductive Ds (K:Frag) (ct ι:Nat→Addr) (n:Nat) (H:Hp):List (Str×D)→List (Str×V)→Prop
 | nil:Ds K ct ι n H [] []
 | cons {x:Str} {d:D} {v:V} {fs:List (Str×D)} {vs:List (Str×V)}:DV K ct ι n H d v→Ds K ct ι n H fs vs→Ds K ct ι n H ((x,d)::fs) ((x,v)::vs)
theorem Ds.mono{K:Frag}{ct ι ι':Nat→Addr}{n n':Nat}{H H':Hp}(e:Ext K ι n H ι' n' H'):∀{fs:List (Str×D)} {vs:List (Str×V)},Ds K ct ι n H fs vs→Ds K ct ι' n' H' fs vs
 | _,_,.nil=> .nil
 | _,_,.cons h hs=> .cons (h.mono e) (hs.mono e)
def putD(f:Str)(d:D):List (Str×D)→List (Str×D)
 | []=>[(f,d)]
 | (x,e)::r=>if x=f then(x,d)::r else(x,e)::putD f d r
section
variable{K:Frag}{ct ι:Nat→Addr}{n:Nat}{H:Hp}
theorem Ds.length:∀{fs:List (Str×D)} {vs:List (Str×V)},Ds K ct ι n H fs vs→vs.length=fs.length
 | _,_,.nil=>rfl
 | _,_,.cons _ h=>congrArg (· + 1) h.length
theorem Ds.look{x:Str}:∀{fs:List (Str×D)} {vs:List (Str×V)} {d:D},Ds K ct ι n H fs vs→fs.lookup x=some d→∃v,vs.lookup x=some v∧DV K ct ι n H d v
 | _,_,_,.nil,e=>by simp at e
 | _,_,d,.cons (x:=y) h hs,e=>by
  rw[List.lookup_cons]at e ⊢
  cases z:x==y with
  | true=>rw[z]at e;exact⟨_,rfl,by cases e;exact h⟩
  | false=>rw[z]at e;exact hs.look e
theorem Ds.QD{x:Str}:∀{fs:List (Str×D)} {vs:List (Str×V)},Ds K ct ι n H fs vs→fs.lookup x=none→vs.lookup x=none
 | _,_,.nil,_=>rfl
 | _,_,.cons (x:=y) h hs,e=>by
  rw[List.lookup_cons]at e ⊢
  cases z:x==y with
  | true=>rw[z]at e;cases e
  | false=>rw[z]at e;exact hs.QD e
end
inductive yh (K:Frag) (ct ι:Nat→Addr) (n:Nat) (H:Hp) {κ:Type}:List (κ×D)→List (κ×V)→Prop
 | nil:yh K ct ι n H [] []
 | cons {x:κ} {d:D} {v:V} {fs:List (κ×D)} {vs:List (κ×V)}:DV K ct ι n H d v→yh K ct ι n H fs vs→yh K ct ι n H ((x,d)::fs) ((x,v)::vs)
theorem yh.mono{K:Frag}{ct ι ι':Nat→Addr}{n n':Nat}{H H':Hp}(e:Ext K ι n H ι' n' H'){κ:Type}:∀{fs:List (κ×D)} {vs:List (κ×V)},yh K ct ι n H fs vs→yh K ct ι' n' H' fs vs
 | _,_,.nil=> .nil
 | _,_,.cons h hs=> .cons (h.mono e) (hs.mono e)
theorem yh.length{K:Frag}{ct ι:Nat→Addr}{n:Nat}{H:Hp}{κ:Type}:∀{fs:List (κ×D)} {vs:List (κ×V)},yh K ct ι n H fs vs→vs.length=fs.length
 | _,_,.nil=>rfl
 | _,_,.cons _ h=>congrArg (· + 1) h.length
def OR(K:Frag)(ct ι:Nat→Addr)(n:Nat)(H:Hp)(a:Addr):MO→Prop
 | .lst ds=>∃vs,H a=some (.lst vs)∧j9 K ct ι n H ds vs
 | .ins c fs=>∃dx vs,H a=some (.ins (ct c) dx vs)∧Ds K ct ι n H fs vs
 | .dk kvs=>∃vs,H a=some (.dK vs)∧yh K ct ι n H kvs vs
 | .dt kvs=>∃vs,H a=some (.dT vs)∧yh K ct ι n H kvs vs
def TabOk(H:Hp)(ps:Array Value):Prop:=TriplesOk ps.toList∧∀pos cv,codeAmong pos ps.toList=some cv→uw H cv
def LC(ct:Nat→Addr)(H:Hp):Prop:=∀k,1000≤k→ct k≠0→∃ps,H (ct k)=some (.pH ps)∧TabOk H ps
structure Rl(K:Frag)(ct ι:Nat→Addr)(M:Mem)(H:Hp):Prop where
 inj:∀i j,i<M.length→j<M.length→ι i=ι j→i=j
 obj:∀(i:Nat) (o:MO),M[i]? = some o→OR K ct ι M.length H (ι i) o
 tab:LC ct H
structure Ws(K:Frag)(ct ι:Nat→Addr)(e:Sl)(M:Mem)(σ:St)(H:Hp):Prop where
 rl:Rl K ct ι M H
 len:σ.length=e.length
 env:∀(i:Nat) (d:D),e[i]? = some (some d)→∃v,σ[i]? = some (some v)∧DV K ct ι M.length H d v
section
variable{K:Frag}{ct ι:Nat→Addr}{M:Mem}{H:Hp}
theorem OR.some{a:Addr}{n:Nat}{o:MO}(h:OR K ct ι n H a o):∃u,H a=some u:=by
 cases o with
 | lst ds=>obtain⟨vs,e,_⟩:=h;exact⟨_,e⟩
 | ins c fs=>obtain⟨dx,vs,e,_⟩:=h;exact⟨_,e⟩
 | dk kvs=>obtain⟨vs,e,_⟩:=h;exact⟨_,e⟩
 | dt kvs=>obtain⟨vs,e,_⟩:=h;exact⟨_,e⟩
theorem A_{p:Addr}{o:HO}(hp:∀b u,H p≠some (.gZ b u)){a:Addr}{xs:List V}(h:Mu K H a xs):Mu K (upd H p o) a xs:=by
 rcases h with⟨b,h⟩ | h
 ·have ne:a≠p:=fun e=>by subst e;exact hp _ _ h
  exact .inl ⟨b,by rw[aJ ne];exact h⟩
 ·exact .inr h
theorem Kl{p:Addr}(hp:H p=none):∀b u,H p≠some (.gZ b u):=fun b u h=>by rw[hp]at h;cases h
theorem OR.keep{ι':Nat→Addr}{n n':Nat}{H':Hp}{a a':Addr}{o:MO}(e:Ext K ι n H ι' n' H')(ea:a'=a)(hh:H' a=H a)(h:OR K ct ι n H a o):OR K ct ι' n' H' a' o:=by
 subst ea
 cases o with
 | lst ds=>obtain⟨vs,q,r⟩:=h;exact⟨vs,by rw[hh];exact q,r.mono e⟩
 | ins c fs=>obtain⟨dx,vs,q,r⟩:=h;exact⟨dx,vs,by rw[hh];exact q,r.mono e⟩
 | dk kvs=>obtain⟨vs,q,r⟩:=h;exact⟨vs,by rw[hh];exact q,r.mono e⟩
 | dt kvs=>obtain⟨vs,q,r⟩:=h;exact⟨vs,by rw[hh];exact q,r.mono e⟩
def jq(ι:Nat→Addr)(n:Nat)(p:Addr):Nat→Addr:=fun i=>if i=n then p else ι i
theorem ir{p a:Addr}{o u:HO}(hp:H p=none)(h:H a=some u):upd H p o a=some u:=by rw[aJ (bB h hp)];exact h
theorem LC.keep{H':Hp}(h:LC ct H)(h1:∀a ps,H a=some (.pH ps)→H' a=some (.pH ps))(h2:∀a o u,H a=some (.gZ o u)→H' a=some (.gZ o u)):LC ct H':=fun k hk hc=>
 let⟨ps,a,t,b⟩:=h k hk hc
 ⟨ps,h1 _ _ a,t,fun pos cv z=>(b pos cv z).mono h2⟩
theorem Ext.fresh{n:Nat}{p:Addr}{o:HO}(hp:H p=none):Ext K ι n H ι n (upd H p o):=⟨fun _ _ h=>ir hp h,fun _ _ h=>A_ (Kl hp) h,fun _ _ h=>ir hp h,fun _ _ h=>ir hp h,fun _ _ _ h=>ir hp h,Nat.le_refl _,fun _ _=>rfl⟩
theorem Rl.lt(R:Rl K ct ι M H){i:Nat}{o:MO}(h:M[i]? = some o):∃u,H (ι i)=some u:=(R.obj i o h).some
theorem Rl.fresh(R:Rl K ct ι M H){p:Addr}{o:HO}(hp:H p=none):Rl K ct ι M (upd H p o):=by
 refine⟨R.inj,fun i x h=> ?_,R.tab.keep (fun _ _ h=>ir hp h) fun _ _ _ h=>ir hp h⟩
 obtain⟨u,hu⟩:=R.lt h
 exact(R.obj i x h).keep (Ext.fresh hp) rfl (aJ (bB hu hp))
theorem Ext.new{p:Addr}{o:HO}(hp:H p=none):Ext K ι M.length H (jq ι M.length p) (M.length+1) (upd H p o):=
 ⟨fun _ _ h=>ir hp h,fun _ _ h=>A_ (Kl hp) h,fun _ _ h=>ir hp h,fun _ _ h=>ir hp h,fun _ _ _ h=>ir hp h,Nat.le_succ _,fun i hi=>by unfold jq;rw[if_neg (Nat.ne_of_lt hi)]⟩
theorem Rl.new(R:Rl K ct ι M H){p:Addr}{o:HO}{x:MO}(hp:H p=none)(h:OR K ct (jq ι M.length p) (M.length+1) (upd H p o) p x):Rl K ct (jq ι M.length p) (M++[x]) (upd H p o):=by
 have ne:∀i,i<M.length→ι i≠p:=fun i hi=>by
  obtain⟨u,hu⟩:=R.lt (List.getElem?_eq_getElem hi)
  exact bB hu hp
 have el:(M++[x]).length=M.length+1:=by simp
 refine⟨fun i j hi hj e=> ?_,fun i y hy=> ?_,R.tab.keep (fun _ _ h=>ir hp h) fun _ _ _ h=>ir hp h⟩
 ·rw[el]at hi hj
  unfold jq at e
  by_cases a:i=M.length
  ·by_cases b:j=M.length
   ·rw[a,b]
   ·rw[if_pos a,if_neg b]at e
    exact absurd e.symm (ne j (by omega))
  ·by_cases b:j=M.length
   ·rw[if_neg a,if_pos b]at e
    exact absurd e (ne i (by omega))
   ·rw[if_neg a,if_neg b]at e
    exact R.inj i j (by omega) (by omega) e
 ·rw[el]
  by_cases a:i<M.length
  ·rw[List.getElem?_append_left a]at hy
   obtain⟨u,hu⟩:=R.lt hy
   refine(R.obj i y hy).keep (Ext.new hp) ?_ (aJ (bB hu hp))
   unfold jq
   rw[if_neg (Nat.ne_of_lt a)]
  ·have hi:i<(M++[x]).length:=(List.getElem?_eq_some_iff.mp hy).1
   have e:i=M.length:=by rw[el]at hi;omega
   subst e
   rw[List.getElem?_append_right (Nat.le_refl _)]at hy
   simp at hy
   subst hy
   have:jq ι M.length p M.length=p:=by unfold jq;rw[if_pos rfl]
   rw[this]
   exact h
theorem Ext.chg{n:Nat}{a:Addr}{o u:HO}(h:H a=some u)(hu:∀xs,u≠ .tup xs)(hz:∀b x,u≠ .gZ b x)(hx:∀φ,u≠ .ext φ:=by exact fun _ z=>nomatch z)(hd:∀fs,u≠ .xd fs:=by exact fun _ z=>nomatch z):Ext K ι n H ι n (upd H a o):=
 ⟨fun b xs q=>by
  rw[aJ (fun e=>by subst e;rw[h]at q;exact hu xs (Option.some.inj q))];exact q,fun _ _ q=>A_ (fun b x r=>by rw[h]at r;exact hz b x (Option.some.inj r)) q,fun b φ q=>by
  rw[aJ (fun e=>by subst e;rw[h]at q;exact hx φ (Option.some.inj q))];exact q,fun b fs q=>by
  rw[aJ (fun e=>by subst e;rw[h]at q;exact hd fs (Option.some.inj q))];exact q,fun b x y q=>by
  rw[aJ (fun e=>by subst e;rw[h]at q;exact hz x y (Option.some.inj q))];exact q,Nat.le_refl _,fun _ _=>rfl⟩
theorem Rl.chg(R:Rl K ct ι M H){i:Nat}{o u:HO}{x:MO}(hi:i<M.length)(h:H (ι i)=some u)(hu:∀xs,u≠ .tup xs)(hz:∀b x,u≠ .gZ b x)(hx:OR K ct ι M.length (upd H (ι i) o) (ι i) x)(hex:∀φ,u≠ .ext φ:=by exact fun _ z=>nomatch z)(hxd:∀fs,u≠ .xd fs:=by exact fun _ z=>nomatch z)(htb:∀ps,u≠ .pH ps:=by exact fun _ z=>nomatch z):Rl K ct ι (M.set i x) (upd H (ι i) o):=by
 refine⟨fun j k hj hk e=>R.inj j k (by simpa using hj) (by simpa using hk) e,fun j y hy=> ?_,R.tab.keep (fun b ps q=>by
  rw[aJ (fun e=>by subst e;rw[h]at q;exact htb ps (Option.some.inj q))];exact q) fun b x y q=>by
  rw[aJ (fun e=>by subst e;rw[h]at q;exact hz x y (Option.some.inj q))];exact q⟩
 rw[List.length_set]
 by_cases e:i=j
 ·subst e
  rw[List.getElem?_set_self hi]at hy
  cases hy
  exact hx
 ·rw[List.getElem?_set_ne e]at hy
  have hj:j<M.length:=(List.getElem?_eq_some_iff.mp hy).1
  exact(R.obj j y hy).keep (Ext.chg h hu hz hex hxd) rfl (aJ fun z=>e (R.inj i j hi hj z.symm))
theorem Ws.ext{ι':Nat→Addr}{e:Sl}{M':Mem}{σ:St}{H':Hp}(w:Ws K ct ι e M σ H)(x:Ext K ι M.length H ι' M'.length H')(r:Rl K ct ι' M' H'):Ws K ct ι' e M' σ H':=
 ⟨r,w.len,fun i d h=>let⟨v,a,b⟩:=w.env i d h;⟨v,a,b.mono x⟩⟩
theorem Ws.set{e:Sl}{σ:St}{d:D}{v:V}(w:Ws K ct ι e M σ H)(i:Nat)(h:DV K ct ι M.length H d v):Ws K ct ι (e.set i (some d)) M (σ.set i (some v)) H:=by
 refine⟨w.rl,by simp[w.len],fun j d' hj=> ?_⟩
 by_cases z:i=j
 ·subst z
  have hi:i<e.length:=by have:=(List.getElem?_eq_some_iff.mp hj).1;simpa using this
  rw[List.getElem?_set_self hi]at hj
  cases hj
  exact⟨v,List.getElem?_set_self (by rw[w.len];exact hi),h⟩
 ·rw[List.getElem?_set_ne z]at hj
  obtain⟨v',a,b⟩:=w.env j d' hj
  exact⟨v',by rw[List.getElem?_set_ne z];exact a,b⟩
end
abbrev XW:=Addr→Addr→Hp→Prop
def Vw(W:aU)(σ:St):XW:=fun C dx H=>W C dx σ H
def W0:aU:=fun _ _ _ _=>False
def iz{α β:Type}(rel:(Nat→Addr)→Mem→Hp→α→β→Prop)(K:Frag)(ct:Nat→Addr)(w:XW)(ι:Nat→Addr)(n:Nat)(H:Hp)(o:Out α)(Q:β→Hp→Prop):Prop:=match o with
 | .ok a M'=>∀ι' b H',Ext K ι n H ι' M'.length H'→Rl K ct ι' M' H'→rel ι' M' H' a b→Q b H'
 | .exc c d M'=>∀ι' dx v H',Ext K ι n H ι' M'.length H'→Rl K ct ι' M' H'→H' dx=some (.xd [("at",v)])→DV K ct ι' M'.length H' d v→w (ct c) dx H'
 | .bad=>False
def tG{α β:Type}(rel:(Nat→Addr)→Mem→Hp→α→β→Prop)(K:Frag)(ct:Nat→Addr)(W:aU)(m:Sl→Mem→Out α)(σ:St)(H:Hp)(Q:β→Hp→Prop):Prop:=
 ∃ι e M,Ws K ct ι e M σ H∧iz rel K ct (Vw W σ) ι M.length H (m e M) Q
abbrev e_(K:Frag)(ct:Nat→Addr):(Nat→Addr)→Mem→Hp→D→V→Prop:=fun ι M H d v=>DV K ct ι M.length H d v
abbrev xg(K:Frag)(ct:Nat→Addr):(Nat→Addr)→Mem→Hp→List D→List V→Prop:=fun ι M H d v=>j9 K ct ι M.length H d v
abbrev yz:(Nat→Addr)→Mem→Hp→Bool→Bool→Prop:=fun _ _ _ a b=>a=b
abbrev ME:=Sl→Mem→Out D
abbrev MT:=Sl→Mem→Out Bool
abbrev MA:=Sl→Mem→Out (List D)
def SE(X:Cx)(ct:Nat→Addr)(W:aU)(e:Expr)(m:ME):Prop:=PE X e (tG (e_ X.K ct) X.K ct W m)
def LK(X:Cx)(ct:Nat→Addr)(W:aU)(e:Expr)(m:MT):Prop:=PT X e (tG yz X.K ct W m)
def SW(X:Cx)(ct:Nat→Addr)(W:aU)(e:Expr)(m:MT):Prop:=PW X e (tG yz X.K ct W m)
def SA(X:Cx)(ct:Nat→Addr)(W:aU)(es:List Expr)(m:MA):Prop:=PA X es (tG (xg X.K ct) X.K ct W m)
theorem SW.pt{X:Cx}{ct:Nat→Addr}{W:aU}{e:Expr}{m:MT}(h:SW X ct W e m):LK X ct W e m:=PW.pt h
section
variable{X:Cx}{ct:Nat→Addr}
theorem PE.imp{e:Expr}{t t':TE}(h:PE X e t)(hi:∀σ H Q,t' σ H Q→t σ H Q):PE X e t':=fun pins s σ H Q I q=>h pins s σ H Q I (hi σ H Q q)
theorem PT.imp{e:Expr}{t t':TT}(h:PT X e t)(hi:∀σ H Q,t' σ H Q→t σ H Q):PT X e t':=fun pins s σ H Q I q=>h pins s σ H Q I (hi σ H Q q)
theorem PW.imp{e:Expr}{t t':TT}(h:PW X e t)(hi:∀σ H Q,t' σ H Q→t σ H Q):PW X e t':=fun wh pins s σ H Q I q=>h wh pins s σ H Q I (hi σ H Q q)
theorem PA.imp{es:List Expr}{t t':TA}(h:PA X es t)(hi:∀σ H Q,t' σ H Q→t σ H Q):PA X es t':=fun pos pins s σ H Q I q=>h pos pins s σ H Q I (hi σ H Q q)
end
theorem iz.ext{α β:Type}{rel:(Nat→Addr)→Mem→Hp→α→β→Prop}{K:Frag}{ct ι ι':Nat→Addr}{w:XW}{n n':Nat}{H H':Hp}{o:Out α}{Q:β→Hp→Prop}(h:iz rel K ct w ι n H o Q)(x:Ext K ι n H ι' n' H'):iz rel K ct w ι' n' H' o Q:=by
 cases o with
 | ok a M=>exact fun jd b H2 x2 r q=>h jd b H2 (x.trans x2) r q
 | exc c d M=>exact fun jd dx v H2 x2 r q1 q2=>h jd dx v H2 (x.trans x2) r q1 q2
 | bad=>exact h
theorem iz.mono{α β:Type}{rel:(Nat→Addr)→Mem→Hp→α→β→Prop}{K:Frag}{ct ι:Nat→Addr}{w:XW}{n:Nat}{H:Hp}{o:Out α}{Q Q':β→Hp→Prop}(h:iz rel K ct w ι n H o Q)(x:∀b H,Q b H→Q' b H):iz rel K ct w ι n H o Q':=by
 cases o with
 | ok a M=>exact fun jd b H2 x2 r q=>x b H2 (h jd b H2 x2 r q)
 | exc c d M=>exact h
 | bad=>exact h
def adw{α β γ δ:Type}(gH:(Nat→Addr)→Mem→Hp→α→β→Prop)(F_:(Nat→Addr)→Mem→Hp→γ→δ→Prop)(K:Frag)(ct:Nat→Addr)(W:aU)(f:α→Sl→Mem→Out γ)(σ:St)(Q:δ→Hp→Prop)(b:β)(H1:Hp):Prop:=
 ∃ι e M a,Ws K ct ι e M σ H1∧gH ι M H1 a b∧iz F_ K ct (Vw W σ) ι M.length H1 (f a e M) Q
theorem cO{α β γ δ:Type}{gH:(Nat→Addr)→Mem→Hp→α→β→Prop}{F_:(Nat→Addr)→Mem→Hp→γ→δ→Prop}{K:Frag}{ct:Nat→Addr}{W:aU}{ma:Sl→Mem→Out α}{f:α→Sl→Mem→Out γ}{σ:St}{H:Hp}{Q:δ→Hp→Prop}
  (h:tG F_ K ct W (fun e M=>(ma e M).bind fun a M1=>f a e M1) σ H Q):tG gH K ct W ma σ H (adw gH F_ K ct W f σ Q):=by
 obtain⟨ι,e,M,w,p⟩:=h
 refine⟨ι,e,M,w,?_⟩
 cases z:ma e M with
 | bad=>simp only[z,Out.iu]at p;exact p
 | exc xc xd xM=>simp only[z,Out.j5]at p;exact p
 | ok a M1=>
  simp only[z,Out.iI]at p
  exact fun fQ b H1 x r q=>⟨fQ,e,M1,a,w.ext x r,q,p.ext x⟩
section
variable{X:Cx}{ct:Nat→Addr}{W:aU}{a b c:Expr}{ma mb mc:ME}{pos:Pos}
@[irreducible] def aq(i:Nat):ME:=fun e M=>match e[i]? with
 | some (some d)=> .ok d M
 | _=> .bad
theorem tZ{i:Nat}{e:Sl}{M:Mem}{d:D}(h:e[i]? = some (some d)):aq i e M= .ok d M:=by unfold aq;rw[h]
def mC(d:D):ME:=fun _ M=> .ok d M
theorem eO{e:Expr}{t:TE}{m:ME}(h:PE X e t)(hi:∀σ H Q,tG (e_ X.K ct) X.K ct W m σ H Q→t σ H Q):SE X ct W e m:=PE.imp h hi
theorem aj(i:Nat){x:Str}{pos:Pos}(hN:X.N[i]? = some x:=by rfl)(hv:ZK X.env.scope x:=by first | exact Or.inl rfl | exact Or.inr (Or.inl rfl) | exact Or.inr (Or.inr rfl))(hd:(x==("__debug__" : Str))=false:=by decide)
  (hcd:(x==("__classdict__" : Str))=false:=by decide):SE X ct W (.Name x pos) (aq i):=eO (Ac hN hv hd hcd) fun σ H Q ⟨ι,e,M,w,p⟩=>by
 unfold aq at p
 cases z:e[i]? with
 | none=>rw[z]at p;exact p.elim
 | some o=>
  cases o with
  | none=>rw[z]at p;exact p.elim
  | some d=>
   rw[z]at p
   obtain⟨v,hv,dv⟩:=w.env i d z
   exact⟨v,hv,p ι v H .refl w.rl dv⟩
theorem BR{d:D}{v:V}{σ:St}{H:Hp}{Q:VK}(dv:∀ι n,DV X.K ct ι n H d v)(h:tG (e_ X.K ct) X.K ct W (mC d) σ H Q):tC v σ H Q:=by
 obtain⟨ι,e,M,w,p⟩:=h
 exact p ι v H .refl w.rl (dv _ _)
theorem aA{i j pos}:SE X ct W (.Constant (.int i) j pos) (mC (.int i)):=eO R9 fun _ _ _ h=>BR (fun _ _=> .int i) h
theorem BV{b j pos}:SE X ct W (.Constant (.bool b) j pos) (mC (.bl b)):=eO WX fun _ _ _ h=>BR (fun _ _=> .bl b) h
theorem jT{j pos}:SE X ct W (.Constant .none j pos) (mC .non):=eO R4 fun _ _ _ h=>BR (fun _ _=> .non) h
theorem gJ{x j pos}:SE X ct W (.Constant (.str x) j pos) (mC (.str x)):=eO RZ fun _ _ _ h=>BR (fun _ _=> .str x) h
theorem qC{x:Str}{n:String}{pos:Pos}(hg:Gl X x)(hm:X.mg x=none)(hv:bootBuiltins x=some (.type n))(hn:x≠ "__name__" := by decide)(hd:(x==("__debug__" : Str))=false:=by decide):SE X ct W (.Name x pos) (mC (.ty n)):=
 eO (Oh (v:= .ty n) hg hm hv rfl hn hd) fun _ _ _ h=>BR (fun _ _=> .ty n) h
abbrev nQ:=D→D→Mem→Out D
def aL(op:nQ)(ma mb:ME):ME:=fun e M=>(ma e M).bind fun d M1=>(mb e M1).bind fun d' M2=>op d d' M2
def Bv(K:Frag)(ct:Nat→Addr)(op:nQ)(r:R2):Prop:=
 ∀{w:XW} ι M H d d' v v' Q,Rl K ct ι M H→DV K ct ι M.length H d v→DV K ct ι M.length H d' v'→iz (e_ K ct) K ct w ι M.length H (op d d' M) Q→r v v' H Q
def jr(X:Cx)(ct:Nat→Addr)(f:Value→Value→Sem Value)(op:nQ):Prop:=∃r,rB X f r∧Bv X.K ct op r
theorem zJ{r:R2}{op:nQ}(hs:Bv X.K ct op r){σ:St}{H:Hp}{Q:VK}(h:tG (e_ X.K ct) X.K ct W (aL op ma mb) σ H Q):
  VD r (tG (e_ X.K ct) X.K ct W ma) (tG (e_ X.K ct) X.K ct W mb) σ H Q:=by
 obtain⟨ι,e,M,w,p⟩:=cO (gH:=e_ X.K ct) h
 refine⟨ι,e,M,w,p.mono fun x H1 ⟨fQ,e1,M1,d1,w1,q1,p1⟩=> ?_⟩
 refine⟨fQ,e1,M1,w1,?_⟩
 cases z:mb e1 M1 with
 | bad=>simp only[z,Out.iu]at p1;exact p1
 | exc xc xd xM=>simp only[z,Out.j5]at p1;exact p1
 | ok d2 M2=>
  simp only[z,Out.iI]at p1
  exact fun jd y H2 x2 r2 q2=>hs jd M2 H2 d1 d2 x y Q r2 (q1.mono x2) q2 (p1.ext x2)
theorem aO{op:Operator}{Je:nQ}(h:jr X ct (binaryOp op) Je)(ha:SE X ct W a ma)(hb:SE X ct W b mb):SE X ct W (.BinOp a op b pos) (aL Je ma mb):=by
 obtain⟨r,ho,hs⟩:=h
 exact eO (WT ho ha hb) fun σ H Q q=>zJ hs q
theorem rW{op:CmpOp}{Je:nQ}(h:jr X ct (compareOp op) Je)(ha:SE X ct W a ma)(hb:SE X ct W b mb)(hm:behindInMarks op b=false):SE X ct W (.Compare a [op] [b] pos) (aL Je ma mb):=by
 obtain⟨r,ho,hs⟩:=h
 exact eO (Og ho ha hb hm) fun σ H Q q=>zJ hs q
def Lr(d:D)(M:Mem):Out Bool:=match d with
 | .bl b=> .ok b M
 | _=> .bad
def bN(m:ME):MT:=fun e M=>(m e M).bind Lr
theorem BK{t:TE}{m:ME}{σ:St}{H:Hp}{Q:Bool→Hp→Prop}(hi:∀Q,tG (e_ X.K ct) X.K ct W m σ H Q→t σ H Q)(h:tG yz X.K ct W (bN m) σ H Q):Qm t σ H Q:=by
 refine hi _ ?_
 obtain⟨ι,e,M,w,p⟩:=cO (gH:=e_ X.K ct) (f:=fun d _ M=>Lr d M) h
 refine⟨ι,e,M,w,p.mono fun x H1 ⟨fQ,e1,M1,d1,w1,q1,p1⟩=> ?_⟩
 cases q1 with
 | bl b=>exact⟨b,rfl,p1 fQ b H1 .refl w1.rl rfl⟩
 | _=>exact False.elim p1
theorem bR{op:CmpOp}{Je:nQ}(h:jr X ct (compareOp op) Je)(ha:SE X ct W a ma)(hb:SE X ct W b mb)(hm:behindInMarks op b=false):LK X ct W (.Compare a [op] [b] pos) (bN (aL Je ma mb)):=by
 obtain⟨r,ho,hs⟩:=h
 exact PT.imp (N6 ho ha hb hm) fun σ H Q q=>BK (fun Q q=>zJ hs q) q
theorem pM{m:ME}(h:SE X ct W a m)(he:∀whole,isTrue a X.env whole=(do let v ←whole;standAt a.pos;holding [v] (truthy v)):=by intro _;rfl):LK X ct W a (bN m):=
 PT.imp (RK h he) fun σ H Q q=>BK (fun Q q=>q) q
def mUn(op:D→Mem→Out D)(ma:ME):ME:=fun e M=>(ma e M).bind op
def UnS(X:Cx)(ct:Nat→Addr)(f:Value→Sem Value)(op:D→Mem→Out D):Prop:=∃r,UnR X f r∧∀{w:XW} ι M H d v Q,Rl X.K ct ι M H→DV X.K ct ι M.length H d v→iz (e_ X.K ct) X.K ct w ι M.length H (op d M) Q→r v H Q
theorem VR{op:UnaryOp}{Je:D→Mem→Out D}(h:UnS X ct (unaryOp op) Je)(ha:SE X ct W a ma):SE X ct W (.UnaryOp op a pos) (mUn Je ma):=by
 obtain⟨r,ho,hs⟩:=h
 refine eO (WR ho ha) fun σ H Q q=> ?_
 obtain⟨ι,e,M,w,p⟩:=cO (gH:=e_ X.K ct) (f:=fun d _ M=>Je d M) q
 exact⟨ι,e,M,w,p.mono fun x H1 ⟨fQ,e1,M1,d1,w1,q1,p1⟩=>hs fQ M1 H1 d1 x Q w1.rl q1 p1⟩
variable{t u:MT}{rest:List Expr}
def HS(t u:MT):MT:=fun e M=>(t e M).bind fun k M1=>if k=true then u e M1 else .ok false M1
def Vn(t u:MT):MT:=fun e M=>(t e M).bind fun k M1=>if k=true then .ok true M1 else u e M1
def Ep(t:MT):MT:=fun e M=>(t e M).bind fun k M1=> .ok (!k) M1
theorem vR(ha:LK X ct W a t):SW X ct W (.BoolOp .And [a] pos) t:=NQ ha
theorem zK(ha:LK X ct W a t):SW X ct W (.BoolOp .Or [a] pos) t:=RG ha
theorem zL(ha:LK X ct W a t)(hb:SW X ct W (.BoolOp .And (b::rest) pos) u):SW X ct W (.BoolOp .And (a::b::rest) pos) (HS t u):=PW.imp (RJ ha hb) fun σ H Q q=>by
 obtain⟨ι,e,M,w,p⟩:=cO (gH:=yz) (f:=fun k e M1=>if k=true then u e M1 else .ok false M1) q
 refine⟨ι,e,M,w,p.mono fun k H1 ⟨fQ,e1,M1,d1,w1,q1,p1⟩=> ?_⟩
 have K1:d1=k:=q1;subst K1
 cases d1 with
 | true=>exact⟨fQ,e1,M1,w1,p1⟩
 | false=>exact p1 fQ false H1 .refl w1.rl rfl
theorem FN(ha:LK X ct W a t)(hb:SW X ct W (.BoolOp .Or (b::rest) pos) u):SW X ct W (.BoolOp .Or (a::b::rest) pos) (Vn t u):=PW.imp (Wm ha hb) fun σ H Q q=>by
 obtain⟨ι,e,M,w,p⟩:=cO (gH:=yz) (f:=fun k e M1=>if k=true then .ok true M1 else u e M1) q
 refine⟨ι,e,M,w,p.mono fun k H1 ⟨fQ,e1,M1,d1,w1,q1,p1⟩=> ?_⟩
 have K1:d1=k:=q1;subst K1
 cases d1 with
 | false=>exact⟨fQ,e1,M1,w1,p1⟩
 | true=>exact p1 fQ true H1 .refl w1.rl rfl
theorem wL(ha:LK X ct W a t):LK X ct W (.UnaryOp .Not a pos) (Ep t):=PT.imp (RL ha) fun σ H Q q=>by
 obtain⟨ι,e,M,w,p⟩:=cO (gH:=yz) (f:=fun k e M1=> .ok (!k) M1) q
 refine⟨ι,e,M,w,p.mono fun k H1 ⟨fQ,e1,M1,d1,w1,q1,p1⟩=> ?_⟩
 have K1:d1=k:=q1;subst K1
 exact p1 fQ _ H1 .refl w1.rl rfl
def xO(ma mb:ME):ME:=fun e M=>(ma e M).bind fun d M1=>(Lr d M1).bind fun k M2=>if k=true then mb e M2 else .ok (.bl false) M2
def Kv(ma:ME):ME:=fun e M=>(ma e M).bind fun d M1=>(Lr d M1).bind fun k M2=> .ok (.bl (!k)) M2
theorem zO{op}{m:ME}(h:SE X ct W a m):SE X ct W (.BoolOp op [a] pos) m:=R0 h
theorem wO(ha:SE X ct W a ma)(hb:SE X ct W (.BoolOp .And (b::rest) pos) mb):SE X ct W (.BoolOp .And (a::b::rest) pos) (xO ma mb):=eO (Sd ha hb) fun σ H Q q=>by
 obtain⟨ι,e,M,w,p⟩:=cO (gH:=e_ X.K ct) (f:=fun d e M1=>(Lr d M1).bind fun k M2=>if k=true then mb e M2 else .ok (.bl false) M2) q
 refine⟨ι,e,M,w,p.mono fun x H1 ⟨fQ,e1,M1,d1,w1,q1,p1⟩=> ?_⟩
 cases q1 with
 | bl k=>
  refine⟨k,rfl,?_⟩
  simp only[Lr,Out.iI]at p1
  cases k with
  | true=>exact⟨fQ,e1,M1,w1,p1⟩
  | false=>exact p1 fQ _ H1 .refl w1.rl (.bl false)
 | _=>exact False.elim p1
theorem Rj(ha:SE X ct W a ma):SE X ct W (.UnaryOp .Not a pos) (Kv ma):=eO (R3 ha) fun σ H Q q=>by
 obtain⟨ι,e,M,w,p⟩:=cO (gH:=e_ X.K ct) (f:=fun d _ M1=>(Lr d M1).bind fun k M2=>(Out.ok (D.bl (!k)) M2:Out D)) q
 refine⟨ι,e,M,w,p.mono fun x H1 ⟨fQ,e1,M1,d1,w1,q1,p1⟩=> ?_⟩
 cases q1 with
 | bl k=>exact⟨k,rfl,p1 fQ _ H1 .refl w1.rl (.bl _)⟩
 | _=>exact False.elim p1
variable{es:List Expr}{ms:MA}
def aH:MA:=fun _ M=> .ok [] M
def ao(m:ME)(ms:MA):MA:=fun e M=>(m e M).bind fun d M1=>(ms e M1).bind fun ds M2=> .ok (d::ds) M2
theorem az:SA X ct W [] aH:=PA.imp Kc fun σ H Q ⟨ι,e,M,w,p⟩=>p ι [] H .refl w.rl .nil
theorem ak(ha:SE X ct W a ma)(hr:SA X ct W es ms)(hs:starEach (a::es) X.env=(false,eval a X.env)::starEach es X.env:=by rfl):SA X ct W (a::es) (ao ma ms):=PA.imp (Gd ha hr hs) fun σ H Q q=>by
 obtain⟨ι,e,M,w,p⟩:=cO (gH:=e_ X.K ct) (f:=fun d e M1=>(ms e M1).bind fun ds M2=> .ok (d::ds) M2) q
 refine⟨ι,e,M,w,p.mono fun x H1 ⟨fQ,e1,M1,d1,w1,q1,p1⟩=>⟨fQ,e1,M1,w1,?_⟩⟩
 cases z:ms e1 M1 with
 | bad=>simp only[z,Out.iu]at p1;exact p1
 | exc xc xd xM=>simp only[z,Out.j5]at p1;exact p1
 | ok ds M2=>
  simp only[z,Out.iI]at p1
  exact fun jd xs H2 x2 r2 q2=>p1 jd (x::xs) H2 x2 r2 (.cons (q1.mono x2) q2)
def jK(ms:MA):ME:=fun e M=>(ms e M).bind fun ds M1=>if ds.length≤sizeLine then .ok (.tup ds) M1 else .bad
def kE(ms:MA):ME:=fun e M=>(ms e M).bind fun ds M1=>if ds.length≤sizeLine then .ok (.ref M1.length) (M1++[.lst ds])else .bad
theorem Cm{w:XW}{K:Frag}{ι:Nat→Addr}{M:Mem}{H:Hp}{ds:List D}{xs:List V}{Q:VK}{p:Addr}(R:Rl K ct ι M H)(h:j9 K ct ι M.length H ds xs)(hp:H p=none)(q:iz (e_ K ct) K ct w ι M.length H (.ok (.tup ds) M) Q):Q (.ref p) (upd H p (.tup xs)):=
 q ι (.ref p) _ (Ext.fresh hp) (R.fresh hp) (.tup aX (h.mono (Ext.fresh hp)))
theorem tQ{w:XW}{K:Frag}{ι:Nat→Addr}{M:Mem}{H:Hp}{ds:List D}{xs:List V}{Q:VK}{p:Addr}(R:Rl K ct ι M H)(h:j9 K ct ι M.length H ds xs)(hp:H p=none)(q:iz (e_ K ct) K ct w ι M.length H (.ok (.ref M.length) (M++[.lst ds])) Q):Q (.ref p) (upd H p (.lst xs)):=by
 have el:(M++[MO.lst ds]).length=M.length+1:=by simp
 have x:Ext K ι M.length H (jq ι M.length p) (M.length+1) (upd H p (.lst xs)):=Ext.new hp
 have e:(jq ι M.length p) M.length=p:=by unfold jq;rw[if_pos rfl]
 have dv:DV K ct (jq ι M.length p) (M++[MO.lst ds]).length (upd H p (.lst xs)) (.ref M.length) (.ref p):=by
  have:=DV.ref (K:=K) (ct:=ct) (ι:=jq ι M.length p) (n:=(M++[MO.lst ds]).length) (H:=upd H p (.lst xs)) (i:=M.length) (by rw[el];omega)
  rw[e]at this
  exact this
 exact q (jq ι M.length p) (.ref p) _ (by rw[el];exact x) (R.new hp ⟨xs,aX,h.mono x⟩) dv
theorem dz{x1}(h:SA X ct W es ms):SE X ct W (.Tuple es x1 pos) (jK ms):=eO (RX h) fun σ H Q q=>by
 obtain⟨ι,e,M,w,p⟩:=cO (gH:=xg X.K ct) (f:=fun ds _ M1=>if ds.length≤sizeLine then .ok (D.tup ds) M1 else .bad) q
 refine⟨ι,e,M,w,p.mono fun xs H1 ⟨fQ,e1,M1,ds,w1,q1,p1⟩=> ?_⟩
 by_cases z:ds.length≤sizeLine
 ·simp only[z,if_true]at p1
  exact⟨by rw[q1.length];exact z,fun pp hp=>Cm w1.rl q1 hp p1⟩
 ·simp only[z,if_false]at p1
  exact p1.elim
theorem fJ(h:SA X ct W es ms):SE X ct W (.List es pos) (kE ms):=eO (R7 h) fun σ H Q q=>by
 obtain⟨ι,e,M,w,p⟩:=cO (gH:=xg X.K ct) (f:=fun ds _ M1=>if ds.length≤sizeLine then .ok (D.ref M1.length) (M1++[.lst ds])else .bad) q
 refine⟨ι,e,M,w,p.mono fun xs H1 ⟨fQ,e1,M1,ds,w1,q1,p1⟩=> ?_⟩
 by_cases z:ds.length≤sizeLine
 ·simp only[z,if_true]at p1
  exact⟨by rw[q1.length];exact z,fun pp hp=>tQ w1.rl q1 hp p1⟩
 ·simp only[z,if_false]at p1
  exact p1.elim
def lB(cs:List Nat)(f:Str)(d:D)(M:Mem):Out D:=match d with
 | .ref n=>match M[n]? with
  | some (.ins c fs)=>if c∈cs then(match fs.lookup f with
   | some v=> .ok v M
   | none=> .bad)else .bad
  | _=> .bad
 | _=> .bad
def dD(cs:List Nat)(m:ME)(f:Str):ME:=fun e M=>(m e M).bind (lB cs f)
def yp(K:Frag)(ct:Nat→Addr)(f:Str):List Nat→Prop
 | []=>True
 | c::cs=>(zA K (ct c)∧cL K (ct c) f)∧yp K ct f cs
theorem yp.get{K:Frag}{ct:Nat→Addr}{f:Str}:∀{cs:List Nat} {c:Nat},yp K ct f cs→c∈cs→zA K (ct c)∧cL K (ct c) f
 | [],_,_,h=>by simp at h
 | c::cs,d,⟨a,r⟩,h=>by
  rcases List.mem_cons.mp h with e | e
  ·subst e;exact a
  ·exact r.get e
theorem nq{K:Frag}{ι:Nat→Addr}{n:Nat}{H:Hp}{i:Nat}{v:V}(h:DV K ct ι n H (.ref i) v):i<n∧v= .ref (ι i):=by cases h with | ref h=>exact⟨h,rfl⟩
theorem aW{cs:List Nat}{f:Str}(hc:yp X.K ct f cs)(he:SE X ct W a ma)(hb:attributeBase a f X.env (eval a X.env)=eval a X.env:=by rfl):SE X ct W (.Attribute a f pos) (dD cs ma f):=eO (R_ he hb) fun σ H Q q=>by
 obtain⟨ι,e,M,w,p⟩:=cO (gH:=e_ X.K ct) (f:=fun d _ M1=>lB cs f d M1) q
 refine⟨ι,e,M,w,p.mono fun x H1 ⟨fQ,e1,M1,d1,w1,q1,p1⟩=> ?_⟩
 cases d1 with
 | ref n=>
  obtain⟨hn,rfl⟩:=nq q1
  simp only[lB]at p1
  cases z:M1[n]? with
  | none=>simp only[z]at p1;exact p1.elim
  | some o=>
   cases o with
   | ins c fs=>
    simp only[z]at p1
    by_cases hcs:c∈cs
    ·simp only[hcs,if_true]at p1
     cases z2:fs.lookup f with
     | none=>simp only[z2]at p1;exact p1.elim
     | some d=>
      simp only[z2]at p1
      obtain⟨dx,vs,hH,fv⟩:=w1.rl.obj n _ z
      obtain⟨v,hv,dv⟩:=fv.look z2
      exact⟨_,_,dx,vs,v,rfl,hH,(hc.get hcs).1,(hc.get hcs).2,hv,p1 fQ v H1 .refl w1.rl dv⟩
    ·simp only[hcs,if_false]at p1
     exact p1.elim
   | _=>simp only[z]at p1;exact p1.elim
 | _=>exact p1.elim
abbrev Fn:=List D→Mem→Out D
def wE(E:XK):XW:=fun C dx H=>E (.ref C) (some dx) H
theorem iz.wish{α β:Type}{rel:(Nat→Addr)→Mem→Hp→α→β→Prop}{K:Frag}{ct ι:Nat→Addr}{w w':XW}{n:Nat}{H:Hp}{o:Out α}{Q:β→Hp→Prop}(h:iz rel K ct w ι n H o Q)(x:∀C dx H,w C dx H→w' C dx H):iz rel K ct w' ι n H o Q:=by
 cases o with
 | ok a M=>exact h
 | exc c d M=>exact fun jd dx v H2 x2 r q1 q2=>x _ _ _ (h jd dx v H2 x2 r q1 q2)
 | bad=>exact h
theorem iz.toE{α β:Type}{rel:(Nat→Addr)→Mem→Hp→α→β→Prop}{K:Frag}{ct ι:Nat→Addr}{W:aU}{σ:St}{n:Nat}{H:Hp}{o:Out α}{Q:β→Hp→Prop}(h:iz rel K ct (Vw W σ) ι n H o Q):iz rel K ct (wE (EW W σ)) ι n H o Q:=
 h.wish fun C dx _ q=>⟨C,dx,rfl,rfl,q⟩
def spS(K:Frag)(ct:Nat→Addr)(fn:Fn)(ar:Nat):Sp:=fun vs H Q E=>∃ι ds M,ds.length=ar∧Rl K ct ι M H∧j9 K ct ι M.length H ds vs∧iz (e_ K ct) K ct (wE E) ι M.length H (fn ds M) Q
inductive Vd:D→V→Value→Prop
 | bl (b:Bool):Vd (.bl b) (.bl b) (.bool b)
 | non:Vd .non .non .none
inductive sU:List D→List V→List Value→Prop
 | nil:sU [] [] []
 | cons {d:D} {v:V} {u:Value} {ds:List D} {vs:List V} {us:List Value}:Vd d v u→sU ds vs us→sU (d::ds) (v::vs) (u::us)
theorem Vd.dv{K:Frag}{ι:Nat→Addr}{n:Nat}{H:Hp}{d:D}{v:V}{u:Value}(h:Vd d v u):DV K ct ι n H d v:=by
 cases h with
 | bl b=>exact .bl b
 | non=>exact .non
theorem Vd.val{d:D}{v:V}{u:Value}(h:Vd d v u):RelV v u:=by
 cases h with
 | bl b=>exact rfl
 | non=>exact rfl
theorem sU.dv{K:Frag}{ι:Nat→Addr}{n:Nat}{H:Hp}{ds:List D}{vs:List V}{us:List Value}(h:sU ds vs us):j9 K ct ι n H ds vs:=by
 induction h with
 | nil=>exact .nil
 | cons c _ ih=>exact .cons c.dv ih
theorem sU.vals{ds:List D}{vs:List V}{us:List Value}(h:sU ds vs us):Vals vs us:=by
 induction h with
 | nil=>exact .nil
 | cons c _ ih=>exact .cons c.val ih
def gh(fn:Fn)(ar:Nat)(dv:List D)(ms:MA):ME:=fun e M=>(ms e M).bind fun ds M1=>if(ds++dv).length=ar then fn (ds++dv) M1 else .bad
variable{k:Nat}{f:Addr}{fd:FuncData}{ps:List Str}{fn:Fn}{dv:List D}{qt:List V}{Im:List Value}{x:Str}{p:Pos}
theorem Jy{σ:St}{H:Hp}{Q:VK}(hd:sU dv qt Im)(h:tG (e_ X.K ct) X.K ct W (gh fn ps.length dv ms) σ H Q):Jz (spS X.K ct fn ps.length) qt W (tG (xg X.K ct) X.K ct W ms) σ H Q:=by
 obtain⟨ι,e,M,w,p⟩:=cO (gH:=xg X.K ct) (f:=fun ds _ M1=>if(ds++dv).length=ps.length then fn (ds++dv) M1 else .bad) h
 refine⟨ι,e,M,w,p.mono fun vs H1 ⟨fQ,e1,M1,ds,w1,q1,p1⟩=> ?_⟩
 by_cases z:(ds++dv).length=ps.length
 ·simp only[z,if_true]at p1
  exact⟨fQ,ds++dv,M1,z,w1.rl,q1.append hd.dv,p1.toE⟩
 ·simp only[z,if_false]at p1
  exact p1.elim
theorem cB{ar:Nat}(F:aY X.prog X.w X.K X.mg X.base (fX X.prog X.w) k f fd ps (spS X.K ct fn ar))(hx:Tk X W)(hr:gF k X.A)(hg:Gl X x)(hm:X.mg x=some (.ref f))(hk:keepIn X.K (.ref f)=true)(hb:Binds X.K fd ps Im)(hd:sU dv qt Im)
  (ha:SA X ct W (a::es) ms) (hdb:(x==("__debug__" : Str))=false:=by decide) (he:starEach (a::es) X.env=(false,eval a X.env)::starEach es X.env:=by rfl) (hpl:(backTo pos (starEach es X.env)).any (·.1)=false:=by rfl) (har:ps.length=ar:=by rfl):SE X ct W (.Call (.Name x p) (a::es) [] pos) (gh fn ar dv ms):=by
 subst har
 exact eO (J9 F hr hg hm hk hb hd.vals hx ha hdb he hpl) fun σ H Q q=>Jy hd q
def qK(k:Nat)(m:Str)(d:D)(M:Mem):Bool:=match d with
 | .ref n=>match M[n]? with
  | some (.ins c fs)=>c==k&&(fs.lookup m).isNone
  | _=>false
 | _=>false
def jm(k:Nat)(m:Str)(fn:Fn)(ar:Nat)(dv:List D)(mo:ME)(ms:MA):ME:=fun e M=>(mo e M).bind fun d M1=>if qK k m d M1=true then(ms e M1).bind fun ds M2=>if(d::(ds++dv)).length=ar then fn (d::(ds++dv)) M2 else .bad else .bad
theorem KR{K:Frag}{ι:Nat→Addr}{M:Mem}{H:Hp}{k:Nat}{m:Str}{d:D}{v:V}(R:Rl K ct ι M H)(h:qK k m d M=true)(q:DV K ct ι M.length H d v):∃a dx fs,v= .ref a∧H a=some (.ins (ct k) dx fs)∧fs.lookup m=none:=by
 cases d with
 | ref n=>
  obtain⟨hn,rfl⟩:=nq q
  unfold qK at h
  cases z:M[n]? with
  | none=>simp only[z]at h;cases h
  | some o=>
   cases o with
   | ins c fs=>
    simp only[z,Bool.and_eq_true,beq_iff_eq,Option.isNone_iff_eq_none]at h
    obtain⟨rfl,hl⟩:=h
    obtain⟨dx,vs,hH,fv⟩:=R.obj n _ z
    exact⟨_,dx,vs,rfl,hH,fv.QD hl⟩
   | _=>simp only[z]at h;cases h
 | _=>exact absurd h Bool.false_ne_true
theorem BL{kc:Nat}{m:Str}{mo:ME}{σ:St}{H:Hp}{Q:VK}(hd:sU dv qt Im)(h:tG (e_ X.K ct) X.K ct W (jm kc m fn ps.length dv mo ms) σ H Q):
  DP (ct kc) m (spS X.K ct fn ps.length) qt W (tG (e_ X.K ct) X.K ct W mo) (tG (xg X.K ct) X.K ct W ms) σ H Q:=by
 obtain⟨ι,e,M,w,p⟩:=cO (gH:=e_ X.K ct) (f:=fun d e M1=>if qK kc m d M1=true then(ms e M1).bind fun ds M2=>if(d::(ds++dv)).length=ps.length then fn (d::(ds++dv)) M2 else .bad else .bad) h
 refine⟨ι,e,M,w,p.mono fun v H1 ⟨fQ,e1,M1,d,w1,q1,p1⟩=> ?_⟩
 cases z:qK kc m d M1 with
 | false=>simp only[z,Bool.false_eq_true,if_false]at p1;exact p1.elim
 | true=>
  simp only[z,if_true]at p1
  obtain⟨a,dx,fs,rfl,hH,hl⟩:=KR w1.rl z q1
  refine⟨a,dx,fs,rfl,hH,hl,fQ,e1,M1,w1,?_⟩
  cases z2:ms e1 M1 with
  | bad=>simp only[z2,Out.iu]at p1;exact p1
  | exc xc xd xM=>simp only[z2,Out.j5]at p1;exact p1
  | ok ds M2=>
   simp only[z2,Out.iI]at p1
   intro jd vs H2 x2 r2 q2
   by_cases z3:(d::(ds++dv)).length=ps.length
   ·rw[if_pos z3]at p1
    exact⟨jd,_,M2,z3,r2,.cons (q1.mono x2) (q2.append hd.dv),(p1.ext x2).toE⟩
   ·rw[if_neg z3]at p1
    exact p1.elim
variable{o:Expr}{mo:ME}{kc:Nat}{m:Str}{apos:Pos}
theorem mF{ar:Nat}{pl:Sem Bool}(he:SE X ct W o mo)(c:zA X.K (ct kc))(hm:Meth X.K (ct kc) m f)(F:aY X.prog X.w X.K X.mg X.base (fX X.prog X.w) k f fd ps (spS X.K ct fn ar))(hx:Tk X W)(hr:gF k X.A)(hb:Binds X.K fd ps Im)(hd:sU dv qt Im)(ha:SA X ct W (a::es) ms)
  (hst:starEach (a::es) X.env=(false,eval a X.env)::starEach es X.env:=by rfl) (hpl:(backTo pos (starEach es X.env)).any (·.1)=false:=by rfl)
  (ht:eval (.Call (.Attribute o m apos) (a::es) [] pos) X.env=(do
   let ov ←eval o X.env
   standAt apos.atName
   let(f,first) ←holding [ov] (getMethod ov m pl)
   callWith pos f first (backTo pos (starEach (a::es) X.env)) (backToKw pos (keywordEach [] X.env))):=by rfl) (har:ps.length=ar:=by rfl):SE X ct W (.Call (.Attribute o m apos) (a::es) [] pos) (jm kc m fn ar dv mo ms):=by
 subst har
 exact eO (J5 he c hm F hr hb hd.vals hx ha hst hpl ht) fun σ H Q q=>BL hd q
theorem jU{ar:Nat}{pl:Sem Bool}(he:SE X ct W o mo)(c:zA X.K (ct kc))(hm:Meth X.K (ct kc) m f)(F:aY X.prog X.w X.K X.mg X.base (fX X.prog X.w) k f fd ps (spS X.K ct fn ar))(hx:Tk X W)(hr:gF k X.A)(hb:Binds X.K fd ps Im)(hd:sU dv qt Im)
  (ht:eval (.Call (.Attribute o m apos) [] [] pos) X.env=(do
   let ov ←eval o X.env
   standAt apos.atName
   let(f,first) ←holding [ov] (getMethod ov m pl)
   callWith pos f first (backTo pos (starEach [] X.env)) (backToKw pos (keywordEach [] X.env))):=by rfl) (har:ps.length=ar:=by rfl):SE X ct W (.Call (.Attribute o m apos) [] [] pos) (jm kc m fn ar dv mo aH):=by
 subst har
 exact eO (Hu he c hm F hr hb hd.vals hx ht) fun σ H Q q=>by
  obtain⟨ι,e,M,w,p⟩:=BL hd q
  refine⟨ι,e,M,w,p.mono fun v H1 ⟨a,dx,fs,e1,e2,e3,fQ,e4,M1,w1,p1⟩=>⟨a,dx,fs,e1,e2,e3,p1 fQ [] H1 .refl w1.rl .nil⟩⟩
def CP(d:D):Bool:=match d with
 | .non=>true
 | _=>false
def t6(kc:Nat)(fn:Fn)(ar:Nat)(dv:List D)(ms:MA):ME:=fun e M=>(ms e M).bind fun ds M1=>if(D.ref M1.length::(ds++dv)).length=ar then(fn (.ref M1.length::(ds++dv)) (M1++[.ins kc []])).bind fun r M2=>if CP r=true then .ok (.ref M1.length) M2 else .bad else .bad
theorem BP{σ:St}{H:Hp}{Q:VK}(hd:sU dv qt Im)(h:tG (e_ X.K ct) X.K ct W (t6 kc fn ps.length dv ms) σ H Q):DQ (ct kc) (spS X.K ct fn ps.length) qt W (tG (xg X.K ct) X.K ct W ms) σ H Q:=by
 obtain⟨ι,e,M,w,p⟩:=cO (gH:=xg X.K ct) (f:=fun ds _ M1=>if(D.ref M1.length::(ds++dv)).length=ps.length then(fn (D.ref M1.length::(ds++dv)) (M1++[.ins kc []])).bind fun r M2=>if CP r=true then .ok (D.ref M1.length) M2 else .bad else .bad) h
 refine⟨ι,e,M,w,p.mono fun vs H1 ⟨fQ,e1,M1,ds,w1,q1,p1⟩=> ?_⟩
 intro a dx ha hdx ne
 dsimp only at p1
 by_cases z:(D.ref M1.length::(ds++dv)).length=ps.length
 ·rw[if_pos z]at p1
  have ha':upd H1 dx (.own a) a=none:=by rw[aJ (Ne.symm ne)];exact ha
  have el:(M1++[MO.ins kc []]).length=M1.length+1:=by simp
  have x1:Ext X.K fQ M1.length H1 fQ M1.length (upd H1 dx (.own a)):=Ext.fresh hdx
  have r1:Rl X.K ct fQ M1 (upd H1 dx (.own a)):=w1.rl.fresh hdx
  have x2:Ext X.K fQ M1.length (upd H1 dx (.own a)) (jq fQ M1.length a) (M1.length+1) (upd (upd H1 dx (.own a)) a (.ins (ct kc) dx [])):=Ext.new ha'
  have r2:Rl X.K ct (jq fQ M1.length a) (M1++[MO.ins kc []]) (upd (upd H1 dx (.own a)) a (.ins (ct kc) dx [])):=r1.new ha' ⟨dx,[],aX,.nil⟩
  have e0:(jq fQ M1.length a) M1.length=a:=by unfold jq;rw[if_pos rfl]
  have dv0:DV X.K ct (jq fQ M1.length a) (M1++[MO.ins kc []]).length (upd (upd H1 dx (.own a)) a (.ins (ct kc) dx [])) (.ref M1.length) (.ref a):=by
   have:=DV.ref (K:=X.K) (ct:=ct) (ι:=jq fQ M1.length a) (n:=(M1++[MO.ins kc []]).length) (H:=upd (upd H1 dx (.own a)) a (.ins (ct kc) dx [])) (i:=M1.length) (by rw[el];omega)
   rw[e0]at this
   exact this
  refine⟨jq fQ M1.length a,_,M1++[.ins kc []],z,r2,.cons dv0 ?_,?_⟩
  ·rw[el];exact(q1.append hd.dv).mono (x1.trans x2)
  ·cases z2:fn (.ref M1.length::(ds++dv)) (M1++[.ins kc []])with
   | bad=>rw[z2]at p1;exact p1
   | exc xc xd xM=>
    rw[z2]at p1
    simp only[Out.j5]at p1
    have p2:=(p1.ext (x1.trans x2)).toE
    rw[el]
    exact fun Fq dx3 v3 H3 x3 r3 q3 q4=>p2 Fq dx3 v3 H3 x3 r3 q3 q4
   | ok r M2=>
    rw[z2]at p1
    simp only[Out.iI]at p1
    intro Fq v3 H3 x3 r3 q3
    cases q3 with
    | non=>
     refine⟨rfl,?_⟩
     simp only[CP,if_true]at p1
     refine p1 Fq (.ref a) H3 ((x1.trans x2).trans (by rw[el]at x3;exact x3)) r3 (dv0.mono x3)
    | _=>exact False.elim p1
 ·rw[if_neg z]at p1
  exact p1.elim
theorem vV{ar:Nat}(QV:Mk X.K (ct kc) f)(F:aY X.prog X.w X.K X.mg X.base (fX X.prog X.w) k f fd ps (spS X.K ct fn ar))(hx:Tk X W)(hr:gF (k+1) X.A)(hg:Gl X x)(hm:X.mg x=some (.ref (ct kc)))(hb:Binds X.K fd ps Im)(hd:sU dv qt Im)
  (ha:SA X ct W (a::es) ms) (hdb:(x==("__debug__" : Str))=false:=by decide) (he:starEach (a::es) X.env=(false,eval a X.env)::starEach es X.env:=by rfl) (hpl:(backTo pos (starEach es X.env)).any (·.1)=false:=by rfl) (har:ps.length=ar:=by rfl):SE X ct W (.Call (.Name x p) (a::es) [] pos) (t6 kc fn ar dv ms):=by
 subst har
 exact eO (J6 QV F hr hg hm hb hd.vals hx ha hdb he hpl) fun σ H Q q=>BP hd q
theorem JL{ar:Nat}(QV:Mk X.K (ct kc) f)(F:aY X.prog X.w X.K X.mg X.base (fX X.prog X.w) k f fd ps (spS X.K ct fn ar))(hx:Tk X W)(hr:gF (k+1) X.A)(hg:Gl X x)(hm:X.mg x=some (.ref (ct kc)))(hb:Binds X.K fd ps Im)(hd:sU dv qt Im)
  (hdb:(x==("__debug__" : Str))=false:=by decide) (har:ps.length=ar:=by rfl):SE X ct W (.Call (.Name x p) [] [] pos) (t6 kc fn ar dv aH):=by
 subst har
 exact eO (Hv QV F hr hg hm hb hd.vals hx hdb) fun σ H Q q=>by
  obtain⟨ι,e,M,w,p⟩:=BP hd q
  exact p ι [] H .refl w.rl .nil
abbrev Dk:=List D→Mem→Out D
def sV(op:Dk)(ms:MA):ME:=fun e M=>(ms e M).bind op
def nR(X:Cx)(ct:Nat→Addr)(f:Value)(op:Dk):Prop:=∃r,mD X f r∧∀{w:XW} ι M H ds vs Q,Rl X.K ct ι M H→j9 X.K ct ι M.length H ds vs→iz (e_ X.K ct) X.K ct w ι M.length H (op ds M) Q→r vs H Q
variable{id T:String}{op:Dk}
theorem JB{r:List V→Hp→VK→Prop}{σ:St}{H:Hp}{Q:VK}(hs:∀{w:XW} ι M H ds vs Q,Rl X.K ct ι M H→j9 X.K ct ι M.length H ds vs→iz (e_ X.K ct) X.K ct w ι M.length H (op ds M) Q→r vs H Q)
  (h:tG (e_ X.K ct) X.K ct W (sV op ms) σ H Q):tCB r (tG (xg X.K ct) X.K ct W ms) σ H Q:=by
 obtain⟨ι,e,M,w,p⟩:=cO (gH:=xg X.K ct) (f:=fun ds _ M1=>op ds M1) h
 exact⟨ι,e,M,w,p.mono fun vs H1 ⟨fQ,e1,M1,ds,w1,q1,p1⟩=>hs fQ M1 H1 ds vs Q w1.rl q1 p1⟩
theorem bQ(h:nR X ct (.builtin id) op)(hg:Gl X x)(hm:X.mg x=none)(hv:bootBuiltins x=some (.builtin id))(ha:SA X ct W (a::es) ms)(hn:x≠ "__name__" := by decide)(hdb:(x==("__debug__" : Str))=false:=by decide)
  (he:starEach (a::es) X.env=(false,eval a X.env)::starEach es X.env:=by rfl) (hpl:(backTo pos (starEach es X.env)).any (·.1)=false:=by rfl):SE X ct W (.Call (.Name x p) (a::es) [] pos) (sV op ms):=by
 obtain⟨r,hr,hs⟩:=h
 exact eO (Ka hr hg hm hv ha hn hdb he hpl) fun σ H Q q=>JB hs q
theorem wN(h:nR X ct (.type T) op)(hg:Gl X x)(hm:X.mg x=none)(hv:bootBuiltins x=some (.type T))(ha:SA X ct W (a::es) ms)(hn:x≠ "__name__" := by decide)(hdb:(x==("__debug__" : Str))=false:=by decide)
  (he:starEach (a::es) X.env=(false,eval a X.env)::starEach es X.env:=by rfl) (hpl:(backTo pos (starEach es X.env)).any (·.1)=false:=by rfl):SE X ct W (.Call (.Name x p) (a::es) [] pos) (sV op ms):=by
 obtain⟨r,hr,hs⟩:=h
 exact eO (Hy hr hg hm hv ha hn hdb he hpl) fun σ H Q q=>JB hs q
end
section
variable{X:Cx}{ct:Nat→Addr}{W:aU}
theorem nu{K:Frag}{ι:Nat→Addr}{n:Nat}{H:Hp}{i:Int}{v:V}(h:DV K ct ι n H (.int i) v):v= .int i:=by cases h;rfl
theorem qQ{K:Frag}{ι:Nat→Addr}{n:Nat}{H:Hp}{i:Str}{v:V}(h:DV K ct ι n H (.str i) v):v= .str i:=by cases h;rfl
theorem Lg{K:Frag}{ι:Nat→Addr}{n:Nat}{H:Hp}{ds:List D}{v:V}(h:DV K ct ι n H (.tup ds) v):∃a xs,v= .ref a∧oG K H a xs∧j9 K ct ι n H ds xs:=by cases h with | tup a b=>exact⟨_,_,rfl,oG.of a,b⟩
theorem lq{K:Frag}{ι:Nat→Addr}{n:Nat}{H:Hp}{ds:List D}{v:V}(h:DV K ct ι n H (.tup ds) v):∃a xs,v= .ref a∧H a=some (.tup xs)∧j9 K ct ι n H ds xs:=by cases h with | tup a b=>exact⟨_,_,rfl,a,b⟩
def lY(M:Mem)(n:Nat):Option (List D):=match M[n]? with
 | some (.lst ds)=>some ds
 | _=>none
theorem iD{M:Mem}{n:Nat}{ds:List D}(h:M[n]? = some (.lst ds)):lY M n=some ds:=by unfold lY;rw[h]
theorem mL{M:Mem}{n:Nat}{ds:List D}:lY M n=some ds↔M[n]? = some (.lst ds):=by
 refine⟨fun h=> ?_,iD⟩
 unfold lY at h
 split at h
 ·rename_i e;cases h;exact e
 ·cases h
def wM(M:Mem)(d:D):Option (List D):=match d with
 | .ref n=>lY M n
 | .cl ds=>some ds
 | _=>none
theorem Rl.seq{K:Frag}{ι:Nat→Addr}{M:Mem}{H:Hp}(R:Rl K ct ι M H){d:D}{v:V}{ds:List D}(h:wM M d=some ds)(q:DV K ct ι M.length H d v):∃a xs,v= .ref a∧ql K H a xs∧j9 K ct ι M.length H ds xs:=by
 cases q with
 | @ref i hi=>obtain⟨vs,q,r⟩:=R.obj i _ (mL.mp h);exact⟨_,vs,rfl,ql.of q,r⟩
 | cl h1 h2=>cases h;exact⟨_,_,rfl,h1.sq,h2⟩
 | _=>cases h
def Ih(C:Int→Int→Bool)(g:Int→Int→D):nQ:=fun d e M=>match d,e with
 | .int i,.int j=>if C i j=true then .ok (g i j) M else .bad
 | _,_=> .bad
theorem Ge{C:Int→Int→Bool}{P:Int→Int→Prop}{g:Int→Int→D}{gv:Int→Int→V}(hP:∀i j,C i j=true→P i j)(hg:∀(K:Frag) ι n H i j,DV K ct ι n H (g i j) (gv i j)):Bv X.K ct (Ih C g) (rI P gv):=by
 intro w ι M H d d' v v' Q R h h' p
 cases d with
 | int i=>
  cases d' with
  | int j=>
   cases nu h
   cases nu h'
   simp only[Ih]at p
   cases z:C i j with
   | false=>simp only[z,Bool.false_eq_true,if_false]at p;exact p.elim
   | true=>
    simp only[z,if_true]at p
    exact⟨i,j,rfl,rfl,hP i j z,p ι _ H .refl R (hg _ _ _ _ _ _)⟩
  | _=>exact p.elim
 | _=>cases d'<;>exact p.elim
def C1:Int→Int→Bool:=fun _ _=>true
theorem Rz{g:Int→Int→V}{x y:V}{H:Hp}{Q:VK}(h:rI (fun _ _=>True) g x y H Q):NK g x y H Q:=let⟨i,j,a,b,_,q⟩:=h;⟨i,j,a,b,q⟩
theorem Bv.imp{K:Frag}{op:nQ}{r r':R2}(h:Bv K ct op r)(i:∀x y H Q,r x y H Q→r' x y H Q):Bv K ct op r':=fun ι M H d d' v v' Q R a b p=>i _ _ _ _ (h ι M H d d' v v' Q R a b p)
theorem qW{f:Value→Value→Sem Value}{g:Int→Int→D}{gv:Int→Int→V}(h:rB X f (NK gv))(hg:∀(K:Frag) ι n H i j,DV K ct ι n H (g i j) (gv i j)):jr X ct f (Ih C1 g):=
 ⟨_,h,Bv.imp (Ge (P:=fun _ _=>True) (fun _ _ _=>trivial) hg) fun _ _ _ _ q=>Rz q⟩
theorem Bk{f:Value→Value→Sem Value}{C:Int→Int→Bool}{P:Int→Int→Prop}{g:Int→Int→D}{gv:Int→Int→V}(h:rB X f (rI P gv))(hP:∀i j,C i j=true→P i j)(hg:∀(K:Frag) ι n H i j,DV K ct ι n H (g i j) (gv i j)):jr X ct f (Ih C g):=
 ⟨_,h,Ge hP hg⟩
def qm(a b:nQ):nQ:=fun d e M=>match a d e M with
 | .bad=>b d e M
 | o=>o
theorem Bv.or{K:Frag}{a b:nQ}{r r':R2}(ha:Bv K ct a r)(hb:Bv K ct b r'):Bv K ct (qm a b) (fun x y H Q=>r x y H Q∨r' x y H Q):=by
 intro w ι M H d d' v v' Q R q q' p
 unfold qm at p
 cases z:a d d' M with
 | ok x M1=>rw[z]at p;exact .inl (ha ι M H d d' v v' Q R q q' (by rw[z];exact p))
 | exc xc xd xM=>rw[z]at p;exact .inl (ha ι M H d d' v v' Q R q q' (by rw[z];exact p))
 | bad=>rw[z]at p;exact .inr (hb ι M H d d' v v' Q R q q' p)
theorem nW{a b:nQ}{d e x:D}{M M':Mem}(h:a d e M= .ok x M'):qm a b d e M= .ok x M':=by unfold qm;rw[h]
theorem Kd{a b:nQ}{d e:D}{M:Mem}(h:a d e M= .bad):qm a b d e M=b d e M:=by unfold qm;rw[h]
theorem jr.or{f:Value→Value→Sem Value}{a b:nQ}(ha:jr X ct f a)(hb:jr X ct f b):jr X ct f (qm a b):=by
 obtain⟨r,h,hs⟩:=ha
 obtain⟨r',h',hs'⟩:=hb
 refine⟨_,h.or h',fun ι M H d d' v v' Q R q q' p=> ?_⟩
 unfold qm at p
 cases z:a d d' M with
 | ok x M1=>rw[z]at p;exact .inl (hs ι M H d d' v v' Q R q q' (by rw[z];exact p))
 | exc xc xd xM=>rw[z]at p;exact .inl (hs ι M H d d' v v' Q R q q' (by rw[z];exact p))
 | bad=>rw[z]at p;exact .inr (hs' ι M H d d' v v' Q R q q' p)
def U_(_ j:Int):Bool:=decide (0<j∧j<1073741824)
def Zm(_ j:Int):Bool:=decide (0<j)
def U9(i j:Int):Bool:=decide (0≤j∧j≤1000000∧i.natAbs<2 ^ 64)
def Qv:nQ:=Ih C1 fun i j=> .int (i+j)
def vK:nQ:=Ih C1 fun i j=> .int (i - j)
def o6:nQ:=Ih U_ fun i j=> .int (i / j)
def fW:nQ:=Ih Zm fun i j=> .int (i % j)
def zX:nQ:=Ih U9 fun i j=> .int (i ^ j.toNat)
def V3:nQ:=Ih C1 fun i j=> .bl (decide (i<j))
def Nk:nQ:=Ih C1 fun i j=> .bl (decide (i≤j))
def Hj:nQ:=Ih C1 fun i j=> .bl (decide (j<i))
theorem P0:jr X ct (binaryOp .Add) Qv:=qW S8 fun _ _ _ _ _ _=> .int _
theorem pW:jr X ct (binaryOp .Sub) vK:=qW Sw fun _ _ _ _ _ _=> .int _
theorem pX:jr X ct (binaryOp .FloorDiv) o6:=Bk Ol (fun i j h=>by unfold U_ at h;exact(decide_eq_true_eq.mp h :)) fun _ _ _ _ _ _=> .int _
theorem eF:jr X ct (binaryOp .Mod) fW:=Bk SM (fun _ _ h=>of_decide_eq_true h) fun _ _ _ _ _ _=> .int _
theorem Fg:jr X ct (binaryOp .Pow) zX:=Bk Sy (fun i j h=>by unfold U9 at h;exact(decide_eq_true_eq.mp h :)) fun _ _ _ _ _ _=> .int _
theorem Zi:jr X ct (compareOp .Lt) V3:=qW W2 fun _ _ _ _ _ _=> .bl _
theorem QS:jr X ct (compareOp .LtE) Nk:=qW W3 fun _ _ _ _ _ _=> .bl _
theorem GZ:jr X ct (compareOp .Gt) Hj:=qW W4 fun _ _ _ _ _ _=> .bl _
def Rv:nQ:=fun d e M=>match d,e with
 | .ref n,.ref m=>match M[n]?,M[m]? with
  | some (.lst xs),some (.lst ys)=>if xs.length+ys.length≤sizeLine then .ok (.ref M.length) (M++[.lst (xs++ys)])else .bad
  | _,_=> .bad
 | _,_=> .bad
theorem U7:jr X ct (binaryOp .Add) Rv:=by
 refine⟨_,S7,fun ι M H d d' v v' Q R h h' p=> ?_⟩
 cases d with
 | ref n=>
  cases d' with
  | ref m=>
   obtain⟨_,rfl⟩:=nq h
   obtain⟨_,rfl⟩:=nq h'
   simp only[Rv]at p
   split at p
   ·rename_i xs ys e1 e2
    split at p
    ·rename_i hz
     obtain⟨vs,q,r⟩:=R.obj n _ e1
     obtain⟨vs',q',r'⟩:=R.obj m _ e2
     exact⟨_,_,vs,vs',rfl,rfl,q,q',by rw[r.length,r'.length];exact hz,fun pp hp=>tQ R (r.append r') hp p⟩
    ·exact p.elim
   ·exact p.elim
  | _=>exact p.elim
 | _=>cases d'<;>exact p.elim
def JV:nQ:=fun d e M=>match d,e with
 | .str a,.str b=>if a.length+b.length≤sizeLine then .ok (.str (a++b)) M else .bad
 | _,_=> .bad
theorem PX:jr X ct (binaryOp .Add) JV:=by
 refine⟨_,Eh,fun ι M H d d' v v' Q R h h' p=> ?_⟩
 unfold JV at p
 split at p
 ·cases qQ h
  cases qQ h'
  split at p
  ·rename_i hz
   exact⟨_,_,rfl,rfl,hz,p ι _ H .refl R (.str _)⟩
  ·exact p.elim
 ·exact p.elim
def adL:nQ:=fun d e M=>match d,e with
 | .str a,.int n=>if a.length≤1000∧ -(2 ^ 62)<n∧n≤1000 then .ok (.str (PySem.Txt.mul a n)) M else .bad
 | _,_=> .bad
def JS:nQ:=fun d e M=>match d,e with
 | .tup xs,.tup ys=>if xs.isEmpty=false∧xs.length+ys.length≤sizeLine then .ok (.tup (xs++ys)) M else .bad
 | _,_=> .bad
theorem PN:jr X ct (binaryOp .Add) JS:=by
 refine⟨_,Om,fun ι M H d d' v v' Q R h h' p=> ?_⟩
 unfold JS at p
 split at p
 ·rename_i xs ys
  obtain⟨a,vs,rfl,ha,hd⟩:=lq h
  obtain⟨b,us,rfl,hb,hd'⟩:=lq h'
  split at p
  ·rename_i hz
   have l1:=hd.length
   have l2:=hd'.length
   refine⟨a,b,vs,us,rfl,rfl,oG.of ha,oG.of hb,fun z=> ?_,by omega,fun z=> ?_,fun _ pp hp=>Cm R (hd.append hd') hp p⟩
   ·rw[z]at l1
    have:=hz.1
    cases xs with
    | nil=>cases this
    | cons _ _=>simp at l1
   ·subst z
    have e:ys=[]:=List.length_eq_zero_iff.mp l2.symm
    subst e
    rw[List.append_nil]at p
    exact p ι _ H .refl R (.tup ha hd)
  ·exact p.elim
 ·exact p.elim
def vM:nQ:=qm (qm Qv Rv) (qm JV JS)
theorem oX:jr X ct (binaryOp .Add) vM:=(P0.or U7).or (PX.or PN)
def Rn:nQ:=fun d e M=>match d,e with
 | .str a,.str b=> .ok (.bl (decide (a.cps.toList<b.cps.toList))) M
 | _,_=> .bad
theorem U3:jr X ct (compareOp .Lt) Rn:=by
 refine⟨_,HB,fun ι M H d d' v v' Q R h h' p=> ?_⟩
 unfold Rn at p
 split at p
 ·cases qQ h
  cases qQ h'
  exact⟨_,_,rfl,rfl,p ι _ H .refl R (.bl _)⟩
 ·exact p.elim
def jQ:List D→Option (List Int)
 | []=>some []
 | .int i::r=>(jQ r).map (i:: ·)
 | _=>none
theorem o4{K:Frag}{ι:Nat→Addr}{n:Nat}{H:Hp}:∀{ds:List D} {is:List Int} {vs:List V},jQ ds=some is→j9 K ct ι n H ds vs→vs=is.map V.int
 | [],_,_,h,.nil=>by cases h;rfl
 | d::r,is,_,h,.cons q qs=>by
  cases q with
  | int i=>
   simp only[jQ]at h
   obtain⟨js,h1,rfl⟩:=Option.map_eq_some_iff.mp h
   rw[o4 h1 qs]
   rfl
  | _=>simp only[jQ]at h;cases h
def Rm:nQ:=fun d e M=>match d,e with
 | .tup xs,.tup ys=>match jQ xs,jQ ys with
  | some is,some js=> .ok (.bl (HT.lexLt is js)) M
  | _,_=> .bad
 | _,_=> .bad
theorem U0(hu:X.A.units+64<cLine):jr X ct (compareOp .Lt) Rm:=by
 refine⟨_,SN (by omega),fun ι M H d d' v v' Q R h h' p=> ?_⟩
 unfold Rm at p
 split at p
 ·obtain⟨a,vs,rfl,ha,hd⟩:=lq h
  obtain⟨b,us,rfl,hb,hd'⟩:=lq h'
  split at p
  ·rename_i is js e1 e2
   have x1:=o4 e1 hd
   have x2:=o4 e2 hd'
   subst x1 x2
   exact⟨a,b,is,js,rfl,rfl,oG.of ha,oG.of hb,p ι _ H .refl R (.bl _)⟩
  ·exact p.elim
 ·exact p.elim
def Ni:nQ:=qm (qm V3 Rn) Rm
theorem sH(hu:X.A.units+64<cLine):jr X ct (compareOp .Lt) Ni:=(Zi.or U3).or (U0 hu)
def Rk:D→Mem→Out D:=fun d M=>match d with
 | .int i=> .ok (.int (-i)) M
 | _=> .bad
theorem QZ:UnS X ct (unaryOp .USub) Rk:=⟨_,Q3,fun ι M H d v Q R h p=>by
 cases d with
 | int i=>cases nu h;exact⟨i,rfl,p ι _ H .refl R (.int _)⟩
 | _=>exact p.elim⟩
def sr(f:D→Option Dt):List D→Option (List Dt)
 | []=>some []
 | d::ds=>match f d,sr f ds with
  | some t,some ts=>some (t::ts)
  | _,_=>none
def jt(M:Mem):Nat→D→Option Dt
 | 0,_=>none
 | k+1,d=>match d with
  | .non=>some .non
  | .bl b=>some (.bl b)
  | .int i=>some (.int i)
  | .str x=>some (.str x)
  | .tup ds=>(sr (jt M k) ds).map .tup
  | .ref n=>match lY M n with
   | some ds=>(sr (jt M k) ds).map .lst
   | none=>none
  | .cl ds=>(sr (jt M k) ds).map .lst
  | .ty _=>none
  | .cls _=>none
  | .exc _ _=>none
  | .fn _=>none
theorem wg{K:Frag}{ι:Nat→Addr}{n:Nat}{H:Hp}{k:Nat}{f:D→Option Dt}(hf:∀d t v,f d=some t→DV K ct ι n H d v→Is K H v t∧dep t≤k):
  ∀{ds:List D} {ts:List Dt} {vs:List V},sr f ds=some ts→j9 K ct ι n H ds vs→rK K H vs ts∧deps ts≤k
 | [],ts,_,h,.nil=>by cases h;exact⟨.nil,by unfold deps;exact Nat.zero_le _⟩
 | d::ds,ts,_,h,.cons q qs=>by
  simp only[sr]at h
  cases z:f d with
  | none=>rw[z]at h;cases h
  | some t=>
   cases z2:sr f ds with
   | none=>rw[z,z2]at h;cases h
   | some ts'=>
    rw[z,z2]at h
    cases h
    obtain⟨a,b⟩:=hf d t _ z q
    obtain⟨a',b'⟩:=wg hf z2 qs
    exact⟨.cons a a',by unfold deps;exact Nat.max_le.mpr ⟨b,b'⟩⟩
theorem sZ{K:Frag}{ι:Nat→Addr}{M:Mem}{H:Hp}(R:Rl K ct ι M H):∀(k:Nat) (d:D) (t:Dt) (v:V),jt M k d=some t→DV K ct ι M.length H d v→Is K H v t∧dep t≤k
 | 0,d,t,v,h,_=>by simp only[jt]at h;cases h
 | k+1,d,t,v,h,q=>by
  cases q with
  | non=>simp only[jt]at h;cases h;exact⟨.non,by unfold dep;exact Nat.zero_le _⟩
  | bl b=>simp only[jt]at h;cases h;exact⟨.bl b,by unfold dep;exact Nat.zero_le _⟩
  | int b=>simp only[jt]at h;cases h;exact⟨.int b,by unfold dep;exact Nat.zero_le _⟩
  | str b=>simp only[jt]at h;cases h;exact⟨.str b,by unfold dep;exact Nat.zero_le _⟩
  | ty b=>simp only[jt]at h;cases h
  | cls b=>simp only[jt]at h;cases h
  | exc _ _ _=>simp only[jt]at h;cases h
  | fn _ _ _ _ _ _=>simp only[jt]at h;cases h
  | @tup a xs ds hs hd=>
   simp only[jt]at h
   cases z:sr (jt M k) ds with
   | none=>rw[z]at h;cases h
   | some ts=>
    rw[z]at h
    cases h
    obtain⟨a,b⟩:=wg (fun d t v=>sZ R k d t v) z hd
    exact⟨.tup (oG.of hs) a,by unfold dep;omega⟩
  | @ref i hi=>
   simp only[jt]at h
   cases z0:lY M i with
   | none=>rw[z0]at h;cases h
   | some ds=>
    rw[z0]at h
    obtain⟨xs,hs,hd⟩:=R.obj i _ (mL.mp z0)
    cases z:sr (jt M k) ds with
    | none=>simp only[z]at h;cases h
    | some ts=>
     simp only[z]at h
     cases h
     obtain⟨a,b⟩:=wg (fun d t v=>sZ R k d t v) z hd
     exact⟨.lst (ql.of hs) a,by unfold dep;omega⟩
  | @cl a xs ds hs hd=>
   simp only[jt]at h
   cases z:sr (jt M k) ds with
   | none=>rw[z]at h;cases h
   | some ts=>
    rw[z]at h
    cases h
    obtain⟨a,b⟩:=wg (fun d t v=>sZ R k d t v) z hd
    exact⟨.lst hs.sq a,by unfold dep;omega⟩
def Il(M:Mem)(d e:D):Option Bool:=match jt M 12 d,jt M 12 e with
 | some a,some b=>some (bF a b)
 | _,_=>none
def sEq:nQ:=fun d e M=>match Il M d e with
 | some b=> .ok (.bl b) M
 | none=> .bad
def sNe:nQ:=fun d e M=>match Il M d e with
 | some b=> .ok (.bl (!b)) M
 | none=> .bad
theorem K_{K:Frag}{ι:Nat→Addr}{M:Mem}{H:Hp}{d e:D}{v u:V}{b:Bool}(R:Rl K ct ι M H)(h:Il M d e=some b)(q:DV K ct ι M.length H d v)(q':DV K ct ι M.length H e u):∃x y,Is K H v x∧Is K H u y∧dep x≤20∧b=bF x y:=by
 unfold Il at h
 cases z:jt M 12 d with
 | none=>rw[z]at h;cases h
 | some x=>
  cases z2:jt M 12 e with
  | none=>rw[z,z2]at h;cases h
  | some y=>
   rw[z,z2]at h
   cases h
   obtain⟨a,c⟩:=sZ R 12 d x v z q
   obtain⟨a',_⟩:=sZ R 12 e y u z2 q'
   exact⟨x,y,a,a',by omega,rfl⟩
theorem pG(hu:X.A.units+64<cLine):jr X ct (compareOp .Eq) sEq:=by
 refine⟨_,S5 hu,fun ι M H d d' v v' Q R h h' p=> ?_⟩
 unfold sEq at p
 cases z:Il M d d' with
 | none=>rw[z]at p;exact p.elim
 | some b=>
  rw[z]at p
  obtain⟨x,y,a,a',hd,rfl⟩:=K_ R z h h'
  exact⟨x,y,a,a',hd,p ι _ H .refl R (.bl _)⟩
theorem ye(hu:X.A.units+64<cLine):jr X ct (compareOp .NotEq) sNe:=by
 refine⟨_,SJ hu,fun ι M H d d' v v' Q R h h' p=> ?_⟩
 unfold sNe at p
 cases z:Il M d d' with
 | none=>rw[z]at p;exact p.elim
 | some b=>
  rw[z]at p
  obtain⟨x,y,a,a',hd,rfl⟩:=K_ R z h h'
  exact⟨x,y,a,a',hd,p ι _ H .refl R (.bl _)⟩
def Gv(d:D):Bool:=match d with
 | .non=>true
 | _=>false
theorem KQ{K:Frag}{ι:Nat→Addr}{n:Nat}{H:Hp}{d:D}{v:V}(q:DV K ct ι n H d v):decide (v= .non)=Gv d:=by
 cases q<;>simp[Gv]
def Vi:nQ:=fun d e M=>match e with
 | .non=> .ok (.bl (Gv d)) M
 | _=> .bad
def D_:nQ:=fun d e M=>match e with
 | .non=> .ok (.bl (!Gv d)) M
 | _=> .bad
theorem GX:jr X ct (compareOp .Is) Vi:=by
 refine⟨_,SX,fun ι M H d d' v v' Q R h h' p=> ?_⟩
 cases h' with
 | non=>exact⟨rfl,p ι _ H .refl R (by rw[KQ h];exact .bl _)⟩
 | _=>exact p.elim
theorem Lp:jr X ct (compareOp .IsNot) D_:=by
 refine⟨_,Oj,fun ι M H d d' v v' Q R h h' p=> ?_⟩
 cases h' with
 | non=>exact⟨rfl,p ι _ H .refl R (by rw[KQ h];exact .bl _)⟩
 | _=>exact p.elim
theorem j9.yH{K:Frag}{ι:Nat→Addr}{n:Nat}{H:Hp}{ds:List D}{vs:List V}{i:Int}{d:D}(h:j9 K ct ι n H ds vs)(e:L2.yH ds i=some d):∃v,L2.yH vs i=some v∧DV K ct ι n H d v:=by
 unfold L2.yH at*
 rw[h.length]
 cases z:TV ds.length i with
 | none=>rw[z]at e;cases e
 | some j=>rw[z]at e;exact h.at e
variable{a b:Expr}{ma mb:ME}{pos:Pos}
section
variable{κ:Type}[DecidableEq κ]
def yr(kvs:List (κ×D))(k:κ):Option D:=(kvs.find? fun kv=>decide (kv.1=k)).map (·.2)
def NT(kvs:List (κ×D))(k:κ)(d:D):List (κ×D):=if(kvs.any fun kv=>decide (kv.1=k))=true then kvs.map (fun kv=>if kv.1=k then(kv.1,d)else kv)else kvs++[(k,d)]
variable{K:Frag}{ι:Nat→Addr}{n:Nat}{H:Hp}
theorem yh.val:∀{kvs:List (κ×D)} {vs:List (κ×V)},yh K ct ι n H kvs vs→∀k,(∀d,yr kvs k=some d→∃v,rD vs k=some v∧DV K ct ι n H d v)∧(yr kvs k=none→rD vs k=none)
 | _,_,.nil,k=>⟨fun d h=>by simp[yr]at h,fun _=>rfl⟩
 | _,_,.cons (x:=x) (d:=d) (v:=v) (fs:=fs) h hs,k=>by
  by_cases e:x=k
  ·have e1:yr ((x,d)::fs) k=some d:=by simp[yr,e]
   rw[e1,sW (p:=(x,v)) e]
   exact⟨fun d' q=>by cases q;exact⟨_,rfl,h⟩,fun q=>by cases q⟩
  ·have e1:yr ((x,d)::fs) k=yr fs k:=by simp[yr,e]
   rw[e1,sX (p:=(x,v)) e]
   exact hs.val k
theorem yh.any:∀{kvs:List (κ×D)} {vs:List (κ×V)},yh K ct ι n H kvs vs→∀k,(vs.any fun kv=>decide (kv.1=k))=(kvs.any fun kv=>decide (kv.1=k))
 | _,_,.nil,_=>rfl
 | _,_,.cons _ hs,k=>by simp only[List.any_cons,hs.any k]
theorem yh.repl{d:D}{v:V}(hd:DV K ct ι n H d v)(k:κ):∀{kvs:List (κ×D)} {vs:List (κ×V)},yh K ct ι n H kvs vs→yh K ct ι n H (kvs.map fun kv=>if kv.1=k then(kv.1,d)else kv) (vs.map fun kv=>if kv.1=k then(kv.1,v)else kv)
 | _,_,.nil=> .nil
 | _,_,.cons (x:=x) h hs=>by
  simp only[List.map_cons]
  by_cases e:x=k
  ·rw[if_pos e,if_pos e];exact .cons hd (hs.repl hd k)
  ·rw[if_neg e,if_neg e];exact .cons h (hs.repl hd k)
theorem yh.snoc{d:D}{v:V}(hd:DV K ct ι n H d v)(k:κ):∀{kvs:List (κ×D)} {vs:List (κ×V)},yh K ct ι n H kvs vs→yh K ct ι n H (kvs++[(k,d)]) (vs++[(k,v)])
 | _,_,.nil=> .cons hd .nil
 | _,_,.cons h hs=> .cons h (hs.snoc hd k)
theorem yh.put{d:D}{v:V}{kvs:List (κ×D)}{vs:List (κ×V)}(h:yh K ct ι n H kvs vs)(hd:DV K ct ι n H d v)(k:κ):yh K ct ι n H (NT kvs k d) (putK vs k v):=by
 unfold NT putK
 rw[h.any k]
 split
 ·exact h.repl hd k
 ·exact h.snoc hd k
end
def toKey:D→Option Key
 | .int i=>some (.inl i)
 | .str s=>some (.inr s)
 | _=>none
def toKeys:List D→Option (List Key)
 | []=>some []
 | d::r=>match toKey d,toKeys r with
  | some k,some ks=>some (k::ks)
  | _,_=>none
section
variable{K:Frag}{ι:Nat→Addr}{n:Nat}{H:Hp}
theorem wI{d:D}{k:Key}{v:V}(h:toKey d=some k)(q:DV K ct ι n H d v):v=kV k:=by
 cases q<;>simp only[toKey]at h<;>cases h<;>rfl
theorem oZ:∀{ds:List D} {ks:List Key} {vs:List V},toKeys ds=some ks→j9 K ct ι n H ds vs→vs=ks.map kV
 | [],ks,_,h,.nil=>by cases h;rfl
 | d::r,ks,_,h,.cons q qs=>by
  simp only[toKeys]at h
  cases z:toKey d with
  | none=>rw[z]at h;cases h
  | some k=>
   cases z2:toKeys r with
   | none=>rw[z,z2]at h;cases h
   | some kr=>
    rw[z,z2]at h
    cases h
    rw[wI z q,oZ z2 qs]
    rfl
end
def Ip(M:Mem)(n:Nat)(y:D):Option (Option D×Mem):=match M[n]? with
 | some (.dk kvs)=>match toKey y with
  | some k=>some (yr kvs k,M)
  | none=>match y with
   | .tup ds=>match toKeys ds with
    | some _=>if kvs.isEmpty=true then some (none,M.set n (.dt []))else none
    | none=>none
   | _=>none
 | some (.dt kvs)=>match y with
  | .tup ds=>match toKeys ds with
   | some k=>some (yr kvs k,M)
   | none=>none
  | _=>none
 | _=>none
theorem wD{K:Frag}{ι:Nat→Addr}{M M':Mem}{H:Hp}{n:Nat}{y:D}{vy:V}{o:Option D}(R:Rl K ct ι M H)(h:Ip M n y=some (o,M'))(hn:n<M.length)(q:DV K ct ι M.length H y vy):
  ∃ov H',Jd H (ι n) vy ov H'∧Ext K ι M.length H ι M'.length H'∧Rl K ct ι M' H'∧(∀d,o=some d→∃v,ov=some v∧DV K ct ι M'.length H' d v∧H'=H∧M'=M)∧(o=none→ov=none):=by
 unfold Ip at h
 split at h
 ·rename_i kvs e
  obtain⟨vs,hH,pv⟩:=R.obj n _ e
  split at h
  ·rename_i k ek
   cases h
   have ey:=wI ek q
   subst ey
   refine⟨rD vs k,H,.inl ⟨uZ.k hH,rfl⟩,.refl,R,fun d hd=> ?_,fun hd=>(pv.val k).2 hd⟩
   obtain⟨v,h1,h2⟩:=(pv.val k).1 d hd
   exact⟨v,h1,h2,rfl,rfl⟩
  ·split at h
   ·rename_i ds
    split at h
    ·rename_i ks Ug
     split at h
     ·rename_i hem
      cases h
      have ek:kvs=[]:=List.isEmpty_iff.mp hem
      subst ek
      cases pv
      obtain⟨b,xs,rfl,hb,hd⟩:=lq q
      have ex:=oZ Ug hd
      subst ex
      have x2:Ext K ι M.length H ι M.length (upd H (ι n) (.dT [])):=Ext.chg hH (fun _ z=>nomatch z) (fun _ _ z=>nomatch z)
      refine⟨none,upd H (ι n) (.dT []),.inr ⟨hH,⟨ks,b,rfl,hb⟩,rfl,rfl⟩,by rw[List.length_set];exact x2,R.chg hn hH (fun _ z=>nomatch z) (fun _ _ z=>nomatch z) ⟨[],aX,.nil⟩,(fun d hd=>nomatch hd),fun _=>rfl⟩
     ·cases h
    ·cases h
   ·cases h
 ·rename_i kvs e
  obtain⟨vs,hH,pv⟩:=R.obj n _ e
  split at h
  ·rename_i ds
   split at h
   ·rename_i ks Ug
    cases h
    obtain⟨b,xs,rfl,hb,hd⟩:=lq q
    have ex:=oZ Ug hd
    subst ex
    refine⟨rD vs ks,H,.inl ⟨uZ.t hH hb,rfl⟩,.refl,R,fun d hd=> ?_,fun hd=>(pv.val ks).2 hd⟩
    obtain⟨v,h1,h2⟩:=(pv.val ks).1 d hd
    exact⟨v,h1,h2,rfl,rfl⟩
   ·cases h
  ·cases h
 ·cases h
def Rr:nQ:=fun d y M=>match d with
 | .ref n=>match Ip M n y with
  | some (some v,_)=> .ok v M
  | _=> .bad
 | _=> .bad
theorem Sq{K:Frag}:Bv K ct Rr Wj:=by
 intro w ι M H d d' v v' Q R h h' p
 cases d with
 | ref n=>
  obtain⟨hn,rfl⟩:=nq h
  simp only[Rr]at p
  split at p
  ·rename_i x M' e
   obtain⟨ov,H',g,_,_,h1,_⟩:=wD R e hn h'
   obtain⟨vx,rfl,dv,rfl,rfl⟩:=h1 x rfl
   rcases g with⟨g,_⟩ | ⟨_,_,z,_⟩
   ·exact⟨_,vx,rfl,g,p ι vx _ .refl R dv⟩
   ·cases z
  ·exact p.elim
 | _=>exact p.elim
def Ce:nQ:=fun d e M=>match e with
 | .int i=>match d with
  | .tup ds=>match L2.yH ds i with
   | some x=> .ok x M
   | none=> .bad
  | d=>match wM M d with
   | some ds=>match L2.yH ds i with
    | some x=> .ok x M
    | none=> .bad
   | none=> .bad
 | _=> .bad
theorem Sh:Bv X.K ct Ce (fun x y H Q=>Wi X.K x y H Q∨Wg X.K x y H Q):=by
 intro w ι M H d d' v v' Q R h h' p
 cases d' with
 | int i=>
  cases nu h'
  cases d with
  | tup ds=>
   obtain⟨aa,xs,rfl,hs,hd⟩:=Lg h
   simp only[Ce]at p
   cases z:L2.yH ds i with
   | none=>rw[z]at p;exact p.elim
   | some x=>
    rw[z]at p
    obtain⟨v,e,dv⟩:=hd.yH z
    exact .inr ⟨_,_,_,_,rfl,rfl,hs,e,p ι v H .refl R dv⟩
  | _=>
   simp only[Ce]at p
   split at p
   ·rename_i ds z0
    obtain⟨aa,xs,rfl,hs,hd⟩:=R.seq z0 h
    cases z:L2.yH ds i with
    | none=>rw[z]at p;exact p.elim
    | some x=>
     rw[z]at p
     obtain⟨v,e,dv⟩:=hd.yH z
     exact .inl ⟨_,_,_,_,rfl,rfl,hs,e,p ι v H .refl R dv⟩
   ·exact p.elim
 | _=>exact p.elim
def Rq:nQ:=fun d e M=>match d,e with
 | .str z,.int i=>match L2.yH z.cps.toList i with
  | some c=>if z.length≤sizeLine then .ok (.str ⟨#[c]⟩) M else .bad
  | none=> .bad
 | _,_=> .bad
theorem Sg{K:Frag}:Bv K ct Rq Wh:=by
 intro w ι M H d d' v v' Q R h h' p
 unfold Rq at p
 split at p
 ·rename_i z i
  cases qQ h
  cases nu h'
  cases e:L2.yH z.cps.toList i with
  | none=>rw[e]at p;exact p.elim
  | some c=>
   rw[e]at p
   dsimp only at p
   split at p
   ·rename_i hz
    exact⟨z,i,c,rfl,rfl,hz,e,p ι _ H .refl R (.str _)⟩
   ·exact p.elim
 ·exact p.elim
def j8:nQ:=qm (qm Ce Rr) Rq
theorem iJ(hu:X.A.units+64<cLine)(ha:SE X ct W a ma)(hb:SE X ct W b mb)(hs:G4 b:=by exact fun _ _=>rfl):SE X ct W (.Subscript a b pos) (aL j8 ma mb):=
 eO (WW (((O1.or TJ).or (O2 (by omega))).or TQ) ha hb hs) fun σ H Q q=>zJ (Bv.or (Bv.or Sh Sq) Sg) q
def Nx(neg:Bool):nQ:=fun y x M=>match x with
 | .ref n=>match Ip M n y with
  | some (o,M')=> .ok (.bl (if neg=true then !o.isSome else o.isSome)) M'
  | none=> .bad
 | _=> .bad
theorem Su{K:Frag}{neg:Bool}:Bv K ct (Nx neg) (Wk neg):=by
 intro w ι M H d d' v v' Q R h h' p
 cases d' with
 | ref n=>
  obtain⟨hn,rfl⟩:=nq h'
  simp only[Nx]at p
  cases e:Ip M n d with
  | none=>rw[e]at p;exact p.elim
  | some oM=>
   obtain⟨o,M'⟩:=oM
   rw[e]at p
   obtain⟨ov,H',g,x,R',h1,h2⟩:=wD R e hn h
   have es:ov.isSome=o.isSome:=by
    cases o with
    | none=>rw[h2 rfl];rfl
    | some d=>obtain⟨v,rfl,_⟩:=h1 d rfl;rfl
   exact⟨_,ov,H',rfl,g,by rw[es];exact p ι _ H' x R' (.bl _)⟩
 | _=>cases d<;>exact p.elim
def Ju:D→Option V
 | .non=>some .non
 | .bl b=>some (.bl b)
 | .int i=>some (.int i)
 | .str s=>some (.str s)
 | _=>none
def G_:List D→Option (List V)
 | []=>some []
 | d::r=>match Ju d,G_ r with
  | some v,some vs=>some (v::vs)
  | _,_=>none
theorem Fy{K:Frag}{ι:Nat→Addr}{n:Nat}{H:Hp}{d:D}{u v:V}(h:Ju d=some u)(q:DV K ct ι n H d v):v=u∧rP u=true:=by
 cases q<;>simp only[Ju]at h<;>cases h<;>exact⟨rfl,rfl⟩
theorem Fx{K:Frag}{ι:Nat→Addr}{n:Nat}{H:Hp}:∀{ds:List D} {us vs:List V},G_ ds=some us→j9 K ct ι n H ds vs→vs=us∧us.all rP=true
 | [],_,_,h,.nil=>by cases h;exact⟨rfl,rfl⟩
 | d::r,us,_,h,.cons q qs=>by
  simp only[G_]at h
  cases z:Ju d with
  | none=>rw[z]at h;cases h
  | some u=>
   cases z2:G_ r with
   | none=>rw[z,z2]at h;cases h
   | some ur=>
    rw[z,z2]at h
    cases h
    obtain⟨rfl,f1⟩:=Fy z q
    obtain⟨rfl,f2⟩:=Fx z2 qs
    exact⟨rfl,by simp[f1,f2]⟩
theorem U6(hu:X.A.units+64<cLine):jr X ct (compareOp .In) (Nx false):=⟨_,S6 (by omega),Su⟩
theorem Fd{K:Frag}{ι:Nat→Addr}{n:Nat}{H:Hp}{d:D}{vs:List V}(h:j9 K ct ι n H [d] vs):∃v,vs=[v]∧DV K ct ι n H d v:=by
 cases h with | cons a b=>cases b;exact⟨_,rfl,a⟩
theorem Pj{K:Frag}{ι:Nat→Addr}{n:Nat}{H:Hp}{d d':D}{vs:List V}(h:j9 K ct ι n H [d,d'] vs):∃v v',vs=[v,v']∧DV K ct ι n H d v∧DV K ct ι n H d' v':=by
 cases h with | cons a b=>obtain⟨v,rfl,q⟩:=Fd b;exact⟨_,_,rfl,a,q⟩
def tK(M:Mem)(d:D):Option (List D):=match d with
 | .tup ds=>some ds
 | d=>wM M d
theorem Rl.seqs{K:Frag}{ι:Nat→Addr}{M:Mem}{H:Hp}(R:Rl K ct ι M H){d:D}{v:V}{ds:List D}(h:tK M d=some ds)(q:DV K ct ι M.length H d v):∃a xs,v= .ref a∧(ql K H a xs∨oG K H a xs)∧j9 K ct ι M.length H ds xs:=by
 cases d with
 | tup es=>cases h;obtain⟨a,xs,e,hs,hd⟩:=Lg q;exact⟨a,xs,e,.inr hs,hd⟩
 | _=>simp only[tK]at h;obtain⟨a,xs,e,hs,hd⟩:=R.seq h q;exact⟨a,xs,e,.inl hs,hd⟩
def FW:Dk:=fun ds M=>match ds with
 | [d]=>match tK M d with
  | some es=> .ok (.int es.length) M
  | none=> .bad
 | _=> .bad
theorem Pz:nR X ct (.builtin "len") FW:=by
 refine⟨_,Bh,fun ι M H ds vs Q R h p=> ?_⟩
 unfold FW at p
 split at p
 ·rename_i d
  obtain⟨v,rfl,q⟩:=Fd h
  cases z:tK M d with
  | none=>rw[z]at p;exact p.elim
  | some es=>
   rw[z]at p
   obtain⟨a,xs,rfl,hs,hd⟩:=R.seqs z q
   exact⟨_,xs,rfl,hs,p ι _ H .refl R (by rw[hd.length];exact .int _)⟩
 ·exact p.elim
def Vk(a b:Dk):Dk:=fun ds M=>match a ds M with
 | .bad=>b ds M
 | o=>o
theorem nR.or{f:Value}{a b:Dk}(ha:nR X ct f a)(hb:nR X ct f b):nR X ct f (Vk a b):=by
 obtain⟨r,h,hs⟩:=ha
 obtain⟨r',h',hs'⟩:=hb
 refine⟨_,h.or h',fun ι M H ds vs Q R q p=> ?_⟩
 unfold Vk at p
 cases z:a ds M with
 | ok x M1=>rw[z]at p;exact .inl (hs ι M H ds vs Q R q (by rw[z];exact p))
 | exc xc xd xM=>rw[z]at p;exact .inl (hs ι M H ds vs Q R q (by rw[z];exact p))
 | bad=>rw[z]at p;exact .inr (hs' ι M H ds vs Q R q p)
theorem Ke{a b:Dk}{ds:List D}{x:D}{M M':Mem}(h:a ds M= .ok x M'):Vk a b ds M= .ok x M':=by unfold Vk;rw[h]
def JP:Dk:=fun ds M=>match ds with
 | [.ref n]=>match M[n]? with
  | some (.dk kvs)=> .ok (.int kvs.length) M
  | some (.dt kvs)=> .ok (.int kvs.length) M
  | _=> .bad
 | _=> .bad
theorem PB:nR X ct (.builtin "len") JP:=by
 refine⟨_,Iz.or Iw,fun ι M H ds vs Q R h p=> ?_⟩
 unfold JP at p
 split at p
 ·rename_i n
  obtain⟨v,rfl,q⟩:=Fd h
  obtain⟨hn,rfl⟩:=nq q
  split at p
  ·rename_i kvs e
   obtain⟨ys,hH,pv⟩:=R.obj n _ e
   exact .inl ⟨_,ys,rfl,hH,by rw[pv.length];exact p ι _ H .refl R (.int _)⟩
  ·rename_i kvs e
   obtain⟨ys,hH,pv⟩:=R.obj n _ e
   exact .inr ⟨_,ys,rfl,hH,by rw[pv.length];exact p ι _ H .refl R (.int _)⟩
  ·exact p.elim
 ·exact p.elim
def Ru(neg:Bool):nQ:=fun y x M=>match Ju y,tK M x with
 | some v,some ds=>match G_ ds with
  | some vs=> .ok (.bl (if neg=true then !inV v vs else inV v vs)) M
  | none=> .bad
 | _,_=> .bad
theorem Ss{K:Frag}{neg:Bool}:Bv K ct (Ru neg) (rIn K neg):=by
 intro w ι M H d d' v v' Q R h h' p
 unfold Ru at p
 split at p
 ·rename_i u ds e1 e2
  obtain⟨rfl,f1⟩:=Fy e1 h
  obtain⟨a,xs,rfl,hs,hd⟩:=R.seqs e2 h'
  cases e3:G_ ds with
  | none=>rw[e3]at p;exact p.elim
  | some us=>
   rw[e3]at p
   obtain⟨rfl,f2⟩:=Fx e3 hd
   exact⟨a,_,rfl,hs,f1,f2,p ι _ H .refl R (.bl _)⟩
 ·exact p.elim
def sIn:nQ:=qm (Nx false) (Ru false)
theorem Zj(hu:X.A.units+64<cLine):jr X ct (compareOp .In) sIn:=(U6 hu).or ⟨_,HH,Ss⟩
def JN:Dk:=fun ds M=>match ds with
 | [.str z]=>if z.length≤sizeLine then .ok (.int z.length) M else .bad
 | _=> .bad
theorem Py:nR X ct (.builtin "len") JN:=by
 refine⟨_,Bg,fun ι M H ds vs Q R h p=> ?_⟩
 unfold JN at p
 split at p
 ·obtain⟨v,rfl,q⟩:=Fd h
  cases qQ q
  split at p
  ·rename_i hz
   exact⟨_,rfl,hz,p ι _ H .refl R (.int _)⟩
  ·exact p.elim
 ·exact p.elim
def vL:Dk:=Vk (Vk FW JP) JN
theorem qR:nR X ct (.builtin "len") vL:=(Pz.or PB).or Py
def Cd:Dk:=fun ds M=>match ds with
 | [.int i,.int j]=> .ok (.int (if j > i then j else i)) M
 | _=> .bad
def Ca:Dk:=fun ds M=>match ds with
 | [.int i,.int j]=> .ok (.int (if j<i then j else i)) M
 | _=> .bad
theorem Px(hc:X.calm=true):nR X ct (.builtin "max") Cd:=by
 refine⟨_,Iv hc,fun ι M H ds vs Q R h p=> ?_⟩
 unfold Cd at p
 split at p
 ·obtain⟨v,v',rfl,q,q'⟩:=Pj h
  cases nu q
  cases nu q'
  exact⟨_,_,rfl,p ι _ H .refl R (.int _)⟩
 ·exact p.elim
theorem Pu(hc:X.calm=true):nR X ct (.builtin "min") Ca:=by
 refine⟨_,Iu hc,fun ι M H ds vs Q R h p=> ?_⟩
 unfold Ca at p
 split at p
 ·obtain⟨v,v',rfl,q,q'⟩:=Pj h
  cases nu q
  cases nu q'
  exact⟨_,_,rfl,p ι _ H .refl R (.int _)⟩
 ·exact p.elim
def u_:Dk:=fun ds M=>match ds with
 | [d]=>match tK M d with
  | some es=> .ok (.ref M.length) (M++[.lst es])
  | none=> .bad
 | _=> .bad
theorem Bd:nR X ct (.type "list") u_:=by
 refine⟨_,Bf,fun ι M H ds vs Q R h p=> ?_⟩
 unfold u_ at p
 split at p
 ·rename_i d
  obtain⟨v,rfl,q⟩:=Fd h
  cases z:tK M d with
  | none=>rw[z]at p;exact p.elim
  | some es=>
   rw[z]at p
   obtain⟨a,xs,rfl,hs,hd⟩:=R.seqs z q
   exact⟨_,xs,rfl,hs,fun pp hp=>tQ R hd hp p⟩
 ·exact p.elim
def Vx(M:Mem)(d:D):Option String:=match d with
 | .non=>some "NoneType"
 | .bl _=>some "bool"
 | .int _=>some "int"
 | .str _=>some "str"
 | .tup _=>some "tuple"
 | .ref n=>(lY M n).map fun _=> "list"
 | .cl _=>some "list"
 | _=>none
def Rb(a b:String):Bool:=a==b||(a== "bool" && b== "int")
def pJ:List String:=["NoneType","bool","int","str","tuple","list"]
theorem OJ{K:Frag}:∀a∈pJ,∀b∈pJ,kitOne K (.type a) (.type b)=some (Rb a b):=by
 intro a ha b hb
 simp only[pJ,List.mem_cons,List.not_mem_nil,or_false]at ha hb
 rcases ha with rfl | rfl | rfl | rfl | rfl | rfl<;>rcases hb with rfl | rfl | rfl | rfl | rfl | rfl<;>with_unfolding_all rfl
def fZ:Dk:=fun ds M=>match ds with
 | [d,.ty b]=>match Vx M d with
  | some a=>if b∈pJ then .ok (.bl (Rb a b)) M else .bad
  | none=> .bad
 | _=> .bad
@[irreducible] def J0(K:Frag):List V→Hp→VK→Prop:=fun xs H Q=>∃x n b,xs=[x,.ty n]∧Q (.bl b) H∧
 ((∃t,uX K H x t∧kitOne K t (.type n)=some b)∨(∃a ys,x= .ref a∧oG K H a ys∧kitOne K (.type "tuple") (.type n)=some b)∨(∃a ys,x= .ref a∧ql K H a ys∧kitOne K (.type "list") (.type n)=some b))
theorem IK:mD X (.builtin "isinstance") (J0 X.K):=by
 intro pins s σ H xs us Q I r h
 unfold J0 at h
 obtain⟨x,n,b,rfl,q,h⟩:=h
 obtain⟨u,v,rfl,rx,rc⟩:=vals2 r
 obtain rfl:v= .type n:=rc
 rcases h with⟨t,ty,e⟩ | ⟨a,ys,rfl,hs,e⟩ | ⟨a,ys,rfl,hs,e⟩
 ·exact Ig I rx ty e fun tk=>⟨.bl b,H,I.tok tk,rfl,q⟩
 ·cases(show u=Value.ref a from rx)
  obtain⟨its,_,⟨o,h1,h2,_⟩,_⟩:=I.tuple hs
  exact PySem.W.kia_one PySem.W.kitx_tuple I.su ⟨o,h1,h2⟩ e (fun z=>nomatch z) fun tk=>⟨.bl b,H,I.tok tk,rfl,q⟩
 ·cases(show u=Value.ref a from rx)
  obtain⟨its,_,⟨o,n',h1,h2,_⟩,_⟩:=I.list hs
  exact PySem.W.kia_one PySem.W.kitx_list I.su ⟨o,h1,h2⟩ e (fun z=>nomatch z) fun tk=>⟨.bl b,H,I.tok tk,rfl,q⟩
theorem nM:nR X ct (.builtin "isinstance") fZ:=by
 refine⟨_,IK,fun ι M H ds vs Q R h p=> ?_⟩
 unfold fZ at p
 split at p
 ·rename_i d n
  obtain⟨v,v',rfl,q,q'⟩:=Pj h
  cases q'
  unfold J0
  cases z:Vx M d with
  | none=>rw[z]at p;exact p.elim
  | some a=>
   rw[z]at p
   by_cases hn:n∈pJ
   ·simp only[hn,if_true]at p
    have ha:a∈pJ:=by
     unfold Vx at z
     cases d with
     | ref m=>
      cases z1:lY M m with
      | none=>simp only[z1]at z;cases z
      | some es=>simp only[z1]at z;cases z;show "list" ∈ pJ;decide
     | ty _=>cases z
     | cls _=>cases z
     | exc _ _=>cases z
     | fn _=>cases z
     | _=>cases z;decide
    have e:=OJ (K:=X.K) a ha n hn
    refine⟨v,n,Rb a n,rfl,p ι _ H .refl R (.bl _),?_⟩
    cases q with
    | non=>cases z;exact .inl ⟨_,.non,e⟩
    | bl b=>cases z;exact .inl ⟨_,.bl b,e⟩
    | int b=>cases z;exact .inl ⟨_,.int b,e⟩
    | str b=>cases z;exact .inl ⟨_,.str b,e⟩
    | tup hs hd=>cases z;exact .inr (.inl ⟨_,_,rfl,oG.of hs,e⟩)
    | @ref i hi=>
     simp only[Vx]at z
     cases z1:lY M i with
     | none=>rw[z1]at z;cases z
     | some es=>
      rw[z1]at z
      cases z
      obtain⟨xs,hs,hd⟩:=R.obj i _ (mL.mp z1)
      exact .inr (.inr ⟨_,_,rfl,ql.of hs,e⟩)
    | cl hs hd=>cases z;exact .inr (.inr ⟨_,_,rfl,hs.sq,e⟩)
    | ty b=>cases z
    | cls b=>cases z
    | exc _ _ _=>cases z
    | fn _ _ _ _ _ _=>cases z
   ·simp only[hn,if_false]at p
    exact p.elim
 ·exact p.elim
def MtS(X:Cx)(ct:Nat→Addr)(T id:String)(op:D→List D→Mem→Out D):Prop:=∃r,MtR X id r∧∀{w:XW} ι M H d ds v vs Q,Rl X.K ct ι M H→DV X.K ct ι M.length H d v→j9 X.K ct ι M.length H ds vs→iz (e_ X.K ct) X.K ct w ι M.length H (op d ds M) Q→r v vs H Q
def Qk(T:String)(d:D)(M:Mem):Bool:=match d with
 | .int _=>T== "int"
 | .str _=>T== "str"
 | .ref n=>T== "list" && (lY M n).isSome
 | _=>false
theorem Q5{K:Frag}{ι:Nat→Addr}{M:Mem}{H:Hp}{T:String}{d:D}{v:V}(R:Rl K ct ι M H)(h:Qk T d M=true)(q:DV K ct ι M.length H d v):tyV K T v H:=by
 cases q with
 | int i=>exact beq_iff_eq.mp h
 | str i=>exact beq_iff_eq.mp h
 | @ref i hi=>
  simp only[Qk,Bool.and_eq_true,beq_iff_eq]at h
  obtain⟨e,h2⟩:=h
  obtain⟨ds,z⟩:=Option.isSome_iff_exists.mp h2
  obtain⟨xs,hs,_⟩:=R.obj i _ (mL.mp z)
  exact .inl ⟨e,xs,ql.of hs⟩
 | _=>exact absurd h Bool.false_ne_true
def mBM(T:String)(op:D→List D→Mem→Out D)(mo:ME)(ms:MA):ME:=fun e M=>(mo e M).bind fun d M1=>if Qk T d M1=true then(ms e M1).bind fun ds M2=>op d ds M2 else .bad
variable{o:Expr}{es:List Expr}{mo:ME}{ms:MA}{name:Str}{apos cpos:Pos}{T id:String}{op:D→List D→Mem→Out D}
theorem VV(pa:PlainAttrs T)(slot:Slot T name id)(hty:typeOf (.builtin id)=pure (.type "method_descriptor"))(hm:MtS X ct T id op)(ho:SE X ct W o mo)(ha:SA X ct W (a::es) ms)
  (hbase:attributeBase o name X.env (eval o X.env)=eval o X.env:=by rfl)
  (hfew:((backTo cpos (starEach (a::es) X.env)).all (fun x=> !x.1)&&(backToKw cpos (keywordEach [] X.env)).all (fun x=>x.1.isSome)
   && decide ((a::es).length+([]:List Keyword).length+(if([]:List Keyword).isEmpty then 0 else 1)<30))=true:=by rfl)
  (hline:(apos.endLine==cpos.line)=true:=by rfl) (hs:starEach (a::es) X.env=(false,eval a X.env)::starEach es X.env:=by rfl) (hplain:(backTo cpos (starEach es X.env)).any (·.1)=false:=by rfl):
  SE X ct W (.Call (.Attribute o name apos) (a::es) [] cpos) (mBM T op mo ms):=by
 obtain⟨r,hr,hss⟩:=hm
 refine eO (Qx pa slot hty hr ho ha hbase hfew hline hs hplain) fun σ H Q q=> ?_
 obtain⟨ι,e,M,w,p⟩:=cO (gH:=e_ X.K ct) (f:=fun d e M1=>if Qk T d M1=true then(ms e M1).bind fun ds M2=>op d ds M2 else .bad) q
 refine⟨ι,e,M,w,p.mono fun v H1 ⟨fQ,e1,M1,d,w1,q1,p1⟩=> ?_⟩
 cases z:Qk T d M1 with
 | false=>simp only[z,Bool.false_eq_true,if_false]at p1;exact p1.elim
 | true=>
  simp only[z,if_true]at p1
  refine⟨Q5 w1.rl z q1,fQ,e1,M1,w1,?_⟩
  cases z2:ms e1 M1 with
  | bad=>simp only[z2,Out.iu]at p1;exact p1
  | exc xc xd xM=>simp only[z2,Out.j5]at p1;exact p1
  | ok ds M2=>
   simp only[z2,Out.iI]at p1
   exact fun jd vs H2 x2 r2 q2=>hss jd M2 H2 d ds v vs Q r2 (q1.mono x2) q2 (p1.ext x2)
end
inductive nO where
 | next (e:Sl) (M:Mem) | ret (d:D) (M:Mem) | brk (e:Sl) (M:Mem) | cont (e:Sl) (M:Mem) | exc (c:Nat) (d:D) (e:Sl) (M:Mem) | bad
abbrev MS:=Sl→Mem→nO
def rQ(K:Frag)(ct:Nat→Addr)(W:aU)(ι:Nat→Addr)(n:Nat)(H:Hp)(o:nO)(T:Ends):Prop:=match o with
 | .next e M=>∀ι' σ' H',Ext K ι n H ι' M.length H'→Ws K ct ι' e M σ' H'→T.nx σ' H'
 | .ret d M=>∀ι' v H',Ext K ι n H ι' M.length H'→Rl K ct ι' M H'→DV K ct ι' M.length H' d v→T.rt v H'
 | .brk e M=>∀ι' σ' H',Ext K ι n H ι' M.length H'→Ws K ct ι' e M σ' H'→T.bk σ' H'
 | .cont e M=>∀ι' σ' H',Ext K ι n H ι' M.length H'→Ws K ct ι' e M σ' H'→T.ct σ' H'
 | .exc c d e M=>∀ι' σ' dx v H',Ext K ι n H ι' M.length H'→Ws K ct ι' e M σ' H'→H' dx=some (.xd [("at",v)])→DV K ct ι' M.length H' d v→W (ct c) dx σ' H'
 | .bad=>False
def tS(K:Frag)(ct:Nat→Addr)(W:aU)(m:MS):TS:=fun T σ H=>∃ι e M,Ws K ct ι e M σ H∧rQ K ct W ι M.length H (m e M) T
def SS(X:Cx)(ct:Nat→Addr)(W:aU)(st:Stmt)(m:MS):Prop:=PS X st (tS X.K ct W m)
def Ms(X:Cx)(ct:Nat→Addr)(W:aU)(st:List Stmt)(m:MS):Prop:=yj X st (tS X.K ct W m)
theorem rQ.ext{K:Frag}{ct ι ι':Nat→Addr}{W:aU}{n n':Nat}{H H':Hp}{o:nO}{T:Ends}(h:rQ K ct W ι n H o T)(x:Ext K ι n H ι' n' H'):rQ K ct W ι' n' H' o T:=by
 cases o with
 | next e M=>exact fun jd b H2 x2 w=>h jd b H2 (x.trans x2) w
 | ret d M=>exact fun jd b H2 x2 r q=>h jd b H2 (x.trans x2) r q
 | brk e M=>exact fun jd b H2 x2 w=>h jd b H2 (x.trans x2) w
 | cont e M=>exact fun jd b H2 x2 w=>h jd b H2 (x.trans x2) w
 | exc c d e M=>exact fun jd b dx v H2 x2 w q1 q2=>h jd b dx v H2 (x.trans x2) w q1 q2
 | bad=>exact h
def v_{α:Type}(e:Sl)(o:Out α)(f:α→Mem→nO):nO:=match o with
 | .ok a M=>f a M
 | .exc c d M=> .exc c d e M
 | .bad=> .bad
@[simp] theorem Ai{α:Type}(e:Sl)(a:α)(M:Mem)(f:α→Mem→nO):v_ e (.ok a M) f=f a M:=id rfl
@[simp] theorem vY{α:Type}(e:Sl)(c:Nat)(d:D)(M:Mem)(f:α→Mem→nO):v_ e (.exc c d M:Out α) f= .exc c d e M:=id rfl
@[simp] theorem vZ{α:Type}(e:Sl)(f:α→Mem→nO):v_ e (.bad:Out α) f= .bad:=id rfl
theorem pL{α β:Type}{rel:(Nat→Addr)→Mem→Hp→α→β→Prop}{K:Frag}{ct:Nat→Addr}{W:aU}{m:Sl→Mem→Out α}{f:α→Sl→Mem→nO}{σ:St}{H:Hp}{T:Ends}
  (h:tS K ct W (fun e M=>v_ e (m e M) fun a M1=>f a e M1) T σ H):tG rel K ct W m σ H (fun b H1=>∃ι e M a,Ws K ct ι e M σ H1∧rel ι M H1 a b∧rQ K ct W ι M.length H1 (f a e M) T):=by
 obtain⟨ι,e,M,w,p⟩:=h
 refine⟨ι,e,M,w,?_⟩
 cases z:m e M with
 | bad=>simp only[z,vZ]at p;exact p
 | exc xc xd xM=>simp only[z,vY]at p;exact fun fQ dx v H1 x r q1 q2=>p fQ σ dx v H1 x (w.ext x r) q1 q2
 | ok a M1=>
  simp only[z,Ai]at p
  exact fun fQ b H1 x r q=>⟨fQ,e,M1,a,w.ext x r,q,p.ext x⟩
section
variable{X:Cx}{ct:Nat→Addr}{W:aU}{st:Stmt}{rest:List Stmt}{s t:MS}{a:Expr}{ma:ME}{pos:Pos}
theorem PS.imp{st:Stmt}{t t':TS}(h:PS X st t)(hi:∀T σ H,t' T σ H→t T σ H):PS X st t':=fun pins s σ H T I q=>h pins s σ H T I (hi T σ H q)
theorem yj.imp{st:List Stmt}{t t':TS}(h:yj X st t)(hi:∀T σ H,t' T σ H→t T σ H):yj X st t':=fun pins s σ H T I q=>h pins s σ H T I (hi T σ H q)
def cV:MS:=fun e M=> .next e M
def aQ(s t:MS):MS:=fun e M=>match s e M with
 | .next e' M'=>t e' M'
 | o=>o
theorem Jw{T:Ends}{σ:St}{H:Hp}(h:tS X.K ct W cV T σ H):Qn T σ H:=let⟨ι,_,_,w,p⟩:=h;p ι σ H .refl w
theorem bT:Ms X ct W [] cV:=yj.imp N8 fun T σ H q=>Jw q
theorem aB(h1:SS X ct W st s)(h2:Ms X ct W rest t):Ms X ct W (st::rest) (aQ s t):=yj.imp (J2 h1 h2) fun T σ H ⟨ι,e,M,w,p⟩=>by
 refine⟨ι,e,M,w,?_⟩
 unfold aQ at p
 cases z:s e M with
 | next e' M'=>rw[z]at p;exact fun ι' σ' H' x w'=>⟨ι',e',M',w',p.ext x⟩
 | ret d M'=>rw[z]at p;exact p
 | brk d M'=>rw[z]at p;exact p
 | cont d M'=>rw[z]at p;exact p
 | exc c d e M'=>rw[z]at p;exact p
 | bad=>rw[z]at p;exact p
theorem aK(h1:SS X ct W st s):Ms X ct W [st] s:=N7 h1
def Hl:MS:=fun _ _=> .bad
theorem qz:SS X ct W st Hl:=fun _ _ _ _ _ _ ⟨_,_,_,_,p⟩=>p.elim
def wZ(m:ME):MS:=fun e M=>v_ e (m e M) fun _ M1=> .next e M1
theorem tD(he:SE X ct W a ma)(hs:swapsWith a none pos.line X.env=pure false:=by rfl):SS X ct W (.Expr a pos) (wZ ma):=PS.imp (Oa he hs) fun T σ H q=>by
 obtain⟨ι,e,M,w,p⟩:=pL (rel:=e_ X.K ct) (f:=fun _ e M1=> .next e M1) q
 exact⟨ι,e,M,w,p.mono fun v H1 ⟨fQ,e1,M1,d,w1,q1,p1⟩=>p1 fQ σ H1 .refl w1⟩
def fY(m:ME):MS:=fun e M=>v_ e (m e M) fun d M1=> .ret d M1
theorem bL(he:SE X ct W a ma):SS X ct W (.Return (some a) pos) (fY ma):=PS.imp (RN he) fun T σ H q=>by
 obtain⟨ι,e,M,w,p⟩:=pL (rel:=e_ X.K ct) (f:=fun d e M1=> .ret d M1) q
 exact⟨ι,e,M,w,p.mono fun v H1 ⟨fQ,e1,M1,d,w1,q1,p1⟩=>p1 fQ v H1 .refl w1.rl q1⟩
def qD(c:MT)(s t:MS):MS:=fun e M=>v_ e (c e M) fun k M1=>if k=true then s e M1 else t e M1
theorem dB{c:Expr}{b b':List Stmt}{mc:MT}(hc:LK X ct W c mc)(ha:Ms X ct W b s)(hb:Ms X ct W b' t):SS X ct W (.If c b b' pos) (qD mc s t):=PS.imp (Wn hc ha hb) fun T σ H q=>by
 obtain⟨ι,e,M,w,p⟩:=pL (rel:=yz) (f:=fun k e M1=>if k=true then s e M1 else t e M1) q
 refine⟨ι,e,M,w,p.mono fun k H1 ⟨fQ,e1,M1,d,w1,q1,p1⟩=> ?_⟩
 have K1:d=k:=q1;subst K1
 cases d with
 | true=>exact⟨fQ,e1,M1,w1,p1⟩
 | false=>exact⟨fQ,e1,M1,w1,p1⟩
abbrev Tg:=D→Sl→Option Sl
abbrev Mr:=List D→Sl→Option Sl
def QT(K:Frag)(ct ι:Nat→Addr)(M:Mem)(H:Hp)(o:Option Sl)(Q:St→Hp→Prop):Prop:=match o with
 | some e'=>∀σ',Ws K ct ι e' M σ' H→Q σ' H
 | none=>False
def tT(K:Frag)(ct:Nat→Addr)(g:Tg):TG:=fun v σ H Q=>∃ι e M d,Ws K ct ι e M σ H∧DV K ct ι M.length H d v∧QT K ct ι M H (g d e) Q
def tTs(K:Frag)(ct:Nat→Addr)(g:Mr):Qf:=fun vs σ H Q=>∃ι e M ds,Ws K ct ι e M σ H∧j9 K ct ι M.length H ds vs∧QT K ct ι M H (g ds e) Q
def SG(X:Cx)(ct:Nat→Addr)(tg:Expr)(g:Tg):Prop:=PG X tg (tT X.K ct g)
def SGs(X:Cx)(ct:Nat→Addr)(tg:List Expr)(g:Mr):Prop:=Mt X tg (tTs X.K ct g)
theorem PG.imp{tg:Expr}{t t':TG}(h:PG X tg t)(hi:∀v σ H Q,t' v σ H Q→t v σ H Q):PG X tg t':=fun pins s σ H v u Q I r q=>h pins s σ H v u Q I r (hi v σ H Q q)
theorem Mt.imp{tg:List Expr}{t t':Qf}(h:Mt X tg t)(hi:∀v σ H Q,t' v σ H Q→t v σ H Q):Mt X tg t':=fun pins s σ H v u Q I r q=>h pins s σ H v u Q I r (hi v σ H Q q)
def gN(i:Nat):Tg:=fun d e=>some (e.set i (some d))
theorem jR{i:Nat}{x:Str}(hN:X.N.Nodup)(hi:X.N[i]? = some x)(hx:Loc X.env.scope x)(hf:X.fn x=true∨X.env.scope.names.lookup x=some .local:=by first | exact .inl rfl | exact .inr rfl | assumption):SG X ct (.Name x pos) (gN i):=
 PG.imp (Od hN hi hx hf) fun v σ H Q ⟨ι,e,M,d,w,q,p⟩=>p _ (w.set i q)
def yZ:Mr:=fun ds e=>match ds with
 | []=>some e
 | _=>none
def kI(g:Tg)(gs:Mr):Mr:=fun ds e=>match ds with
 | d::r=>(g d e).bind fun e'=>gs r e'
 | []=>none
theorem vU:SGs X ct [] yZ:=Mt.imp Oc fun vs σ H Q ⟨ι,e,M,ds,w,q,p⟩=>by
 cases q with
 | nil=>exact⟨rfl,p σ w⟩
 | cons _ _=>exact p.elim
theorem ju{es:List Expr}{g:Tg}{gs:Mr}(h1:SG X ct a g)(h2:SGs X ct es gs)
  (hs:(assignEach (a::es) X.env).map (·.2)=assign a X.env::(assignEach es X.env).map (·.2):=by rfl):SGs X ct (a::es) (kI g gs):=Mt.imp (J4 h1 h2 hs) fun vs σ H Q ⟨ι,e,M,ds,w,q,p⟩=>by
 cases q with
 | nil=>exact p.elim
 | @cons d x ds xs h hs=>
  refine⟨x,xs,rfl,ι,e,M,d,w,h,?_⟩
  simp only[kI]at p
  cases z:g d e with
  | none=>rw[z]at p;exact p.elim
  | some e'=>rw[z]at p;exact fun σ' w'=>⟨ι,e',M,ds,w',hs,p⟩
def gT(n:Nat)(gs:Mr):Tg:=fun d e=>match d with
 | .tup ds=>if ds.length=n then gs ds e else none
 | _=>none
theorem zN{es:List Expr}{k:Nat}{gs:Mr}{n:Nat}(hc:X.calm=true)(h:SGs X ct es gs)
  (hn:(assignEach es X.env).length=n:=by rfl) (hst:(assignEach es X.env).findIdx? (·.1)=none:=by rfl):SG X ct (.Tuple es k pos) (gT n gs):=PG.imp (RW hc h hn hst) fun v σ H Q ⟨ι,e,M,d,w,q,p⟩=>by
 cases q with
 | @tup a xs ds hs hd=>
  simp only[gT]at p
  split at p
  ·rename_i hl
   exact⟨a,xs,rfl,oG.of hs,by rw[hd.length];exact hl,ι,e,M,ds,w,hd,p⟩
  ·exact p.elim
 | _=>exact p.elim
def d_(m:ME)(g:Tg):MS:=fun e M=>v_ e (m e M) fun d M1=>match g d e with
 | some e'=> .next e' M1
 | none=> .bad
theorem FJ{te:TE}{tg:TG}{m:ME}{g:Tg}{T:Ends}{σ:St}{H:Hp}(he:∀Q,tG (e_ X.K ct) X.K ct W m σ H Q→te σ H Q)(hg:∀v H Q,tT X.K ct g v σ H Q→tg v σ H Q)(h:tS X.K ct W (d_ m g) T σ H):Ra te tg T σ H:=by
 refine he _ ?_
 obtain⟨ι,e,M,w,p⟩:=pL (rel:=e_ X.K ct) (f:=fun d e M1=>match g d e with
  | some e'=> .next e' M1
  | none=> .bad) h
 refine⟨ι,e,M,w,p.mono fun v H1 ⟨fQ,e1,M1,d,w1,q1,p1⟩=>hg _ _ _ ⟨fQ,e1,M1,d,w1,q1,?_⟩⟩
 cases z:g d e1 with
 | none=>rw[z]at p1;exact p1
 | some e'=>rw[z]at p1;exact fun σ' w'=>p1 fQ σ' H1 .refl w'
theorem JF{tg:Expr}{g:Tg}(he:SE X ct W a ma)(hg:SG X ct tg g)(hs:swapsWithSole [tg] a pos.line X.env=pure false:=by rfl)(hw:swappedStores [tg] a X.env=pure none:=by rfl)
  (h1:(assignEach [tg] X.env).map (·.2)=[assign tg X.env]:=by rfl):SS X ct W (.Assign [tg] a pos) (d_ ma g):=PS.imp (RT he hg hs hw h1) fun T σ H q=>FJ (fun _ q=>q) (fun _ _ _ q=>q) q
theorem bD{i:Nat}{x:Str}{pos':Pos}(hN:X.N.Nodup)(hi:X.N[i]? = some x)(hx:Loc X.env.scope x)(he:SE X ct W a ma)(hs:swapsWith a (some (.Name x pos')) pos.line X.env=pure false:=by rfl)(hf:X.fn x=true∨X.env.scope.names.lookup x=some .local:=by first | exact .inl rfl | exact .inr rfl | assumption):
  SS X ct W (.Assign [.Name x pos'] a pos) (d_ ma (gN i)):=PS.imp (RM hN hi hx he hs hf) fun T σ H q=>FJ (fun _ q=>q) (fun v H Q ⟨ι,e,M,d,w,q,p⟩=>p _ (w.set i q)) q
def dU(cs:List Nat)(f:Str)(d:D)(o:D)(M:Mem):Option Mem:=match o with
 | .ref n=>match M[n]? with
  | some (.ins c fs)=>if c∈cs∧fs.length<1000 then some (M.set n (.ins c (putD f d fs)))else none
  | _=>none
 | _=>none
def eZ(cs:List Nat)(mo mv:ME)(f:Str):MS:=fun e M=>v_ e (mv e M) fun d M1=>v_ e (mo e M1) fun o M2=>match dU cs f d o M2 with
 | some M3=> .next e M3
 | none=> .bad
theorem Ds.put{K:Frag}{ι:Nat→Addr}{n:Nat}{H:Hp}{f:Str}{d:D}{v:V}(h:DV K ct ι n H d v):∀{fs:List (Str×D)} {vs:List (Str×V)},Ds K ct ι n H fs vs→Ds K ct ι n H (putD f d fs) (oH f v vs)
 | _,_,.nil=> .cons h .nil
 | _,_,.cons (x:=x) h' hs=>by
  unfold putD oH
  by_cases e:x=f
  ·rw[if_pos e,if_pos e];exact .cons h hs
  ·rw[if_neg e,if_neg e];exact .cons h' (hs.put h)
theorem dh{o:Expr}{mo:ME}{cs:List Nat}{f:Str}{pos':Pos}(hc:yp X.K ct f cs)(ho:SE X ct W o mo)(hv:SE X ct W a ma)(hs:swapsWith a (some (.Attribute o f pos')) pos.line X.env=pure false:=by rfl):
  SS X ct W (.Assign [.Attribute o f pos'] a pos) (eZ cs mo ma f):=PS.imp (RQ ho hv hs) fun T σ H q=>by
 obtain⟨ι,e,M,w,p⟩:=pL (rel:=e_ X.K ct) (f:=fun d e M1=>v_ e (mo e M1) fun o M2=>match dU cs f d o M2 with
  | some M3=> .next e M3
  | none=> .bad) q
 refine⟨ι,e,M,w,p.mono fun y H1 ⟨fQ,e1,M1,d,w1,q1,p1⟩=>⟨fQ,e1,M1,w1,?_⟩⟩
 cases z:mo e1 M1 with
 | bad=>simp only[z,vZ]at p1;exact p1
 | exc xc xd xM=>simp only[z,vY]at p1;exact fun jd dx v H2 x r q1 q2=>p1 jd σ dx v H2 x (w1.ext x r) q1 q2
 | ok o' M2=>
  simp only[z,Ai]at p1
  intro jd x H2 x2 r2 q2
  have p2:=p1.ext x2
  have w2:=w1.ext x2 r2
  have qd:=q1.mono x2
  cases q2 with
  | @ref n hn=>
   simp only[dU]at p2
   cases z0:M2[n]? with
   | none=>rw[z0]at p2;exact p2.elim
   | some ob=>
    cases ob with
    | lst _=>rw[z0]at p2;exact p2.elim
    | dk _=>rw[z0]at p2;exact p2.elim
    | dt _=>rw[z0]at p2;exact p2.elim
    | ins c fs=>
     simp only[z0]at p2
     by_cases hcs:c∈cs∧fs.length<1000
     ·rw[if_pos hcs]at p2
      obtain⟨dx,vs,hH,fv⟩:=r2.obj n _ z0
      have x3:Ext X.K jd M2.length H2 jd M2.length (upd H2 (jd n) (.ins (ct c) dx (oH f y vs))):=Ext.chg hH (fun _ z=>nomatch z) (fun _ _ z=>nomatch z)
      refine⟨_,_,dx,vs,rfl,hH,(hc.get hcs.1).1,(hc.get hcs.1).2,by rw[fv.length];exact hcs.2,?_⟩
      have r3:=r2.chg (o:= .ins (ct c) dx (oH f y vs)) (x:= .ins c (putD f d fs)) hn hH (fun _ z=>nomatch z) (fun _ _ z=>nomatch z) ⟨dx,_,aX,(fv.put qd).mono x3⟩
      have x3':Ext X.K jd M2.length H2 jd (M2.set n (.ins c (putD f d fs))).length (upd H2 (jd n) (.ins (ct c) dx (oH f y vs))):=by rw[List.length_set];exact x3
      exact p2 jd σ _ x3' (w2.ext x3' r3)
     ·rw[if_neg hcs]at p2
      exact p2.elim
  | _=>exact p2.elim
structure Itm where
 src:Option (Nat×List D)
 ds:List D
def mz(s:Option (Nat×List D))(M:Mem):Prop:=match s with
 | none=>True
 | some (n,ds)=>lY M n=some ds
noncomputable instance{s:Option (Nat×List D)}{M:Mem}:Decidable (mz s M):=Classical.propDecidable _
def NB(K:Frag)(ct:Nat→Addr):(Nat→Addr)→Mem→Hp→Itm→It→Prop:=fun ι M H it J=>mz it.src M∧it.ds.length≤sizeLine∧∀ι' M' H',Ext K ι M.length H ι' M'.length H'→Rl K ct ι' M' H'→mz it.src M'→
 ∀i,(∀d,it.ds[i]? = some d→J.go i H'∧∀x H2,J.Mv i H' x H2→Ext K ι' M'.length H' ι' M'.length H2∧Rl K ct ι' M' H2∧DV K ct ι' M'.length H2 d x)∧(it.ds.length≤i→J.stop i H')
abbrev MI:=Sl→Mem→Out Itm
def SI(X:Cx)(ct:Nat→Addr)(W:aU)(tg e:Expr)(m:MI):Prop:=PI X tg e (tG (NB X.K ct) X.K ct W m)
theorem PI.imp{tg e:Expr}{t t':TI}(h:PI X tg e t)(hi:∀σ H R,t' σ H R→t σ H R):PI X tg e t':=fun pins s σ H R I q=>h pins s σ H R I (hi σ H R q)
def lC(src:Option (Nat×List D))(g:Tg)(b:MS):List D→Sl→Mem→nO
 | [],e,M=>if mz src M then .next e M else .bad
 | d::ds,e,M=>if mz src M then(match g d e with
   | none=> .bad
   | some e1=>match b e1 M with
    | .next e2 M2=>lC src g b ds e2 M2
    | .cont e2 M2=>lC src g b ds e2 M2
    | .brk e2 M2=> .next e2 M2
    | .ret d M2=> .ret d M2
    | .exc c d e2 M2=> .exc c d e2 M2
    | .bad=> .bad)else .bad
def JR(mi:MI)(g:Tg)(b:MS):MS:=fun e M=>v_ e (mi e M) fun it M1=>lC it.src g b it.ds e M1
theorem DR{tg iter:Expr}{body:List Stmt}{mi:MI}{g:Tg}{b:MS}(hp:X.Ok→PassesOwn (model X.prog X.w) X.A X.env X.xe)(hc:X.calm=true)(hi:SI X ct W tg iter mi)(hg:SG X ct tg g)(hb:Ms X ct W body b)
  (hs:∀x,foldedSetIterable iter X.env x=pure x:=by intro _;rfl):SS X ct W (.For tg iter body [] pos) (JR mi g b):=PS.imp (fun pins s σ H D I h=>N_ (hp I.ok) hc hi hg hb hs pins s σ H D I h) fun T σ H q=>by
 obtain⟨ι,e,M,w,p⟩:=pL (rel:=NB X.K ct) (f:=fun it e M1=>lC it.src g b it.ds e M1) q
 refine⟨ι,e,M,w,p.mono fun J H1 ⟨fQ,e1,M1,it,w1,q1,p1⟩=> ?_⟩
 obtain⟨ok1,_,step⟩:=q1
 refine⟨fun i m σ' H'=>m=it.ds.length - i∧i≤it.ds.length∧∃ι' e' M',Ext X.K fQ M1.length H1 ι' M'.length H'∧Ws X.K ct ι' e' M' σ' H'∧rQ X.K ct W ι' M'.length H' (lC it.src g b (it.ds.drop i) e' M') T,
  ⟨it.ds.length,by simp,Nat.zero_le _,fQ,e1,M1,.refl,w1,by simpa using p1⟩,?_⟩
 rintro i m σ' H' ⟨rfl,hi,ι',e',M',x',w',p'⟩
 by_cases hlt:i<it.ds.length
 ·rw[List.drop_eq_getElem_cons hlt]at p'
  unfold lC at p'
  by_cases ok':mz it.src M'
  ·rw[if_pos ok']at p'
   obtain⟨go,yl⟩:=(step ι' M' H' x' w'.rl ok' i).1 _ (List.getElem?_eq_getElem hlt)
   refine .inr ⟨go,fun σ2 H2=>∃jd e2 M2,Ext X.K fQ M1.length H1 jd M2.length H2∧Ws X.K ct jd e2 M2 σ2 H2∧rQ X.K ct W jd M2.length H2 (lC it.src g b (it.ds.drop (i+1)) e2 M2) T,?_,?_⟩
   ·rintro σ2 H2 ⟨jd,e2,M2,x2,w2,p2⟩
    exact⟨it.ds.length - (i+1),by omega,rfl,hlt,jd,e2,M2,x2,w2,p2⟩
   ·intro x H2 y
    obtain⟨x2,r2,dv⟩:=yl x H2 y
    have w2:=w'.ext x2 r2
    have p2:=p'.ext x2
    refine⟨ι',e',M',_,w2,dv,?_⟩
    cases z:g it.ds[i] e' with
    | none=>rw[z]at p2;exact p2
    | some e2=>
     rw[z]at p2
     intro σ3 w3
     refine⟨ι',e2,M',w3,?_⟩
     cases z3:b e2 M' with
     | next e4 M4=>simp only[z3]at p2;exact fun QX σ5 H5 x5 w5=>⟨QX,e4,M4,(x'.trans x2).trans x5,w5,p2.ext x5⟩
     | cont e4 M4=>simp only[z3]at p2;exact fun QX σ5 H5 x5 w5=>⟨QX,e4,M4,(x'.trans x2).trans x5,w5,p2.ext x5⟩
     | brk e4 M4=>simp only[z3]at p2;exact p2
     | ret d M4=>simp only[z3]at p2;exact p2
     | exc xc xd xe xM=>simp only[z3]at p2;exact p2
     | bad=>simp only[z3]at p2;exact p2
  ·rw[if_neg ok']at p'
   exact p'.elim
 ·have e0:i=it.ds.length:=by omega
  subst e0
  rw[List.drop_length]at p'
  unfold lC at p'
  by_cases ok':mz it.src M'
  ·rw[if_pos ok']at p'
   exact .inl ⟨(step ι' M' H' x' w'.rl ok' _).2 (Nat.le_refl _),p' ι' σ' H' .refl w'⟩
  ·rw[if_neg ok']at p'
   exact p'.elim
def KH(d:D)(M1:Mem):Out Itm:=match d with
 | .ref n=>match lY M1 n with
  | some ds=> .ok ⟨some (n,ds),ds⟩ M1
  | none=> .bad
 | .cl ds=> .ok ⟨none,ds⟩ M1
 | .tup ds=> .ok ⟨none,ds⟩ M1
 | _=> .bad
def Gm(m:ME):MI:=fun e M=>(m e M).bind KH
theorem RV{tg l:Expr}{tl:TE}(hl:PE X l tl):PI X tg l (fun σ H R=>tl σ H fun x H1=>∃a,x= .ref a∧(((∃xs,ql X.K H1 a xs)∧((∀xs,ql X.K H1 a xs→xs.length≤sizeLine)→R (ZQ X.K a) H1))∨((∃xs,oG X.K H1 a xs)∧((∀xs,oG X.K H1 a xs→xs.length≤sizeLine)→R (ZP X.K a) H1)))):=by
 intro pins s σ H R I h
 refine je (hl pins s σ H _ I h) fun v s1 ⟨x,H1,I1,r1,q1⟩=> ?_
 obtain⟨a,e,q⟩:=q1
 subst e
 cases r1
 rcases q with⟨⟨xs,hq⟩,q⟩ | ⟨⟨xs,hq⟩,q⟩
 ·obtain⟨its,rv,p,hz⟩:=I1.list hq
  have q:=q fun ys hy=>by obtain⟨_,_,_,hz⟩:=I1.list hy;exact hz
  refine wpAny_pyIter_list p.isList ?_
  refine⟨s1.heap.objs.size,[s1.heap.objs.size],_,_,H1,rfl,I1.kept (t':=s1.toks) fun b o e=>Heap.get?_push_of_some _ e,G9 a _,⟨_,Heap.get?_push_size _ rfl,rfl,rfl⟩,fun b hb=> ?_,q⟩
  have e:b=s1.heap.objs.size:=by simpa using hb
  subst e
  exact I1.T8 (Nat.le_refl _) (I1.hok.fresh (Nat.le_refl _))
 ·obtain⟨its,rv,p,hz⟩:=I1.tuple hq
  have q:=q fun ys hy=>by obtain⟨_,_,_,hz⟩:=I1.tuple hy;exact hz
  refine wpAny_pyIter_tuple (show s1.heap.IsTuple a its.toArray from p) ?_
  refine⟨s1.heap.objs.size,[s1.heap.objs.size],_,_,H1,rfl,I1.kept (t':=s1.toks) fun b o e=>Heap.get?_push_of_some _ e,DK a _,⟨_,Heap.get?_push_size _ rfl,rfl,rfl⟩,fun b hb=> ?_,q⟩
  have e:b=s1.heap.objs.size:=by simpa using hb
  subst e
  exact I1.T8 (Nat.le_refl _) (I1.hok.fresh (Nat.le_refl _))
theorem CN{K:Frag}{ι:Nat→Addr}{M:Mem}{H:Hp}{a:Addr}{xs:List V}{ds:List D}(R:Rl K ct ι M H)(hq:ql K H a xs)(hd:j9 K ct ι M.length H ds xs)(i:Nat):
  (∀d,ds[i]? = some d→(ZQ K a).go i H∧∀x H2,(ZQ K a).Mv i H x H2→Ext K ι M.length H ι M.length H2∧Rl K ct ι M H2∧DV K ct ι M.length H2 d x)∧(ds.length≤i→(ZQ K a).stop i H):=by
 refine⟨fun d e=> ?_,fun h=>⟨xs,hq,by rw[hd.length];exact h⟩⟩
 obtain⟨v,hv,dv⟩:=hd.at e
 refine⟨⟨xs,v,hq,hv⟩,fun x H2 y=> ?_⟩
 obtain⟨e2,y⟩:=y
 subst e2
 have z:=y xs hq
 rw[hv]at z
 cases z
 exact⟨.refl,R,dv⟩
theorem KC{K:Frag}{ι:Nat→Addr}{M:Mem}{H:Hp}{a:Addr}{xs:List V}{ds:List D}(R:Rl K ct ι M H)(hq:oG K H a xs)(hd:j9 K ct ι M.length H ds xs)(i:Nat):
  (∀d,ds[i]? = some d→(ZP K a).go i H∧∀x H2,(ZP K a).Mv i H x H2→Ext K ι M.length H ι M.length H2∧Rl K ct ι M H2∧DV K ct ι M.length H2 d x)∧(ds.length≤i→(ZP K a).stop i H):=by
 refine⟨fun d e=> ?_,fun h=>⟨xs,hq,by rw[hd.length];exact h⟩⟩
 obtain⟨v,hv,dv⟩:=hd.at e
 refine⟨⟨xs,v,hq,hv⟩,fun x H2 y=> ?_⟩
 obtain⟨e2,y⟩:=y
 subst e2
 have z:=y xs hq
 rw[hv]at z
 cases z
 exact⟨.refl,R,dv⟩
theorem JG{tg:Expr}(hl:SE X ct W a ma):SI X ct W tg a (Gm ma):=PI.imp (RV hl) fun σ H R q=>by
 obtain⟨ι,e,M,w,p⟩:=cO (gH:=e_ X.K ct) (f:=fun d _ M1=>KH d M1) q
 refine⟨ι,e,M,w,p.mono fun v H1 ⟨fQ,e1,M1,d,w1,q1,p1⟩=> ?_⟩
 cases q1 with
 | @ref n hn=>
  dsimp only[KH]at p1
  cases z:lY M1 n with
  | none=>rw[z]at p1;exact p1.elim
  | some ds=>
   rw[z]at p1
   obtain⟨xs,hH,hd⟩:=w1.rl.obj n _ (mL.mp z)
   refine⟨_,rfl,.inl ⟨⟨xs,ql.of hH⟩,fun hz=>p1 fQ _ H1 .refl w1.rl ⟨z,by rw[←hd.length];exact hz xs (ql.of hH),fun jd M2 H2 x2 r2 ok2 i=> ?_⟩⟩⟩
   obtain⟨xs2,hH2,hd2⟩:=r2.obj n _ (mL.mp ok2)
   rw[←x2.same n hn]
   exact CN r2 (ql.of hH2) hd2 i
 | cl h1 h2=>exact⟨_,rfl,.inl ⟨⟨_,h1.sq⟩,fun hz=>p1 fQ _ H1 .refl w1.rl ⟨trivial,by rw[←h2.length];exact hz _ h1.sq,fun jd M2 H2 x2 r2 ok2 i=>CN r2 (x2.gZ _ _ h1).sq (h2.mono x2) i⟩⟩⟩
 | tup h1 h2=>exact⟨_,rfl,.inr ⟨⟨_,oG.of h1⟩,fun hz=>p1 fQ _ H1 .refl w1.rl ⟨trivial,by rw[←h2.length];exact hz _ (oG.of h1),fun jd M2 H2 x2 r2 ok2 i=>KC r2 (oG.of (x2.tup _ _ h1)) (h2.mono x2) i⟩⟩⟩
 | _=>exact p1.elim
def z7(lo:Int)(n:Nat):List D:=(List.range n).map fun(k:Nat)=>D.int (lo+k)
def Ck(ds:List D)(M1:Mem):Out Itm:=match ds with
 | [.int j]=>if -(2 ^ 62)≤j∧j<2 ^ 24 then .ok ⟨none,z7 0 j.toNat⟩ M1 else .bad
 | _=> .bad
def Gk(ms:MA):MI:=fun e M=>(ms e M).bind Ck
theorem KD{K:Frag}{ι:Nat→Addr}{M:Mem}{H:Hp}(R:Rl K ct ι M H)(lo:Int)(n i:Nat):
  (∀d,(z7 lo n)[i]? = some d→(Vu lo n).go i H∧∀x H2,(Vu lo n).Mv i H x H2→Ext K ι M.length H ι M.length H2∧Rl K ct ι M H2∧DV K ct ι M.length H2 d x)∧((z7 lo n).length≤i→(Vu lo n).stop i H):=by
 refine⟨fun d e=> ?_,fun h=>(by simpa[z7]using h:n≤i)⟩
 unfold z7 at e
 rw[List.getElem?_map]at e
 obtain⟨k,hk,rfl⟩:=Option.map_eq_some_iff.mp e
 obtain⟨hi,e2⟩:=List.getElem?_eq_some_iff.mp hk
 have hi':i<n:=by simpa using hi
 have ek:k=i:=by rw[←e2];simp
 subst ek
 refine⟨hi',fun x H2 y=> ?_⟩
 obtain⟨e3,y⟩:=y
 subst e3 y
 exact⟨.refl,R,.int _⟩
theorem Tj:(2 ^ 24:Nat)≤sizeLine:=by rw[sizeLine_eq];decide
theorem yO{tg a:Expr}{ms:MA}{p pos:Pos}(hg:Gl X "range")(hm:X.mg "range" = none)(ha:SA X ct W [a] ms)(hs:starEach [a] X.env=[(false,eval a X.env)]:=by rfl):SI X ct W tg (.Call (.Name "range" p) [a] [] pos) (Gk ms):=PI.imp (Ht hg hm ha hs) fun σ H R q=>by
 obtain⟨ι,e,M,w,p⟩:=cO (gH:=xg X.K ct) (f:=fun ds _ M1=>Ck ds M1) q
 refine⟨ι,e,M,w,p.mono fun v H1 ⟨fQ,e1,M1,d,w1,q1,p1⟩=> ?_⟩
 dsimp only[Ck]at p1
 split at p1
 ·rename_i j
  obtain⟨v,rfl,q2⟩:=Fd q1
  cases nu q2
  split at p1
  ·rename_i hj
   have hz:=Tj
   exact⟨j,rfl,hj.1,by omega,p1 fQ _ H1 .refl w1.rl ⟨trivial,by simp[z7];omega,fun jd M2 H2 x2 r2 ok2 i=>KD r2 0 _ i⟩⟩
  ·exact p1.elim
 ·exact p1.elim
def zF(c:MT)(b:MS):Nat→Sl→Mem→nO
 | 0,_,_=> .bad
 | n+1,e,M=>match c e M with
  | .bad=> .bad
  | .exc c d M1=> .exc c d e M1
  | .ok false M1=> .next e M1
  | .ok true M1=>match b e M1 with
   | .next e2 M2=>zF c b n e2 M2
   | .cont e2 M2=>zF c b n e2 M2
   | .brk e2 M2=> .next e2 M2
   | .ret d M2=> .ret d M2
   | .exc c d e2 M2=> .exc c d e2 M2
   | .bad=> .bad
theorem wG{c:MT}{b:MS}:∀(n:Nat) (e:Sl) (M:Mem),zF c b n e M≠ .bad→zF c b (n+1) e M=zF c b n e M
 | 0,_,_,h=>absurd rfl h
 | n+1,e,M,h=>by
  unfold zF at h ⊢
  cases z:c e M with
  | bad=>rfl
  | exc _ _ _=>rfl
  | ok k M1=>
   cases k with
   | false=>rfl
   | true=>
    simp only[z]at h ⊢
    cases z2:b e M1 with
    | next e2 M2=>simp only[z2]at h ⊢;exact wG n e2 M2 h
    | cont e2 M2=>simp only[z2]at h ⊢;exact wG n e2 M2 h
    | brk e2 M2=>rfl
    | ret d M2=>rfl
    | exc _ _ _ _=>rfl
    | bad=>rfl
theorem Dw{c:MT}{b:MS}{n:Nat}{e:Sl}{M:Mem}(h:zF c b n e M≠ .bad):∀k,zF c b (n+k) e M=zF c b n e M
 | 0=>rfl
 | k+1=>by
  have ih:=Dw h k
  rw[←Nat.add_assoc,wG _ _ _ (by rw[ih];exact h)]
  exact ih
open Classical in
def wX(c:MT)(b:MS):MS:=fun e M=>if h:∃n,zF c b n e M≠ .bad then zF c b (Classical.choose h) e M else .bad
theorem Hi{c:MT}{b:MS}{n:Nat}{e:Sl}{M:Mem}{o:nO}(h:zF c b n e M=o)(ho:o≠ .bad):wX c b e M=o:=by
 have ex:∃n,zF c b n e M≠ .bad:=⟨n,by rw[h];exact ho⟩
 unfold wX
 rw[dif_pos ex]
 have h1:=Classical.choose_spec ex
 rcases Nat.le_total n (Classical.choose ex)with l | l
 ·obtain⟨k,hk⟩:=Nat.exists_eq_add_of_le l
  rw[hk,Dw (by rw[h];exact ho) k,h]
 ·obtain⟨k,hk⟩:=Nat.exists_eq_add_of_le l
  rw[←h,hk,Dw h1 k]
theorem JD{c:Expr}{body:List Stmt}{mc:MT}{b:MS}(hp:X.Ok→PassesOwn (model X.prog X.w) X.A X.env X.xe)(hc:LK X ct W c mc)(hb:Ms X ct W body b):SS X ct W (.While c body [] pos) (wX mc b):=PS.imp (fun pins s σ H D I h=>J3 (hp I.ok) hc hb pins s σ H D I h) fun T σ H ⟨ι,e,M,w,p⟩=>by
 unfold wX at p
 split at p
 ·rename_i ex
  refine⟨fun m σ' H'=>∃ι' e' M',Ws X.K ct ι' e' M' σ' H'∧rQ X.K ct W ι' M'.length H' (zF mc b m e' M') T,⟨_,ι,e,M,w,p⟩,?_⟩
  rintro m σ' H' ⟨ι',e',M',w',p'⟩
  cases m with
  | zero=>exact p'.elim
  | succ m=>
   refine⟨ι',e',M',w',?_⟩
   unfold zF at p'
   cases z:mc e' M' with
   | bad=>rw[z]at p';exact p'
   | exc xc xd xM=>rw[z]at p';exact fun jd dx v H2 x r q1 q2=>p' jd σ' dx v H2 x (w'.ext x r) q1 q2
   | ok k M1=>
    intro jd k2 H2 x2 r2 ek
    have K1:k=k2:=ek;subst K1
    have w2:=w'.ext x2 r2
    cases k with
    | false=>rw[z]at p';exact p' jd σ' H2 x2 w2
    | true=>
     simp only[z]at p'
     have p2:=p'.ext x2
     show ∃N:St→Hp→Prop,_
     refine⟨fun σ3 H3=>∃Fq e3 M3,Ws X.K ct Fq e3 M3 σ3 H3∧rQ X.K ct W Fq M3.length H3 (zF mc b m e3 M3) T,fun σ3 H3 q3=>⟨m,Nat.lt_succ_self _,q3⟩,jd,e',M1,w2,?_⟩
     cases z3:b e' M1 with
     | next e4 M4=>simp only[z3]at p2;exact fun QX σ5 H5 x5 w5=>⟨QX,e4,M4,w5,p2.ext x5⟩
     | cont e4 M4=>simp only[z3]at p2;exact fun QX σ5 H5 x5 w5=>⟨QX,e4,M4,w5,p2.ext x5⟩
     | brk e4 M4=>simp only[z3]at p2;exact p2
     | ret d M4=>simp only[z3]at p2;exact p2
     | exc xc xd xe xM=>simp only[z3]at p2;exact p2
     | bad=>simp only[z3]at p2;exact p2
 ·exact p.elim
def uV(js:List Nat)(e:Sl):Sl:=js.map fun i=>(e[i]?).join
def Out.W7{α:Type}(o:Out α):Out α:=match o with
 | .ok a M=> .ok a M
 | _=> .bad
@[simp] theorem Km{α:Type}(a:α)(M:Mem):(Out.ok a M).W7= .ok a M:=id rfl
@[simp] theorem Gh{α:Type}:(Out.bad:Out α).W7= .bad:=id rfl
@[simp] theorem Gg{α:Type}(c:Nat)(d:D)(M:Mem):(Out.exc c d M:Out α).W7= .bad:=id rfl
def uU(src:Option (Nat×List D))(tt:MT)(te:ME)(ce:Sl):List D→List D→Mem→Out D
 | [],ys,M=>if mz src M then .ok (.ref M.length) (M++[.lst ys])else .bad
 | d::ds,ys,M=>if mz src M then(tt (some d::ce) M).W7.bind fun k M1=>if k=true then(te (some d::ce) M1).W7.bind fun y M2=>uU src tt te ce ds (ys++[y]) M2 else uU src tt te ce ds ys M1 else .bad
def Gp(js:List Nat)(mi:MI)(tt:MT)(te:ME):ME:=fun e M=>(mi e M).bind fun it M1=>uU it.src tt te (uV js e) it.ds [] M1
def STs(X:Cx)(ct:Nat→Addr)(W:aU)(ifs:List Expr)(m:MT):Prop:=PTs X ifs (tG yz X.K ct W m)
def Ow:MT:=fun _ M=> .ok true M
theorem MN:STs X ct W [] Ow:=fun pins s σ H Q I ⟨ι,e,M,w,p⟩=>NZ pins s σ H Q I (p ι true H .refl w.rl rfl)
theorem Ws.caps{K:Frag}{ι:Nat→Addr}{e:Sl}{M:Mem}{σ:St}{H:Hp}{d:D}{v:V}(w:Ws K ct ι e M σ H)(js:List Nat)(h:DV K ct ι M.length H d v):Ws K ct ι (some d::uV js e) M (some v::L2.caps js σ) H:=by
 refine⟨w.rl,by simp[uV,L2.caps],fun i x hx=> ?_⟩
 cases i with
 | zero=>simp at hx;subst hx;exact⟨v,rfl,h⟩
 | succ i=>
  simp only[List.getElem?_cons_succ,uV,List.getElem?_map]at hx
  obtain⟨j,hj,ej⟩:=Option.map_eq_some_iff.mp hx
  cases z:e[j]? with
  | none=>rw[z]at ej;cases ej
  | some o=>
   rw[z]at ej
   cases(show o=some x from ej)
   obtain⟨u,hu,du⟩:=w.env j x z
   refine⟨u,?_,du⟩
   simp only[List.getElem?_cons_succ,L2.caps,List.getElem?_map,hj,Option.map_some,hu]
   rfl
theorem Jx{js:List Nat}{mi:MI}{tt:MT}{te:ME}{σ:St}{H:Hp}{Q:VK}(h:tG (e_ X.K ct) X.K ct W (Gp js mi tt te) σ H Q):Qp js (tG (NB X.K ct) X.K ct W mi) (tG yz X.K ct W0 tt) (tG (e_ X.K ct) X.K ct W0 te) σ H Q:=by
 obtain⟨ι,e,M,w,p⟩:=cO (gH:=NB X.K ct) (f:=fun it e M1=>uU it.src tt te (uV js e) it.ds [] M1) h
 refine⟨ι,e,M,w,p.mono fun J H1 ⟨fQ,e1,M1,it,w1,q1,p1⟩=> ?_⟩
 obtain⟨ok1,hz,step⟩:=q1
 refine⟨fun i m ys H'=>m=it.ds.length - i∧i≤it.ds.length∧ys.length≤i∧∃ι' M' ds',Ext X.K fQ M1.length H1 ι' M'.length H'∧Rl X.K ct ι' M' H'∧j9 X.K ct ι' M'.length H' ds' ys∧iz (e_ X.K ct) X.K ct (Vw W σ) ι' M'.length H' (uU it.src tt te (uV js e1) (it.ds.drop i) ds' M') Q,
  ⟨it.ds.length,by simp,Nat.zero_le _,Nat.le_refl _,fQ,M1,[],.refl,w1.rl,.nil,by simpa using p1⟩,?_⟩
 rintro i m ys H' ⟨rfl,hi,hy,ι',M',ds',x',r',dy,p'⟩
 by_cases hlt:i<it.ds.length
 ·rw[List.drop_eq_getElem_cons hlt]at p'
  unfold uU at p'
  by_cases ok':mz it.src M'
  ·rw[if_pos ok']at p'
   obtain⟨go,yl⟩:=(step ι' M' H' x' r' ok' i).1 _ (List.getElem?_eq_getElem hlt)
   refine .inr ⟨go,fun ys2 H2=>ys2.length≤i+1∧∃jd M2 ds2,Ext X.K fQ M1.length H1 jd M2.length H2∧Rl X.K ct jd M2 H2∧j9 X.K ct jd M2.length H2 ds2 ys2∧iz (e_ X.K ct) X.K ct (Vw W σ) jd M2.length H2 (uU it.src tt te (uV js e1) (it.ds.drop (i+1)) ds2 M2) Q,?_,?_⟩
   ·rintro ys2 H2 ⟨hl2,q2⟩
    exact⟨by omega,it.ds.length - (i+1),by omega,rfl,hlt,hl2,q2⟩
   ·intro x H2 y
    obtain⟨x2,r2,dv⟩:=yl x H2 y
    have w2:Ws X.K ct ι' (some it.ds[i]::uV js e1) M' (some x::L2.caps js σ) H2:=(w1.ext (x'.trans x2) r2).caps js dv
    have p2:=p'.ext x2
    refine⟨ι',_,M',w2,?_⟩
    cases z:tt (some it.ds[i]::uV js e1) M' with
    | bad=>simp only[z,Gh,Out.iu]at p2;exact p2
    | exc xc xd xM=>simp only[z,Gg,Out.iu]at p2;exact p2.elim
    | ok k M3=>
     simp only[z,Km,Out.iI]at p2
     intro Fq k3 H3 x3 r3 ek
     have K1:k=k3:=ek;subst K1
     have p3:=p2.ext x3
     have w3:=w2.ext x3 r3
     have dy3:=(dy.mono x2).mono x3
     cases k with
     | false=>exact⟨by omega,Fq,M3,ds',(x'.trans x2).trans x3,r3,dy3,p3⟩
     | true=>
      simp only[if_true]at p3 ⊢
      refine⟨Fq,_,M3,w3,?_⟩
      cases z4:te (some it.ds[i]::uV js e1) M3 with
      | bad=>simp only[z4,Gh,Out.iu]at p3;exact p3
      | exc xc xd xM=>simp only[z4,Gg,Out.iu]at p3;exact p3.elim
      | ok yy M4=>
       simp only[z4,Km,Out.iI]at p3
       intro ι4 v4 H4 x4 r4 d4
       exact⟨by rw[List.length_append];simp;omega,ι4,M4,ds'++[yy],((x'.trans x2).trans x3).trans x4,r4,(dy3.mono x4).append (.cons d4 .nil),p3.ext x4⟩
  ·rw[if_neg ok']at p'
   exact p'.elim
 ·have e0:i=it.ds.length:=by omega
  subst e0
  rw[List.drop_length]at p'
  unfold uU at p'
  by_cases ok':mz it.src M'
  ·rw[if_pos ok']at p'
   exact .inl ⟨(step ι' M' H' x' r' ok' _).2 (Nat.le_refl _),by omega,fun pp hp=>tQ r' dy hp p'⟩
  ·rw[if_neg ok']at p'
   exact p'.elim
variable{elt iter:Expr}{ifs:List Expr}{scope:Scope}{x:Str}{px:Pos}{mi:MI}{tt:MT}{te:ME}
theorem Ng(hc:X.calm=true)(cs:List Str)(js:List Nat)(hi:SI X ct W (.Name x px) iter mi)(hcap:rT X scope cs js)(ht:∀cl C fp s H,STs (gq X scope cl C (x::cs) fp s H) ct W0 ifs tt)(he:∀cl C fp s H,SE (gq X scope cl C (x::cs) fp s H) ct W0 elt te)
  (hall:∀y∈scope.names,y.2= .free→y.1∈cs) (hcell:∀y∈scope.names,y.2≠ .cell) (hnames:∀y∈scope.names,y.2= .local→scope.names.lookup y.1=some .local) (hnd:(x::cs).Nodup)
  (hkind:scope.kind= .function:=by rfl) (hx:scope.names.lookup x=some .local:=by rfl) (hs:∀v,foldedSetIterable iter X.env v=pure v:=by intro _;rfl):
  SE X ct W (.ListComp elt [⟨.Name x px,iter,ifs,0⟩] scope pos) (Gp js mi tt te):=
 eO (Oe (tt:=tG yz X.K ct W0 tt) (te:=tG (e_ X.K ct) X.K ct W0 te) hc cs js hi hcap (fun cl C fp s H=>ht cl C fp s H) (fun cl C fp s H=>he cl C fp s H) hall hcell hnames hnd hkind hx hs) fun σ H Q q=>Jx q
end
def slots(n:Nat)(ds:List D):Sl:=ds.map some++List.replicate (n - ds.length) none
def cG(n:Nat)(b:MS):Fn:=fun ds M=>match b (slots n ds) M with
 | .ret d M'=> .ok d M'
 | .next _ M'=> .ok .non M'
 | .exc c d _ M'=> .exc c d M'
 | _=> .bad
theorem Ws.start{K:Frag}{ct ι:Nat→Addr}{M:Mem}{H:Hp}{ds:List D}{vs:List V}(N:List Str)(R:Rl K ct ι M H)(h:j9 K ct ι M.length H ds vs):Ws K ct ι (slots N.length ds) M (L2.start N vs) H:=by
 refine⟨R,by simp[slots,L2.start,h.length],fun i d hd=> ?_⟩
 unfold slots at hd
 by_cases z:i<ds.length
 ·rw[List.getElem?_append_left (by simpa using z),List.getElem?_map]at hd
  obtain⟨d',e1,e2⟩:=Option.map_eq_some_iff.mp hd
  cases e2
  obtain⟨v,hv,dv⟩:=h.at e1
  refine⟨v,?_,dv⟩
  unfold L2.start
  rw[List.getElem?_append_left (by rw[List.length_map,h.length];exact z),List.getElem?_map,hv]
  rfl
 ·rw[List.getElem?_append_right (by simpa using z),List.getElem?_replicate]at hd
  split at hd<;>cases hd
section
variable{P:Program}{w:World}{K:Frag}{mg:Str→Option Value}{base:Heap}{ct:Nat→Addr}
theorem mJ{n ar:Nat}{b:MS}{x qual:Str}{st:Stmt}{dV:Value}{f:Addr}{fd:FuncData}{N ps:List Str}{k:Nat}(F:cM K x qual st dV f fd)(S:bf N ps (au st))(hn:N.length=n)(har:ps.length=ar)
  (hbody:∀(cdv:Value) (A:Around) (outer:List PySem.Env) (s:Shared) (H:Hp) (E:XK) (W:aU),gF k (A.deeper (envOfC qual (au st) s.heap.objs.size f cdv))→
   Ms ((kJ (fX P w) P w K mg base N qual (au st) f cdv A outer s H E).wish (gw (kJ (fX P w) P w K mg base N qual (au st) f cdv A outer s H E) W)) ct W (aD st) b):
  aY P w K mg base (fX P w) (k+1) f fd ps (spS K ct (cG n b) ar):=by
 subst hn har
 refine F.okX S (fun vs H Q E ⟨ι,ds,M,hl,_,hd,_⟩=>by rw[hd.length,hl]) fun cdv A outer s H vs Q E hr ⟨ι,ds,M,hl,R,hd,p⟩=> ?_
 refine⟨_,fun C dx _ H'=>E (.ref C) (some dx) H',fun C dx σ H' z=>z,hbody cdv A outer s H E _ hr,ι,slots N.length ds,M,Ws.start N R hd,?_⟩
 unfold cG at p
 cases z:b (slots N.length ds) M with
 | ret d M'=>rw[z]at p;exact fun ι' v H' x r q=> .inl (p ι' v H' x r q)
 | next e M'=>rw[z]at p;exact fun ι' σ' H' x w'=> .inl (p ι' .non H' x w'.rl .non)
 | exc c d e M'=>rw[z]at p;exact fun ι' σ' dx v H' x w' q1 q2=>p ι' dx v H' x w'.rl q1 q2
 | brk e M'=>rw[z]at p;exact p.elim
 | cont e M'=>rw[z]at p;exact p.elim
 | bad=>rw[z]at p;exact p.elim
end
theorem Yi{P:Program}{w:World}{K:Frag}{mg:Str→Option Value}{base:Heap}{k:Nat}{f:Addr}{fd:FuncData}{ps:List Str}{sp:Sp}(F:aY P w K mg base (fX P w) k f fd ps sp):aY P w K mg base QW k f fd ps (fun vs H Q _=>sp vs H Q E0):=
 ⟨fun vs H Q _ h=>F.len vs H Q E0 h,fun A outer s H args us vs Q E hr he hb hv hs=>codeAny_mono (F.run A outer s H args us vs Q E0 hr he hb hv hs) fun r s' hq=>by
  match r,hq with
  | .error e,hq=>obtain⟨_,_,_,_,_,_,_,_,_,_,_,_,_,_,_,z⟩:=hq;exact z.elim
  | .ok (.ret u),hq=>exact hq⟩
theorem tU{Y:Cx}{W:aU}(hst:Y.stack=Y.env::Y.outer)(hf:Y.env.frame=some Y.env.locals)(ok:(Y.wish (gw Y W)).Ok):PassesOwn (model Y.prog Y.w) Y.A Y.env (gw Y W):=fun ev s' h=>gw.Hz hst hf ok.frames ev s' h
theorem Tk.none{X:Cx}:Tk X W0:=fun _ _ ⟨_,_,_,_,_,_,_,_,_,_,_,_,_,_,z⟩=>z.elim
theorem CZ{K:Frag}{ct ι:Nat→Addr}{n:Nat}{H:Hp}:∀ns:List Int,j9 K ct ι n H (ns.map D.int) (ns.map V.int)
 | []=> .nil
 | i::r=> .cons (.int i) (CZ r)
def Rf(K:Frag)(ct:Nat→Addr):Sp:=fun vs H Q _=>∃(a:Addr) (ns:List Int),vs=[.ref a]∧Mu K H a (ns.map V.int)∧ns.length≤63∧LC ct H∧∀H',Q (.bl true) H'
theorem Tp{P:Program}{w:World}{K:Frag}{mg:Str→Option Value}{base:Heap}{ct:Nat→Addr}{k:Nat}{f:Addr}{fd:FuncData}{x:Str}{fn:Fn}(F:aY P w K mg base (fX P w) k f fd [x] (spS K ct fn 1))
  (h:∀ns:List Int,ns.length≤63→∃M,fn [.cl (ns.map D.int)] []= .ok (.bl true) M):aY P w K mg base QW k f fd [x] (Rf K ct):=by
 refine(Yi F).imp fun vs H Q E ⟨a,ns,e,hf,hl,ht,q⟩=> ?_
 subst e
 obtain⟨M,e⟩:=h ns hl
 refine⟨fun _=>0,[.cl (ns.map D.int)],[],rfl,⟨fun i j hi=>absurd hi (Nat.not_lt_zero _),fun i o h=>by simp at h,ht⟩,.cons (.cl hf (CZ ns)) .nil,?_⟩
 rw[e]
 intro ι' v H' _ _ dv
 cases dv
 exact q H'
section
variable{e:Sl}{M:Mem}
@[simp] theorem aae{i:Nat}{d:D}(h:e[i]? = some (some d)):aq i e M= .ok d M:=tZ h
@[simp] theorem ad3{d:D}:mC d e M= .ok d M:=id rfl
@[simp] theorem aak{op:nQ}{ma mb:ME}:aL op ma mb e M=(ma e M).bind fun d M1=>(mb e M1).bind fun d' M2=>op d d' M2:=id rfl
@[simp] theorem acy{op:D→Mem→Out D}{ma:ME}:mUn op ma e M=(ma e M).bind op:=id rfl
@[simp] theorem adt{b:Bool}:Lr (.bl b) M= .ok b M:=id rfl
@[simp] theorem Xa{m:ME}:bN m e M=(m e M).bind Lr:=id rfl
@[simp] theorem aal{t u:MT}:HS t u e M=(t e M).bind fun k M1=>if k=true then u e M1 else .ok false M1:=id rfl
@[simp] theorem acA{t u:MT}:Vn t u e M=(t e M).bind fun k M1=>if k=true then .ok true M1 else u e M1:=id rfl
@[simp] theorem aag{t:MT}:Ep t e M=(t e M).bind fun k M1=> .ok (!k) M1:=id rfl
@[simp] theorem Xl{t u:ME}:xO t u e M=(t e M).bind fun d M1=>(Lr d M1).bind fun k M2=>if k=true then u e M2 else .ok (.bl false) M2:=id rfl
@[simp] theorem Xc{t:ME}:Kv t e M=(t e M).bind fun d M1=>(Lr d M1).bind fun k M2=> .ok (.bl (!k)) M2:=id rfl
@[simp] theorem aah:aH e M= .ok [] M:=id rfl
@[simp] theorem Xi{m:ME}{ms:MA}:ao m ms e M=(m e M).bind fun d M1=>(ms e M1).bind fun ds M2=> .ok (d::ds) M2:=id rfl
theorem wk:sizeLine=16777216:=sizeLine_eq
@[simp] theorem aaf{ms:MA}:jK ms e M=(ms e M).bind fun ds M1=>if ds.length≤16777216 then .ok (.tup ds) M1 else .bad:=by unfold jK;rw[wk]
@[simp] theorem aai{ms:MA}:kE ms e M=(ms e M).bind fun ds M1=>if ds.length≤16777216 then .ok (.ref M1.length) (M1++[.lst ds])else .bad:=by unfold kE;rw[wk]
@[simp] theorem aaj{cs:List Nat}{m:ME}{f:Str}:dD cs m f e M=(m e M).bind (lB cs f):=id rfl
theorem dw{cs:List Nat}{f:Str}{n c:Nat}{fs:List (Str×D)}{d:D}(h:M[n]? = some (.ins c fs))(hc:c∈cs)(hf:fs.lookup f=some d):lB cs f (.ref n) M= .ok d M:=by
 unfold lB;simp only[h,hc,if_true,hf]
@[simp] theorem Xk{fn:Fn}{ar:Nat}{dv:List D}{ms:MA}:gh fn ar dv ms e M=(ms e M).bind fun ds M1=>if(ds++dv).length=ar then fn (ds++dv) M1 else .bad:=id rfl
@[simp] theorem Xd{k:Nat}{m:Str}{fn:Fn}{ar:Nat}{dv:List D}{mo:ME}{ms:MA}:jm k m fn ar dv mo ms e M=(mo e M).bind fun d M1=>if qK k m d M1=true then(ms e M1).bind fun ds M2=>if(d::(ds++dv)).length=ar then fn (d::(ds++dv)) M2 else .bad else .bad:=id rfl
theorem xV{k:Nat}{m:Str}{n:Nat}{fs:List (Str×D)}(h:M[n]? = some (.ins k fs))(hf:fs.lookup m=none):qK k m (.ref n) M=true:=by
 unfold qK;simp[h,hf]
@[simp] theorem Xe{kc:Nat}{fn:Fn}{ar:Nat}{dv:List D}{ms:MA}:t6 kc fn ar dv ms e M=(ms e M).bind fun ds M1=>if(D.ref M1.length::(ds++dv)).length=ar then(fn (.ref M1.length::(ds++dv)) (M1++[.ins kc []])).bind fun r M2=>if CP r=true then .ok (.ref M1.length) M2 else .bad else .bad:=id rfl
@[simp] theorem Vo:CP .non=true:=id rfl
@[simp] theorem acB{op:Dk}{ms:MA}:sV op ms e M=(ms e M).bind op:=id rfl
@[simp] theorem acC{T:String}{op:D→List D→Mem→Out D}{mo:ME}{ms:MA}:mBM T op mo ms e M=(mo e M).bind fun d M1=>if Qk T d M1=true then(ms e M1).bind fun ds M2=>op d ds M2 else .bad:=id rfl
@[simp] theorem Xf{m:ME}:Gm m e M=(m e M).bind KH:=id rfl
@[simp] theorem X6{ds:List D}:KH (.tup ds) M= .ok ⟨none,ds⟩ M:=id rfl
@[simp] theorem Xb{ms:MA}:Gk ms e M=(ms e M).bind Ck:=id rfl
theorem Cj{j:Int}(h: -(2 ^ 62)≤j)(h2:j<2 ^ 24):Ck [.int j] M= .ok ⟨none,z7 0 j.toNat⟩ M:=by simp only[Ck];rw[if_pos ⟨h,h2⟩]
@[simp] theorem Xj{js:List Nat}{mi:MI}{tt:MT}{te:ME}:Gp js mi tt te e M=(mi e M).bind fun it M1=>uU it.src tt te (uV js e) it.ds [] M1:=id rfl
@[simp] theorem Ex{C:Int→Int→Bool}{g:Int→Int→D}{i j:Int}:Ih C g (.int i) (.int j) M=if C i j=true then .ok (g i j) M else .bad:=id rfl
@[simp] theorem Wd{i j:Int}:vM (.int i) (.int j) M= .ok (.int (i+j)) M:=id rfl
@[simp] theorem V0{i j:Int}:vK (.int i) (.int j) M= .ok (.int (i - j)) M:=id rfl
@[simp] theorem Z5{i j:Int}:Ni (.int i) (.int j) M= .ok (.bl (decide (i<j))) M:=id rfl
@[simp] theorem V5{i j:Int}:Nk (.int i) (.int j) M= .ok (.bl (decide (i≤j))) M:=id rfl
@[simp] theorem V_{i j:Int}:Hj (.int i) (.int j) M= .ok (.bl (decide (j<i))) M:=id rfl
theorem lu{i j:Int}(h:0<j)(h2:j<1073741824):o6 (.int i) (.int j) M= .ok (.int (i / j)) M:=by
 unfold o6;rw[Ex,if_pos (by unfold U_;exact decide_eq_true ⟨h,h2⟩)]
theorem di{i j:Int}(h:0<j):fW (.int i) (.int j) M= .ok (.int (i % j)) M:=by
 unfold fW;rw[Ex,if_pos (by unfold Zm;exact decide_eq_true h)]
theorem B_{i j:Int}(h:0≤j∧j≤1000000∧i.natAbs<2 ^ 64):zX (.int i) (.int j) M= .ok (.int (i ^ j.toNat)) M:=by
 unfold zX;rw[Ex,if_pos (by unfold U9;exact decide_eq_true h)]
@[simp] theorem V2{i:Int}:Rk (.int i) M= .ok (.int (-i)) M:=id rfl
theorem uP{d d':D}{a b:Dt}(h:jt M 12 d=some a)(h':jt M 12 d'=some b):Il M d d'=some (bF a b):=by unfold Il;rw[h,h']
theorem zZ{d d':D}{b:Bool}(h:Il M d d'=some b):sEq d d' M= .ok (.bl b) M:=by unfold sEq;rw[h]
theorem wY{d d':D}{b:Bool}(h:Il M d d'=some b):sNe d d' M= .ok (.bl (!b)) M:=by unfold sNe;rw[h]
theorem GF{i j:Int}:Il M (.int i) (.int j)=some (decide (i=j)):=by
 rw[uP (a:= .int i) (b:= .int j) rfl rfl];unfold bF;rw[Bool.beq_eq_decide_eq]
theorem GD{i j:Str}:Il M (.str i) (.str j)=some (decide (i=j)):=by
 rw[uP (a:= .str i) (b:= .str j) rfl rfl];unfold bF;rw[Bool.beq_eq_decide_eq]
theorem La{i j:Bool}:Il M (.bl i) (.bl j)=some (decide (i=j)):=by
 rw[uP (a:= .bl i) (b:= .bl j) rfl rfl];unfold bF;rw[Bool.beq_eq_decide_eq]
@[simp] theorem Ny{i j:Int}:sEq (.int i) (.int j) M= .ok (.bl (decide (i=j))) M:=zZ GF
@[simp] theorem Nh{i j:Int}:sNe (.int i) (.int j) M= .ok (.bl (!decide (i=j))) M:=wY GF
@[simp] theorem Z9{i j:Str}:sEq (.str i) (.str j) M= .ok (.bl (decide (i=j))) M:=zZ GD
@[simp] theorem Z4{i j:Str}:sNe (.str i) (.str j) M= .ok (.bl (!decide (i=j))) M:=wY GD
@[simp] theorem abK{i j:Bool}:sEq (.bl i) (.bl j) M= .ok (.bl (decide (i=j))) M:=zZ La
@[simp] theorem abG{i j:Bool}:sNe (.bl i) (.bl j) M= .ok (.bl (!decide (i=j))) M:=wY La
@[simp] theorem Z7{d:D}:Vi d .non M= .ok (.bl (Gv d)) M:=id rfl
@[simp] theorem Rt{d:D}:D_ d .non M= .ok (.bl (!Gv d)) M:=id rfl
@[simp] theorem aaE:Gv .non=true:=id rfl
@[simp] theorem aaF{i:Int}:Gv (.int i)=false:=id rfl
@[simp] theorem aaD{i:Nat}:Gv (.ref i)=false:=id rfl
@[simp] theorem aaB{i:List D}:Gv (.tup i)=false:=id rfl
theorem Fi{α:Type}{xs:List α}{k:Int}(h:0≤k):yH xs k=xs[k.toNat]? := by
 unfold yH TV
 rw[if_pos h]
 by_cases z:k<xs.length
 ·rw[if_pos z];rfl
 ·rw[if_neg z]
  show none=_
  rw[List.getElem?_eq_none (by omega)]
theorem pN{ds:List D}{k:Int}{d:D}(h0:0≤k)(h:ds[k.toNat]? = some d):j8 (.tup ds) (.int k) M= .ok d M:=
 nW (nW (by simp only[Ce,Fi h0,h]))
theorem Rp{ds:List D}{k:Int}{d:D}(h0:0≤k)(h:ds[k.toNat]? = some d):j8 (.cl ds) (.int k) M= .ok d M:=
 nW (nW (by simp only[Ce,wM,Fi h0,h]))
theorem vW{n:Nat}{ds:List D}{k:Int}{d:D}(hM:M[n]? = some (.lst ds))(h0:0≤k)(h:ds[k.toNat]? = some d):j8 (.ref n) (.int k) M= .ok d M:=
 nW (nW (by simp only[Ce,wM,iD hM,Fi h0,h]))
@[simp] theorem V9{d:D}{r:List D}:j8 (.tup (d::r)) (.int 0) M= .ok d M:=pN (by decide) rfl
@[simp] theorem V8{d0 d:D}{r:List D}:j8 (.tup (d0::d::r)) (.int 1) M= .ok d M:=pN (by decide) rfl
@[simp] theorem V7{d0 d1 d:D}{r:List D}:j8 (.tup (d0::d1::d::r)) (.int 2) M= .ok d M:=pN (by decide) rfl
@[simp] theorem V6{d0 d1 d2 d:D}{r:List D}:j8 (.tup (d0::d1::d2::d::r)) (.int 3) M= .ok d M:=pN (by decide) rfl
theorem o5{n:Nat}{ds:List D}(hM:M[n]? = some (.lst ds)):vL [.ref n] M= .ok (.int ds.length) M:=Ke (Ke (by simp only[FW,tK,wM,iD hM]))
@[simp] theorem V4{ds:List D}:vL [.tup ds] M= .ok (.int ds.length) M:=id rfl
@[simp] theorem Z6{ds:List D}:vL [.cl ds] M= .ok (.int ds.length) M:=id rfl
theorem uz{n:Nat}{ds:List D}(hM:M[n]? = some (.lst ds)):u_ [.ref n] M= .ok (.ref M.length) (M++[.lst ds]):=by simp only[u_,tK,wM,iD hM]
theorem Js{n:Nat}{ds:List D}(hM:M[n]? = some (.lst ds)):Qk "list" (.ref n) M=true:=by simp[Qk,iD hM]
@[simp] theorem yQ{i j:Int}:Cd [.int i,.int j] M= .ok (.int (if j > i then j else i)) M:=id rfl
@[simp] theorem Vg{i j:Int}:Ca [.int i,.int j] M= .ok (.int (if j<i then j else i)) M:=id rfl
@[simp] theorem Nu{i:Int}:fZ [.int i,.ty "int"] M= .ok (.bl true) M:=by unfold fZ;rfl
@[simp] theorem Mm{i:Int}:fZ [.int i,.ty "bool"] M= .ok (.bl false) M:=by unfold fZ;rfl
@[simp] theorem Nv{i:Bool}:fZ [.bl i,.ty "bool"] M= .ok (.bl true) M:=by unfold fZ;rfl
@[simp] theorem Nm{i:List D}:fZ [.tup i,.ty "tuple"] M= .ok (.bl true) M:=by unfold fZ;rfl
@[simp] theorem V1:cV e M= .next e M:=id rfl
def nO.seq(o:nO)(t:MS):nO:=match o with
 | .next e M=>t e M
 | .ret d M=> .ret d M
 | .brk e M=> .brk e M
 | .cont e M=> .cont e M
 | .exc c d e M=> .exc c d e M
 | .bad=> .bad
@[simp] theorem Z2{s t:MS}:aQ s t e M=(s e M).seq t:=by
 unfold aQ nO.seq
 cases s e M<;>rfl
@[simp] theorem VP{t:MS}:(nO.next e M).seq t=t e M:=id rfl
@[simp] theorem Z0{t:MS}{d:D}:(nO.ret d M).seq t= .ret d M:=id rfl
@[simp] theorem Wb{m:ME}:wZ m e M=v_ e (m e M) fun _ M1=> .next e M1:=id rfl
@[simp] theorem Z3{m:ME}:fY m e M=v_ e (m e M) fun d M1=> .ret d M1:=id rfl
@[simp] theorem abI{c:MT}{s t:MS}:qD c s t e M=v_ e (c e M) fun k M1=>if k=true then s e M1 else t e M1:=id rfl
def tgO(o:Option Sl)(M:Mem):nO:=match o with
 | some e'=> .next e' M
 | none=> .bad
@[simp] theorem Vz:tgO (some e) M= .next e M:=id rfl
@[simp] theorem Z_{m:ME}{g:Tg}:d_ m g e M=v_ e (m e M) fun d M1=>tgO (g d e) M1:=by
 unfold d_ tgO;rfl
@[simp] theorem aen{i:Nat}{d:D}:gN i d e=some (e.set i (some d)):=id rfl
@[simp] theorem aem{n:Nat}{gs:Mr}{ds:List D}:gT n gs (.tup ds) e=if ds.length=n then gs ds e else none:=id rfl
@[simp] theorem Yg{g:Tg}{gs:Mr}{d:D}{ds:List D}:kI g gs (d::ds) e=(g d e).bind fun e'=>gs ds e':=id rfl
@[simp] theorem aaJ:yZ [] e=some e:=id rfl
def Kp(o:Option Mem)(e:Sl):nO:=match o with
 | some M=> .next e M
 | none=> .bad
@[simp] theorem Vm:Kp (some M) e= .next e M:=id rfl
@[simp] theorem Wa{cs:List Nat}{mo mv:ME}{f:Str}:eZ cs mo mv f e M=v_ e (mv e M) fun d M1=>v_ e (mo e M1) fun o M2=>Kp (dU cs f d o M2) e:=by
 unfold eZ Kp;rfl
theorem b8{cs:List Nat}{f:Str}{d:D}{n c:Nat}{fs:List (Str×D)}(h:M[n]? = some (.ins c fs))(hc:c∈cs)(hl:fs.length<1000):dU cs f d (.ref n) M=some (M.set n (.ins c (putD f d fs))):=by
 unfold dU;simp only[h];rw[if_pos ⟨hc,hl⟩]
@[simp] theorem Z8{mi:MI}{g:Tg}{b:MS}:JR mi g b e M=v_ e (mi e M) fun it M1=>lC it.src g b it.ds e M1:=id rfl
@[simp] theorem Ri{n:Nat}{d:D}{ds:List D}:slots (n+1) (d::ds)=some d::slots n ds:=by
 unfold slots
 simp
@[simp] theorem Rh{n:Nat}:slots (n+1) []=none::slots n []:=by
 unfold slots
 simp[List.replicate_succ]
@[simp] theorem Rg:slots 0 []=[]:=id rfl
def Ed(o:nO):Out D:=match o with
 | .ret d M=> .ok d M
 | .next _ M=> .ok .non M
 | .exc c d _ M=> .exc c d M
 | _=> .bad
@[simp] theorem tO{n:Nat}{b:MS}{ds:List D}:cG n b ds M=Ed (b (slots n ds) M):=by
 unfold cG Ed
 cases b (slots n ds) M<;>rfl
@[simp] theorem Wf{d:D}:Ed (.ret d M)= .ok d M:=id rfl
@[simp] theorem Vj:Ed (.next e M)= .ok .non M:=id rfl
end
def nO.to(o:nO)(P:Sl→Mem→Prop)(R:D→Mem→Prop):Prop:=match o with
 | .next e M=>P e M
 | .cont e M=>P e M
 | .ret d M=>R d M
 | _=>False
theorem FZ{lo:Int}{n i:Nat}{d:D}(h:(z7 lo n)[i]? = some d):i<n∧d= .int (lo+i):=by
 unfold z7 at h
 rw[List.getElem?_map]at h
 obtain⟨k,hk,rfl⟩:=Option.map_eq_some_iff.mp h
 obtain⟨hi,e⟩:=List.getElem?_eq_some_iff.mp hk
 simp at hi e
 exact⟨hi,by rw[←e]⟩
theorem Nz{lo:Int}{n:Nat}:(z7 lo n).length=n:=by simp[z7]
section
variable{X:Cx}{ct:Nat→Addr}{W:aU}
def vH:List D→Option Bool
 | []=>some true
 | .bl b::r=>(vH r).map fun k=>b&&k
 | _=>none
theorem Di:∀{ds:List D} {k:Bool},vH ds=some k→∃bs:List Bool,ds=bs.map D.bl∧k=bs.all id
 | [],k,h=>by cases h;exact⟨[],rfl,rfl⟩
 | d::r,k,h=>by
  cases d with
  | bl b=>
   simp only[vH]at h
   obtain⟨k',h1,rfl⟩:=Option.map_eq_some_iff.mp h
   obtain⟨bs,rfl,rfl⟩:=Di h1
   exact⟨b::bs,rfl,rfl⟩
  | _=>simp only[vH]at h;cases h
theorem GP{K:Frag}{ι:Nat→Addr}{n:Nat}{H:Hp}:∀{bs:List Bool} {vs:List V},j9 K ct ι n H (bs.map D.bl) vs→vs=bs.map V.bl
 | [],_,.nil=>rfl
 | b::bs,_,.cons h hs=>by cases h;rw[GP hs];rfl
theorem Ls(bs:List Bool):(List.range bs.length).all (fun j=>bs.getD j true)=bs.all id:=by
 rw[Bool.eq_iff_iff,List.all_eq_true,List.all_eq_true]
 constructor
 ·intro h b hb
  obtain⟨j,hj,e⟩:=List.mem_iff_getElem.mp hb
  have:=h j (List.mem_range.mpr hj)
  rw[List.getD_eq_getElem?_getD,List.getElem?_eq_getElem hj]at this
  rw[←e]
  exact this
 ·intro h j hj
  have hj':=List.mem_range.mp hj
  rw[List.getD_eq_getElem?_getD,List.getElem?_eq_getElem hj']
  exact h _ (List.getElem_mem hj')
theorem IV(hc:X.calm=true):mD X (.builtin "all") (fun xs H Q=>∃(a:Addr) (bs:List Bool),xs=[.ref a]∧ql X.K H a (bs.map V.bl)∧Q (.bl (bs.all id)) H):=by
 intro pins s σ H xs us Q I r h
 obtain⟨a,bs,rfl,hq,q⟩:=h
 obtain⟨u,rfl,ru⟩:=vals1 r
 cases(show u=Value.ref a from ru)
 obtain⟨its,rv,p,hz⟩:=I.list hq
 have hlt:a<s.heap.objs.size:=by obtain⟨o,n,e,_⟩:=p;exact Heap.lt_size e
 have hl:its.length=bs.length:=by rw[←rv.length,List.length_map]
 refine call_all_walk (wpAny_pyIter_list p.isList ⟨s.heap.objs.size,[s.heap.objs.size,a],[s.heap.objs.size],its.toArray.size,fun i v=>its.toArray[i]? = some v,_,fun j=>bs.getD j true,rfl,
  Walks.list (A:=X.A.in1) (I.ok.hd hc) s.heap.objs.size a (Nat.ne_of_lt hlt) its.toArray,⟨⟨_,Heap.get?_push_size _ rfl,rfl,rfl⟩,p.isList.push _⟩,?_,fun h' tk hk=> ?_⟩)
 ·intro i v s' Q' E' hP hQ
  have hP':its[i]? = some v:=by simpa using hP
  have hi:i<its.length:=(List.getElem?_eq_some_iff.mp hP').1
  have hb:bs[i]? = some bs[i]:=List.getElem?_eq_getElem (by omega)
  obtain⟨u,hu,ru⟩:=rv.get (i:=i) (x:=V.bl bs[i]) (by rw[List.getElem?_map,hb];rfl)
  rw[hP']at hu
  cases hu
  cases ru
  refine wpAny_truthy_bool ?_
  have e:bs.getD i true=bs[i]:=by rw[List.getD_eq_getElem?_getD,hb];rfl
  rw[←e]
  exact hQ
 ·have e:(List.range its.toArray.size).all (fun j=>bs.getD j true)=bs.all id:=by
   rw[List.size_toArray,hl]
   exact Ls bs
  rw[e]
  exact⟨.bl _,H,I.kept fun b o eb=>hk b o (by simp;exact Nat.ne_of_lt (Heap.lt_size eb)) (Heap.get?_push_of_some _ eb),rfl,q⟩
def Ho:Dk:=fun ds M=>match ds with
 | [d]=>match wM M d with
  | some es=>match vH es with
   | some k=> .ok (.bl k) M
   | none=> .bad
  | none=> .bad
 | _=> .bad
theorem Ul(hc:X.calm=true):nR X ct (.builtin "all") Ho:=by
 refine⟨_,IV hc,fun ι M H ds vs Q R h p=> ?_⟩
 unfold Ho at p
 split at p
 ·rename_i d
  obtain⟨v,rfl,q⟩:=Fd h
  cases z:wM M d with
  | none=>rw[z]at p;exact p.elim
  | some es=>
   rw[z]at p
   dsimp only at p
   obtain⟨a,xs,rfl,hs,hd⟩:=R.seq z q
   cases z2:vH es with
   | none=>rw[z2]at p;exact p.elim
   | some k=>
    rw[z2]at p
    obtain⟨bs,rfl,rfl⟩:=Di z2
    rw[GP hd]at hs
    exact⟨a,bs,rfl,hs,p ι _ H .refl R (.bl _)⟩
 ·exact p.elim
theorem I_(bs:List Bool):vH (bs.map D.bl)=some (bs.all id):=by
 induction bs with
 | nil=>rfl
 | cons b r ih=>simp[vH,ih]
theorem JT{M:Mem}{n:Nat}{bs:List Bool}(h:M[n]? = some (.lst (bs.map D.bl))):Ho [.ref n] M= .ok (.bl (bs.all id)) M:=by
 simp only[Ho,wM,iD h,I_]
end
section
variable{X:Cx}{ct:Nat→Addr}{W:aU}
def Lz(K:Frag)(ct:Nat→Addr)(cv:Value):List (Nat×Bool)→Prop
 | []=>True
 | (c,b)::r=>exmOne K (.ref (ct c)) cv=some b∧Lz K ct cv r
theorem Lz.get{K:Frag}{cv:Value}:∀{cl:List (Nat×Bool)} {c:Nat} {b:Bool},Lz K ct cv cl→cl.lookup c=some b→exmOne K (.ref (ct c)) cv=some b
 | [],_,_,_,h=>by simp at h
 | (k,b')::r,c,b,⟨h1,h2⟩,h=>by
  rw[List.lookup_cons]at h
  cases z:c==k with
  | true=>rw[z]at h;cases h;cases(beq_iff_eq.mp z);exact h1
  | false=>rw[z]at h;exact h2.get h
variable{c:Str}{cp hpos pos:Pos}{b₀:Stmt}{suite body:List Stmt}{b s:MS}{cl:List (Nat×Bool)}{cv:Value}{v:V}
def Va(K:Frag)(ct:Nat→Addr):List Nat→Prop
 | []=>True
 | c::r=>(Qe K (ct c) "at" ∧ XIs K (ct c))∧Va K ct r
theorem Va.get{K:Frag}:∀{cs:List Nat} {c:Nat},Va K ct cs→c∈cs→Qe K (ct c) "at" ∧ XIs K (ct c)
 | [],_,_,h=>by simp at h
 | c::cs,d,⟨a,r⟩,h=>by
  rcases List.mem_cons.mp h with e | e
  ·subst e;exact a
  ·exact r.get e
def LR(K:Frag)(ct:Nat→Addr)(cv:Value):List (Nat×Bool)→Prop
 | []=>True
 | (c,b)::r=>(kitOne K (.ref (ct c)) cv=some b∧Qe K (ct c) "at" ∧ XIs K (ct c))∧LR K ct cv r
theorem LR.get{K:Frag}{cv:Value}:∀{cl:List (Nat×Bool)} {c:Nat} {b:Bool},LR K ct cv cl→cl.lookup c=some b→kitOne K (.ref (ct c)) cv=some b∧Qe K (ct c) "at" ∧ XIs K (ct c)
 | [],_,_,_,h=>by simp at h
 | (k,b')::r,c,b,⟨h1,h2⟩,h=>by
  rw[List.lookup_cons]at h
  cases z:c==k with
  | true=>rw[z]at h;cases h;cases(beq_iff_eq.mp z);exact h1
  | false=>rw[z]at h;exact h2.get h
end
section
variable{X:Cx}{ct:Nat→Addr}{W:aU}{pos:Pos}
def Gn:ME:=fun _ M=> .ok (.ref M.length) (M++[.dk []])
theorem FT:SE X ct W (.Dict [] [] pos) Gn:=eO J8 fun σ H Q ⟨ι,e,M,w,p⟩ pp hp=>by
 have el:(M++[MO.dk []]).length=M.length+1:=by simp
 have x:Ext X.K ι M.length H (jq ι M.length pp) (M.length+1) (upd H pp (.dK [])):=Ext.new hp
 have e0:(jq ι M.length pp) M.length=pp:=by unfold jq;rw[if_pos rfl]
 have dv:DV X.K ct (jq ι M.length pp) (M++[MO.dk []]).length (upd H pp (.dK [])) (.ref M.length) (.ref pp):=by
  have:=DV.ref (K:=X.K) (ct:=ct) (ι:=jq ι M.length pp) (n:=(M++[MO.dk []]).length) (H:=upd H pp (.dK [])) (i:=M.length) (by rw[el];omega)
  rw[e0]at this
  exact this
 exact p (jq ι M.length pp) (.ref pp) _ (by rw[el];exact x) (w.rl.new hp ⟨[],aX,.nil⟩) dv
def CQ(d:D)(M:Mem):Bool:=match d with
 | .ref n=>match M[n]? with
  | some (.dk _)=>true
  | some (.dt _)=>true
  | _=>false
 | _=>false
theorem KY{K:Frag}{ι:Nat→Addr}{M:Mem}{H:Hp}{d:D}{v:V}(R:Rl K ct ι M H)(h:CQ d M=true)(q:DV K ct ι M.length H d v):∃n,d= .ref n∧n<M.length∧v= .ref (ι n)∧IsD H (ι n):=by
 cases d with
 | ref n=>
  obtain⟨hn,rfl⟩:=nq q
  refine⟨n,rfl,hn,rfl,?_⟩
  unfold CQ at h
  dsimp only at h
  split at h
  ·rename_i kvs e
   obtain⟨vs,hH,_⟩:=R.obj n _ e
   exact .inl ⟨vs,.inl hH⟩
  ·rename_i kvs e
   obtain⟨vs,hH,_⟩:=R.obj n _ e
   exact .inr ⟨vs,.inl hH⟩
  ·cases h
 | _=>exact absurd h Bool.false_ne_true
def O8(d k x:D)(M:Mem):Out D:=match d with
 | .ref n=>match Ip M n k with
  | some (some v,M')=> .ok v M'
  | some (none,M')=> .ok x M'
  | none=> .bad
 | _=> .bad
def Xg(mo mk mx:ME):ME:=fun e M=>(mo e M).bind fun d M1=>if CQ d M1=true then(mk e M1).bind fun k M2=>(mx e M2).bind fun x M3=>O8 d k x M3 else .bad
theorem O7{ι:Nat→Addr}{M:Mem}{H:Hp}{n:Nat}{k x:D}{vk vx:V}{Q:VK}{w:XW}(R:Rl X.K ct ι M H)(hn:n<M.length)(qk:DV X.K ct ι M.length H k vk)(qx:DV X.K ct ι M.length H x vx)(p:iz (e_ X.K ct) X.K ct w ι M.length H (O8 (.ref n) k x M) Q):
  ∃o H',Jd H (ι n) vk o H'∧Q (o.getD vx) H':=by
 simp only[O8]at p
 split at p
 ·rename_i v M' e
  obtain⟨ov,H',g,x2,R',h1,_⟩:=wD R e hn qk
  obtain⟨u,rfl,dv,_,_⟩:=h1 v rfl
  exact⟨_,H',g,p ι u H' x2 R' dv⟩
 ·rename_i M' e
  obtain⟨ov,H',g,x2,R',_,h2⟩:=wD R e hn qk
  have:=h2 rfl
  subst this
  exact⟨_,H',g,p ι vx H' x2 R' (qx.mono x2)⟩
 ·exact p.elim
variable{o e f i value:Expr}{mo mk mx mv:ME}{apos cpos pos':Pos}
theorem Z1(hu:X.A.units+64<cLine)(ho:SE X ct W o mo)(he:SE X ct W e mk)(hf:SE X ct W f mx)
  (base:attributeBase o "get" X.env (eval o X.env)=eval o X.env:=by rfl)
  (few:((backTo cpos (starEach [e,f] X.env)).all (fun x=> !x.1)&&(backToKw cpos (keywordEach [] X.env)).all (fun x=>x.1.isSome)
   && decide (([e,f]:List Expr).length+([]:List Keyword).length+(if([]:List Keyword).isEmpty then 0 else 1)<30))=true:=by rfl)
  (line:(apos.endLine==cpos.line)=true:=by rfl) (trees:backTo cpos (starEach [e,f] X.env)=[(false,eval e X.env),(false,eval f X.env)]:=by rfl):
  SE X ct W (.Call (.Attribute o "get" apos) [e,f] [] cpos) (Xg mo mk mx):=eO (J7 (by omega) ho he hf ⟨base,few,line,trees⟩) fun σ H Q q=>by
 obtain⟨ι,e,M,w,p⟩:=cO (gH:=e_ X.K ct) (f:=fun d e M1=>if CQ d M1=true then(mk e M1).bind fun k M2=>(mx e M2).bind fun x M3=>O8 d k x M3 else .bad) q
 refine⟨ι,e,M,w,p.mono fun v H1 ⟨fQ,e1,M1,d,w1,q1,p1⟩=> ?_⟩
 cases z:CQ d M1 with
 | false=>simp only[z,Bool.false_eq_true,if_false]at p1;exact p1.elim
 | true=>
  simp only[z,if_true]at p1
  obtain⟨n,rfl,hn,rfl,hD⟩:=KY w1.rl z q1
  refine⟨_,rfl,hD,fQ,e1,M1,w1,?_⟩
  cases z2:mk e1 M1 with
  | bad=>simp only[z2,Out.iu]at p1;exact p1
  | exc xc xd xM=>simp only[z2,Out.j5]at p1;exact p1
  | ok k M2=>
   simp only[z2,Out.iI]at p1
   intro jd vk H2 x2 r2 q2
   refine⟨jd,e1,M2,w1.ext x2 r2,?_⟩
   have p2:=p1.ext x2
   cases z3:mx e1 M2 with
   | bad=>simp only[z3,Out.iu]at p2;exact p2
   | exc xc xd xM=>simp only[z3,Out.j5]at p2;exact p2
   | ok x M3=>
    simp only[z3,Out.iI]at p2
    intro Fq vx H3 x3 r3 q3
    have:=O7 r3 (Nat.lt_of_lt_of_le (Nat.lt_of_lt_of_le hn x2.le) x3.le) (q2.mono x3) q3 (p2.ext x3)
    rw[←x2.same n hn,←x3.same n (Nat.lt_of_lt_of_le hn x2.le)]
    exact this
def Ir(M:Mem)(o k d:D):Option Mem:=match o with
 | .ref n=>match M[n]? with
  | some (.dk kvs)=>match toKey k with
   | some kk=>if kvs.length<sizeLine then some (M.set n (.dk (NT kvs kk d)))else none
   | none=>match k with
    | .tup ds=>match toKeys ds with
     | some ks=>if kvs.isEmpty=true then some (M.set n (.dt [(ks,d)]))else none
     | none=>none
    | _=>none
  | some (.dt kvs)=>match k with
   | .tup ds=>match toKeys ds with
    | some ks=>if kvs.length<sizeLine then some (M.set n (.dt (NT kvs ks d)))else none
    | none=>none
   | _=>none
  | _=>none
 | _=>none
theorem Pn{ι:Nat→Addr}{M M':Mem}{H:Hp}{n:Nat}{k d:D}{vk vd:V}(R:Rl X.K ct ι M H)(h:Ir M (.ref n) k d=some M')(hn:n<M.length)(qk:DV X.K ct ι M.length H k vk)(qd:DV X.K ct ι M.length H d vd):
  ∃H',ZS H (ι n) vk vd H'∧Ext X.K ι M.length H ι M'.length H'∧Rl X.K ct ι M' H':=by
 simp only[Ir]at h
 split at h
 ·rename_i kvs e
  obtain⟨vs,hH,pv⟩:=R.obj n _ e
  split at h
  ·rename_i kk ek
   split at h
   ·rename_i hz
    cases h
    have:=wI ek qk
    subst this
    have x2:Ext X.K ι M.length H ι M.length (upd H (ι n) (.dK (putK vs kk vd))):=Ext.chg hH (fun _ z=>nomatch z) (fun _ _ z=>nomatch z)
    exact⟨_,.inl (Bu.k hH (by rw[pv.length];exact hz)),by rw[List.length_set];exact x2,R.chg hn hH (fun _ z=>nomatch z) (fun _ _ z=>nomatch z) ⟨_,aX,(pv.put qd kk).mono x2⟩⟩
   ·cases h
  ·split at h
   ·rename_i ds
    split at h
    ·rename_i ks Ug
     split at h
     ·rename_i hem
      cases h
      have ek:kvs=[]:=List.isEmpty_iff.mp hem
      subst ek
      cases pv
      obtain⟨b,xs,rfl,hb,hd⟩:=lq qk
      have ex:=oZ Ug hd
      subst ex
      have x2:Ext X.K ι M.length H ι M.length (upd H (ι n) (.dT [(ks,vd)])):=Ext.chg hH (fun _ z=>nomatch z) (fun _ _ z=>nomatch z)
      exact⟨_,.inr ⟨ks,b,hH,rfl,hb,rfl⟩,by rw[List.length_set];exact x2,R.chg hn hH (fun _ z=>nomatch z) (fun _ _ z=>nomatch z) ⟨_,aX,.cons (qd.mono x2) .nil⟩⟩
     ·cases h
    ·cases h
   ·cases h
 ·rename_i kvs e
  obtain⟨vs,hH,pv⟩:=R.obj n _ e
  split at h
  ·rename_i ds
   split at h
   ·rename_i ks Ug
    split at h
    ·rename_i hz
     cases h
     obtain⟨b,xs,rfl,hb,hd⟩:=lq qk
     have ex:=oZ Ug hd
     subst ex
     have x2:Ext X.K ι M.length H ι M.length (upd H (ι n) (.dT (putK vs ks vd))):=Ext.chg hH (fun _ z=>nomatch z) (fun _ _ z=>nomatch z)
     exact⟨_,.inl (Bu.t hH hb (by rw[pv.length];exact hz)),by rw[List.length_set];exact x2,R.chg hn hH (fun _ z=>nomatch z) (fun _ _ z=>nomatch z) ⟨_,aX,(pv.put qd ks).mono x2⟩⟩
    ·cases h
   ·cases h
  ·cases h
 ·cases h
def Ea(mo mk mv:ME):MS:=fun e M=>v_ e (mv e M) fun d M1=>v_ e (mo e M1) fun o M2=>v_ e (mk e M2) fun k M3=>Kp (Ir M3 o k d) e
theorem FP(hu:X.A.units+64<cLine)(ho:SE X ct W o mo)(hi:SE X ct W i mk)(hv:SE X ct W value mv)(hs:swapsWith value (some (.Subscript o i pos')) pos.line X.env=pure false:=by rfl):
  SS X ct W (.Assign [.Subscript o i pos'] value pos) (Ea mo mk mv):=PS.imp (Ob (by omega) ho hi hv hs) fun T σ H q=>by
 obtain⟨ι,e,M,w,p⟩:=pL (rel:=e_ X.K ct) (f:=fun d e M1=>v_ e (mo e M1) fun o M2=>v_ e (mk e M2) fun k M3=>Kp (Ir M3 o k d) e) q
 refine⟨ι,e,M,w,p.mono fun vd H1 ⟨fQ,e1,M1,d,w1,q1,p1⟩=>⟨fQ,e1,M1,w1,?_⟩⟩
 cases z:mo e1 M1 with
 | bad=>simp only[z,vZ]at p1;exact p1
 | exc xc xd xM=>simp only[z,vY]at p1;exact fun jd dx v H2 x r q1 q2=>p1 jd σ dx v H2 x (w1.ext x r) q1 q2
 | ok o' M2=>
  simp only[z,Ai]at p1
  intro jd vo H2 x2 r2 q2
  have p2:=p1.ext x2
  have w2:=w1.ext x2 r2
  refine⟨jd,e1,M2,w2,?_⟩
  cases z2:mk e1 M2 with
  | bad=>simp only[z2,vZ]at p2;exact p2
  | exc xc xd xM=>simp only[z2,vY]at p2;exact fun Fq dx v H3 x r q1 q2=>p2 Fq σ dx v H3 x (w2.ext x r) q1 q2
  | ok k M3=>
   simp only[z2,Ai]at p2
   intro Fq vk H3 x3 r3 q3
   have p3:=p2.ext x3
   have w3:=w2.ext x3 r3
   cases z3:Ir M3 o' k d with
   | none=>rw[z3]at p3;exact p3.elim
   | some M4=>
    rw[z3]at p3
    cases o' with
    | ref n=>
     obtain⟨hn,rfl⟩:=nq q2
     have hn3:n<M3.length:=Nat.lt_of_lt_of_le hn x3.le
     obtain⟨H4,g,x4,r4⟩:=Pn r3 z3 hn3 q3 ((q1.mono x2).mono x3)
     refine⟨_,H4,rfl,?_,p3 Fq σ H4 x4 (w3.ext x4 r4)⟩
     rw[←x3.same n hn]
     exact g
    | _=>simp only[Ir]at z3;cases z3
end
section
variable{e:Sl}{M:Mem}
@[simp] theorem Xh:Gn e M= .ok (.ref M.length) (M++[.dk []]):=id rfl
end
def iQ:D→Option (List Int×Nat)
 | .int i=>some ([i],0)
 | .str s=>some (Vy s,1)
 | .tup ds=>(jQ ds).map fun is=>(is,is.length+2)
 | _=>none
def mR:List D→Option (List Int×List Nat)
 | []=>some ([],[])
 | d::ds=>match iQ d,mR ds with
  | some p,some q=>some (p.1++q.1,p.2::q.2)
  | _,_=>none
def Ec:D→Option (List Int×List Nat)
 | .tup ds=>mR ds
 | _=>none
def Ie(d:D):List Int:=match iQ d with
 | some p=>p.1
 | none=>match Ec d with
  | some p=>p.1
  | none=>[]
theorem BJ:∀{a b:List Nat} {r r':List Int},a.map Int.ofNat++[-1]++r=b.map Int.ofNat++[-1]++r'→a=b∧r=r'
 | [],[],r,r',h=>by simpa using h
 | [],y::b,r,r',h=>by
  simp at h
 | x::a,[],r,r',h=>by
  simp at h
 | x::a,y::b,r,r',h=>by
  simp only[List.map_cons,List.cons_append]at h
  injection h with h1 h2
  obtain⟨e1,e2⟩:=BJ h2
  have:x=y:=Int.ofNat.inj h1
  exact⟨by rw[this,e1],e2⟩
theorem nU:∀{ds:List D} {is:List Int},jQ ds=some is→ds=is.map D.int
 | [],is,h=>by cases h;rfl
 | d::r,is,h=>by
  cases d with
  | int i=>
   simp only[jQ]at h
   obtain⟨js,h1,rfl⟩:=Option.map_eq_some_iff.mp h
   rw[nU h1];rfl
  | _=>simp[jQ]at h
theorem Cq{d d':D}{c c' r r':List Int}{k:Nat}(h:iQ d=some (c,k))(h':iQ d'=some (c',k))(e:c++r=c'++r'):d=d'∧r=r':=by
 cases d with
 | int i=>
  cases d' with
  | int j=>simp only[iQ]at h h';cases h;cases h';simp at e;exact⟨by rw[e.1],e.2⟩
  | str s=>simp only[iQ]at h h';cases h;cases h'
  | tup ds=>simp only[iQ]at h h';cases h;obtain⟨is,_,q⟩:=Option.map_eq_some_iff.mp h';simp at q
  | _=>simp[iQ]at h'
 | str s=>
  cases d' with
  | int j=>simp only[iQ]at h h';cases h;cases h'
  | str s'=>
   simp only[iQ]at h h'
   cases h;cases h'
   obtain⟨e1,e2⟩:=BJ e
   refine⟨?_,e2⟩
   cases s;cases s'
   simp at e1
   rw[e1]
  | tup ds=>simp only[iQ]at h h';cases h;obtain⟨is,_,q⟩:=Option.map_eq_some_iff.mp h';simp at q
  | _=>simp[iQ]at h'
 | tup ds=>
  simp only[iQ]at h
  obtain⟨is,hi,q⟩:=Option.map_eq_some_iff.mp h
  simp at q
  obtain⟨rfl,rfl⟩:=q
  cases d' with
  | int j=>simp[iQ]at h'
  | str s=>simp[iQ]at h'
  | tup ds'=>
   simp only[iQ]at h'
   obtain⟨js,hj,q⟩:=Option.map_eq_some_iff.mp h'
   simp at q
   obtain⟨rfl,ek⟩:=q
   obtain⟨e1,e2⟩:=List.append_inj e ek.symm
   rw[nU hi,nU hj,e1]
   exact⟨rfl,e2⟩
  | _=>simp[iQ]at h'
 | _=>simp[iQ]at h
theorem yU:∀{ds ds':List D} {c:List Int} {ks:List Nat},mR ds=some (c,ks)→mR ds'=some (c,ks)→ds=ds'
 | [],[],_,_,_,_=>rfl
 | [],d'::ds',c,ks,h,h'=>by
  simp only[mR]at h h'
  cases h
  split at h'<;>simp at h'
 | d::ds,[],c,ks,h,h'=>by
  simp only[mR]at h h'
  cases h'
  split at h<;>simp at h
 | d::ds,d'::ds',c,ks,h,h'=>by
  simp only[mR]at h h'
  split at h
  ·rename_i p q hp hq
   split at h'
   ·rename_i p' q' hp' hq'
    simp at h h'
    obtain⟨h1,h2⟩:=h
    obtain⟨h1',h2'⟩:=h'
    subst h1 h2
    simp at h2'
    obtain⟨e1,e2⟩:=Cq (d:=d) (d':=d') (k:=p.2) (by rw[hp]) (by rw[hp',←h2'.1]) h1'.symm
    have:=yU (ds:=ds) (ds':=ds') (c:=q.1) (ks:=q.2) (by rw[hq]) (by rw[hq',e2,←h2'.2])
    rw[e1,this]
   ·cases h'
  ·cases h
inductive Srt (ds:List D):Prop
 | flat (k:Nat) (hk:k<2) (h:∀d∈ds,∃c,iQ d=some (c,k)):Srt ds
 | rows (k:Nat) (ks:List Nat) (h:∀d∈ds,∃c,Ec d=some (c,k::ks)):Srt ds
theorem CJ{d:D}{c:List Int}{k:Nat}(h:iQ d=some (c,k)):Ie d=c:=by unfold Ie;rw[h]
theorem xu:∀{is:List Int},mR (is.map D.int)=some (is,is.map fun _=>0)
 | []=>rfl
 | i::is=>by
  have:=xu (is:=is)
  simp only[List.map_cons,mR,iQ,this]
  rfl
theorem Gu{d:D}{c:List Int}{ks:List Nat}(h:Ec d=some (c,ks)):Ie d=c:=by
 cases d with
 | tup ds=>
  unfold Ie
  cases z:iQ (.tup ds)with
  | none=>dsimp only;rw[h]
  | some p=>
   dsimp only
   simp only[iQ]at z
   obtain⟨is,hi,q⟩:=Option.map_eq_some_iff.mp z
   rw[←q]
   simp only[Ec]at h
   rw[nU hi,xu]at h
   simp at h
   exact h.1
 | _=>simp[Ec]at h
theorem Srt.inj{ds:List D}(h:Srt ds):∀a∈ds,∀b∈ds,Ie a=Ie b→a=b:=by
 intro a ha b hb e
 cases h with
 | flat k hk h=>
  obtain⟨c,h1⟩:=h a ha
  obtain⟨c',h2⟩:=h b hb
  rw[CJ h1,CJ h2]at e
  exact(Cq (r:=[]) (r':=[]) h1 h2 (by rw[e])).1
 | rows k ks h=>
  obtain⟨c,h1⟩:=h a ha
  obtain⟨c',h2⟩:=h b hb
  rw[Gu h1,Gu h2]at e
  subst e
  cases a with
  | tup xs=>cases b with
   | tup ys=>rw[yU (show mR xs=some (c,k::ks)from h1) (show mR ys=some (c,k::ks)from h2)]
   | _=>simp[Ec]at h2
  | _=>simp[Ec]at h1
open Classical in
section
variable{X:Cx}{ct:Nat→Addr}{W:aU}{pos:Pos}{K:Frag}{ι:Nat→Addr}{n:Nat}{H:Hp}
open Classical in
variable{o:Expr}{mo:ME}{apos p1 pos1:Pos}
end
end S
namespace L2
open PySem PySem.Spec PyProof.Rows
section
variable{X:Cx}
theorem HF:rB X (compareOp .LtE) (fun x y H Q=>∃i j,x= .str i∧y= .str j∧Q (.bl (!(decide (j.cps.toList<i.cps.toList)))) H):=by
 intro pins s σ H x y v u Q I rx ry h
 obtain⟨i,j,rfl,rfl,q⟩:=h
 obtain⟨t,rfl⟩:=rx
 obtain⟨t',rfl⟩:=ry
 exact PySem.P.le_str (Ba I q rfl)
end
end L2
namespace yI
open PySem PyProof.Rows PySem.SeqAt
open PySem.AutoSeq1 (wpAny_loadPart')
open PySem.MeetsSeq PySem.MeetsSeq2 PySem.MeetsSeq3
def uI:List Int→List Int→Bool
 | [],_=>true
 | _::_,[]=>false
 | x::xs,y::ys=>if x=y then uI xs ys else decide (x≤y)
theorem Kz:∀{vs ws:List Value} {ns ms:List Int},IntsAre vs ns→IntsAre ws ms→vs.zip ws=[]→uI ns ms=decide (ns.length≤ms.length)
 | _,_,_,_,.nil,_,_=>by simp[uI]
 | _,_,_,_,.cons _ _ _,.nil,_=>by simp[uI]
 | _,_,_,_,.cons _ _ _,.cons _ _ _,h=>by rw[List.zip_cons_cons]at h;cases h
theorem Xm(l b:Addr)(its its2:Array Value)(n n2:Nat)(dd dd2:Option Addr)(sl sl2:Array (Option Value))(ns ms:List Int)(hi:IntsAre its.toList ns)(hj:IntsAre its2.toList ms):
  Meets (Builtin.«tuple.__le__» ⟨[.ref l,.ref b],[]⟩)
   (fun _ R s=>s.heap.get? l=some {cls:= .type "tuple",dict:=dd,data:= .seq its n,slots:=sl}∧s.heap.get? b=some {cls:= .type "tuple",dict:=dd2,data:= .seq its2 n2,slots:=sl2}∧
    R (.ok (.ret (.bool (uI ns ms)))) s):=
 .of_wp fun prog w A R s h=>by
  obtain⟨hp,g,d,tk,os⟩:=s
  obtain⟨hl,hb,h⟩:=h
  have f2:=AutoSeq1.sub_tuple_tuple
  have z1:its.size=ns.length:=by rw[←hi.length];simp
  have z2:its2.size=ms.length:=by rw[←hj.length];simp
  wp_walk using wpAny_loadPart' hl,wpAny_loadPart' hb,wpAny_forIn_list _ (fun rest b s'=>b.1=none∧s'=⟨hp,g,d,tk,os⟩∧∃(vs ws:List Value) (ns' ms':List Int),rest=vs.zip ws∧
   IntsAre vs ns'∧IntsAre ws ms'∧ns'.length+its2.size=ms'.length+its.size∧R (.ok (.ret (.bool (uI ns' ms')))) ⟨hp,g,d,tk,os⟩) _
  case turn=>
   rintro⟨y,x⟩ rest b s' ⟨hb',rfl,vs,ws,ns',ms',hz,TY,hwi,hlen,hR⟩
   cases TY with
   | nil=>rw[List.zip_nil_left]at hz;cases hz
   | cons a t hv2=>
    cases hwi with
    | nil=>rw[List.zip_nil_right]at hz;cases hz
    | cons c u hw2=>
     rw[List.zip_cons_cons]at hz
     obtain⟨hyx,hrest⟩:=List.cons.inj hz
     cases hyx
     simp only[uI]at hR
     simp only[List.length_cons]at hlen
     by_cases hac:a=c
     ·rw[if_pos hac]at hR
      refine wpAny_bind ((SeqAt.EqAt.int_int a t c u:SeqAt.EqAt A.in1 ⟨hp,g,d,tk,os⟩ _ _ _) prog w _ _ ?_)
      rw[beq_iff_eq.mpr hac]
      wp_walk
      exact⟨rfl,rfl,_,_,_,_,hrest,hv2,hw2,by omega,hR⟩
     ·rw[if_neg hac]at hR
      refine wpAny_bind ((SeqAt.EqAt.int_int a t c u:SeqAt.EqAt A.in1 ⟨hp,g,d,tk,os⟩ _ _ _) prog w _ _ ?_)
      rw[beq_eq_false_iff_ne.mpr hac]
      have hri:∀(E:Value→Shared→Prop) (Q:Value→Shared→Prop),Q (.bool (decide (a≤c))) ⟨hp,g,d,tk,os⟩→wpAny (model prog w) A.in1 (richCompare .LtE (.int a t) (.int c u)) Q E ⟨hp,g,d,tk,os⟩:=fun E Q hq=>
       (PyProof.Rows.le_int hq:wpAny (model prog w) A.in1 (compareOp .LtE (.int a t) (.int c u)) Q E ⟨hp,g,d,tk,os⟩)
      wp_walk using hri
      exact⟨_,rfl,by simpa using hR⟩
  case fin=>
   rintro⟨b1,b2⟩ s' ⟨hb',rfl,vs,ws,ns',ms',hz,TY,hwi,hlen,hR⟩
   simp only at hb'
   subst hb'
   have hv:uI ns' ms'=decide (its.size≤its2.size):=by
    rw[Kz TY hwi hz.symm]
    exact decide_eq_decide.mpr (by omega)
   rw[hv]at hR
   wp_walk
   exact⟨_,rfl,by simpa[Builtin.Tuple.tupleCompareSizes]using hR⟩
  case h=>
   exact⟨rfl,rfl,its.toList,its2.toList,ns,ms,rfl,hi,hj,by omega,h⟩
end yI
namespace L2
open PySem PySem.Spec PyProof.Rows
section
variable{X:Cx}
theorem SQ(hu:X.A.units<cLine):rB X (compareOp .LtE) (fun x y H Q=>∃a b ns ms,x= .ref a∧y= .ref b∧oG X.K H a (ns.map V.int)∧oG X.K H b (ms.map V.int)∧Q (.bl (yI.uI ns ms)) H):=by
 intro pins s σ H x y v u Q I rx ry h
 obtain⟨a,b,ns,ms,rfl,rfl,ha,hb,q⟩:=h
 cases rx
 cases ry
 obtain⟨its,r1,p1,_⟩:=I.tuple ha
 obtain⟨its2,r2,p2,_⟩:=I.tuple hb
 obtain⟨⟨cls,dd,data,sl⟩,ho,hc,n,hd⟩:=id p1
 obtain⟨⟨cls2,dd2,data2,sl2⟩,ho2,hc2,n2,hd2⟩:=id p2
 simp only at hc hd hc2 hd2
 subst hc hd hc2 hd2
 exact richCompare_meets_room (op:= .LtE) ⟨_,ho,rfl⟩ ⟨_,ho2,rfl⟩ PySem.F.slot_tuple_le PySem.F.entry_tuple_le (PySem.F.args_tuple_le_2 _ _) (yI.Xm a b _ _ n n2 dd dd2 sl sl2 ns ms (intsAre_of r1) (intsAre_of r2))
  ⟨ho,ho2,show Value.bool (yI.uI ns ms)≠Value.notImplemented∧EP X pins σ Q (.bool (yI.uI ns ms)) s from⟨(fun x=>nomatch x),⟨.bl _,H,I,rfl,q⟩⟩⟩ hu
end
end L2
namespace S
open PySem PySem.Spec PyProof.Rows L2
section
variable{X:Cx}{ct:Nat→Addr}{W:aU}{pos pos':Pos}
def strsOf:List D→Option (List Str)
 | []=>some []
 | .str w::r=>(strsOf r).map (w:: ·)
 | _=>none
def adM:D→List D→Mem→Out D:=fun d ds M=>match d,ds with
 | .str y,[.ref n]=>match M[n]? with
  | some (.lst es)=>match strsOf es with
   | some ws=>if JoinOk y ws=true then .ok (.str (Txt.join y ws)) M else .bad
   | none=> .bad
  | _=> .bad
 | _,_=> .bad
def Ro:nQ:=fun d e M=>match d,e with
 | .str a,.str b=> .ok (.bl (!decide (b.cps.toList<a.cps.toList))) M
 | _,_=> .bad
theorem U5:jr X ct (compareOp .LtE) Ro:=by
 refine⟨_,HF,fun ι M H d d' v v' Q R h h' p=> ?_⟩
 unfold Ro at p
 split at p
 ·cases qQ h
  cases qQ h'
  exact⟨_,_,rfl,rfl,p ι _ H .refl R (.bl _)⟩
 ·exact p.elim
def Nj:nQ:=fun d e M=>match d,e with
 | .tup xs,.tup ys=>match jQ xs,jQ ys with
  | some is,some js=> .ok (.bl (yI.uI is js)) M
  | _,_=> .bad
 | _,_=> .bad
theorem U4(hu:X.A.units+64<cLine):jr X ct (compareOp .LtE) Nj:=by
 refine⟨_,SQ (by omega),fun ι M H d d' v v' Q R h h' p=> ?_⟩
 unfold Nj at p
 split at p
 ·obtain⟨a,vs,rfl,ha,hd⟩:=lq h
  obtain⟨b,us,rfl,hb,hd'⟩:=lq h'
  split at p
  ·rename_i is js e1 e2
   have x1:=o4 e1 hd
   have x2:=o4 e2 hd'
   subst x1 x2
   exact⟨a,b,is,js,rfl,rfl,oG.of ha,oG.of hb,p ι _ H .refl R (.bl _)⟩
  ·exact p.elim
 ·exact p.elim
def Vh:nQ:=qm (qm Nk Ro) Nj
theorem Ln(hu:X.A.units+64<cLine):jr X ct (compareOp .LtE) Vh:=(QS.or U5).or (U4 hu)
end
theorem vJ{N ps:List Str}{sc:Scope}(h1:sc.kind= .function:=by rfl)(h2:sc.isCoroutine=false:=by rfl)(h3:sc.isGenerator=false:=by rfl)(h4:N.Nodup:=by decide +kernel)(h5:N.take ps.length=ps:=by rfl)
  (h6:∀x∈ps,sc.names.lookup x=some .local∨sc.names.lookup x=some .cell:=by decide +kernel) (h7:∀y∈sc.names,y.2≠ .free:=by decide +kernel):bf N ps sc:=⟨h1,h2,h3,h4,h5,h6,h7⟩
section
variable{e:Sl}{M:Mem}
theorem Qt{xs ys:List D}{is js:List Int}(h1:jQ xs=some is)(h2:jQ ys=some js):Vh (.tup xs) (.tup ys) M= .ok (.bl (yI.uI is js)) M:=by
 refine(Kd rfl).trans ?_
 simp only[Nj,h1,h2]
end
section
variable{X:Cx}{ct:Nat→Addr}
def notStar:Expr→Bool
 | .Starred _ _=>false
 | _=>true
theorem VM{a:Expr}{es:List Expr}{env:PySem.Env}(h:notStar a=true):starEach (a::es) env=(false,eval a env)::starEach es env:=by
 cases a<;>first | rfl | cases h
theorem iM{W:aU}{a:Expr}{es:List Expr}{ma:ME}{ms:MA}(ha:SE X ct W a ma)(hr:SA X ct W es ms)(h:notStar a=true:=by rfl):SA X ct W (a::es) (ao ma ms):=ak ha hr (VM h)
end
section
variable{X:Cx}{ct:Nat→Addr}{W:aU}
def Zk:Fn:=fun _ _=> .bad
theorem T_{P:Program}{w:World}{K:Frag}{mg:Str→Option Value}{base:Heap}{k:Nat}{f:Addr}{fd:FuncData}{ps:List Str}{ar:Nat}:aY P w K mg base (fX P w) k f fd ps (spS K ct Zk ar):=
 ⟨fun _ _ _ _ ⟨_,_,_,_,_,_,p⟩=>p.elim,fun _ _ _ _ _ _ _ _ _ _ _ _ _ ⟨_,_,_,_,_,_,p⟩=>p.elim⟩
def fuel(g:Fn→Fn):Nat→Fn
 | 0=>Zk
 | n+1=>g (fuel g n)
theorem Gz{P:Program}{w:World}{K:Frag}{mg:Str→Option Value}{base:Heap}{k:Nat}{f:Addr}{fd:FuncData}{ps:List Str}{ar:Nat}{g:Fn→Fn}
  (step:∀(n:Nat) (m:Fn),aY P w K mg base (fX P w) n f fd ps (spS K ct m ar)→aY P w K mg base (fX P w) (n+1) f fd ps (spS K ct (g m) ar)):∀n,aY P w K mg base (fX P w) (k+n) f fd ps (spS K ct (fuel g n) ar)
 | 0=>T_
 | n+1=>step (k+n) _ (Gz step n)
end
theorem Gq{α:Type}{us:List α}(h:us.length=5):∃a b c d e,us=[a,b,c,d,e]:=match us,h with | [a,b,c,d,e],_=>⟨a,b,c,d,e,rfl⟩
theorem Li{prog:Program}{w:World}{A:Around}{R:Result→Shared→Prop}{s:Shared}{a:Addr}{args:Args}{o:Obj}{fd:FuncData}{body:Expr}{c:Addr}{oc:Obj}{vs:Array Value}{q:Str}{t:Tok}(hroom:A.depth<recursionLimit)
  (ho:s.heap.get? a=some o) (hd':o.data= .func fd) (hco:fd.scope.isCoroutine=false) (hgen:fd.scope.isGenerator=false) (hbody:fd.body= .expr body) (hc:fd.code= .ref c) (hoc:s.heap.get? c=some oc) (hdc:oc.data= .fields vs) (hq:vs[1]? = some (.str q t))
  (h:wpAny (model prog w) A.in1 (bindArgs fd args) (fun binds s₁=>
   wpAny (model prog w) A.in1 (newFunctionEnv fd.scope fd.globals fd.closure binds (q++ ".<locals>.") (some a) (.ref c) none fd.builtins)
    (fun env s₂=>s₂.heap.NoLimit∧codeAny (model prog w) A (.expr body env) R s₂) (fun e s'=>R (.error e) s') s₁) (fun e s'=>R (.error e) s') s):
  codeAny (model prog w) A (.call (.ref a) args) R s:=by
 refine codeAny_of_tree ?_
 show wpAny _ A.in1 (callAny (.ref a) args) _ _ s
 simp only[callAny]
 refine wpAny_bind (wpAny_load ho ?_)
 simp only[hd',callFunction,hco,hgen,hbody,hc]
 refine wpAny_bind (m:=field (.ref c) 1) (wpAny_field hoc hdc hq (wpAny_bind (wpAny_pure ?_)))
 exact wpAny_bind (wpAny_mono h (fun binds s₁ h₁=>wpAny_bind (wpAny_mono h₁ (fun env s₂ h₂=>wpAny_bind (wpAny_enterFrame h₂.1 hroom
  (wpAny_pure (And.intro rfl h₂.2)))) fun _ _ h'=>h')) fun _ _ h'=>h')
def zj(P:Program)(w:World)(K:Frag)(mg:Str→Option Value)(base:Heap)(x p q:Str)(scope:Scope)(f c cd:Addr)(A:Around)(outer:List Env)(s:Shared)(H:Hp):Cx where
 prog:=P
 w:=w
 K:=K
 mg:=mg
 base:=base
 A:=A.deeper (PySem.W.envX q scope s.heap.objs.size f (.ref cd) [(x,c)])
 N:=[x,p]
 s₀:=s
 H₀:=H
 env:=PySem.W.envX q scope s.heap.objs.size f (.ref cd) [(x,c)]
 outer:=outer
 stack:=PySem.W.envX q scope s.heap.objs.size f (.ref cd) [(x,c)]::outer
 ex:=[]
 calm:=true
 fn:=fun _=>false
 pn:=[]
 xe:=fun _ _=>False
section
variable{P:Program}{w:World}{K:Frag}{mg:Str→Option Value}{base:Heap}{A:Around}{outer:List Env}{s:Shared}{H:Hp}{f c a:Addr}{o oc:Obj}{uc:HO}{cv:Value}{xs:List V}{v:V}{u:Value}
theorem OD(hr:gF 1 A)(e0:yq P w K mg base A outer s H)(hf:H f=some (.gZ o t8))(L:Ja o cv c)(hz:uw H cv)(hc:H c=some (.gZ oc uc))(hd:oc.data= .cell (some (.ref a)))(hl:H a=some (.lst xs))(hn:xs.length<sizeLine)(rv:RelV v u):
  codeAny (model P w) A (.call (.ref f) ⟨[u],[]⟩) (fun r s'=>match r with | .ok (.ret u')=>CE outer P w H s (fun v' H'=>v'= .non∧H'=upd H a (.lst (xs++[v]))) u' s' | _=>False) s:=by
 obtain⟨name,qual,x,p,p1,p2,p3,p4,pa,scope,pm,ctv,rfl,h1,h2,h3,h4,h5,h6,h7,h8,h9,h10,h11,h12,h13,h14⟩:=L
 obtain⟨cd,ocd,vs,q,t,rfl,z1,z2,z3⟩:=hz
 have gf:=(e0.hok f _ hf).1
 have gc:=(e0.hok c _ hc).1
 have gcd:=(e0.hok cd _ z1).1
 have lim:s.heap.NoLimit:=e0.mod.nolimit.keeps fun b o e=>(e0.bs b o e).1
 refine Li hr.depth gf rfl h2 h3 rfl rfl gcd z2 z3 ?_
 rw[h14 u]
 refine wpAny_pure (wpAny_newFunctionEnv h6 (fun y hy=>by rw[List.mem_singleton.mp hy];exact h5) (fun h' hns hsb=>⟨lim.fresh _ hsb,?_⟩) h1)
 show codeAny _ _ (.expr _ (PySem.W.envX q scope s.heap.objs.size f (.ref cd) [(x,c)])) _ _
 refine PySem.W.kla_codeExpr ?_
 have kp:∀b o,s.heap.get? b=some o→h'.get? b=some o:=fun b o e=>hsb.extBut b o (Nat.ne_of_lt (Heap.lt_size e)) (Heap.get?_push_of_some _ e)
 have Ot:∀b:Addr,b∉(zj P w K mg base x p q scope f c cd A outer s H).ex:=fun b z=>absurd (show b∈([]:List Addr)from z) (by simp)
 have lk:∀{y:Str} {c':Addr},(zj P w K mg base x p q scope f c cd A outer s H).env.cells.lookup y=some c'→y=x∧c'=c:=fun{y c'} e=>by
  have e':List.lookup y [(x,c)]=some c':=e
  rw[List.lookup_cons]at e'
  cases hy:y==x with
  | true=>rw[hy]at e';cases e';exact⟨eq_of_beq hy,rfl⟩
  | false=>rw[hy]at e';cases e'
 have lx:(zj P w K mg base x p q scope f c cd A outer s H).env.cells.lookup x=some c:=by
  show List.lookup x [(x,c)]=some c
  rw[List.lookup_cons,beq_self_eq_true]
 have ok:(zj P w K mg base x p q scope f c cd A outer s H).Ok:=by
  refine⟨e0.mod,h1,rfl,rfl,Nat.le_refl _,fun y z c' e1 e2=>(lk e1).1.trans (lk e2).1.symm,fun y hy=> ?_,fun y c' e=>(by cases e),fun _=>hr.hd,Around.frames_deeper e0.frames,.inr ⟨rfl,rfl⟩,fun b z=>absurd z (Ot b),e0.bs,e0.GR,fun b _ _=>Ot b,fun b z=>absurd z (Ot b),e0.rJ,e0.K6⟩
  have hy:scope.names.lookup y=some .cell∨scope.names.lookup y=some .free:=hy
  rcases hy with hy | hy
  ·exact absurd rfl (h6 _ (PySem.mem_of_lookup hy))
  ·rw[h13 y hy];exact⟨c,lx⟩
 have I:Inv (zj P w K mg base x p q scope f c cd A outer s H) [] [some (.ref a),some v] H {s with heap:=h',toks:=s.toks+[(p,u)].length}:=by
  refine⟨ok,rfl,e0.bare,Un.kept kp,⟨_,hns,fun i y v' e1 e2 e3=> ?_⟩,fun y c' e=> ?_,e0.hok.fresh (Nat.le_refl _),fun y c' e=> ?_,fun p hp=>absurd (show p∈([]:List (Addr×Obj))from hp) (by simp),e0.hok.kept kp,rfl⟩
  ·match i,e1,e2 with
   | 0,e1,e2=>
    cases e1;cases e2
    exact⟨_,rfl,.inr ⟨.inr h4,c,lx,oc,kp _ _ gc,hd⟩⟩
   | 1,e1,e2=>
    cases e1;cases e2
    exact⟨u,rv,.inl ⟨h5,by simp⟩⟩
  ·obtain⟨rfl,rfl⟩:=lk e
   exact⟨_,oc,kp _ _ gc,hd⟩
  ·obtain⟨rfl,rfl⟩:=lk e
   exact .inr ⟨rfl,oc,uc,hc⟩
 have pe:PE (zj P w K mg base x p q scope f c cd A outer s H) (.Call (.Attribute (.Name x p1) "append" p2) [.Name p p3] [] p4) (tBM K "list" Gb (MJ 0) (Qo (MJ 1) MK)):=
  Qx PySem.F.plainAttrs_list PySem.F.slot_list_append PySem.F.type_list_append HN (Ac rfl (.inr (.inr h4)) h8 h9) (Gd (Ac rfl (.inl h5) h10 h11) Kc) (hline:=h12)
 refine wpAny_mono (pe [] _ _ H (fun v' H'=>v'= .non∧H'=upd H a (.lst (xs++[v]))) I ⟨.ref a,rfl,?_,v,rfl,a,xs,v,rfl,rfl,hl,hn,rfl,rfl⟩) (fun u' s' ⟨v',H',J,r',q'⟩=> ?_) fun e s' h=>h.elim
 ·exact .inl ⟨rfl,xs,ql.of hl⟩
 ·exact⟨v',H',J.os,J.bare,J.base,J.hok,r',q'⟩
end
def rFn(x:V)(H:Hp):Prop:=∃f o cv c,x= .ref f∧H f=some (.gZ o t8)∧Ja o cv c
def RD:R2:=fun x y H Q=>∃f o cv c oc uc a xs,x= .ref f∧H f=some (.gZ o t8)∧Ja o cv c∧uw H cv∧H c=some (.gZ oc uc)∧oc.data= .cell (some (.ref a))∧H a=some (.lst xs)∧xs.length<sizeLine∧Q .non (upd H a (.lst (xs++[y])))
def Q_(ta:TE)(t:TA):TE:=fun σ H Q=>ta σ H fun x H1=>rFn x H1∧t σ H1 fun vs H2=>∃y,vs=[y]∧RD x y H2 Q
theorem QG{o:Obj}{cv:Value}{c f:Addr}{h:Heap}(L:Ja o cv c)(e:h.get? f=some o):PySem.W.FnAt f h:=by
 obtain⟨name,qual,x,p,p1,p2,p3,p4,pa,scope,pm,ctv,rfl,_⟩:=L
 exact⟨_,_,_,_,e⟩
theorem J_{X:Cx}{x:Str}{p pos:Pos}{e:Expr}{ta:TE}{t:TA}(hn:PE X (.Name x p) ta)(he:PA X [e] t)(hr:gF 1 X.A)
  (hs:starEach [e] X.env=(false,eval e X.env)::starEach [] X.env:=by rfl) (hpl:(backTo pos (starEach [] X.env)).any (·.1)=false:=by rfl):PE X (.Call (.Name x p) [e] [] pos) (Q_ ta t):=by
 intro pins s σ H Q I h
 refine wpAny_Call_Name_kw (je (hn pins s σ H _ I h) fun u s1 ⟨v,H1,I1,r1,⟨f,o,cv,c,ev,hf,L⟩,q1⟩=> ?_)
 subst ev
 obtain rfl:u=Value.ref f:=r1
 refine PySem.W.callWith_F (QG L (I1.hok f _ hf).1) (je (he pos pins s1 σ H1 _ I1 q1) fun us s2 ⟨vs,H2,I2,r2,y,ey,q2⟩=> ?_) hs hpl
 subst ey
 cases r2 with
 | cons ru rn=>
  cases rn
  obtain⟨f',o2,cv2,c2,oc,uc,a,xs,ef,hf2,L2',hz,hc,hd,hl,hlen,q⟩:=q2
  cases ef
  refine⟨QG L2' (I2.hok f _ hf2).1,wpAny_call (codeAny_mono (OD hr I2.env0 hf2 L2' hz hc hd hl hlen ru) fun r s' hq=> ?_)⟩
  match r,hq with
  | .ok (.ret u'),⟨v',H',a1,a2,a3,a4,a5,a6,a7⟩=>
   subst a6
   subst a7
   exact I2.after ⟨_,_,a1,a2,a3,a4,a5,q⟩
def w6:nQ:=fun d y M=>match d with
 | .fn l=>match M[l]? with
  | some (.lst ds)=>if ds.length<sizeLine then .ok .non (M.set l (.lst (ds++[y])))else .bad
  | _=> .bad
 | _=> .bad
def isFn:D→Bool
 | .fn _=>true
 | _=>false
def Er(ma:ME)(ms:MA):ME:=fun e M=>(ma e M).bind fun d M1=>if isFn d=true then(ms e M1).bind fun ds M2=>match ds with
 | [y]=>w6 d y M2
 | _=> .bad else .bad
section
variable{X:Cx}{ct:Nat→Addr}{W:aU}
theorem Ym{ι:Nat→Addr}{n:Nat}{H:Hp}{d:D}{v:V}(h:isFn d=true)(q:DV X.K ct ι n H d v):rFn v H:=by
 cases q with
 | fn h1 h2 h3 h4 h5 h6=>exact⟨_,_,_,_,rfl,h1,h2⟩
 | _=>cases h
theorem JM{x:Str}{p pos:Pos}{a:Expr}{ma:ME}{ms:MA}(hn:SE X ct W (.Name x p) ma)(ha:SA X ct W [a] ms)(hr:gF 1 X.A)
  (hs:starEach [a] X.env=(false,eval a X.env)::starEach [] X.env:=by rfl) (hpl:(backTo pos (starEach [] X.env)).any (·.1)=false:=by rfl):SE X ct W (.Call (.Name x p) [a] [] pos) (Er ma ms):=by
 refine eO (J_ hn ha hr hs hpl) fun σ H Q q=> ?_
 obtain⟨ι,e,M,w,p⟩:=cO (gH:=e_ X.K ct) (f:=fun d e M1=>if isFn d=true then(ms e M1).bind fun ds M2=>match ds with
  | [y]=>w6 d y M2
  | _=> .bad else .bad) q
 refine⟨ι,e,M,w,p.mono fun v H1 ⟨fQ,e1,M1,d,w1,q1,p1⟩=> ?_⟩
 cases z:isFn d with
 | false=>simp only[z,Bool.false_eq_true,if_false]at p1;exact p1.elim
 | true=>
  simp only[z,if_true]at p1
  refine⟨Ym z q1,fQ,e1,M1,w1,?_⟩
  cases z2:ms e1 M1 with
  | bad=>simp only[z2,Out.iu]at p1;exact p1
  | exc xc xd xM=>simp only[z2,Out.j5]at p1;exact p1
  | ok ds M2=>
   simp only[z2,Out.iI]at p1
   intro jd vs H2 x2 r2 q2
   match ds,q2,p1 with
   | [y],.cons (x:=vy) qy .nil,p1=>
    refine⟨_,rfl,?_⟩
    have q1':=q1.mono x2
    have p2:=p1.ext x2
    cases d with
    | fn l=>
     simp only[w6]at p2
     split at p2
     ·rename_i es e5
      split at p2
      ·rename_i hz
       cases q1' with
       | fn h1 h2 h3 h4 h5 h6=>
        obtain⟨xs,hH,hd⟩:=r2.obj l _ e5
        have x3:Ext X.K jd M2.length H2 jd M2.length (upd H2 (jd l) (.lst (xs++[vy]))):=Ext.chg hH (fun _ z=>nomatch z) (fun _ _ z=>nomatch z)
        refine⟨_,_,_,_,_,_,_,xs,rfl,h1,h2,h3,h4,h5,hH,by rw[hd.length];exact hz,?_⟩
        exact p2 jd .non _ (by rw[List.length_set];exact x3) (r2.chg h6 hH (fun _ z=>nomatch z) (fun _ _ z=>nomatch z) ⟨_,aX,(hd.append (.cons qy .nil)).mono x3⟩) .non
      ·exact p2.elim
     ·exact p2.elim
    | _=>cases z
end
theorem u9{a b:Value}{c:Value}(h:∃i t,a= .int i t)(h':∃i t,b= .int i t):∀l:List Value,TriplesOk l→TriplesOk (l++[a,b,c])
 | [],_=>by obtain⟨i,t,rfl⟩:=h;obtain⟨j,u,rfl⟩:=h';exact trivial
 | .int _ _:: .int _ _::_::rest,q=>u9 h h' rest q
theorem zz{pos:Pos}{a b c cv:Value}:∀l:List Value,TriplesOk l→codeAmong pos (l++[a,b,c])=some cv→codeAmong pos l=some cv∨cv=c
 | [],_,e=>by
  simp only[List.nil_append]at e
  unfold codeAmong at e
  split at e
  ·rename_i h1
   split at e
   ·cases h1;cases e;exact .inr rfl
   ·cases h1;unfold codeAmong at e;cases e
  ·cases e
 | .int i t:: .int j u::x::rest,q,e=>by
  simp only[List.cons_append,codeAmong]at e ⊢
  split at e
  ·rename_i z;rw[if_pos z];exact .inl e
  ·rename_i z;rw[if_neg z];exact zz rest q e
section
variable{X:Cx}{pins:List (Addr×Obj)}{σ:St}{H:Hp}{s:Shared}
theorem Inv.freeze{x:Str}{c:Addr}{oc:Obj}(I:L2.Inv X pins σ H s)(hf:X.fn x=false)(hl:X.env.cells.lookup x=some c)(hc:X.s₀.heap.objs.size≤c)(hn:H c=none)(ho:s.heap.get? c=some oc):
  L2.Inv X pins σ (upd H c (.gZ oc t8)) s:=by
 have hk:∀b u,H b=some u→upd H c (.gZ oc t8) b=some u:=fun b u q=>by rw[aJ (bB q hn)];exact q
 have hz:∀b,b≠c→H b=none→upd H c (.gZ oc t8) b=none:=fun b z q=>by rw[aJ z];exact q
 have od:∃v,oc.data= .cell v:=by
  obtain⟨v,o',e,d⟩:=I.cell x c hl
  rw[ho]at e;cases e
  exact⟨v,d⟩
 refine⟨I.ok,I.os,I.bare,⟨I.base.keep,I.base.slot,fun b o q n z=>hz b (fun e=>absurd (Nat.lt_of_lt_of_le (Heap.lt_size q) (e▸hc)) (Nat.lt_irrefl _)) (I.base.free b o q n z),I.base.there,fun b xs q=>hk _ _ (I.base.tups b xs q),fun b o u q=>hk _ _ (I.base.oU b o u q),fun b ps q=> ?_⟩,I.loc,I.cell,hz _ (Ne.symm (I.PJ x c hl)) I.free,fun y c' e=> ?_,fun p hp=> ?_,fun b o q=> ?_,I.len⟩
 ·obtain⟨m,z⟩:=I.base.pK b ps q;exact⟨m,hk _ _ z⟩
 ·by_cases e':c'=c
  ·subst e'
   have:y=x:=I.ok.inj y x c' e hl
   subst this
   exact .inr ⟨hf,oc,t8,aX⟩
  ·exact(I.mY y c' e).imp id (hz _ e') fun o u z=>hk _ _ z
 ·obtain⟨z1,z2,z3,z4,z5⟩:=I.pin p hp
  refine⟨z1,hz _ (fun e=> ?_) z2,z3,z4,z5⟩
  rw[e,ho]at z1
  obtain⟨v,d⟩:=od
  exact z5 v (by rw[←Option.some.inj z1];exact d)
 ·by_cases z:b=c
  ·subst z
   rw[aX]at q;cases q
   exact⟨ho,trivial,⟨_,ho⟩,fun _ _ _ _=>trivial⟩
  ·rw[aJ z]at q
   exact(I.hok b o q).stay (fun _ _ _ y=>y) (fun b' y=>hk _ _ y) fun b' xs y=>hk _ _ y
theorem Inv.made{P c':Addr}{ps more:Array Value}{oc' ob:Obj}{h':Heap}{tk:Nat}(I:L2.Inv X pins σ H s)(hP:H P=some (.pH ps))(hx:Heap.ExtBut P s.heap h')(hP2:h'.get? P=some {cls:= .none,data:= .fields (ps++more)})
  (h1:s.heap.objs.size≤c') (h2:c'<h'.objs.size) (hc':h'.get? c'=some oc') (hob:ob.isFreed=false):
  L2.Inv X pins σ (upd (upd (upd H P (.pH (ps++more))) c' (.gZ oc' t8)) h'.objs.size (.gZ ob t8)) {s with heap:=h'.push ob,toks:=tk}:=by
 obtain⟨f,hf⟩:∃f,f=h'.objs.size:=⟨_,rfl⟩
 rw[←hf]
 have cf:c'<f:=by rw[hf];exact h2
 have lt:∀b o,s.heap.get? b=some o→b<c':=fun b o e=>Nat.lt_of_lt_of_le (Heap.lt_size e) h1
 have Th:∀b u,H b=some u→b<c':=fun b u e=>Nat.lt_of_lt_of_le (I.hok.lt e) h1
 have Pc:P<c':=Th P _ hP
 have kp:∀b o,b≠P→s.heap.get? b=some o→(h'.push ob).get? b=some o:=fun b o n e=>Heap.get?_push_of_some _ (hx b o n e)
 have ne1:∀b,b<c'→b≠P→upd (upd (upd H P (.pH (ps++more))) c' (.gZ oc' t8)) f (.gZ ob t8) b=H b:=fun b l n=>by
  rw[aJ (Nat.ne_of_lt (Nat.lt_trans l cf)),aJ (Nat.ne_of_lt l),aJ n]
 have atP:upd (upd (upd H P (.pH (ps++more))) c' (.gZ oc' t8)) f (.gZ ob t8) P=some (.pH (ps++more)):=by
  rw[aJ (Nat.ne_of_lt (Nat.lt_trans Pc cf)),aJ (Nat.ne_of_lt Pc),aX]
 have hk:∀b u,b≠P→H b=some u→upd (upd (upd H P (.pH (ps++more))) c' (.gZ oc' t8)) f (.gZ ob t8) b=some u:=fun b u n e=>by rw[ne1 b (Th b u e) n];exact e
 have nP:∀b u,H b=some u→(∀qs,u≠ .pH qs)→b≠P:=fun b u e n z=>by subst z;rw[hP]at e;cases e;exact n _ rfl
 have nN:∀b,H b=none→b≠P:=fun b e z=>by subst z;rw[hP]at e;cases e
 have Ye:(h'.push ob).get? P=some {cls:= .none,data:= .fields (ps++more)}:=Heap.get?_push_of_some _ hP2
 refine I.un (H':=upd (upd (upd H P (.pH (ps++more))) c' (.gZ oc' t8)) f (.gZ ob t8)) ⟨fun b o e n _ _=>kp b o (nN b n) e,fun b o e n _ _=>⟨o.slots,kp b o (nN b n) e⟩,fun b o e n _=>by rw[ne1 b (lt b o e) (nN b n)];exact n,fun b o e _=> ?_,
  fun b xs e=>hk b _ (nP b _ e fun _ z=>nomatch z) e,fun b o u e=>hk b _ (nP b _ e fun _ z=>nomatch z) e,fun b qs e=> ?_⟩ fun b u e=> ?_
 ·by_cases z:b=P
  ·exact⟨_,z▸Ye⟩
  ·exact⟨o,kp b o z e⟩
 ·by_cases z:b=P
  ·subst z
   rw[hP]at e;cases e
   exact⟨more,atP⟩
  ·exact⟨#[],by rw[hk b _ z e];simp⟩
 ·by_cases zf:b=f
  ·subst zf
   rw[aX]at e;cases e
   have g:(h'.push ob).get? b=some ob:=by rw[hf];exact Heap.get?_push_size _ hob
   exact⟨g,trivial,⟨_,g⟩,fun _ _ _ _=>trivial⟩
  ·rw[aJ zf]at e
   by_cases zc:b=c'
   ·subst zc
    rw[aX]at e;cases e
    have g:(h'.push ob).get? b=some oc':=Heap.get?_push_of_some _ hc'
    exact⟨g,trivial,⟨_,g⟩,fun _ _ _ _=>trivial⟩
   ·rw[aJ zc]at e
    by_cases z:b=P
    ·subst z
     rw[aX]at e;cases e
     exact Ye
    ·rw[aJ z]at e
     refine(I.hok b u e).stay (fun c v hc y=>kp c v ?_ y) (fun c y=>hk c _ (nP c _ y fun _ z=>nomatch z) y) fun c xs y=>hk c _ (nP c _ y fun _ z=>nomatch z) y
     rcases hc with rfl | hc
     ·exact z
     ·exact nP c _ hc fun _ z=>nomatch z
structure ZM(x p:Str)(p1 p2 p3 p4 pa:Pos)(scope:Scope):Prop where
 k:scope.kind= .function
 co:scope.isCoroutine=false
 gen:scope.isGenerator=false
 fx:scope.names.lookup x=some .free
 lp:scope.names.lookup p=some .local
 nc:∀y∈scope.names,y.2≠ .cell
 ne:x≠p
 d1:(x==("__debug__" : Str))=false
 d2:(x==("__classdict__" : Str))=false
 d3:(p==("__debug__" : Str))=false
 d4:(p==("__classdict__" : Str))=false
 ln:(p2.endLine==p4.line)=true
 fr:∀y,scope.names.lookup y=some .free→y=x
 bd:∀(name qual:Str) (cl:List (Str×Addr)) (pm cv ctv u:Value),bindArgs (PySem.W.kla_fn name qual ⟨[],[⟨p,none,pa⟩],none,[],[],none,[]⟩ (.Call (.Attribute (.Name x p1) "append" p2) [.Name p p3] [] p4) scope cl pm cv ctv) ⟨[u],[]⟩=pure [(p,u)]
structure Made(H H':Hp)(f c P a:Addr):Prop where
 keep:∀b u,b≠P→H b=some u→H' b=some u
 tab:∃ps,H' P=some (.pH ps)∧TabOk H' ps
 fn:∃o cv oc uc,H' f=some (.gZ o t8)∧Ja o cv c∧uw H' cv∧H' c=some (.gZ oc uc)∧oc.data= .cell (some (.ref a))
def abi(N:List Str)(x:Str)(c P:Addr):TE:=fun σ H Q=>∃(i:Nat) (a:Addr) (ps:Array Value),N[i]? = some x∧σ[i]? = some (some (V.ref a))∧H P=some (.pH ps)∧TabOk H ps∧∀f H',Made H H' f c P a→Q (.ref f) H'
theorem Hx{x p:Str}{p1 p2 p3 p4 pa pos:Pos}{scope:Scope}{c cd P:Addr}(Sx:ZM x p p1 p2 p3 p4 pa scope)(hfn:X.fn x=false)(hl:X.env.cells.lookup x=some c)(hcab:X.s₀.heap.objs.size≤c)(hk:X.env.kindOf x=some .cell)(hcode:X.env.code= .ref cd)
  (C:PySem.W.CodeHd X.base cd P) (hb:X.base.BuiltinsAt X.mg P) (hcl:closureFor scope X.env=pure [(x,c)]) (hd:defaultsOf ⟨[],[⟨p,none,pa⟩],none,[],[],none,[]⟩ X.env=([],[]):=by rfl):
  PE X (.Lambda ⟨[],[⟨p,none,pa⟩],none,[],[],none,[]⟩ (.Call (.Attribute (.Name x p1) "append" p2) [.Name p p3] [] p4) scope pos) (abi X.N x c P):=by
 intro pins s σ H Q I ⟨i,a,ps,hN,hσ,hP,hT,hq⟩
 obtain⟨oc,ho,hd'⟩:∃oc,s.heap.get? c=some oc∧oc.data= .cell (some (.ref a)):=by
  obtain⟨m,hn,hlk⟩:=I.loc
  obtain⟨u,r,l⟩:=hlk i x _ hN hσ (.inr (.inl hk))
  obtain rfl:u=Value.ref a:=r
  rcases l with⟨k,_⟩ | ⟨_,c',e,o',e1,e2⟩
  ·rw[hk]at k;cases k
  ·rw[hl]at e;cases e
   exact⟨o',e1,e2⟩
 obtain⟨H1,uc,I1,hc1,k1,n1⟩:∃H1 uc,L2.Inv X pins σ H1 s∧H1 c=some (.gZ oc uc)∧(∀b u,H b=some u→H1 b=some u)∧H1 P=some (.pH ps):=by
  rcases I.mY x c hl with hn | ⟨_,o',u',hz⟩
  ·refine⟨_,t8,Inv.freeze I hfn hl hcab hn ho,aX,fun b u e=>by rw[aJ (bB e hn)];exact e,?_⟩
   rw[aJ (bB hP hn)];exact hP
  ·have:=(I.hok c _ hz).1
   rw[ho]at this
   cases this
   exact⟨H,u',I,hz,fun _ _ e=>e,hP⟩
 have hT1:TabOk H1 ps:=⟨hT.1,fun pos cv z=>(hT.2 pos cv z).mono fun b o u e=>k1 b _ e⟩
 have gP:s.heap.get? P=some (PySem.W.tabObj ps):=I1.hok P _ n1
 have hgs:s.heap.Ns mainGlobals X.mg:=I.ok.mod.glob.keeps I.bk
 have hgP:mainGlobals≠P:=fun q=>by
  obtain⟨o,es,ep,e,hd,_⟩:=hgs
  rw[q,gP]at e;cases e;cases hd
 have Pc:P≠c:=fun e=>by rw[e,hc1]at n1;cases n1
 refine PySem.W.kla_eval hd ?_
 cases hf:codeAmong pos ps.toList with
 | none=>
  refine PySem.W.kla_makeFunction (mg:=X.mg) hcl I.ok.glob hgs hcode (C.keeps I.bk) gP hT.1 hf hgP (hb.keeps I.bk) fun c' ctv h' tk hx h1 h2 hrec hP2=> ?_
  obtain⟨c2,oc',vs,t,e2,hoc,hdc,hv⟩:=hrec
  cases e2
  have J:=Inv.made (ob:=PySem.W.kla_obj "<lambda>" (X.env.qual++ "<lambda>") ⟨[],[⟨p,none,pa⟩],none,[],[],none,[]⟩ (.Call (.Attribute (.Name x p1) "append" p2) [.Name p p3] [] p4) scope [(x,c)] ((X.mg "__name__").getD .none) c' ctv) (tk:=tk) I1 n1 hx hP2 h1 h2 hoc rfl
  have lc:c<c':=Nat.lt_of_lt_of_le (Heap.lt_size ho) h1
  have Th:∀b u,H1 b=some u→b<c':=fun b u e=>Nat.lt_of_lt_of_le (I1.hok.lt e) h1
  have kk:∀b u,b≠P→H1 b=some u→upd (upd (upd H1 P (.pH (ps++ #[rawInt pos.line,rawInt pos.col,.ref c']))) c' (.gZ oc' t8)) h'.objs.size (.gZ (PySem.W.kla_obj "<lambda>" (X.env.qual++ "<lambda>") ⟨[],[⟨p,none,pa⟩],none,[],[],none,[]⟩ (.Call (.Attribute (.Name x p1) "append" p2) [.Name p p3] [] p4) scope [(x,c)] ((X.mg "__name__").getD .none) c' ctv) t8) b=some u:=fun b u n e=>by
   rw[aJ (Nat.ne_of_lt (Nat.lt_trans (Th b u e) h2)),aJ (Nat.ne_of_lt (Th b u e)),aJ n];exact e
  have kz:∀b o u,H1 b=some (.gZ o u)→upd (upd (upd H1 P (.pH (ps++ #[rawInt pos.line,rawInt pos.col,.ref c']))) c' (.gZ oc' t8)) h'.objs.size (.gZ (PySem.W.kla_obj "<lambda>" (X.env.qual++ "<lambda>") ⟨[],[⟨p,none,pa⟩],none,[],[],none,[]⟩ (.Call (.Attribute (.Name x p1) "append" p2) [.Name p p3] [] p4) scope [(x,c)] ((X.mg "__name__").getD .none) c' ctv) t8) b=some (.gZ o u):=fun b o u e=>kk b _ (fun z=>by rw[z,n1]at e;cases e) e
  have cz:uw (upd (upd (upd H1 P (.pH (ps++ #[rawInt pos.line,rawInt pos.col,.ref c']))) c' (.gZ oc' t8)) h'.objs.size (.gZ (PySem.W.kla_obj "<lambda>" (X.env.qual++ "<lambda>") ⟨[],[⟨p,none,pa⟩],none,[],[],none,[]⟩ (.Call (.Attribute (.Name x p1) "append" p2) [.Name p p3] [] p4) scope [(x,c)] ((X.mg "__name__").getD .none) c' ctv) t8)) (.ref c'):=
   ⟨c',oc',vs,_,t,rfl,by rw[aJ (Nat.ne_of_lt h2),aX],hdc,hv⟩
  refine⟨.ref h'.objs.size,_,J,rfl,hq _ _ ⟨fun b u n e=>kk b u n (k1 b u e),⟨ps++ #[rawInt pos.line,rawInt pos.col,.ref c'],?_,?_,?_⟩,_,_,oc,uc,aX,⟨_,_,x,p,p1,p2,p3,p4,pa,scope,_,_,rfl,Sx.k,Sx.co,Sx.gen,Sx.fx,Sx.lp,Sx.nc,Sx.ne,Sx.d1,Sx.d2,Sx.d3,Sx.d4,Sx.ln,Sx.fr,fun u=>Sx.bd _ _ _ _ _ _ u⟩,cz,kz c oc uc hc1,hd'⟩⟩
  ·rw[aJ (Nat.ne_of_lt (Nat.lt_trans (Th P _ n1) h2)),aJ (Nat.ne_of_lt (Th P _ n1)),aX]
  ·rw[Array.toList_append]
   exact u9 ⟨_,_,rfl⟩ ⟨_,_,rfl⟩ _ hT.1
  ·intro pos' cv e
   rw[Array.toList_append]at e
   rcases zz _ hT.1 e with z | z
   ·exact(hT1.2 pos' cv z).mono kz
   ·rw[z];exact cz
 | some cv=>
  refine PySem.W.kla_makeFunctionHit (mg:=X.mg) hcl I.ok.glob hgs hcode (C.keeps I.bk) gP hT.1 hf (hb.keeps I.bk) fun ctv h' tk hk' hsz=> ?_
  have hfr:H1 h'.objs.size=none:=I1.hok.fresh hsz
  have kk:∀b u,H1 b=some u→upd H1 h'.objs.size (.gZ {cls:= .type "function",data:= .func (PySem.W.kla_fn "<lambda>" (X.env.qual++ "<lambda>") ⟨[],[⟨p,none,pa⟩],none,[],[],none,[]⟩ (.Call (.Attribute (.Name x p1) "append" p2) [.Name p p3] [] p4) scope [(x,c)] ((X.mg "__name__").getD .none) cv ctv)} t8) b=some u:=fun b u e=>by
   rw[aJ (bB e hfr)];exact e
  refine⟨.ref h'.objs.size,_,I1.laid (a:=h'.objs.size) (t':=tk) (fun b u e=>Heap.get?_push_of_some _ (hk' b u e)) hsz (o:= .gZ {cls:= .type "function",data:= .func (PySem.W.kla_fn "<lambda>" (X.env.qual++ "<lambda>") ⟨[],[⟨p,none,pa⟩],none,[],[],none,[]⟩ (.Call (.Attribute (.Name x p1) "append" p2) [.Name p p3] [] p4) scope [(x,c)] ((X.mg "__name__").getD .none) cv ctv)} t8) ⟨Heap.get?_push_size _ rfl,trivial,⟨_,Heap.get?_push_size _ rfl⟩,fun _ _ _ _=>trivial⟩,rfl,
   hq _ _ ⟨fun b u _ e=>kk b u (k1 b u e),⟨ps,kk _ _ n1,hT.1,fun pos' cv' z=>(hT1.2 pos' cv' z).mono fun b o u e=>kk b _ e⟩,_,_,oc,uc,aX,⟨_,_,x,p,p1,p2,p3,p4,pa,scope,_,_,rfl,Sx.k,Sx.co,Sx.gen,Sx.fx,Sx.lp,Sx.nc,Sx.ne,Sx.d1,Sx.d2,Sx.d3,Sx.d4,Sx.ln,Sx.fr,fun u=>Sx.bd _ _ _ _ _ _ u⟩,(hT1.2 pos cv hf).mono fun b o u e=>kk b _ e,kk c _ hc1,hd'⟩⟩
end
def Kw(i:Nat):ME:=fun e M=>match e[i]? with
 | some (some (.ref l))=> .ok (.fn l) M
 | _=> .bad
section
variable{K:Frag}{ct ι:Nat→Addr}{M:Mem}{H H':Hp}{f c P a:Addr}{ps:Array Value}
theorem Made.not(hP:H P=some (.pH ps)){b:Addr}{u:HO}(e:H b=some u)(n:∀qs,u≠ .pH qs):b≠P:=fun z=>by subst z;rw[hP]at e;cases e;exact n _ rfl
theorem Made.ext{n:Nat}(m:Made H H' f c P a)(hP:H P=some (.pH ps)):Ext K ι n H ι n H' where
 tup:=fun b xs e=>m.keep b _ (Made.not hP e fun _ z=>nomatch z) e
 gZ:=fun b xs e=>by
  rcases e with⟨o,e⟩ | e
  ·exact .inl ⟨o,m.keep b _ (Made.not hP e fun _ z=>nomatch z) e⟩
  ·exact .inr e
 ex:=fun b φ e=>m.keep b _ (Made.not hP e fun _ z=>nomatch z) e
 xd:=fun b φ e=>m.keep b _ (Made.not hP e fun _ z=>nomatch z) e
 fz:=fun b o u e=>m.keep b _ (Made.not hP e fun _ z=>nomatch z) e
 le:=Nat.le_refl _
 same:=fun _ _=>rfl
theorem WY{n:Nat}{b:Addr}{o:MO}(h:OR K ct ι n H b o):∃u,H b=some u∧∀qs,u≠ .pH qs:=by
 cases o with
 | lst ds=>obtain⟨vs,e,_⟩:=h;exact⟨_,e,fun _ z=>nomatch z⟩
 | ins c fs=>obtain⟨dx,vs,e,_⟩:=h;exact⟨_,e,fun _ z=>nomatch z⟩
 | dk kvs=>obtain⟨vs,e,_⟩:=h;exact⟨_,e,fun _ z=>nomatch z⟩
 | dt kvs=>obtain⟨vs,e,_⟩:=h;exact⟨_,e,fun _ z=>nomatch z⟩
theorem Made.rl(m:Made H H' f c P a)(hP:H P=some (.pH ps))(R:Rl K ct ι M H):Rl K ct ι M H' where
 inj:=R.inj
 obj:=fun i o h=>by
  obtain⟨u,hu,n⟩:=WY (R.obj i o h)
  exact(R.obj i o h).keep (m.ext hP) rfl ((m.keep _ _ (Made.not hP hu n) hu).trans hu.symm)
 tab:=fun k hk hc=>by
  by_cases e:ct k=P
  ·rw[e];exact m.tab
  ·obtain⟨qs,h1,h2,h3⟩:=R.tab k hk hc
   exact⟨qs,m.keep _ _ e h1,h2,fun pos cv z=>(h3 pos cv z).mono (m.ext (K:=K) (ι:=ι) (n:=0) hP).fz⟩
end
theorem Hg{X:Cx}{ct:Nat→Addr}{W:aU}(i:Nat){k:Nat}{x p:Str}{p1 p2 p3 p4 pa pos:Pos}{scope:Scope}{c cd:Addr}(Sx:ZM x p p1 p2 p3 p4 pa scope)(hN:X.N[i]? = some x)(hk1:1000≤k)(hk2:ct k≠0)
  (hfn:X.fn x=false) (hl:X.env.cells.lookup x=some c) (hcab:X.s₀.heap.objs.size≤c) (hk:X.env.kindOf x=some .cell) (hcode:X.env.code= .ref cd)
  (C:PySem.W.CodeHd X.base cd (ct k)) (hb:X.base.BuiltinsAt X.mg (ct k)) (hcl:closureFor scope X.env=pure [(x,c)]) (hd:defaultsOf ⟨[],[⟨p,none,pa⟩],none,[],[],none,[]⟩ X.env=([],[]):=by rfl):
  SE X ct W (.Lambda ⟨[],[⟨p,none,pa⟩],none,[],[],none,[]⟩ (.Call (.Attribute (.Name x p1) "append" p2) [.Name p p3] [] p4) scope pos) (Kw i):=by
 refine eO (Hx Sx hfn hl hcab hk hcode C hb hcl hd) fun σ H Q ⟨ι,e,M,w,q⟩=> ?_
 unfold Kw at q
 split at q
 ·rename_i l z
  obtain⟨v,hσ,dv⟩:=w.env i _ z
  obtain⟨hl',rfl⟩:=nq dv
  obtain⟨ps,hP,hT⟩:=w.rl.tab k hk1 hk2
  refine⟨i,ι l,ps,hN,hσ,hP,hT,fun f H' m=> ?_⟩
  obtain⟨o,cv,oc,uc,m1,m2,m3,m4,m5⟩:=m.fn
  exact q ι (.ref f) H' (m.ext hP) (m.rl hP w.rl) (.fn m1 m2 m3 m4 m5 hl')
 ·exact q.elim
abbrev O_(X:Cx)(g:Str→Bool):Cx:={X with fn:=g}
section
variable{X:Cx}{pins:List (Addr×Obj)}{σ:St}{H:Hp}{s:Shared}{W:aU}{st:Stmt}{rest body:List Stmt}{t u:TS}{E:Value→Shared→Prop}
theorem O4{g:Str→Bool}(I:L2.Inv X pins σ H s)(hg:∀x,g x=true→X.fn x=true):L2.Inv (O_ X g) pins σ H s:=
 ⟨⟨I.ok.mod,I.ok.kind,I.ok.glob,I.ok.blt,I.ok.above,I.ok.inj,I.ok.has,fun x c h=>I.ok.cab x c (hg x h),I.ok.hd,I.ok.frames,I.ok.stk,I.ok.Vr,I.ok.bs,I.ok.GR,I.ok.Ek,I.ok.E_,I.ok.rJ,I.ok.K6⟩,I.os,I.bare,I.base,I.loc,I.cell,I.free,
  fun x c e=>(I.mY x c e).imp (fun z=>by
   cases q:g x with
   | false=>exact q
   | true=>rw[hg x q]at z;cases z) id fun _ _ z=>z,I.pin,I.hok,I.len⟩
def Br(X:Cx)(W:aU)(st:List Stmt)(t:TS):Prop:=
 ∀(pins:List (Addr×Obj)) (s:Shared) (σ:St) (H:Hp) (D:Ends),L2.Inv X pins σ H s→t D σ H→wpAny (model X.prog X.w) X.A (execs st X.env) (fun fl s'=>∃g,SP (O_ X g) pins D fl s') (fun e s'=>∃g,gw (O_ X g) W e s') s
theorem Hq(g:Str→Bool)(hg:∀x,g x=true→X.fn x=true)(h:yj ((O_ X g).wish (gw (O_ X g) W)) body t):Br X W body t:=fun pins s σ H D I q=>
 wpAny_mono (h pins s σ H D ((O4 I hg).wish _) q) (fun _ _ z=>⟨g,z.jo⟩) fun _ _ z=>⟨g,z⟩
theorem Hr(h1:PS (X.wish (gw X W)) st t)(h2:Br X W rest u):Br X W (st::rest) (VB t u):=by
 intro pins s σ H D I h
 refine wpAny_execs_cons (wpAny_mono (h1 pins s σ H {D with nx:=u D} (I.wish _) h) (fun f s1 q=> ?_) fun _ _ z=>⟨X.fn,z⟩)
 have q:=q.jo
 cases f with
 | next=>
  obtain⟨σ',H',I',q⟩:=q
  exact h2 pins s1 σ' H' D I' q
 | ret v=>exact⟨X.fn,q⟩
 | brk=>exact⟨X.fn,q⟩
 | cont=>exact⟨X.fn,q⟩
end
theorem Tn{P:Program}{w:World}{K:Frag}{mg:Str→Option Value}{base:Heap}{N:List Str}{qual:Str}{scope:Scope}{f:Addr}{cd:Value}{A:Around}{outer:List PySem.Env}{s:Shared}{H:Hp}{E:XK}{W:aU}{ev:Value}{s':Shared}{g:Str→Bool}
  (h:gw (O_ (kJ (fX P w) P w K mg base N qual scope f cd A outer s H E) g) W ev s') (hE:∀C dx σ H',W C dx σ H'→E (.ref C) (some dx) H'):
  (kJ (fX P w) P w K mg base N qual scope f cd A outer s H E).xe ev s':=by
 obtain⟨e,C,dx,T,fl,pins,σ,H',rfl,I,x,hfl,fe,fT,hW⟩:=h
 show wpAny _ _ (leaving _ (.ref e)) _ _ s'
 refine Ft I.ok.frames I.stack rfl x hfl fun h2 T' hT k x'=> ?_
 have Yd:∀t,T=some t→H' t=none:=fun t z=>(fT t z).no
 have nT:s.heap.objs.size≤T':=by
  rcases hT with r | r
  ·exact(fT T' r).new
  ·exact Nat.le_trans I.sz r
 have fT':H' T'=none:=by
  rcases hT with r | r
  ·exact Yd T' r
  ·exact I.hok.fresh r
 have ok2:=uN I.hok k fe.no Yd I.tu
 have ne:∀b o,s.heap.get? b=some o→b≠e∧some b≠T:=fun b o q=>⟨fun z=>absurd (Nat.lt_of_lt_of_le (Heap.lt_size q) (z▸fe.new)) (Nat.lt_irrefl _),fun z=>absurd (Nat.lt_of_lt_of_le (Heap.lt_size q) (fT b z.symm).new) (Nat.lt_irrefl _)⟩
 have nL:∀b o,s.heap.get? b=some o→b≠s.heap.objs.size:=fun b o q=>Nat.ne_of_lt (Heap.lt_size q)
 refine⟨e,C,dx,T',H',rfl,I.os,I.bare,⟨fun b o q n hb _=> ?_,fun b o q n hb _=> ?_,fun b o q n _=>I.base.free b o q n (by simp[kJ]),fun b o q _=> ?_,I.base.tups,I.base.oU,I.base.pK⟩,ok2,x',fe.new,nT,fe.no,fT',hE C dx σ H' hW⟩
 ·obtain⟨n1,n2⟩:=ne b o q
  refine k.2.1 b o n1 n2 (fun z=> ?_) (I.base.keep b o q n hb (by simp[kJ]))
  rcases List.mem_cons.mp (I.wK b z)with y | y
  ·exact nL b o q y
  ·exact hb y
 ·obtain⟨n1,n2⟩:=ne b o q
  obtain⟨sl,q1⟩:=I.base.slot b o q n hb (by simp[kJ])
  obtain⟨sl2,q2⟩:=k.2.2 b _ n1 n2 q1
  exact⟨sl2,q2⟩
 ·obtain⟨n1,n2⟩:=ne b o q
  obtain⟨o1,q1⟩:=I.base.there b o q (by simp[kJ])
  obtain⟨sl2,q2⟩:=k.2.2 b _ n1 n2 q1
  exact⟨_,q2⟩
theorem T9{P:Program}{w:World}{K:Frag}{mg:Str→Option Value}{base:Heap}{k:Nat}{f:Addr}{name qual:Str}{params:Arguments}{body:List Stmt}{scope:Scope}{dV kV doc pm cdv ct oc:Value}{an od:Option Addr}
  {osl:Array (Option Value)} {N ps:List Str} {sp:Sp} (lk:K.lookup f=some ⟨oc,od,.func (fnOf name qual params body scope dV kV doc pm an cdv ct),osl⟩) (hcd:codeIn K cdv qual=true) (S:bf N ps scope)
  (len:∀vs H Q E,sp vs H Q E→vs.length=ps.length)
  (hbody:∀(A:Around) (outer:List PySem.Env) (s:Shared) (H:Hp) (vs:List V) (Q:VK) (E:XK),gF k (A.deeper (envOfC qual scope s.heap.objs.size f cdv))→sp vs H Q E→
   ∃t W,(∀C dx σ H',W C dx σ H'→E (.ref C) (some dx) H')∧Br (kJ (fX P w) P w K mg base N qual scope f cdv A outer s H E) W body t∧t {nx:=fun _ H'=>Q .non H',rt:=Q} (start N vs) H):
  aY P w K mg base (fX P w) (k+1) f (fnOf name qual params body scope dV kV doc pm an cdv ct) ps sp:=by
 refine⟨len,fun A outer s H args us vs Q E hr e0 hb r hsp=> ?_⟩
 have hl:=len _ _ _ _ hsp
 have KX:K.In s.heap:=e0.mod.Tu.keeps fun b o e=>(e0.bs b o e).1
 have lim:s.heap.NoLimit:=e0.mod.nolimit.keeps fun b o e=>(e0.bs b o e).1
 have hkind:∀y∈ps.zip us,scope.names.lookup y.1=some .local∨(scope.names.lookup y.1=some .cell∧((cellsFrom (s.heap.objs.size+1) scope.names []).lookup y.1).isSome=true):=fun⟨n,v⟩ hy=>by
  rcases S.par n (List.of_mem_zip hy).1 with q | q
  ·exact .inl q
  ·exact .inr ⟨q,PySem.W.cellsFrom_some _ _ _ (.inl q)⟩
 refine codeAny_call_function hr.depth (KX _ _ lk) rfl S.co S.gen rfl (PySem.W.codeRec_of KX hcd) (hb _ _ _ _ ?_)
 refine wpAny_newFunctionEnv_cells S.kind hkind fun env he s1 x=> ?_
 subst he
 refine⟨lim.keeps x.toInCall.keep,codeAny_func ?_⟩
 obtain⟨t,W,hE,ht,hq⟩:=hbody A outer s H vs Q E (hr.deeper _) hsp
 have I:L2.Inv (kJ (fX P w) P w K mg base N qual scope f cdv A outer s H E) [] (start N vs) H s1:=yX S hr.hd e0 hl r x
 refine wpAny_mono (ht [] s1 (start N vs) H _ I hq) (fun fl s' ⟨g,hs⟩=> ?_) fun e s' ⟨g,hs⟩=>Tn hs hE
 have fin:∀{σ':St} {H':Hp} {v:V} {u:Value},L2.Inv (O_ (kJ (fX P w) P w K mg base N qual scope f cdv A outer s H E) g) [] σ' H' s'→RelV v u→Q v H'→CE outer P w H s Q u s':=
  fun{σ' H' v u} J rv q=>⟨v,H',J.os,J.bare,J.base,J.hok,rv,q⟩
 cases fl with
 | ret u=>
  obtain⟨v,σ',H',J,rv,q⟩:=hs
  exact fin J rv q
 | next=>
  obtain⟨σ',H',J,q⟩:=hs
  exact fin (v:=V.non) (u:=Value.none) J rfl q
 | brk=>
  obtain⟨_,_,_,q⟩:=hs
  exact False.elim q
 | cont=>
  obtain⟨_,_,_,q⟩:=hs
  exact False.elim q
def Qg(X:Cx)(ct:Nat→Addr)(W:aU)(st:List Stmt)(m:MS):Prop:=Br X W st (tS X.K ct W m)
section
variable{X:Cx}{ct:Nat→Addr}{W:aU}{st:Stmt}{rest:List Stmt}{s t:MS}
theorem JC(g:Str→Bool)(hg:∀x,g x=true→X.fn x=true)(h:Ms ((O_ X g).wish (gw (O_ X g) W)) ct W rest t):Qg X ct W rest t:=Hq g hg h
theorem Br.imp{body:List Stmt}{a b:TS}(h:Br X W body a)(hi:∀T σ H,b T σ H→a T σ H):Br X W body b:=fun pins s σ H D I q=>h pins s σ H D I (hi D σ H q)
theorem dN(h1:SS (X.wish (gw X W)) ct W st s)(h2:Qg X ct W rest t):Qg X ct W (st::rest) (aQ s t):=Br.imp (Hr h1 h2) fun T σ H ⟨ι,e,M,w,p⟩=>by
 refine⟨ι,e,M,w,?_⟩
 unfold aQ at p
 cases z:s e M with
 | next e1 M1=>rw[z]at p;exact fun ι' σ' H' x w'=>⟨ι',e1,M1,w',rQ.ext p x⟩
 | _=>rw[z]at p;exact p
end
section
variable{P:Program}{w:World}{K:Frag}{mg:Str→Option Value}{base:Heap}{ct:Nat→Addr}
theorem Yl{n ar:Nat}{b:MS}{x qual:Str}{st:Stmt}{dV:Value}{f:Addr}{fd:FuncData}{N ps:List Str}{k:Nat}(F:cM K x qual st dV f fd)(S:bf N ps (au st))(hn:N.length=n)(har:ps.length=ar)
  (hbody:∀(cdv:Value) (A:Around) (outer:List PySem.Env) (s:Shared) (H:Hp) (E:XK) (W:aU),fd.code=cdv→gF k (A.deeper (envOfC qual (au st) s.heap.objs.size f cdv))→
   Qg (kJ (fX P w) P w K mg base N qual (au st) f cdv A outer s H E) ct W (aD st) b):
  aY P w K mg base (fX P w) (k+1) f fd ps (spS K ct (cG n b) ar):=by
 subst hn har
 obtain⟨oc,od,kV,doc,pm,an,cdv,ctv,osl,rfl,lk,hcd⟩:=F.ex
 refine aY.gc (sp:=fun vs H Q' E=>∃Q,spS K ct (cG N.length b) ps.length vs H Q E∧Q'=O9 H Q) (T9 lk hcd S (fun vs H Q E ⟨Q0,⟨ι,ds,M,hl,_,hd,_⟩,_⟩=>by rw[hd.length,hl]) fun A outer s H vs Q' E hr hsp=> ?_) fun vs H Q E q=>⟨Q,q,rfl⟩
 obtain⟨Q,⟨ι,ds,M,hl,R,hd,p⟩,rfl⟩:=hsp
 refine⟨_,fun C dx _ H'=>E (.ref C) (some dx) H',fun C dx σ H' z=>z,hbody cdv A outer s H E _ rfl hr,ι,slots N.length ds,M,Ws.start N R hd,?_⟩
 unfold cG at p
 cases z:b (slots N.length ds) M with
 | ret d M'=>rw[z]at p;exact fun ι' v H' x r q=> .inl (p ι' v H' x r q)
 | next e M'=>rw[z]at p;exact fun ι' σ' H' x w'=> .inl (p ι' .non H' x w'.rl .non)
 | exc c d e M'=>rw[z]at p;exact fun ι' σ' dx v H' x w' q1 q2=>p ι' dx v H' x w'.rl q1 q2
 | brk e M'=>rw[z]at p;exact p.elim
 | cont e M'=>rw[z]at p;exact p.elim
 | bad=>rw[z]at p;exact p.elim
end
theorem HY{P:Program}{w:World}{K:Frag}{mg mb:Str→Option Value}{CX:Fp}{k:Nat}{fa a:Addr}{fd:FuncData}{x:Str}{sp:Sp}{s₁:Shared}{vs:List Value}{ns:List Int}{tabs:List (Addr×Addr)}
  (KX:K.In s₁.heap) (hns:s₁.heap.Ns mainGlobals mg) (hb:s₁.heap.Ns builtinsNs mb) (hbb:∀x:Str,x≠ "__name__" → mb x=bootBuiltins x) (hlim:s₁.heap.NoLimit) (hg:s₁.gens= #[])
  (ha:s₁.heap.get? a=some {cls:= .type "list",data:= .seq vs.toArray}) (hi:IntsAre vs ns) (hl:ns.length≤sizeLine) (hr:gF k callerA)
  (hT:PySem.W.TabsAt tabs s₁.heap) (hKt:∀q∈tabs,K.lookup q.2=none) (hbi:∀q∈tabs,s₁.heap.BuiltinsAt mg q.2)
  (F:∀base:Heap,K.In base→base.Ns mainGlobals mg→(∀q∈tabs,PySem.W.CodeHd base q.1 q.2∧base.BuiltinsAt mg q.2)→aY P w K mg base CX k fa fd [x] sp) (hbind:∀(s:Shared) (u:Value),BindsTo s fd ⟨[u],[]⟩ [(x,u)])
  (hsp:∀H:Hp,(∀q∈tabs,H q.2=some (.pH #[]))→Mu K H a (ns.map V.int)→sp [.ref a] H (fun v _=>v= .bl true) fun _ _ _=>False)
  (hCX:∀H e s',CX [] H s₁ (fun _ _ _=>False) e s'→False):
  codeAny (model P w) callerA (.call (.ref fa) ⟨[.ref a],[]⟩) (fun r s'=>r= .ok (.ret (.bool true))∧OldK s₁.heap s'.heap∧s'.os=s₁.os∧AllBare s'.gens) s₁:=by
 have rv:=yM hi
 have lenV:=hi.length
 have core:∀H:Hp,(∀b,H b=none∨(b=a∧∃o xs,H b=some (.gZ o (.lst xs)))∨∃q∈tabs,b=q.2∧H b=some (.pH #[]))→(∀q∈tabs,H q.2=some (.pH #[]))→Mu K H a (ns.map V.int)→oY P w H s₁.heap→(H a≠none→K.lookup a=none)→
   codeAny (model P w) callerA (.call (.ref fa) ⟨[.ref a],[]⟩) (fun r s'=>r= .ok (.ret (.bool true))∧OldK s₁.heap s'.heap∧s'.os=s₁.os∧AllBare s'.gens) s₁:=by
  intro H hO hH hS hok hK
  have wF:∀{b:Addr} {o:Obj},s₁.heap.get? b=some o→H b=none→(xW s₁.heap H).get? b=some o:=fun e n=>KZ e n
  have noT:∀{b:Addr} {o:Obj},s₁.heap.get? b=some o→o.cls≠ .type "list" → o.cls≠ .none→H b=none:=fun{b o} e n1 n2=>by
   rcases hO b with z | ⟨rfl,_⟩ | ⟨q,hq,rfl,_⟩
   ·exact z
   ·rw[ha]at e;cases e;exact absurd rfl n1
   ·rw[(hT q hq).2]at e;cases e;exact absurd rfl n2
  have Ot:∀{b:Addr} {o:Obj} {es:Array DictEntry} {ep:Nat},s₁.heap.get? b=some o→o.data= .dict es ep→H b=none:=fun{b o es ep} e d=>by
   rcases hO b with z | ⟨rfl,_⟩ | ⟨q,hq,rfl,_⟩
   ·exact z
   ·rw[ha]at e;cases e
    have d':Data.seq vs.toArray _=Data.dict es ep:=d
    cases d'
   ·rw[(hT q hq).2]at e;cases e;cases d
  have nsK:∀{b:Addr} {m:Str→Option Value},s₁.heap.Ns b m→(xW s₁.heap H).Ns b m:=fun{b m} ⟨o,es,ep,e,d,r⟩=>⟨o,es,ep,wF e (Ot e d),d,r⟩
  have hKb:K.In (xW s₁.heap H):=fun b o e=>wF (KX b o e) (by
   rcases hO b with z | ⟨rfl,o2,xs,z⟩ | ⟨q,hq,rfl,_⟩
   ·exact z
   ·rw[hK (by rw[z];simp)]at e;cases e
   ·rw[hKt q hq]at e;cases e)
  have hTb:∀q∈tabs,PySem.W.CodeHd (xW s₁.heap H) q.1 q.2∧(xW s₁.heap H).BuiltinsAt mg q.2:=fun q hq=>by
   obtain⟨o,us,file,tf,flags,tg,inF,text,tt,e1,r1,r⟩:=(hT q hq).1
   obtain⟨bm,ob,b1,b2,b3,b4,b5,b6,r'⟩:=hbi q hq
   exact⟨⟨o,us,file,tf,flags,tg,inF,text,tt,wF e1 (noT e1 (by rw[r1];decide) (by rw[r1];decide)),r1,r⟩,bm,ob,b1,b2,b3,b4,wF b5 (noT b5 (by rw[b6];decide) (by rw[b6];decide)),b6,r'⟩
  have hM:Mod K mg (xW s₁.heap H):=⟨hKb,nsK hns,⟨mb,nsK hb,hbb⟩,let⟨mc,h1,h2⟩:=hlim;⟨mc,nsK h1,h2⟩⟩
  have e0:yq P w K mg (xW s₁.heap H) callerA [] s₁ H:=⟨rfl,hM,fun b o e=>Oq e,Nat.le_of_eq (Ii _ _),trivial,fun b hb=>absurd (show b∈([]:List Addr)from hb) (by simp),hok,.of_eq hg⟩
  refine codeAny_mono ((F _ hKb (nsK hns) hTb).run callerA [] s₁ H ⟨[.ref a],[]⟩ [.ref a] [.ref a] _ _ hr e0 (hbind s₁ (.ref a)) (.cons rfl .nil) (hsp H hH hS)) fun r s' h=> ?_
  cases r with
  | error e=>exact(hCX H e s' h).elim
  | ok fl=>
   cases fl with
   | next=>exact False.elim h
   | brk=>exact False.elim h
   | cont=>exact False.elim h
   | ret u=>
    obtain⟨v,H',os,bare,un,hok',r',q⟩:=h
    have q':v= .bl true:=q
    subst q'
    obtain rfl:u=Value.bool true:=r'
    have key:∀b o,s₁.heap.get? b=some o→s'.heap.get? b=some o∨∃q∈tabs,b=q.2∧∃more,s'.heap.get? b=some (PySem.W.tabObj (#[]++more)):=fun b o e=>by
     rcases hO b with z | ⟨rfl,ob,xs,z⟩ | ⟨q,hq,rfl,z⟩
     ·exact .inl (un.keep b o e z (by intro z;exact absurd (show b∈([]:List Addr)from z) (by simp)) (by simp))
     ·have z2:=un.oU b ob _ z
      obtain⟨e1,_⟩:=hok b _ z
      obtain⟨e2,_⟩:=hok' b _ z2
      rw[e]at e1;cases e1
      exact .inl e2
     ·obtain⟨more,z2⟩:=un.pK _ _ z
      exact .inr ⟨q,hq,rfl,more,hok' _ _ z2⟩
    refine⟨rfl,⟨fun b o e=> ?_,fun b o e=> ?_⟩,os,bare⟩
    ·rcases key b o e with z | ⟨q,hq,rfl,more,z⟩
     ·exact .inl z
     ·have e2:=(hT q hq).2
      rw[e]at e2;cases e2
      obtain⟨o,us,file,tf,flags,tg,inF,text,tt,e1,r1,r2,r3,r4⟩:=(hT q hq).1
      exact .inr (.inl ⟨⟨q.1,o,us,e1,r1,r2,r3⟩,rfl,#[],more,rfl,z⟩)
    ·rcases key b o e with z | ⟨q,hq,rfl,more,z⟩
     ·exact⟨_,z⟩
     ·exact⟨_,z⟩
 have aT:a∉tabs.map (·.2):=fun z=>by
  obtain⟨q,hq,e⟩:=List.mem_map.mp z
  have:=(hT q hq).2
  rw[e,ha]at this
  cases this
 have tH:∀{b:Addr},b∈tabs.map (·.2)→d8 P w (fun _=>none) s₁.heap b (.pH #[]):=fun{b} z=>by
  obtain⟨q,hq,rfl⟩:=List.mem_map.mp z
  exact(hT q hq).2
 cases hk:K.lookup a with
 | some o=>
  have e:=KX a o hk
  rw[ha]at e
  cases e
  refine core (fun b=>if b∈tabs.map (·.2)then some (.pH #[])else none) (fun b=> ?_) (fun q hq=>if_pos (List.mem_map_of_mem hq)) (.inr ⟨_,vs.toArray,_,hk,rfl,rfl,rfl,by rw[List.size_toArray,lenV];exact hl,by simpa using rv⟩) (fun b u z=> ?_) fun z=>absurd (if_neg aT) z
  ·by_cases hb:b∈tabs.map (·.2)
   ·obtain⟨q,hq,e⟩:=List.mem_map.mp hb
    exact .inr (.inr ⟨q,hq,e.symm,if_pos hb⟩)
   ·exact .inl (if_neg hb)
  ·by_cases hb:b∈tabs.map (·.2)
   ·have z':=(if_pos hb).symm.trans z
    cases z'
    exact tH hb
   ·have z':=(if_neg hb).symm.trans z
    cases z'
 | none=>
  refine core (fun b=>if b∈tabs.map (·.2)then some (.pH #[])else if b=a then some (.gZ {cls:= .type "list",data:= .seq vs.toArray} (.lst (ns.map V.int)))else none) (fun b=> ?_) (fun q hq=>if_pos (List.mem_map_of_mem hq)) (.inl ⟨{cls:= .type "list",data:= .seq vs.toArray},(if_neg aT).trans (if_pos rfl)⟩) (fun b u z=> ?_) fun _=>hk
  ·by_cases hb:b∈tabs.map (·.2)
   ·obtain⟨q,hq,e⟩:=List.mem_map.mp hb
    exact .inr (.inr ⟨q,hq,e.symm,if_pos hb⟩)
   ·by_cases hb2:b=a
    ·exact .inr (.inl ⟨hb2,_,_,(if_neg hb).trans (if_pos hb2)⟩)
    ·exact .inl ((if_neg hb).trans (if_neg hb2))
  ·by_cases hb:b∈tabs.map (·.2)
   ·have z':=(if_pos hb).symm.trans z
    cases z'
    exact tH hb
   ·by_cases hb2:b=a
    ·have z':=((if_neg hb).trans (if_pos hb2)).symm.trans z
     cases z'
     subst hb2
     exact⟨ha,by rw[List.length_map];exact hl,vs,_,rv,ha⟩
    ·have z':=((if_neg hb).trans (if_neg hb2)).symm.trans z
     cases z'
theorem De{p:Program}{loose:List Str}{mean:ExcName→Option Value}{mg mb:Str→Option Value}{h:Heap}{P:Addr}(T:PyProof.Rows.Top p loose mean mg mb h)(hP:h.get? P=some (PySem.W.tabObj #[])):h.BuiltinsAt mg P:=by
 obtain⟨bm,ob,b1,b2,b3,b4,b5,b6⟩:=T.bmain
 refine⟨bm,ob,b1,b2,fun q=> ?_,fun q=> ?_,b3,b4,b5,b6⟩
 ·obtain⟨o,es,ep,e,hd,_⟩:=T.g
  rw[q,e]at b3;cases b3;rw[hd]at b6;cases b6
 ·rw[q,hP]at b3;cases b3;cases b4
theorem MF{H:Hp}:TabOk H #[]:=⟨trivial,fun pos cv z=>by
 have:codeAmong pos []=none:=rfl
 rw[show(#[]:Array Value).toList=[]from rfl,this]at z
 cases z⟩
theorem Vv{l:PySem.W.OpenLaw}{q:Program}{loose:List Str}{XP:(Str→Option Value)→Heap→Prop}{YP:World→Heap→Prop}{d:DefRec}{K:Params→Frag}{x:Str}{k:Nat}(hn:l.most=some 63)(hdf:d.params.defaults=[])(hr:gF k callerA)
  (hY:∀(w:World) (h:Heap),YP w h→(K w.params).In h)
  (F:∀(w:World) (mg:Str→Option Value) (fa:Addr) (h:Heap),(K w.params).In h→h.Ns mainGlobals mg→mg d.name=some (.ref fa)→
   ∃(fd:FuncData) (tabs:List (Addr×Addr)) (ct:Nat→Addr),(∀(s:Shared) (u:Value),BindsTo s fd ⟨[u],[]⟩ [(x,u)])∧
    (∀z∈tabs,∃nm dd,PySem.W.tabIn (K w.params) nm=some z∧(recsOf q).find? (fun e=>e.name==nm)=some dd)∧(∀z∈tabs,(K w.params).lookup z.2=none)∧(∀k',1000≤k'→ct k'≠0→∃z∈tabs,ct k'=z.2)∧
    ∀base:Heap,(K w.params).In base→base.Ns mainGlobals mg→(∀z∈tabs,PySem.W.CodeHd base z.1 z.2∧base.BuiltinsAt mg z.2)→aY l.prog w (K w.params) mg base QW k fa fd [x] (Rf (K w.params) ct)):
  PySem.W.WalkO q loose XP YP l.row.toRowW d [] (fun f vs=>PySem.call f vs):=by
 refine Att.Dh hn hdf fun w s₀ s₁ mg mb fa o pm cd doc a vs ns G Y ho hd hcd hmg hobj hints hlen hg=> ?_
 have KX:=hY w _ Y
 obtain⟨fd,tabs,ct,hb,h1,h2,h3,hF⟩:=F w mg fa _ KX G.T.g hmg
 have hT:PySem.W.TabsAt tabs s₁.heap:=fun z hz=>by
  obtain⟨nm,dd,e1,e2⟩:=h1 z hz
  exact PySem.W.tab_of G.T KX e2 e1
 refine HY KX G.T.g G.T.b G.T.builtins G.T.nolimit hg hobj hints (Nat.le_trans hlen (by decide)) hr hT h2 (fun z hz=>De G.T (hT z hz).2) hF hb (fun H hH hS=>⟨a,ns,rfl,hS,hlen,fun k' hk hc=> ?_,fun _=>rfl⟩) fun _ _ _ z=>z
 obtain⟨z,hz,e⟩:=h3 k' hk hc
 exact⟨#[],by rw[e];exact hH z hz,MF⟩
structure QV(K:Frag)(C:Addr):Prop where
 makes:PySem.W.makesIn K C=true
 init:findIn K (.ref C) "__init__" = some (some (.builtin "object.__init__"))
 kp:keepIn K (.ref C)=true
def Fz(C:Addr):TE:=fun _ H Q=>∀x dx,H x=none→H dx=none→dx≠x→Q (.ref x) (upd (upd H dx (.own x)) x (.ins C dx []))
section
variable{X:Cx}{ct:Nat→Addr}{W:aU}{C:Addr}
theorem Eb{pins:List (Addr×Obj)}{σ:St}{H:Hp}{s:Shared}{Q:VK}(M:QV X.K C)(I:L2.Inv X pins σ H s)(h:Fz C σ H Q):wpAny (model X.prog X.w) X.A (call (.ref C) []) (EP X pins σ Q) X.xe s:=by
 have hq:=h (s.heap.objs.size+1) s.heap.objs.size (I.hok.fresh (Nat.le_succ _)) (I.hok.fresh (Nat.le_refl _)) (Nat.ne_of_lt (Nat.lt_succ_self _))
 have I2:=L2.Inv.made (C:=C) I
 have Y:=PySem.W.makes_of (M:=model X.prog X.w) I.su M.makes
 refine wpAny_call (HR I.su M.makes M.init (fun self=>PySem.W.Looks.of_pure (PySem.W.oi_bind self)) ?_)
 have g1:((s.heap.push PySem.W.emptyDict).push (PySem.W.instObj C s.heap.objs.size)).get? (s.heap.objs.size+1)=some (PySem.W.instObj C s.heap.objs.size):=by
  have:=Heap.get?_push_size (s.heap.push PySem.W.emptyDict) (o:=PySem.W.instObj C s.heap.objs.size) rfl
  rw[Heap.size_push]at this
  exact this
 have t1:PySem.W.Looks (model X.prog X.w) ((s.heap.push PySem.W.emptyDict).push (PySem.W.instObj C s.heap.objs.size)) (typeOf (.ref (s.heap.objs.size+1))) (.ref C):=(PySem.W.Looks.ld g1).andThen .now
 have t2:PySem.W.Looks (model X.prog X.w) ((s.heap.push PySem.W.emptyDict).push (PySem.W.instObj C s.heap.objs.size)) (isInstance (.ref (s.heap.objs.size+1)) (.type "object")) true:=t1.andThen (Y.top.keeps fun b o e=>Heap.get?_push_of_some _ (Heap.get?_push_of_some _ e))
 obtain⟨hh,g,d,t,os⟩:=s
 refine codeAny_call_builtin PySem.W.oi_plain PySem.W.entry_oi (@PySem.W.check_slot (model X.prog X.w) _ _ _ "object.__init__" "object" "__init__" (.ref (hh.objs.size+1)) [] [] _ PySem.W.oi_kind PySem.W.oi_split t2 (PySem.W.oi_args (.ref (hh.objs.size+1))) ?_)
 rw[PySem.W.oi_run]
 exact wpAny_pure (And.intro rfl ⟨V.ref (hh.objs.size+1),_,I2,rfl,hq⟩)
theorem Hw{x:Str}{p pos:Pos}(M:QV X.K C)(hg:Gl X x)(hm:X.mg x=some (.ref C))(hdb:(x==("__debug__" : Str))=false:=by decide):PE X (.Call (.Name x p) [] [] pos) (Fz C):=by
 intro pins s σ H Q I h
 refine wpAny_Call_Name_kw (wu I hg hm ?_ hdb)
 exact PySem.W.callWith_K0 I.su M.kp (Eb M I h)
def wj(c:Nat):ME:=fun _ M=> .ok (.ref M.length) (M++[.ins c []])
@[simp] theorem Tf{c:Nat}{e:Sl}{M:Mem}:wj c e M= .ok (.ref M.length) (M++[.ins c []]):=id rfl
theorem yP{kc:Nat}{x:Str}{p pos:Pos}(M:QV X.K (ct kc))(hg:Gl X x)(hm:X.mg x=some (.ref (ct kc)))(hdb:(x==("__debug__" : Str))=false:=by decide):SE X ct W (.Call (.Name x p) [] [] pos) (wj kc):=by
 refine eO (Hw M hg hm hdb) fun σ H Q ⟨ι,e,M,w,q⟩=>fun a dx ha hdx ne=> ?_
 have x1:Ext X.K ι M.length H ι M.length (upd H dx (.own a)):=Ext.fresh hdx
 have r1:Rl X.K ct ι M (upd H dx (.own a)):=w.rl.fresh hdx
 have ha':upd H dx (.own a) a=none:=by rw[aJ (Ne.symm ne)];exact ha
 have x2:Ext X.K ι M.length (upd H dx (.own a)) (jq ι M.length a) (M.length+1) (upd (upd H dx (.own a)) a (.ins (ct kc) dx [])):=Ext.new ha'
 have r2:Rl X.K ct (jq ι M.length a) (M++[MO.ins kc []]) (upd (upd H dx (.own a)) a (.ins (ct kc) dx [])):=r1.new ha' ⟨dx,[],aX,.nil⟩
 have el:(M++[MO.ins kc []]).length=M.length+1:=by simp
 refine q (jq ι M.length a) (.ref a) _ (by rw[el];exact x1.trans x2) r2 ?_
 have hd:jq ι M.length a M.length=a:=by unfold jq;rw[if_pos rfl]
 have:=DV.ref (K:=X.K) (ct:=ct) (ι:=jq ι M.length a) (n:=(M++[MO.ins kc []]).length) (H:=upd (upd H dx (.own a)) a (.ins (ct kc) dx [])) (i:=M.length) (by rw[el];exact Nat.lt_succ_self _)
 rw[hd]at this
 exact this
end
structure OIs(K:Frag)(C:Addr):Prop where
 cl:zA K C
 ha:findIn K (.ref C) "__class__" = some (some (.builtin "object.__class__"))
 hn:PySem.W.specialIn K (.builtin "object.__class__") "__get__" = some (some (.builtin "getset_descriptor.__get__"))
 tk:PySem.W.takesIn K (.builtin "object.__class__")=some true
 mr:PySem.W.mroIn K C (.type "object")=some true
def G7(K:Frag)(ct:Nat→Addr)(k:Nat):List (Nat×Bool)→Prop
 | []=>True
 | (c,b)::r=>(kitOne K (.ref (ct c)) (.ref (ct k))=some b∧OIs K (ct c))∧G7 K ct k r
theorem G7.get{K:Frag}{ct:Nat→Addr}{k:Nat}:∀{cl:List (Nat×Bool)} {c:Nat} {b:Bool},G7 K ct k cl→cl.lookup c=some b→kitOne K (.ref (ct c)) (.ref (ct k))=some b∧OIs K (ct c)
 | [],_,_,_,e=>by cases e
 | (c',b')::r,c,b,h,e=>by
  rw[List.lookup_cons]at e
  cases z:c==c' with
  | true=>rw[z]at e;cases e;rw[eq_of_beq z];exact h.1
  | false=>rw[z]at e;exact G7.get h.2 e
def J1:V→List V→Hp→VK→Prop:=fun x vs H Q=>∃l xs y,x= .ref l∧vs=[.int 0,y]∧H l=some (.lst xs)∧xs.length<sizeLine∧Q .non (upd H l (.lst (y::xs)))
theorem El{X:Cx}:MtM X "list.insert" J1:=by
 intro pins s σ H x vs v us Q I rx rv h
 obtain⟨l,xs,y,rfl,rfl,hH,hz,q⟩:=h
 cases rx
 cases rv with
 | cons r0 rv=>
  obtain⟨t,rfl⟩:=r0
  obtain⟨u,rfl,ru⟩:=Vals.one rv
  obtain⟨z,its,n,r,hl,e⟩:=I.HW hH
  refine call_meets F.slot_list_insert ⟨_,e,rfl⟩ F.entry_list_insert (F.args_list_insert_3 _ _ _) (PySem.AutoListH.list_insert_list_int_val_1 l its.toArray n 0 t u (by decide) (by rw[List.size_toArray];omega)) ⟨e,?_⟩
  refine⟨.non,_,I.Ti (its':=u::its) hH e (by simp) (.cons ru r) ?_,rfl,q⟩
  rw[List.length_cons]
  omega
def qZ:D→List D→Mem→Out D:=fun d ds M=>match d,ds with
 | .ref n,[.int 0,x]=>match M[n]? with
  | some (.lst es)=>if es.length<sizeLine then .ok .non (M.set n (.lst (x::es)))else .bad
  | _=> .bad
 | _,_=> .bad
theorem HQ{X:Cx}{ct:Nat→Addr}:MtS X ct "list" "list.insert" qZ:=by
 refine⟨_,El,fun ι M H d ds v vs Q R q qs p=> ?_⟩
 unfold qZ at p
 split at p
 ·rename_i n x
  obtain⟨hn,rfl⟩:=nq q
  obtain⟨v0,y,rfl,q0,qy⟩:=Pj qs
  cases nu q0
  split at p
  ·rename_i es e1
   split at p
   ·rename_i hz
    obtain⟨xs,hH,hd⟩:=R.obj n _ e1
    have x2:Ext X.K ι M.length H ι M.length (upd H (ι n) (.lst (y::xs))):=Ext.chg hH (fun _ z=>nomatch z) (fun _ _ z=>nomatch z)
    refine⟨_,xs,y,rfl,rfl,hH,by rw[hd.length];exact hz,?_⟩
    refine p ι .non _ (by rw[List.length_set];exact x2) (R.chg hn hH (fun _ z=>nomatch z) (fun _ _ z=>nomatch z) ⟨_,aX,(j9.cons qy hd).mono x2⟩) .non
   ·exact p.elim
  ·exact p.elim
 ·exact p.elim
theorem Tt{p x y:Str}(h:List.lookup y [(p,NameKind.local),(x,NameKind.free)]=some NameKind.free):y=x:=by
 rw[List.lookup_cons]at h
 cases z:y==p with
 | true=>rw[z]at h;cases h
 | false=>
  rw[z]at h
  have h:List.lookup y [(x,NameKind.free)]=some NameKind.free:=h
  rw[List.lookup_cons]at h
  cases z2:y==x with
  | true=>exact eq_of_beq z2
  | false=>rw[z2]at h;cases h
theorem Tr{a b:Nat}:a≤a+1+b:=Nat.le_trans (Nat.le_succ _) (Nat.le_add_right _ _)
theorem Ox{α:Type}{us:List α}(h:us.length=6):∃a b c d e f,us=[a,b,c,d,e,f]:=match us,h with | [a,b,c,d,e,f],_=>⟨a,b,c,d,e,f,rfl⟩
theorem Q6{K:Frag}{x:Str}{f c P:Addr}{oc oc2:Value}{od od2:Option Addr}{fd:FuncData}{sl sl2:Array (Option Value)}{vs:Array Value}(h1:nsIn K mainGlobals x=some (some (.ref f)))(h2:K.lookup f=some ⟨oc,od,.func fd,sl⟩)(h3:fd.code= .ref c)
  (h4:K.lookup c=some ⟨oc2,od2,.fields vs,sl2⟩) (h5:vs[11]? = some (.ref P)):PySem.W.tabIn K x=some (c,P):=by
 unfold PySem.W.tabIn
 rw[h1]
 simp only[h2,h3,h4,h5]
end S
set_option Elab.async false
set_option maxHeartbeats 0
set_option maxRecDepth 100000
set_option linter.all false
namespace My
open PySem L2 S
def qi:MS:=
 (qD (bN (aL Ni (aq 1) (sV vL (ao (aq 0) aH)))) (fY (aL j8 (aq 0) (aq 1))) cV)
def aN:MS:=
 (aQ qi
 (fY (mC (.int 0))))
def aR:Fn:=cG 2 aN
def lR:MS:=
 (qD (bN (aL sEq (aL fW (aq 0) (mC (.int 4))) (mC (.int 0)))) (d_ (jK (ao (mC (.str "start")) aH)) (gN 4)) cV)
def eN:MT:=
 (HS (bN (aL Ni (sV vL (ao (aq 2) aH)) (aq 3))) (bN (aL Hj (aq 1) (mC (.int 0)))))
def ig:MS:=
 (aQ (d_ (jK (ao (mC (.str "ask")) (ao (aL vK (aL fW (aq 0) (mC (.int 7))) (mC (.int 3))) (ao (sV vL (ao (aq 2) aH)) (ao (jK (ao (mC (.str "add")) (ao (mC (.str "ab")) (ao (aL fW (aq 0) (mC (.int 5))) aH)))) aH))))) (gN 4))
 (aQ lR
 (aQ (wZ (mBM "list" qZ (aq 2) (ao (mC (.int 0)) (ao (jK (ao (aq 1) (ao (aq 4) aH))) aH))))
 (aQ (d_ (aL vK (aq 1) (aL fW (aq 0) (mC (.int 3)))) (gN 1))
 (d_ (aL o6 (aq 0) (mC (.int 3))) (gN 0))))))
def pZ:MS:=
 (wX eN ig)
def fO:MS:=
 (aQ (d_ (kE aH) (gN 2))
 (aQ (d_ (aL vK (aq 1) (aL fW (aq 0) (mC (.int 2)))) (gN 1))
 (aQ (d_ (aL fW (aL o6 (aq 0) (mC (.int 2))) (mC (.int 5))) (gN 3))
 (aQ (d_ (aL o6 (aq 0) (mC (.int 10))) (gN 0))
 (aQ pZ
 (fY (aq 2)))))))
def kW:Fn:=cG 5 fO
def jk:MS:=
 (qD (bN (aL sEq (aL fW (aL o6 (aq 3) (mC (.int 9))) (mC (.int 4))) (mC (.int 1)))) (d_ (aL fW (gh aR 2 [] (ao (aq 0) (ao (mC (.int 7)) aH))) (aL zX (mC (.int 10)) (mC (.int 9)))) (gN 5)) cV)
def jj:MS:=
 (qD (bN (aL sEq (aL fW (aL o6 (aq 3) (mC (.int 9))) (mC (.int 4))) (mC (.int 2)))) (d_ (aq 1) (gT 2 (kI (gN 4) (kI (gN 5) yZ)))) cV)
def gj:MS:=
 (qD (Vn (bN (aL Ni (aq 4) (mC (.int 1)))) (bN (aL Ni (aq 5) (mC (.int 1))))) (fY (jK (ao (mC (.int 0)) (ao (mC (.int 0)) aH)))) cV)
def cI:MS:=
 (aQ (d_ (gh aR 2 [] (ao (aq 0) (ao (mC (.int 6)) aH))) (gN 3))
 (aQ (d_ (aL vK (aL vM (aL j8 (aq 1) (mC (.int 0))) (aL fW (aq 3) (mC (.int 3)))) (mC (.int 1))) (gN 4))
 (aQ (d_ (aL vK (aL vM (aL j8 (aq 1) (mC (.int 1))) (aL fW (aL o6 (aq 3) (mC (.int 3))) (mC (.int 3)))) (mC (.int 1))) (gN 5))
 (aQ jk
 (aQ jj
 (aQ (d_ (sV Ca (ao (aq 4) (ao (aL vK (aq 2) (mC (.int 1))) aH))) (gN 4))
 (aQ gj
 (fY (jK (ao (aq 4) (ao (aq 5) aH)))))))))))
def gb:Fn:=cG 6 cI
def i_:MS:=
 (aQ (eZ [4] (aq 0) (aq 1) "base")
 (aQ (eZ [4] (aq 0) (aq 2) "base_term")
 (aQ (eZ [4] (aq 0) (aq 3) "base_roll")
 (eZ [4,5,11] (aq 0) (sV u_ (ao (aq 4) aH)) "kept"))))
def mX:Fn:=cG 5 i_
def iY:MS:=
 (fY (t6 4 mX 5 [] (ao (dD [4] (aq 0) "base") (ao (dD [4] (aq 0) "base_term") (ao (dD [4] (aq 0) "base_roll") (ao (dD [4,5,11] (aq 0) "kept") aH))))))
def mW:Fn:=cG 1 iY
def jc:MS:=
 (aQ (eZ [5,11] (aq 0) (aq 1) "term")
 (aQ (eZ [5,11] (aq 0) (aq 2) "vote")
 (aQ (eZ [5,11] (aq 0) (jm 4 "twin" mW 1 [] (aq 3) aH) "row")
 (eZ [4,5,11] (aq 0) (aq 4) "kept"))))
def n_:Fn:=cG 5 jc
def g_:MS:=
 (aQ (eZ [10] (aq 0) Gn "amounts")
 (eZ [10] (aq 0) Gn "answered"))
def mG:Fn:=cG 1 g_
def zH:MS:=
 (Ea (dD [10] (aq 1) "amounts") (aq 2) (aq 3))
def uh:MS:=
 (JR (Gm (aL j8 (aq 0) (mC (.int 0)))) (gT 2 (kI (gN 2) (kI (gN 3) yZ))) zH)
def zG:MS:=
 (Ea (dD [10] (aq 1) "answered") (jK (ao (aq 4) (ao (aq 5) aH))) (aq 6))
def ug:MS:=
 (JR (Gm (aL j8 (aq 0) (mC (.int 1)))) (gT 3 (kI (gN 4) (kI (gN 5) (kI (gN 6) yZ)))) zG)
def jL:MS:=
 (aQ (d_ (t6 10 mG 1 [] aH) (gN 1))
 (aQ uh
 (aQ ug
 (fY (aq 1)))))
def pP:Fn:=cG 7 jL
def jb:MS:=
 (aQ (eZ [11] (aq 0) (aq 1) "me")
 (aQ (eZ [11] (aq 0) (aq 3) "note")
 (aQ (eZ [5,11] (aq 0) (dD [5,11] (aq 2) "term") "term")
 (aQ (eZ [5,11] (aq 0) (dD [5,11] (aq 2) "vote") "vote")
 (aQ (eZ [5,11] (aq 0) (jm 4 "twin" mW 1 [] (dD [5,11] (aq 2) "row") aH) "row")
 (aQ (eZ [4,5,11] (aq 0) (dD [4,5,11] (aq 2) "kept") "kept")
 (aQ (eZ [11] (aq 0) (dD [4] (dD [5,11] (aq 0) "row") "base") "settled")
 (aQ (eZ [11] (aq 0) (dD [4] (dD [5,11] (aq 0) "row") "base") "done")
 (aQ (eZ [11] (aq 0) (gh pP 1 [] (ao (dD [4,5,11] (aq 2) "kept") aH)) "shelf")
 (aQ (eZ [11] (aq 0) (mC .non) "chair")
 (eZ [11] (aq 0) (wj 7) "seat")))))))))))
def n8:Fn:=cG 4 jb
def oE:MS:=
 (qD (bN (aL Ni (aq 4) (aq 2))) (fY (jK (ao (kE (ao (jK (ao (mC (.str "late")) (ao (aq 0) (ao (aq 1) (ao (aq 2) aH))))) aH)) (ao (kE aH) (ao (kE (ao (aq 2) (ao (aq 3) (ao (mC .non) aH)))) aH))))) cV)
def oA:MS:=
 (qD (bN (aL Hj (aq 4) (aq 2))) (d_ (mC .non) (gN 3)) cV)
def qL:MS:=
 (qD (HS (bN (aL Vi (aq 3) (mC .non))) (bN (aq 5))) (aQ (d_ (aq 1) (gN 3))
 (d_ (kE (ao (jK (ao (mC (.str "vote")) (ao (aq 0) (ao (aq 4) (ao (aq 1) aH))))) aH)) (gN 6))) cV)
def ou:MS:=
 (qD (bN (aL sEq (aq 3) (aq 1))) (fY (jK (ao (kE (ao (jK (ao (mC (.str "vote")) (ao (aq 0) (ao (aq 1) (ao (aq 4) aH))))) aH)) (ao (aq 6) (ao (kE (ao (aq 4) (ao (aq 3) (ao (mC .non) aH)))) aH))))) cV)
def jl:MS:=
 (aQ oE
 (aQ oA
 (aQ (d_ (kE aH) (gN 6))
 (aQ qL
 (aQ ou
 (fY (jK (ao (kE aH) (ao (aq 6) (ao (kE (ao (aq 4) (ao (aq 3) (ao (mC .non) aH)))) aH))))))))))
def mK:Fn:=cG 7 jl
def fM(m:Fn):MS:=
 (qD (bN (aL Vi (aq 1) (mC .non))) (fY (aL Vi (aq 0) (mC .non))) cV)
def iG(m:Fn):MS:=
 (qD (bN (sV fZ (ao (aq 1) (ao (mC (.ty "bool")) aH)))) (fY (xO (sV fZ (ao (aq 0) (ao (mC (.ty "bool")) aH))) (aL sEq (aq 0) (aq 1)))) cV)
def jx(m:Fn):MS:=
 (qD (bN (sV fZ (ao (aq 1) (ao (mC (.ty "int")) aH)))) (fY (xO (sV fZ (ao (aq 0) (ao (mC (.ty "int")) aH))) (xO (Kv (sV fZ (ao (aq 0) (ao (mC (.ty "bool")) aH)))) (aL sEq (aq 0) (aq 1))))) cV)
def kZ(m:Fn):MS:=
 (qD (bN (sV fZ (ao (aq 1) (ao (mC (.ty "str")) aH)))) (fY (xO (sV fZ (ao (aq 0) (ao (mC (.ty "str")) aH))) (aL sEq (aq 0) (aq 1)))) cV)
def oK(m:Fn):MS:=
 (qD (Vn (bN (aL sNe (sV fZ (ao (aq 1) (ao (mC (.ty "tuple")) aH))) (sV fZ (ao (aq 0) (ao (mC (.ty "tuple")) aH))))) (bN (aL sNe (sV fZ (ao (aq 1) (ao (mC (.ty "list")) aH))) (sV fZ (ao (aq 0) (ao (mC (.ty "list")) aH)))))) (fY (mC (.bl false))) cV)
def oJ(m:Fn):MS:=
 (qD (bN (aL sNe (sV vL (ao (aq 0) aH)) (sV vL (ao (aq 1) aH)))) (fY (mC (.bl false))) cV)
def a_(m:Fn):MS:=
 (aQ (fM m)
 (aQ (iG m)
 (aQ (jx m)
 (aQ (kZ m)
 (aQ (oK m)
 (aQ (oJ m)
 (fY (sV Ho (ao (Gp [0,1] (Gk (ao (sV vL (ao (aq 1) aH)) aH)) Ow (gh m 2 [] (ao (aL j8 (aq 1) (aq 0)) (ao (aL j8 (aq 2) (aq 0)) aH)))) aH)))))))))
def iR:Fn:=fuel (fun m=>cG 2 (a_ m)) 8
def lz:MS:=
 (qD (bN (aL sIn (aL j8 (aq 1) (mC (.int 0))) (jK (ao (mC (.str "please")) (ao (mC (.str "tell")) (ao (mC (.str "whole")) aH)))))) (fY (kE (ao (jK (ao (mC (.str "late")) (ao (dD [11] (aq 0) "me") (ao (aL j8 (aq 1) (mC (.int 1))) (ao (dD [5,11] (aq 0) "term") aH))))) aH))) cV)
def cj:MS:=
 (aQ lz
 (fY (kE aH)))
def gY:Fn:=cG 2 cj
def ie:MS:=
 (aQ (eZ [5,11] (aq 0) (aq 1) "term")
 (aQ (eZ [5,11] (aq 0) (mC .non) "vote")
 (aQ (eZ [11] (aq 0) (mC .non) "chair")
 (eZ [11] (aq 0) (wj 7) "seat"))))
def mH:Fn:=cG 2 ie
def h_:MS:=
 (fY (aL vM (dD [4] (aq 0) "base") (sV vL (ao (dD [4,5,11] (aq 0) "kept") aH))))
def kj:Fn:=cG 1 h_
def iZ:MS:=
 (fY (xO (aL Ni (dD [4] (aq 0) "base") (aq 1)) (aL Nk (aq 1) (jm 4 "last" kj 1 [] (aq 0) aH))))
def n6:Fn:=cG 2 iZ
def o_:MS:=
 (qD (Ep (bN (jm 4 "keeps" n6 2 [] (aq 0) (ao (aq 1) aH)))) Hl cV)
def d7:MS:=
 (aQ o_
 (fY (aL j8 (dD [4,5,11] (aq 0) "kept") (aL vK (aL vK (aq 1) (dD [4] (aq 0) "base")) (mC (.int 1))))))
def jV:Fn:=cG 2 d7
def lU:MS:=
 (qD (bN (aL sEq (aq 1) (dD [4] (aq 0) "base"))) (fY (dD [4] (aq 0) "base_term")) cV)
def dJ:MS:=
 (aQ lU
 (fY (aL j8 (jm 4 "entry_at" jV 2 [] (aq 0) (ao (aq 1) aH)) (mC (.int 0)))))
def iC:Fn:=cG 2 dJ
def jO:MS:=
 (fY (jK (ao (jm 4 "term_at" iC 2 [] (aq 0) (ao (jm 4 "last" kj 1 [] (aq 0) aH) aH)) (ao (jm 4 "last" kj 1 [] (aq 0) aH) aH))))
def o8:Fn:=cG 1 jO
def lZ:MS:=
 (qD (bN (aL D_ (aq 2) (mC .non))) (wZ (Er (aq 2) (ao (aq 1) aH))) cV)
def cJ:MS:=
 (aQ (d_ (dD [11] (aq 0) "note") (gN 2))
 lZ)
def iH:Fn:=cG 3 cJ
def cU:MS:=
 (aQ (eZ [5,11] (aq 0) (aq 1) "vote")
 (wZ (jm 11 "tell_paper" iH 2 [] (aq 0) (ao (jK (ao (mC (.str "vote")) (ao (dD [11] (aq 0) "me") (ao (dD [5,11] (aq 0) "term") (ao (aq 1) aH))))) aH))))
def ji:Fn:=cG 2 cU
def fB:MS:=
 (qD (HS (bN (aL Vi (dD [5,11] (aq 0) "vote") (mC .non))) (bN (aL Vh (jm 4 "end" o8 1 [] (dD [5,11] (aq 0) "row") aH) (aq 2)))) (wZ (jm 11 "give_vote" ji 2 [] (aq 0) (ao (aq 1) aH))) cV)
def fu:MS:=
 (qD (bN (aL sNe (dD [5,11] (aq 0) "vote") (aq 1))) (fY (kE aH)) cV)
def bC:MS:=
 (aQ fB
 (aQ fu
 (fY (kE (ao (jK (ao (mC (.str "vote")) (ao (dD [11] (aq 0) "me") (ao (aq 1) (ao (dD [5,11] (aq 0) "term") aH))))) aH)))))
def cR:Fn:=cG 3 bC
def lg:MS:=
 (qD (bN (aL sNe (aL j8 (aq 1) (mC (.int 2))) (dD [11] (aq 0) "me"))) Hl cV)
def k_:MS:=
 (qD (bN (aL Ni (aL j8 (aq 1) (mC (.int 3))) (dD [5,11] (aq 0) "term"))) (fY (jm 11 "answer_late" gY 2 [] (aq 0) (ao (aq 1) aH))) cV)
def oO:MS:=
 (qD (bN (aL Hj (aL j8 (aq 1) (mC (.int 3))) (dD [5,11] (aq 0) "term"))) (wZ (jm 11 "enter" mH 2 [] (aq 0) (ao (aL j8 (aq 1) (mC (.int 3))) aH))) cV)
def oN:MS:=
 (qD (bN (aL sEq (aL j8 (aq 1) (mC (.int 0))) (mC (.str "please")))) (fY (jm 11 "take_please" cR 3 [] (aq 0) (ao (aL j8 (aq 1) (mC (.int 1))) (ao (aL j8 (aq 1) (mC (.int 4))) aH)))) cV)
def yG:MS:=
 (qD (bN (aL sEq (aL j8 (aq 1) (mC (.int 0))) (mC (.str "vote")))) Hl cV)
def yF:MS:=
 (qD (bN (aL sEq (aL j8 (aq 1) (mC (.int 0))) (mC (.str "told")))) Hl cV)
def fH:MS:=
 (aQ lg
 (aQ k_
 (aQ oO
 (aQ oN
 (aQ yG
 (aQ yF
 (aQ Hl
 (fY (kE aH)))))))))
def jM:Fn:=cG 2 fH
def fP:MS:=
 (fY (mC (.str "sits")))
def kY:Fn:=cG 1 fP
def dM:MS:=
 (fY (sV u_ (ao (dD [4,5,11] (aq 0) "kept") aH)))
def jw:Fn:=cG 1 dM
def t7:MS:=
 (qD (HS (bN (aL sEq (aL fW (gh aR 2 [] (ao (aq 0) (ao (mC (.int 5)) aH))) (mC (.int 3))) (mC (.int 1)))) (bN (aL Hj (aq 3) (mC (.int 1))))) (aQ (d_ (aL vM (mC (.int 1)) (aL fW (aL o6 (gh aR 2 [] (ao (aq 0) (ao (mC (.int 5)) aH))) (mC (.int 3))) (mC (.int 999999)))) (gN 6))
 (d_ (mC (.int 1)) (gN 7))) cV)
def wC:MS:=
 (qD (bN (aL sNe (aq 5) (kE aH))) (d_ (jK (ao (aL j8 (aL j8 (aq 5) (mUn Rk (mC (.int 1)))) (mC (.int 0))) (ao (aL vM (aq 6) (sV vL (ao (aq 5) aH))) aH))) (gN 8)) cV)
def wB:MS:=
 (qD (bN (aL sEq (aL fW (gh aR 2 [] (ao (aq 0) (ao (mC (.int 8)) aH))) (mC (.int 4))) (mC (.int 3)))) (d_ (aL vM (aL vM (aq 3) (mC (.int 1))) (aL fW (aL o6 (gh aR 2 [] (ao (aq 0) (ao (mC (.int 8)) aH))) (mC (.int 4))) (aL zX (mC (.int 10)) (mC (.int 40))))) (gN 9)) cV)
def Gy:MS:=
 (qD (Ep (bN (gh iR 2 [] (ao (jm 11 "take" jM 2 [] (aq 13) (ao (jK (ao (mC (.str "please")) (ao (aq 2) (ao (aq 1) (ao (aq 9) (ao (aq 10) aH)))))) aH)) (ao (aq 14) aH))))) (fY (mC (.bl false))) cV)
def Gx:MS:=
 (qD (Vn (Ep (bN (gh iR 2 [] (ao (aq 12) (ao (aq 15) aH))))) (Ep (bN (gh iR 2 [] (ao (kE (ao (dD [5,11] (aq 13) "term") (ao (dD [5,11] (aq 13) "vote") (ao (dD [11] (aq 13) "chair") aH)))) (ao (aq 16) aH)))))) (fY (mC (.bl false))) cV)
def Gw:MS:=
 (qD (Vn (bN (aL sNe (jm 7 "word" kY 1 [] (dD [11] (aq 13) "seat") aH) (mC (.str "sits")))) (Ep (bN (gh iR 2 [] (ao (jm 4 "entries" jw 1 [] (dD [5,11] (aq 13) "row") aH) (ao (aq 5) aH)))))) (fY (mC (.bl false))) cV)
def vQ:MS:=
 (aQ Gy
 (aQ Gx
 Gw))
def GC:MS:=
 (JR (Gk (ao (mC (.int 2)) aH)) (gN 17) vQ)
def zy:MS:=
 (aQ (d_ (aL fW (gh aR 2 [] (ao (aq 0) (ao (mC (.int 0)) aH))) (mC (.int 60))) (gN 1))
 (aQ (d_ (aL fW (aL vM (aL vM (aq 1) (mC (.int 1))) (aL fW (gh aR 2 [] (ao (aq 0) (ao (mC (.int 1)) aH))) (mC (.int 59)))) (mC (.int 60))) (gN 2))
 (aQ (d_ (aL fW (gh aR 2 [] (ao (aq 0) (ao (mC (.int 2)) aH))) (aL zX (mC (.int 10)) (mC (.int 40)))) (gN 3))
 (aQ (d_ (aL j8 (kE (ao (mC .non) (ao (mC .non) (ao (aq 2) (ao (aL fW (aL o6 (gh aR 2 [] (ao (aq 0) (ao (mC (.int 3)) aH))) (mC (.int 4))) (mC (.int 60))) aH))))) (aL fW (gh aR 2 [] (ao (aq 0) (ao (mC (.int 3)) aH))) (mC (.int 4)))) (gN 4))
 (aQ (d_ (gh kW 2 [] (ao (gh aR 2 [] (ao (aq 0) (ao (mC (.int 4)) aH))) (ao (aq 3) aH))) (gN 5))
 (aQ (d_ (mC (.int 0)) (gN 6))
 (aQ (d_ (mC (.int 0)) (gN 7))
 (aQ t7
 (aQ (d_ (jK (ao (aq 7) (ao (aq 6) aH))) (gN 8))
 (aQ wC
 (aQ (d_ (sV Cd (ao (mC (.int 1)) (ao (aL vK (aL vM (aq 3) (aL fW (gh aR 2 [] (ao (aq 0) (ao (mC (.int 8)) aH))) (mC (.int 4)))) (mC (.int 1))) aH))) (gN 9))
 (aQ wB
 (aQ (d_ (gh gb 3 [] (ao (aq 0) (ao (aq 8) (ao (aq 9) aH)))) (gN 10))
 (aQ (d_ (t6 5 n_ 5 [] (ao (aq 3) (ao (aq 4) (ao (t6 4 mX 5 [] (ao (aq 6) (ao (aq 7) (ao (jK (ao (mC (.int 7)) (ao (mC (.int 0)) aH))) (ao (sV u_ (ao (aq 5) aH)) aH))))) (ao (jK (ao (jK aH) (ao (jK aH) aH))) aH))))) (gN 11))
 (aQ (d_ (kE aH) (gN 12))
 (aQ (d_ (t6 11 n8 4 [] (ao (aq 1) (ao (aq 11) (ao (Kw 12) aH)))) (gN 13))
 (aQ (d_ (gh mK 6 [] (ao (aq 1) (ao (aq 2) (ao (aq 3) (ao (aq 4) (ao (aq 9) (ao (aL Vh (aq 8) (aq 10)) aH))))))) (gT 3 (kI (gN 14) (kI (gN 15) (kI (gN 16) yZ)))))
 (aQ GC
 (aQ (d_ (kE (ao (dD [5,11] (aq 11) "term") (ao (dD [5,11] (aq 11) "vote") (ao (dD [4] (dD [5,11] (aq 11) "row") "base") (ao (jm 4 "entries" jw 1 [] (dD [5,11] (aq 11) "row") aH) aH))))) (gN 18))
 (fY (gh iR 2 [] (ao (aq 18) (ao (kE (ao (aq 3) (ao (aq 4) (ao (aq 6) (ao (aq 5) aH))))) aH)))))))))))))))))))))))
def Ks:Fn:=cG 19 zy
def Gr(M M':Mem):Prop:=∀(i:Nat) (o:MO),M[i]? = some o→M'[i]? = some o
theorem Gr.refl{M:Mem}:Gr M M:=fun _ _ h=>h
theorem Gr.trans{M M1 M2:Mem}(a:Gr M M1)(b:Gr M1 M2):Gr M M2:=fun i o h=>b i o (a i o h)
theorem Gr.app{M:Mem}{xs:List MO}:Gr M (M++xs):=fun i o h=>by
 rw[List.getElem?_append_left (List.getElem?_eq_some_iff.mp h).1];exact h
theorem j_{M:Mem}{i:Nat}{o:MO}(h:M[i]? = some o):i<M.length:=(List.getElem?_eq_some_iff.mp h).1
theorem cA{M:Mem}{o:MO}:(M++[o])[M.length]? = some o:=by simp
theorem get_set{M:Mem}{n:Nat}{o x:MO}(h:M[n]? = some o):(M.set n x)[n]? = some x:=List.getElem?_set_self (j_ h)
theorem aF{M:Mem}{n i:Nat}{x:MO}(h:n≠i):(M.set n x)[i]? = M[i]? := List.getElem?_set_ne h
theorem Gr.len{M M':Mem}(g:Gr M M'):M.length≤M'.length:=by
 rcases Nat.eq_zero_or_pos M.length with z | z
 ·omega
 ·have h:M[M.length - 1]? = some M[M.length - 1]:=List.getElem?_eq_getElem (by omega)
  have:=j_ (g _ _ h)
  omega
theorem pQ{M0 M:Mem}{r:Nat}{o:MO}(g:Gr M0 M)(h:M0.length≤r):Gr M0 (M.set r o):=fun i q hq=>by
 have:=j_ hq
 rw[List.getElem?_set_ne (by omega)]
 exact g i q hq
inductive rC (M:Mem):Nat→D→D→Prop
 | non {k:Nat}:rC M (k+1) .non .non
 | bl {k:Nat} (b:Bool):rC M (k+1) (.bl b) (.bl b)
 | int {k:Nat} (i:Int):rC M (k+1) (.int i) (.int i)
 | str {k:Nat} (x:Str):rC M (k+1) (.str x) (.str x)
 | tup {k:Nat} {ds ds':List D}:ds.length=ds'.length→ds.length≤1000→(∀(i:Nat) (d d':D),ds[i]? = some d→ds'[i]? = some d'→rC M k d d')→rC M (k+1) (.tup ds) (.tup ds')
 | lst {k n m:Nat} {ds ds':List D}:M[n]? = some (.lst ds)→M[m]? = some (.lst ds')→ds.length=ds'.length→ds.length≤1000→(∀(i:Nat) (d d':D),ds[i]? = some d→ds'[i]? = some d'→rC M k d d')→rC M (k+1) (.ref n) (.ref m)
theorem rC.gr{M M':Mem}(g:Gr M M'){k:Nat}{d d':D}(h:rC M k d d'):rC M' k d d':=by
 induction h with
 | non=>exact .non
 | bl b=>exact .bl b
 | int i=>exact .int i
 | str x=>exact .str x
 | tup h1 h2 _ ih=>exact .tup h1 h2 ih
 | lst a b h1 h2 _ ih=>exact .lst (g _ _ a) (g _ _ b) h1 h2 ih
theorem rC.up{M:Mem}{k:Nat}{d d':D}(h:rC M k d d'):rC M (k+1) d d':=by
 induction h with
 | non=>exact .non
 | bl b=>exact .bl b
 | int i=>exact .int i
 | str x=>exact .str x
 | tup h1 h2 _ ih=>exact .tup h1 h2 ih
 | lst a b h1 h2 _ ih=>exact .lst a b h1 h2 ih
inductive qw (M:Mem) (k:Nat):List D→List D→Prop
 | nil:qw M k [] []
 | cons {d d':D} {ds ds':List D}:rC M k d d'→qw M k ds ds'→qw M k (d::ds) (d'::ds')
theorem qw.len{M:Mem}{k:Nat}{ds ds':List D}(h:qw M k ds ds'):ds.length=ds'.length:=by
 induction h with
 | nil=>rfl
 | cons _ _ ih=>simp[ih]
theorem qw.get{M:Mem}{k:Nat}{ds ds':List D}(h:qw M k ds ds'):∀(i:Nat) (d d':D),ds[i]? = some d→ds'[i]? = some d'→rC M k d d':=by
 induction h with
 | nil=>intro i d d' h;simp at h
 | cons a _ ih=>
  intro i d d' h h'
  cases i with
  | zero=>simp at h h';subst h h';exact a
  | succ i=>exact ih i d d' (by simpa using h) (by simpa using h')
theorem qw.self{M:Mem}{k:Nat}:∀{ds:List D},(∀d∈ds,rC M k d d)→qw M k ds ds
 | [],_=> .nil
 | d::ds,h=> .cons (h d (by simp)) (qw.self fun x hx=>h x (by simp[hx]))
theorem rC.tups{M:Mem}{k:Nat}{ds ds':List D}(h:qw M k ds ds')(hl:ds.length≤1000):rC M (k+1) (.tup ds) (.tup ds'):= .tup h.len hl h.get
theorem rC.Ky{M:Mem}{k n m:Nat}{ds ds':List D}(a:M[n]? = some (.lst ds))(b:M[m]? = some (.lst ds'))(h:qw M k ds ds')(hl:ds.length≤1000):rC M (k+1) (.ref n) (.ref m):= .lst a b h.len hl h.get
theorem GQ{te:ME}{ce:Sl}{y:D}{M0:Mem}:∀(ds ys:List D) {M:Mem},Gr M0 M→(∀d∈ds,∀M,Gr M0 M→∃M',te (some d::ce) M= .ok y M'∧Gr M M')→
  ∃M',uU none Ow te ce ds ys M= .ok (.ref M'.length) (M'++[.lst (ys++List.replicate ds.length y)])∧Gr M M'
 | [],ys,M,g,_=>⟨M,by rw[uU,if_pos (show mz none M from trivial)];simp,.refl⟩
 | d::ds,ys,M,g,h=>by
  obtain⟨M1,e1,g1⟩:=h d (by simp) M g
  obtain⟨M2,e2,g2⟩:=GQ ds (ys++[y]) (g.trans g1) fun x hx=>h x (by simp[hx])
  refine⟨M2,?_,g1.trans g2⟩
  rw[uU,if_pos (show mz none M from trivial)]
  show(Out.ok true M).bind _=_
  rw[Out.iI,if_pos rfl,e1]
  show(Out.ok y M1).bind _=_
  rw[Out.iI,e2]
  simp[List.replicate_succ]
theorem Ov{lo:Int}{n:Nat}{d:D}(h:d∈z7 lo n):∃i:Nat,i<n∧d= .int (lo+i):=by
 obtain⟨i,hi⟩:=List.getElem?_of_mem h
 exact⟨i,(FZ hi).1,(FZ hi).2⟩
@[simp] theorem acH{b:Bool}:Gv (.bl b)=false:=id rfl
@[simp] theorem aaC{b:Str}:Gv (.str b)=false:=id rfl
@[simp] theorem Ml{i:Str}{M:Mem}:fZ [.str i,.ty "bool"] M= .ok (.bl false) M:=by unfold fZ;rfl
@[simp] theorem Nt{i:Str}{M:Mem}:fZ [.str i,.ty "int"] M= .ok (.bl false) M:=by unfold fZ;rfl
@[simp] theorem Nr{i:Str}{M:Mem}:fZ [.str i,.ty "str"] M= .ok (.bl true) M:=by unfold fZ;rfl
@[simp] theorem Mj{i:List D}{M:Mem}:fZ [.tup i,.ty "bool"] M= .ok (.bl false) M:=by unfold fZ;rfl
@[simp] theorem Nq{i:List D}{M:Mem}:fZ [.tup i,.ty "int"] M= .ok (.bl false) M:=by unfold fZ;rfl
@[simp] theorem Np{i:List D}{M:Mem}:fZ [.tup i,.ty "str"] M= .ok (.bl false) M:=by unfold fZ;rfl
@[simp] theorem Mi{i:List D}{M:Mem}:fZ [.tup i,.ty "list"] M= .ok (.bl false) M:=by unfold fZ;rfl
theorem Cg{n:Nat}{ds:List D}{M:Mem}(hM:M[n]? = some (.lst ds)):fZ [.ref n,.ty "bool"] M= .ok (.bl false) M∧fZ [.ref n,.ty "int"] M= .ok (.bl false) M∧fZ [.ref n,.ty "str"] M= .ok (.bl false) M∧fZ [.ref n,.ty "tuple"] M= .ok (.bl false) M∧fZ [.ref n,.ty "list"] M= .ok (.bl true) M:=by
 refine⟨?_,?_,?_,?_,?_⟩<;>(simp only[fZ,Vx,iD hM,Option.map_some];rfl)
def Lx(m:Fn):Fn:=cG 2 (a_ m)
def Ly(m:Fn):ME:=gh m 2 [] (ao (aL j8 (aq 1) (aq 0)) (ao (aL j8 (aq 2) (aq 0)) aH))
theorem Cp{m:Fn}{M:Mem}{x y:D}{ds ds':List D}(hl:ds.length=ds'.length)(hx:∀(i:Nat) (d:D) (M':Mem),Gr M M'→ds[i]? = some d→j8 x (.int (i:Int)) M'= .ok d M')(hy:∀(i:Nat) (d:D) (M':Mem),Gr M M'→ds'[i]? = some d→j8 y (.int (i:Int)) M'= .ok d M')
  (h:∀(i:Nat) (d d':D) (M':Mem),Gr M M'→ds[i]? = some d→ds'[i]? = some d'→∃M'',m [d,d'] M'= .ok (.bl true) M''∧Gr M' M''):
  ∃M',uU none Ow (Ly m) [some x,some y] (z7 0 ds'.length) [] M= .ok (.ref M'.length) (M'++[.lst (List.replicate ds'.length (.bl true))])∧Gr M M':=by
 obtain⟨M',e,g⟩:=GQ (te:=Ly m) (ce:=[some x,some y]) (y:= .bl true) (M0:=M) (z7 0 ds'.length) [] .refl fun d hd M1 g1=>by
  obtain⟨i,hi,rfl⟩:=Ov hd
  obtain⟨a,ha⟩:∃a,ds[i]? = some a:=⟨_,List.getElem?_eq_getElem (by omega)⟩
  obtain⟨b,hb⟩:∃b,ds'[i]? = some b:=⟨_,List.getElem?_eq_getElem hi⟩
  obtain⟨M2,e2,g2⟩:=h i a b M1 g1 ha hb
  refine⟨M2,?_,g2⟩
  unfold Ly
  simp[hx i a M1 g1 ha,hy i b M1 g1 hb,e2]
 rw[Nz,List.nil_append]at e
 exact⟨M',e,g⟩
theorem G3{M:Mem}{n:Nat}:Ho [.ref M.length] (M++[.lst (List.replicate n (.bl true))])= .ok (.bl true) (M++[.lst (List.replicate n (.bl true))]):=by
 rw[JT (bs:=List.replicate n true) (by rw[List.map_replicate];exact cA)]
 simp
theorem We{M:Mem}{n:Nat}(h:n≤1000):Ck [.int (n:Int)] M= .ok ⟨none,z7 0 n⟩ M:=by
 have:=Cj (M:=M) (j:=(n:Int)) (by omega) (by omega)
 simpa using this
theorem Lw:∀(k:Nat) {M:Mem} {d d':D},rC M k d d'→∃M',fuel Lx k [d,d'] M= .ok (.bl true) M'∧Gr M M'
 | 0,M,d,d',h=>by cases h
 | k+1,M,d,d',h=>by
  show ∃M',Lx (fuel Lx k) [d,d'] M=_∧_
  obtain⟨m,hm⟩:∃m,m=fuel Lx k:=⟨_,rfl⟩
  have ih:∀{M:Mem} {d d':D},rC M k d d'→∃M',m [d,d'] M= .ok (.bl true) M'∧Gr M M':=by rw[hm];exact fun h=>Lw k h
  rw[←hm]
  unfold Lx
  cases h with
  | non=>exact⟨M,by simp[a_,fM],.refl⟩
  | bl b=>exact⟨M,by simp[a_,fM,iG],.refl⟩
  | int i=>exact⟨M,by simp[a_,fM,iG,jx],.refl⟩
  | str x=>exact⟨M,by simp[a_,fM,iG,jx,kZ],.refl⟩
  | @tup _ ds ds' hl hz hp=>
   obtain⟨M1,e1,g1⟩:=Cp (m:=m) (M:=M) (x:= .tup ds) (y:= .tup ds') hl (fun i d M' _ hd=>pN (by omega) (by simpa using hd)) (fun i d M' _ hd=>pN (by omega) (by simpa using hd))
    fun i d d' M' g a b=>ih ((hp i d d' a b).gr g)
   refine⟨_,?_,g1.trans (Gr.app (xs:=[.lst (List.replicate ds'.length (.bl true))]))⟩
   unfold Ly at e1
   have hlz:(ds.length:Int)=(ds'.length:Int):=by omega
   simp only[a_,fM,iG,jx,kZ,oK,oJ]
   simp[hlz,We (M:=M) (n:=ds'.length) (by omega),uV,e1,G3]
  | @lst _ n n' ds ds' a b hl hz hp=>
   obtain⟨M1,e1,g1⟩:=Cp (m:=m) (M:=M) (x:= .ref n) (y:= .ref n') hl (fun i d M' g hd=>vW (g _ _ a) (by omega) (by simpa using hd)) (fun i d M' g hd=>vW (g _ _ b) (by omega) (by simpa using hd))
    fun i d d' M' g a b=>ih ((hp i d d' a b).gr g)
   refine⟨_,?_,g1.trans (Gr.app (xs:=[.lst (List.replicate ds'.length (.bl true))]))⟩
   unfold Ly at e1
   have hlz:(ds.length:Int)=(ds'.length:Int):=by omega
   obtain⟨a1,a2,a3,a4,a5⟩:=Cg a
   obtain⟨b1,b2,b3,b4,b5⟩:=Cg b
   simp only[a_,fM,iG,jx,kZ,oK,oJ]
   simp[a4,a5,b1,b2,b3,b4,b5,o5 a,o5 b,hlz,We (M:=M) (n:=ds'.length) (by omega),uV,e1,G3]
theorem qX{M:Mem}{d d':D}(h:rC M 8 d d'):∃M',iR [d,d'] M= .ok (.bl true) M'∧Gr M M':=Lw 8 h
theorem uo{M:Mem}(ns:List Int)(k:Nat){kk:Int}(hk:kk=k):aR [.cl (ns.map D.int),.int kk] M= .ok (.int (cell ns k)) M:=by
 subst hk
 simp only[aR,aN,qi]
 by_cases h:k<ns.length
 ·have e:j8 (.cl (ns.map D.int)) (.int k) M= .ok (.int ns[k]) M:=Rp (by omega) (by simp[h])
  simp[h,e,cell]
 ·simp[h,cell]
theorem Qy(z:Int){j:Int}(h:0<j):0≤z % j∧z % j<j:=⟨Int.emod_nonneg _ (by omega),Int.emod_lt_of_pos _ h⟩
theorem WQ{M:Mem}{n:Nat}{ds:List D}{z j:Int}(h:M[n]? = some (.lst ds))(hj:j=ds.length)(h0:0<j):∃d∈ds,j8 (.ref n) (.int (z % j)) M= .ok d M:=by
 have:=Qy z h0
 have hl:(z % j).toNat<ds.length:=by omega
 exact⟨ds[(z % j).toNat],List.getElem_mem hl,vW h this.1 (List.getElem?_eq_getElem hl)⟩
def ZJ(w:D):Prop:=w= .tup [.str "start"]∨∃a b c:Int,w= .tup [.str "ask",.int a,.int b,.tup [.str "add",.str "ab",.int c]]
def qY(d:D):Prop:=∃(t:Int) (w:D),d= .tup [.int t,w]∧ZJ w
theorem Pg{M:Mem}{k:Nat}{d:D}(h:qY d):rC M (k+4) d d:=by
 obtain⟨t,w,rfl,hw⟩:=h
 refine .tups (.cons (.int t) (.cons ?_ .nil)) (by simp)
 rcases hw with rfl | ⟨a,b,c,rfl⟩
 ·exact .tups (.cons (.str _) .nil) (by simp)
 ·exact .tups (.cons (.str _) (.cons (.int a) (.cons (.int b) (.cons (.tups (.cons (.str _) (.cons (.str _) (.cons (.int c) .nil))) (by simp)) .nil)))) (by simp)
theorem CT{M:Mem}{k n m:Nat}{es:List D}(h:∀d∈es,qY d)(hl:es.length≤4)(a:M[n]? = some (.lst es))(b:M[m]? = some (.lst es)):rC M (k+5) (.ref n) (.ref m):=
 .Ky a b (.self fun d hd=>Pg (h d hd)) (by omega)
theorem Ud{M:Mem}{d:D}(h:qY d):∃t,jt M 11 d=some t:=by
 obtain⟨t,w,rfl,hw⟩:=h
 rcases hw with rfl | ⟨a,b,c,rfl⟩
 ·exact⟨_,rfl⟩
 ·exact⟨_,rfl⟩
theorem GK{M:Mem}:∀{es:List D},(∀d∈es,qY d)→∃ts,sr (jt M 11) es=some ts∧ts.length=es.length
 | [],_=>⟨[],rfl,rfl⟩
 | d::es,h=>by
  obtain⟨t,ht⟩:=Ud (M:=M) (h d (by simp))
  obtain⟨ts,hts,hl⟩:=GK (M:=M) (es:=es) fun x hx=>h x (by simp[hx])
  exact⟨t::ts,by simp only[sr,ht,hts],by simp[hl]⟩
theorem Pb{M:Mem}{n m:Nat}{es:List D}(h:∀d∈es,qY d)(a:M[n]? = some (.lst es))(b:M[m]? = some (.lst [])):sNe (.ref n) (.ref m) M= .ok (.bl (!es.isEmpty)) M:=by
 obtain⟨ts,hts,hl⟩:=GK (M:=M) h
 have e1:jt M 12 (.ref n)=some (.lst ts):=by
  show(match lY M n with | some ds=>(sr (jt M 11) ds).map Dt.lst | none=>none)=_
  rw[iD a]
  show(sr (jt M 11) es).map _=_
  rw[hts];rfl
 have e2:jt M 12 (.ref m)=some (.lst []):=by
  show(match lY M m with | some ds=>(sr (jt M 11) ds).map Dt.lst | none=>none)=_
  rw[iD b];rfl
 refine(wY (uP e1 e2)).trans ?_
 cases es with
 | nil=>
  cases ts with
  | nil=>rw[yd];rfl
  | cons t ts=>simp at hl
 | cons x es=>
  cases ts with
  | nil=>simp at hl
  | cons t ts=>unfold bF;rfl
theorem zY{M:Mem}{n:Nat}{ds:List D}{d:D}(hM:M[n]? = some (.lst ds))(h:ds.length<16777216):qZ (.ref n) [.int 0,d] M= .ok .non (M.set n (.lst (d::ds))):=by
 simp only[qZ,hM]
 rw[if_pos (by rw[wk];exact h)]
theorem Le{M0 M:Mem}{L:Nat}{num t sz:Int}{v:Option D}{es:List D}(hL:M[L]? = some (.lst es))(hE:∀d∈es,qY d)(hl:es.length≤4)(g:Gr M0 M)(h0:M0.length≤L):
  ∃num' t' v' d,qY d∧ig [some (.int num),some (.int t),some (.ref L),some (.int sz),v] M= .next [some (.int num'),some (.int t'),some (.ref L),some (.int sz),v'] (M.set L (.lst (d::es))):=by
 have m7:∀(z:Int) (M:Mem),fW (.int z) (.int 7) M= .ok (.int (z % 7)) M:=fun z M=>di (by omega)
 have m5:∀(z:Int) (M:Mem),fW (.int z) (.int 5) M= .ok (.int (z % 5)) M:=fun z M=>di (by omega)
 have m4:∀(z:Int) (M:Mem),fW (.int z) (.int 4) M= .ok (.int (z % 4)) M:=fun z M=>di (by omega)
 have m3:∀(z:Int) (M:Mem),fW (.int z) (.int 3) M= .ok (.int (z % 3)) M:=fun z M=>di (by omega)
 have d3:∀(z:Int) (M:Mem),o6 (.int z) (.int 3) M= .ok (.int (z / 3)) M:=fun z M=>lu (by omega) (by omega)
 have ln:=o5 hL
 have ty:=Js hL
 have ins:∀d,qZ (.ref L) [.int 0,d] M= .ok .non (M.set L (.lst (d::es))):=fun d=>zY hL (by omega)
 by_cases z:num % 4=0
 ·refine⟨num / 3,t - num % 3,some (.tup [.str "start"]),.tup [.int t,.tup [.str "start"]],⟨t,_,rfl,.inl rfl⟩,?_⟩
  simp only[ig,lR]
  simp[m7,m5,m4,m3,d3,ln,ty,ins,z]
 ·refine⟨num / 3,t - num % 3,some (.tup [.str "ask",.int (num % 7 - 3),.int (es.length:Int),.tup [.str "add",.str "ab",.int (num % 5)]]),.tup [.int t,.tup [.str "ask",.int (num % 7 - 3),.int (es.length:Int),.tup [.str "add",.str "ab",.int (num % 5)]]],⟨t,_,rfl,.inr ⟨_,_,_,rfl⟩⟩,?_⟩
  simp only[ig,lR]
  simp[m7,m5,m4,m3,d3,ln,ty,ins,z]
theorem CW{M0:Mem}{L:Nat}{sz:Int}(h0:M0.length≤L):∀(k:Nat) {M:Mem} {num t:Int} {v:Option D} {es:List D},sz - es.length≤k→sz≤4→M[L]? = some (.lst es)→(∀d∈es,qY d)→es.length≤4→Gr M0 M→
  ∃num' t' v' es' M',zF eN ig (k+1) [some (.int num),some (.int t),some (.ref L),some (.int sz),v] M= .next [some (.int num'),some (.int t'),some (.ref L),some (.int sz),v'] M'∧M'[L]? = some (.lst es')∧(∀d∈es',qY d)∧es'.length≤4∧Gr M0 M'
 | k,M,num,t,v,es,hk,hs,hL,hE,hl,g=>by
  have ln:=o5 hL
  by_cases hc:(es.length:Int)<sz∧0<t
  ·match k,hk with
   | 0,hk=>omega
   | k+1,hk=>
    obtain⟨num',t',v',d,hd,e⟩:=Le (num:=num) (t:=t) (sz:=sz) (v:=v) hL hE hl g h0
    obtain⟨acs,t2,v2,es2,M2,e2,r⟩:=CW h0 k (M:=M.set L (.lst (d::es))) (num:=num') (t:=t') (v:=v') (es:=d::es) (by simp;omega) hs (get_set hL) (by simp only[List.mem_cons];rintro x (rfl | hx);exact hd;exact hE x hx) (by simp;omega) (pQ g h0)
    refine⟨acs,t2,v2,es2,M2,?_,r⟩
    rw[zF]
    have ec:eN [some (.int num),some (.int t),some (.ref L),some (.int sz),v] M= .ok true M:=by
     simp only[eN]
     simp[ln,hc.1,hc.2]
    rw[ec]
    simp only[e]
    exact e2
  ·refine⟨num,t,v,es,M,?_,hL,hE,hl,g⟩
   rw[zF]
   have ec:eN [some (.int num),some (.int t),some (.ref L),some (.int sz),v] M= .ok false M:=by
    simp only[eN]
    by_cases h1:(es.length:Int)<sz
    ·have h2:¬0<t:=fun z=>hc ⟨h1,z⟩
     simp[ln,h1,h2]
    ·simp[ln,h1]
   rw[ec]
theorem Fb{M:Mem}(num t:Int):∃es L M',kW [.int num,.int t] M= .ok (.ref L) M'∧M'[L]? = some (.lst es)∧(∀d∈es,qY d)∧es.length≤4∧Gr M M':=by
 have m2:∀(z:Int) (M:Mem),fW (.int z) (.int 2) M= .ok (.int (z % 2)) M:=fun z M=>di (by omega)
 have m5:∀(z:Int) (M:Mem),fW (.int z) (.int 5) M= .ok (.int (z % 5)) M:=fun z M=>di (by omega)
 have d2:∀(z:Int) (M:Mem),o6 (.int z) (.int 2) M= .ok (.int (z / 2)) M:=fun z M=>lu (by omega) (by omega)
 have d10:∀(z:Int) (M:Mem),o6 (.int z) (.int 10) M= .ok (.int (z / 10)) M:=fun z M=>lu (by omega) (by omega)
 have hz:=Qy (num / 2) (j:=5) (by omega)
 obtain⟨num',t',v',es,M',e,hL,hE,hl,g⟩:=CW (M0:=M) (L:=M.length) (sz:=num / 2 % 5) (Nat.le_refl _) 4 (M:=M++[.lst []]) (num:=num / 10) (t:=t - num % 2) (v:=none) (es:=[]) (by simp;omega) (by omega) cA (by simp) (by simp) Gr.app
 refine⟨es,M.length,M',?_,hL,hE,hl,g⟩
 have ew:=Hi e (fun z=>nomatch z)
 simp only[kW,fO,pZ]
 simp[m2,m5,d2,d10,ew]
theorem Ou{M:Mem}(ns:List Int)(t p a:Int):∃x y:Int,gb [.cl (ns.map D.int),.tup [.int t,.int p],.int a] M= .ok (.tup [.int x,.int y]) M:=by
 have c6:=uo (M:=M) ns 6 (kk:=6) rfl
 have c7:=uo (M:=M) ns 7 (kk:=7) rfl
 have m3:∀(z:Int) (M:Mem),fW (.int z) (.int 3) M= .ok (.int (z % 3)) M:=fun z M=>di (by omega)
 have m4:∀(z:Int) (M:Mem),fW (.int z) (.int 4) M= .ok (.int (z % 4)) M:=fun z M=>di (by omega)
 have d3:∀(z:Int) (M:Mem),o6 (.int z) (.int 3) M= .ok (.int (z / 3)) M:=fun z M=>lu (by omega) (by omega)
 have d9:∀(z:Int) (M:Mem),o6 (.int z) (.int 9) M= .ok (.int (z / 9)) M:=fun z M=>lu (by omega) (by omega)
 have pw:zX (.int 10) (.int 9) M= .ok (.int 1000000000) M:=B_ (by decide)
 have mP:∀(z:Int),fW (.int z) (.int 1000000000) M= .ok (.int (z % 1000000000)) M:=fun z=>di (by omega)
 obtain⟨c,hc⟩:∃c,c=cell ns 6:=⟨_,rfl⟩
 rw[←hc]at c6
 have fin:∀(v4 v5:Int) (rest:Option D) ,∃x y:Int,Ed ((aQ (d_ (sV Ca (ao (aq 4) (ao (aL vK (aq 2) (mC (.int 1))) aH))) (gN 4)) (aQ gj (fY (jK (ao (aq 4) (ao (aq 5) aH)))))) [some (.cl (ns.map D.int)),some (.tup [.int t,.int p]),some (.int a),some (.int c),some (.int v4),some (.int v5)] M)= .ok (.tup [.int x,.int y]) M:=fun v4 v5 _=>by
  obtain⟨w,hw⟩:∃w,w=if a - 1<v4 then a - 1 else v4:=⟨_,rfl⟩
  by_cases h1:w<1
  ·exact⟨0,0,by simp only[gj];simp[←hw,h1]⟩
  ·by_cases h2:v5<1
   ·exact⟨0,0,by simp only[gj];simp[←hw,h1,h2]⟩
   ·exact⟨w,v5,by simp only[gj];simp[←hw,h1,h2]⟩
 by_cases z1:c / 9 % 4=1
 ·obtain⟨x,y,e⟩:=fin (t+c % 3 - 1) (cell ns 7 % 1000000000) none
  refine⟨x,y,?_⟩
  rw[←e]
  simp only[gb,cI,jk,jj]
  simp[c6,c7,m3,m4,d3,d9,pw,mP,z1]
 ·by_cases z2:c / 9 % 4=2
  ·obtain⟨x,y,e⟩:=fin t p none
   refine⟨x,y,?_⟩
   rw[←e]
   simp only[gb,cI,jk,jj]
   simp[c6,m3,m4,d3,d9,z2]
  ·obtain⟨x,y,e⟩:=fin (t+c % 3 - 1) (p+c / 3 % 3 - 1) none
   refine⟨x,y,?_⟩
   rw[←e]
   simp only[gb,cI,jk,jj]
   simp[c6,m3,m4,d3,d9,z1,z2]
def Rw(b bt:Int)(br:D)(l:Nat):MO:= .ins 4 [("base",.int b),("base_term",.int bt),("base_roll",br),("kept",.ref l)]
structure fU(M:Mem)(r:Nat)(b bt:Int)(br:D)(l:Nat)(es:List D):Prop where
 o:M[r]? = some (Rw b bt br l)
 k:M[l]? = some (.lst es)
theorem fU.gr{M M':Mem}{r:Nat}{b bt:Int}{br:D}{l:Nat}{es:List D}(R:fU M r b bt br l es)(g:Gr M M'):fU M' r b bt br l es:=⟨g _ _ R.o,g _ _ R.k⟩
section
variable{M:Mem}{r l:Nat}{b bt:Int}{br:D}{es:List D}
theorem fU.fb(R:fU M r b bt br l es):lB [4] "base" (.ref r) M= .ok (.int b) M:=dw R.o (by simp) rfl
theorem fU.ft(R:fU M r b bt br l es):lB [4] "base_term" (.ref r) M= .ok (.int bt) M:=dw R.o (by simp) rfl
theorem fU.fr(R:fU M r b bt br l es):lB [4] "base_roll" (.ref r) M= .ok br M:=dw R.o (by simp) rfl
theorem fU.fk(R:fU M r b bt br l es):lB [4,5,11] "kept" (.ref r) M= .ok (.ref l) M:=dw R.o (by simp) rfl
theorem fU.me(R:fU M r b bt br l es){m:Str}(h:List.lookup m [("base",D.int b),("base_term",.int bt),("base_roll",br),("kept",.ref l)]=none):qK 4 m (.ref r) M=true:=xV R.o h
theorem Ci{h:Nat}(hh:M[h]? = some (.lst es)):∃M',mX [.ref M.length,.int b,.int bt,br,.ref h] (M++[.ins 4 []])= .ok .non M'∧fU M' M.length b bt br (M.length+1) es∧Gr M M':=by
 obtain⟨N,hN⟩:∃N,N=M++[MO.ins 4 []]:=⟨_,rfl⟩
 have h0:N[M.length]? = some (.ins 4 []):=by rw[hN];exact cA
 have g:Gr M N:=by rw[hN];exact Gr.app
 have nl:N.length=M.length+1:=by rw[hN];simp
 have hlt:=j_ hh
 have e1:dU [4] "base" (.int b) (.ref M.length) N=some (N.set M.length (.ins 4 [("base",.int b)])):=by
  rw[b8 h0 (by simp) (by simp)];rfl
 have e2:dU [4] "base_term" (.int bt) (.ref M.length) (N.set M.length (.ins 4 [("base",.int b)]))=some (N.set M.length (.ins 4 [("base",.int b),("base_term",.int bt)])):=by
  rw[b8 (get_set h0) (by simp) (by simp),List.set_set];rfl
 have e3:dU [4] "base_roll" br (.ref M.length) (N.set M.length (.ins 4 [("base",.int b),("base_term",.int bt)]))=some (N.set M.length (.ins 4 [("base",.int b),("base_term",.int bt),("base_roll",br)])):=by
  rw[b8 (get_set h0) (by simp) (by simp),List.set_set];rfl
 obtain⟨N1,Mq⟩:∃N1,N1=N.set M.length (.ins 4 [("base",.int b),("base_term",.int bt),("base_roll",br)]):=⟨_,rfl⟩
 have l1:N1.length=M.length+1:=by rw[Mq,List.length_set,nl]
 have e4:u_ [.ref h] N1= .ok (.ref N1.length) (N1++[.lst es]):=by
  rw[Mq,uz (ds:=es) (by rw[aF (by omega)];exact g _ _ hh)]
 have h1:(N1++[MO.lst es])[M.length]? = some (.ins 4 [("base",.int b),("base_term",.int bt),("base_roll",br)]):=Gr.app _ _ (by rw[Mq];exact get_set h0)
 have e5:dU [4,5,11] "kept" (.ref N1.length) (.ref M.length) (N1++[MO.lst es])=some ((N1++[MO.lst es]).set M.length (Rw b bt br N1.length)):=by
  rw[b8 h1 (by simp) (by simp)];rfl
 refine⟨(N1++[MO.lst es]).set M.length (Rw b bt br N1.length),?_,?_,?_⟩
 ·simp only[mX,i_]
  simp[←hN,e1,e2,e3,←Mq,e4,e5]
 ·rw[←l1]
  exact⟨get_set h1,by rw[aF (by omega)];exact cA⟩
 ·refine pQ (Gr.trans ?_ Gr.app) (Nat.le_refl _)
  rw[Mq]
  exact pQ g (Nat.le_refl _)
theorem Fw(R:fU M r b bt br l es):∃M',mW [.ref r] M= .ok (.ref M.length) M'∧fU M' M.length b bt br (M.length+1) es∧Gr M M':=by
 obtain⟨M',e,R',g⟩:=Ci (b:=b) (bt:=bt) (br:=br) R.k
 refine⟨M',?_,R',g⟩
 simp only[mW,iY]
 simp[R.fb,R.ft,R.fr,R.fk,e]
theorem Aq(R:fU M r b bt br l es):kj [.ref r] M= .ok (.int (b+es.length)) M:=by
 simp only[kj,h_]
 simp[R.fb,R.fk,o5 R.k]
theorem GJ(R:fU M r b bt br l es):jw [.ref r] M= .ok (.ref M.length) (M++[.lst es]):=by
 simp only[jw,dM]
 simp[R.fk,uz R.k]
theorem CV(R:fU M r b bt br l es){p:Int}{k:Nat}{d:D}(hp:p=b+k+1)(hd:es[k]? = some d):jV [.ref r,.int p] M= .ok d M:=by
 have hlt:=(List.getElem?_eq_some_iff.mp hd).1
 have e1:n6 [.ref r,.int p] M= .ok (.bl true) M:=by
  have h1:b<p:=by omega
  have h2:p≤b+es.length:=by omega
  simp only[n6,iZ]
  simp[R.fb,R.me (m:= "last") rfl,Aq R,h1,h2]
 have e2:j8 (.ref l) (.int (p - b - 1)) M= .ok d M:=vW R.k (by omega) (by
  have:(p - b - 1).toNat=k:=by omega
  rw[this];exact hd)
 simp only[jV,d7,o_]
 simp[R.me (m:= "keeps") rfl,e1,R.fb,R.fk,e2]
def endOf(b bt:Int)(es:List D):D:=match es.getLast? with
 | some (.tup [.int t,_])=> .tup [.int t,.int (b+es.length)]
 | _=> .tup [.int bt,.int b]
theorem uR(hE:∀d∈es,qY d):(es=[]∧endOf b bt es= .tup [.int bt,.int b])∨∃(k:Nat) (t:Int) (w:D),es.length=k+1∧es[k]? = some (.tup [.int t,w])∧endOf b bt es= .tup [.int t,.int (b+es.length)]:=by
 cases h:es.length with
 | zero=>
  have e:=List.eq_nil_of_length_eq_zero h
  subst e
  exact .inl ⟨rfl,rfl⟩
 | succ k=>
  have hk:es[k]? = some es[k]:=List.getElem?_eq_getElem (by omega)
  obtain⟨t,w,e,_⟩:=hE _ (List.mem_of_getElem? hk)
  rw[e]at hk
  refine .inr ⟨k,t,w,rfl,hk,?_⟩
  unfold endOf
  have:es.getLast? = some (.tup [.int t,w]):=by rw[List.getLast?_eq_getElem?,h];exact hk
  rw[this,h]
theorem Ue(R:fU M r b bt br l es)(hE:∀d∈es,qY d):o8 [.ref r] M= .ok (endOf b bt es) M:=by
 rcases uR (b:=b) (bt:=bt) hE with⟨rfl,e⟩ | ⟨k,t,w,hl,hk,e⟩
 ·have e1:iC [.ref r,.int b] M= .ok (.int bt) M:=by
   simp only[iC,dJ,lU]
   simp[R.fb,R.ft]
  have l1:=Aq R
  simp at l1
  rw[e]
  simp only[o8,jO]
  simp[R.me (m:= "last") rfl,R.me (m:= "term_at") rfl,l1,e1]
 ·have e0:=CV R (p:=b+es.length) (k:=k) (by omega) hk
  have hne:¬(b+(es.length:Int)=b):=by omega
  have e1:iC [.ref r,.int (b+es.length)] M= .ok (.int t) M:=by
   simp only[iC,dJ,lU]
   simp[R.fb,hne,R.me (m:= "entry_at") rfl,e0]
  rw[e]
  simp only[o8,jO]
  simp[R.me (m:= "last") rfl,R.me (m:= "term_at") rfl,Aq R,e1]
end
theorem Lf{b bt:Int}{es:List D}(hE:∀d∈es,qY d):∃t p:Int,endOf b bt es= .tup [.int t,.int p]:=by
 rcases uR (b:=b) (bt:=bt) hE with⟨_,e⟩ | ⟨k,t,w,_,_,e⟩
 ·exact⟨_,_,e⟩
 ·exact⟨_,_,e⟩
def Dg(t:Int)(v:D)(r:Nat)(kd:D):MO:= .ins 5 [("term",.int t),("vote",v),("row",.ref r),("kept",kd)]
theorem IW{M:Mem}{r l:Nat}{b bt t:Int}{br v kd:D}{es:List D}(R:fU M r b bt br l es):∃M',n_ [.ref M.length,.int t,v,.ref r,kd] (M++[.ins 5 []])= .ok .non M'∧M'[M.length]? = some (Dg t v (M.length+1) kd)∧fU M' (M.length+1) b bt br (M.length+2) es∧Gr M M':=by
 obtain⟨N,hN⟩:∃N,N=M++[MO.ins 5 []]:=⟨_,rfl⟩
 have h0:N[M.length]? = some (.ins 5 []):=by rw[hN];exact cA
 have g:Gr M N:=by rw[hN];exact Gr.app
 have nl:N.length=M.length+1:=by rw[hN];simp
 have e1:dU [5,11] "term" (.int t) (.ref M.length) N=some (N.set M.length (.ins 5 [("term",.int t)])):=by
  rw[b8 h0 (by simp) (by simp)];rfl
 have e2:dU [5,11] "vote" v (.ref M.length) (N.set M.length (.ins 5 [("term",.int t)]))=some (N.set M.length (.ins 5 [("term",.int t),("vote",v)])):=by
  rw[b8 (get_set h0) (by simp) (by simp),List.set_set];rfl
 obtain⟨N1,Mq⟩:∃N1,N1=N.set M.length (.ins 5 [("term",.int t),("vote",v)]):=⟨_,rfl⟩
 have l1:N1.length=M.length+1:=by rw[Mq,List.length_set,nl]
 have g1:Gr M N1:=by rw[Mq];exact pQ g (Nat.le_refl _)
 have R1:=R.gr g1
 obtain⟨N2,e3,R2,g2⟩:=Fw R1
 have h2:N2[M.length]? = some (.ins 5 [("term",.int t),("vote",v)]):=g2 _ _ (by rw[Mq];exact get_set h0)
 have e4:dU [5,11] "row" (.ref N1.length) (.ref M.length) N2=some (N2.set M.length (.ins 5 [("term",.int t),("vote",v),("row",.ref N1.length)])):=by
  rw[b8 h2 (by simp) (by simp)];rfl
 have e5:dU [4,5,11] "kept" kd (.ref M.length) (N2.set M.length (.ins 5 [("term",.int t),("vote",v),("row",.ref N1.length)]))=some (N2.set M.length (Dg t v N1.length kd)):=by
  rw[b8 (get_set h2) (by simp) (by simp),List.set_set];rfl
 refine⟨N2.set M.length (Dg t v N1.length kd),?_,?_,?_,pQ (g1.trans g2) (Nat.le_refl _)⟩
 ·simp only[n_,jc]
  simp[←hN,e1,e2,←Mq,R1.me (m:= "twin") rfl,e3,e4,e5]
 ·rw[←l1];exact get_set h2
 ·rw[l1]at R2
  exact⟨by rw[aF (by omega)];exact R2.o,by rw[aF (by omega)];exact R2.k⟩
theorem JH{M:Mem}:∃s M',pP [.tup [.tup [],.tup []]] M= .ok (.ref s) M'∧Gr M M':=by
 have h0:(M++[MO.ins 10 []]++[.dk []])[M.length]? = some (.ins 10 []):=by simp
 have e1:dU [10] "amounts" (.ref (M.length+1)) (.ref M.length) (M++[MO.ins 10 []]++[.dk []])=some (M++[.ins 10 [("amounts",.ref (M.length+1))],.dk []]):=by
  rw[b8 h0 (by simp) (by simp)];simp[putD]
 have h1:(M++[MO.ins 10 [("amounts",.ref (M.length+1))],.dk []]++[.dk []])[M.length]? = some (.ins 10 [("amounts",.ref (M.length+1))]):=by simp
 have e2:dU [10] "answered" (.ref (M.length+2)) (.ref M.length) (M++[MO.ins 10 [("amounts",.ref (M.length+1))],.dk []]++[.dk []])=some (M++[.ins 10 [("amounts",.ref (M.length+1)),("answered",.ref (M.length+2))],.dk [],.dk []]):=by
  rw[b8 h1 (by simp) (by simp)];simp[putD];decide
 have e3:mG [.ref M.length] (M++[.ins 10 []])= .ok .non (M++[.ins 10 [("amounts",.ref (M.length+1)),("answered",.ref (M.length+2))],.dk [],.dk []]):=by
  simp only[mG,g_]
  simp at e1 e2
  simp[e1,e2]
 have f0:∀(g:Tg) (b:MS) (e:Sl) (M:Mem),lC none g b [] e M= .next e M:=fun g b e M=>by rw[lC,if_pos (show mz none M from trivial)]
 refine⟨M.length,_,?_,Gr.app (xs:=[.ins 10 [("amounts",.ref (M.length+1)),("answered",.ref (M.length+2))],.dk [],.dk []])⟩
 simp only[pP,jL,uh,ug]
 simp[e3,f0]
def vA(me:Int)(P:Nat)(t:Int)(v:D)(r:Nat)(kd:D)(st dn:Int)(sh:Nat)(ch:D)(seat:Nat):MO:=
 .ins 11 [("me",.int me),("note",.fn P),("term",.int t),("vote",v),("row",.ref r),("kept",kd),("settled",.int st),("done",.int dn),("shelf",.ref sh),("chair",ch),("seat",.ref seat)]
structure j6(M:Mem)(h:Nat)(me:Int)(P:Nat)(t:Int)(v:D)(r l:Nat)(b bt:Int)(br:D)(es:List D)(ps:List D):Prop where
 o:∃kd st dn sh seat,M[h]? = some (vA me P t v r kd st dn sh .non seat)∧M[seat]? = some (.ins 7 [])
 r:fU M r b bt br l es
 p:M[P]? = some (.lst ps)
theorem Ik{M:Mem}{bk rb lb P:Nat}{me t b bt:Int}{v br:D}{es ps:List D}(hB:M[bk]? = some (Dg t v rb (.tup [.tup [],.tup []])))(R:fU M rb b bt br lb es)(hP:M[P]? = some (.lst ps)):
  ∃M',n8 [.ref M.length,.int me,.ref bk,.fn P] (M++[.ins 11 []])= .ok .non M'∧j6 M' M.length me P t v (M.length+1) (M.length+2) b bt br es ps∧Gr M M':=by
 obtain⟨N0,hN0⟩:∃N0,N0=M++[MO.ins 11 []]:=⟨_,rfl⟩
 have h0:N0[M.length]? = some (.ins 11 []):=by rw[hN0];exact cA
 have g0:Gr M N0:=by rw[hN0];exact Gr.app
 have l0:N0.length=M.length+1:=by rw[hN0];simp
 have gA:∀o,Gr M (N0.set M.length o):=fun o=>pQ g0 (Nat.le_refl _)
 have fT:∀M',Gr M M'→lB [5,11] "term" (.ref bk) M'= .ok (.int t) M':=fun M' g=>dw (g _ _ hB) (by simp) rfl
 have fV:∀M',Gr M M'→lB [5,11] "vote" (.ref bk) M'= .ok v M':=fun M' g=>dw (g _ _ hB) (by simp) rfl
 have fR:∀M',Gr M M'→lB [5,11] "row" (.ref bk) M'= .ok (.ref rb) M':=fun M' g=>dw (g _ _ hB) (by simp) rfl
 have fK:∀M',Gr M M'→lB [4,5,11] "kept" (.ref bk) M'= .ok (.tup [.tup [],.tup []]) M':=fun M' g=>dw (g _ _ hB) (by simp) rfl
 have p1:dU [11] "me" (.int me) (.ref M.length) N0=some (N0.set M.length (.ins 11 [("me",.int me)])):=by
  rw[b8 h0 (by simp) (by simp)];rfl
 have p2:dU [11] "note" (.fn P) (.ref M.length) (N0.set M.length (.ins 11 [("me",.int me)]))=some (N0.set M.length (.ins 11 [("me",.int me),("note",.fn P)])):=by
  rw[b8 (get_set h0) (by simp) (by simp),List.set_set];rfl
 have p3:dU [5,11] "term" (.int t) (.ref M.length) (N0.set M.length (.ins 11 [("me",.int me),("note",.fn P)]))=some (N0.set M.length (.ins 11 [("me",.int me),("note",.fn P),("term",.int t)])):=by
  rw[b8 (get_set h0) (by simp) (by simp),List.set_set];rfl
 have p4:dU [5,11] "vote" v (.ref M.length) (N0.set M.length (.ins 11 [("me",.int me),("note",.fn P),("term",.int t)]))=some (N0.set M.length (.ins 11 [("me",.int me),("note",.fn P),("term",.int t),("vote",v)])):=by
  rw[b8 (get_set h0) (by simp) (by simp),List.set_set];rfl
 have q3:=fT _ (gA (.ins 11 [("me",.int me),("note",.fn P)]))
 have q4:=fV _ (gA (.ins 11 [("me",.int me),("note",.fn P),("term",.int t)]))
 obtain⟨A,hA⟩:∃A,A=N0.set M.length (.ins 11 [("me",.int me),("note",.fn P),("term",.int t),("vote",v)]):=⟨_,rfl⟩
 have gMA:Gr M A:=by rw[hA];exact gA _
 have lA:A.length=M.length+1:=by rw[hA,List.length_set,l0]
 have hAh:A[M.length]? = some (.ins 11 [("me",.int me),("note",.fn P),("term",.int t),("vote",v)]):=by rw[hA];exact get_set h0
 have q5:=fR A gMA
 obtain⟨B,e5,RB,gB⟩:=Fw (R.gr gMA)
 rw[lA]at e5 RB
 have hBh:=gB _ _ hAh
 have gMB:=gMA.trans gB
 have gB':∀o,Gr M (B.set M.length o):=fun o=>pQ gMB (Nat.le_refl _)
 have RB':∀o,fU (B.set M.length o) (M.length+1) b bt br (M.length+1+1) es:=fun o=>⟨by rw[aF (by omega)];exact RB.o,by rw[aF (by omega)];exact RB.k⟩
 have p5:dU [5,11] "row" (.ref (M.length+1)) (.ref M.length) B=some (B.set M.length (.ins 11 [("me",.int me),("note",.fn P),("term",.int t),("vote",v),("row",.ref (M.length+1))])):=by
  rw[b8 hBh (by simp) (by simp)];rfl
 have p6:dU [4,5,11] "kept" (.tup [.tup [],.tup []]) (.ref M.length) (B.set M.length (.ins 11 [("me",.int me),("note",.fn P),("term",.int t),("vote",v),("row",.ref (M.length+1))]))=some (B.set M.length (.ins 11 [("me",.int me),("note",.fn P),("term",.int t),("vote",v),("row",.ref (M.length+1)),("kept",.tup [.tup [],.tup []])])):=by
  rw[b8 (get_set hBh) (by simp) (by simp),List.set_set];rfl
 have p7:dU [11] "settled" (.int b) (.ref M.length) (B.set M.length (.ins 11 [("me",.int me),("note",.fn P),("term",.int t),("vote",v),("row",.ref (M.length+1)),("kept",.tup [.tup [],.tup []])]))=some (B.set M.length (.ins 11 [("me",.int me),("note",.fn P),("term",.int t),("vote",v),("row",.ref (M.length+1)),("kept",.tup [.tup [],.tup []]),("settled",.int b)])):=by
  rw[b8 (get_set hBh) (by simp) (by simp),List.set_set];rfl
 have p8:dU [11] "done" (.int b) (.ref M.length) (B.set M.length (.ins 11 [("me",.int me),("note",.fn P),("term",.int t),("vote",v),("row",.ref (M.length+1)),("kept",.tup [.tup [],.tup []]),("settled",.int b)]))=some (B.set M.length (.ins 11 [("me",.int me),("note",.fn P),("term",.int t),("vote",v),("row",.ref (M.length+1)),("kept",.tup [.tup [],.tup []]),("settled",.int b),("done",.int b)])):=by
  rw[b8 (get_set hBh) (by simp) (by simp),List.set_set];rfl
 have q6:=fK _ (gB' (.ins 11 [("me",.int me),("note",.fn P),("term",.int t),("vote",v),("row",.ref (M.length+1))]))
 have q7a:lB [5,11] "row" (.ref M.length) (B.set M.length (.ins 11 [("me",.int me),("note",.fn P),("term",.int t),("vote",v),("row",.ref (M.length+1)),("kept",.tup [.tup [],.tup []])]))= .ok (.ref (M.length+1)) _:=dw (get_set hBh) (by simp) rfl
 have q7b:=(RB' (.ins 11 [("me",.int me),("note",.fn P),("term",.int t),("vote",v),("row",.ref (M.length+1)),("kept",.tup [.tup [],.tup []])])).fb
 have q8a:lB [5,11] "row" (.ref M.length) (B.set M.length (.ins 11 [("me",.int me),("note",.fn P),("term",.int t),("vote",v),("row",.ref (M.length+1)),("kept",.tup [.tup [],.tup []]),("settled",.int b)]))= .ok (.ref (M.length+1)) _:=dw (get_set hBh) (by simp) rfl
 have q8b:=(RB' (.ins 11 [("me",.int me),("note",.fn P),("term",.int t),("vote",v),("row",.ref (M.length+1)),("kept",.tup [.tup [],.tup []]),("settled",.int b)])).fb
 obtain⟨B8,hB8⟩:∃B8,B8=B.set M.length (.ins 11 [("me",.int me),("note",.fn P),("term",.int t),("vote",v),("row",.ref (M.length+1)),("kept",.tup [.tup [],.tup []]),("settled",.int b),("done",.int b)]):=⟨_,rfl⟩
 have gM8:Gr M B8:=by rw[hB8];exact gB' _
 have R8:fU B8 (M.length+1) b bt br (M.length+1+1) es:=by rw[hB8];exact RB' _
 have h8:B8[M.length]? = some (.ins 11 [("me",.int me),("note",.fn P),("term",.int t),("vote",v),("row",.ref (M.length+1)),("kept",.tup [.tup [],.tup []]),("settled",.int b),("done",.int b)]):=by rw[hB8];exact get_set hBh
 have q9:=fK B8 gM8
 obtain⟨sh,C,e9,gC⟩:=JH (M:=B8)
 have hCh:=gC _ _ h8
 have RC:=R8.gr gC
 have p9:dU [11] "shelf" (.ref sh) (.ref M.length) C=some (C.set M.length (.ins 11 [("me",.int me),("note",.fn P),("term",.int t),("vote",v),("row",.ref (M.length+1)),("kept",.tup [.tup [],.tup []]),("settled",.int b),("done",.int b),("shelf",.ref sh)])):=by
  rw[b8 hCh (by simp) (by simp)];rfl
 have p10:dU [11] "chair" .non (.ref M.length) (C.set M.length (.ins 11 [("me",.int me),("note",.fn P),("term",.int t),("vote",v),("row",.ref (M.length+1)),("kept",.tup [.tup [],.tup []]),("settled",.int b),("done",.int b),("shelf",.ref sh)]))=some (C.set M.length (.ins 11 [("me",.int me),("note",.fn P),("term",.int t),("vote",v),("row",.ref (M.length+1)),("kept",.tup [.tup [],.tup []]),("settled",.int b),("done",.int b),("shelf",.ref sh),("chair",.non)])):=by
  rw[b8 (get_set hCh) (by simp) (by simp),List.set_set];rfl
 obtain⟨C1,hC1⟩:∃C1,C1=C.set M.length (.ins 11 [("me",.int me),("note",.fn P),("term",.int t),("vote",v),("row",.ref (M.length+1)),("kept",.tup [.tup [],.tup []]),("settled",.int b),("done",.int b),("shelf",.ref sh),("chair",.non)]):=⟨_,rfl⟩
 have T6:C1[M.length]? = some (.ins 11 [("me",.int me),("note",.fn P),("term",.int t),("vote",v),("row",.ref (M.length+1)),("kept",.tup [.tup [],.tup []]),("settled",.int b),("done",.int b),("shelf",.ref sh),("chair",.non)]):=by rw[hC1];exact get_set hCh
 have R1:fU C1 (M.length+1) b bt br (M.length+1+1) es:=by rw[hC1];exact⟨by rw[aF (by omega)];exact RC.o,by rw[aF (by omega)];exact RC.k⟩
 have gM1:Gr M C1:=by rw[hC1];exact pQ (gM8.trans gC) (Nat.le_refl _)
 have ll:M.length<C1.length:=j_ T6
 have p11:dU [11] "seat" (.ref C1.length) (.ref M.length) (C1++[MO.ins 7 []])=some ((C1++[MO.ins 7 []]).set M.length (vA me P t v (M.length+1) (.tup [.tup [],.tup []]) b b sh .non C1.length)):=by
  rw[b8 (Gr.app _ _ T6) (by simp) (by simp)];rfl
 have R2:=R1.gr (Gr.app (xs:=[.ins 7 []]))
 have hPl:=j_ hP
 refine⟨(C1++[MO.ins 7 []]).set M.length (vA me P t v (M.length+1) (.tup [.tup [],.tup []]) b b sh .non C1.length),?_,⟨⟨_,_,_,_,C1.length,get_set (Gr.app _ _ T6),by rw[aF (by omega)];exact cA⟩,⟨by rw[aF (by omega)];exact R2.o,by rw[aF (by omega)];exact R2.k⟩,by rw[aF (by omega)];exact Gr.app _ _ (gM1 _ _ hP)⟩,pQ (gM1.trans Gr.app) (Nat.le_refl _)⟩
 simp only[n8,jb]
 simp[←hN0,p1,p2,q3,p3,q4,p4,←hA,q5,(R.gr gMA).me (m:= "twin") rfl,e5,p5,q6,p6,q7a,q7b,p7,q8a,q8b,p8,←hB8,q9,e9,p9,p10,←hC1,p11]
def vD:Option Int→D
 | none=> .non
 | some j=> .int j
def oW(me whom t asked:Int)(v:Option Int)(f:Bool):List D:=if asked<t then[.tup [.str "late",.int me,.int whom,.int t]]
 else if(if(if t<asked then none else v)=none∧f=true then some whom else if t<asked then none else v)=some whom then[.tup [.str "vote",.int me,.int whom,.int asked]]else[]
def oV(me whom t asked:Int)(v:Option Int)(f:Bool):List D:=if asked<t then[]else if(if t<asked then none else v)=none∧f=true then[.tup [.str "vote",.int me,.int asked,.int whom]]else[]
def jn(t asked:Int):Int:=if asked<t then t else asked
def j4(whom t asked:Int)(v:Option Int)(f:Bool):Option Int:=if asked<t then v else if(if t<asked then none else v)=none∧f=true then some whom else if t<asked then none else v
theorem Pk{me whom t asked:Int}{v:Option Int}{f:Bool}:oW me whom (jn t asked) asked (j4 whom t asked v f) f=oW me whom t asked v f∧oV me whom (jn t asked) asked (j4 whom t asked v f) f=[]∧jn (jn t asked) asked=jn t asked∧j4 whom (jn t asked) asked (j4 whom t asked v f) f=j4 whom t asked v f:=by
 by_cases h1:asked<t
 ·simp[oW,oV,jn,j4,h1]
 ·have e:jn t asked=asked:=by simp[jn,h1]
  obtain⟨w,hw⟩:∃w,w=if t<asked then none else v:=⟨_,rfl⟩
  rw[e]
  cases w with
  | none=>cases f<;>simp[oW,oV,jn,j4,h1,←hw]
  | some j=>simp[oW,oV,jn,j4,h1,←hw]
def Fm(h P:Nat)(M M':Mem):Prop:=∀(i:Nat) (o:MO),i≠h→i≠P→M[i]? = some o→M'[i]? = some o
theorem Fm.refl{h P:Nat}{M:Mem}:Fm h P M M:=fun _ _ _ _ q=>q
theorem Fm.trans{h P:Nat}{M M1 M2:Mem}(a:Fm h P M M1)(b:Fm h P M1 M2):Fm h P M M2:=fun i o h1 h2 q=>b i o h1 h2 (a i o h1 h2 q)
theorem Gr.fm{h P:Nat}{M M':Mem}(g:Gr M M'):Fm h P M M':=fun i o _ _ q=>g i o q
theorem Fm.Nf{h P:Nat}{M:Mem}{o:MO}:Fm h P M (M.set h o):=fun i q h1 _ e=>by rw[aF (Ne.symm h1)];exact e
theorem Fm.abF{h P:Nat}{M:Mem}{o:MO}:Fm h P M (M.set P o):=fun i q _ h1 e=>by rw[aF (Ne.symm h1)];exact e
section
variable{M:Mem}{h P r l:Nat}{me t b bt:Int}{v br:D}{es ps:List D}
theorem j6.ob(H:j6 M h me P t v r l b bt br es ps):∃kd st dn sh seat,M[h]? = some (vA me P t v r kd st dn sh .non seat):=let⟨kd,st,dn,sh,seat,a,_⟩:=H.o;⟨kd,st,dn,sh,seat,a⟩
theorem j6.W8(H:j6 M h me P t v r l b bt br es ps):h≠P:=fun e=>by
 obtain⟨kd,st,dn,sh,seat,a⟩:=H.ob
 have:=H.p;rw[←e,a]at this;cases this
theorem j6.nhr(H:j6 M h me P t v r l b bt br es ps):h≠r:=fun e=>by
 obtain⟨kd,st,dn,sh,seat,a⟩:=H.ob
 have:=H.r.o;rw[←e,a]at this;cases this
theorem j6.nhl(H:j6 M h me P t v r l b bt br es ps):h≠l:=fun e=>by
 obtain⟨kd,st,dn,sh,seat,a⟩:=H.ob
 have:=H.r.k;rw[←e,a]at this;cases this
theorem j6.nPr(H:j6 M h me P t v r l b bt br es ps):P≠r:=fun e=>by
 have:=H.r.o;rw[←e,H.p]at this;cases this
theorem j6.Vp(H:j6 M h me P t v r l b bt br es ps):lB [11] "me" (.ref h) M= .ok (.int me) M:=by obtain⟨kd,st,dn,sh,seat,a⟩:=H.ob;exact dw a (by simp) rfl
theorem j6.Yo(H:j6 M h me P t v r l b bt br es ps):lB [11] "note" (.ref h) M= .ok (.fn P) M:=by obtain⟨kd,st,dn,sh,seat,a⟩:=H.ob;exact dw a (by simp) rfl
theorem j6.x_(H:j6 M h me P t v r l b bt br es ps):lB [5,11] "term" (.ref h) M= .ok (.int t) M:=by obtain⟨kd,st,dn,sh,seat,a⟩:=H.ob;exact dw a (by simp) rfl
theorem j6.za(H:j6 M h me P t v r l b bt br es ps):lB [5,11] "vote" (.ref h) M= .ok v M:=by obtain⟨kd,st,dn,sh,seat,a⟩:=H.ob;exact dw a (by simp) rfl
theorem j6.Ua(H:j6 M h me P t v r l b bt br es ps):lB [5,11] "row" (.ref h) M= .ok (.ref r) M:=by obtain⟨kd,st,dn,sh,seat,a⟩:=H.ob;exact dw a (by simp) rfl
theorem j6.Ub(H:j6 M h me P t v r l b bt br es ps):lB [11] "chair" (.ref h) M= .ok .non M:=by obtain⟨kd,st,dn,sh,seat,a⟩:=H.ob;exact dw a (by simp) rfl
theorem j6.Yn(H:j6 M h me P t v r l b bt br es ps):∃seat,lB [11] "seat" (.ref h) M= .ok (.ref seat) M∧M[seat]? = some (.ins 7 []):=by obtain⟨kd,st,dn,sh,seat,a,c⟩:=H.o;exact⟨seat,dw a (by simp) rfl,c⟩
theorem j6.Td(H:j6 M h me P t v r l b bt br es ps){m:Str}(hm:m∈(["take","answer_late","enter","take_please","give_vote","tell_paper"]:List Str)):qK 11 m (.ref h) M=true:=by
 obtain⟨kd,st,dn,sh,seat,a⟩:=H.ob
 refine xV a ?_
 simp only[List.mem_cons,List.not_mem_nil,or_false]at hm
 rcases hm with rfl | rfl | rfl | rfl | rfl | rfl<;>rfl
theorem j6.gr(H:j6 M h me P t v r l b bt br es ps){M':Mem}(g:Gr M M'):j6 M' h me P t v r l b bt br es ps:=by
 obtain⟨kd,st,dn,sh,seat,a,c⟩:=H.o
 exact⟨⟨kd,st,dn,sh,seat,g _ _ a,g _ _ c⟩,H.r.gr g,g _ _ H.p⟩
theorem j6.FQ(H:j6 M h me P t v r l b bt br es ps)(u:D):∃M',dU [5,11] "vote" u (.ref h) M=some M'∧j6 M' h me P t u r l b bt br es ps∧Fm h P M M':=by
 obtain⟨kd,st,dn,sh,seat,a,c⟩:=H.o
 have hs:seat≠h:=fun e=>by rw[e,a]at c;cases c
 refine⟨M.set h (vA me P t u r kd st dn sh .non seat),by rw[b8 a (by simp) (by simp)];rfl,⟨⟨kd,st,dn,sh,seat,get_set a,by rw[aF (Ne.symm hs)];exact c⟩,⟨by rw[aF H.nhr];exact H.r.o,by rw[aF H.nhl];exact H.r.k⟩,by rw[aF H.W8];exact H.p⟩,Fm.Nf⟩
theorem j6.M_(H:j6 M h me P t v r l b bt br es ps)(u:Int):∃M',dU [5,11] "term" (.int u) (.ref h) M=some M'∧j6 M' h me P u v r l b bt br es ps∧Fm h P M M':=by
 obtain⟨kd,st,dn,sh,seat,a,c⟩:=H.o
 have hs:seat≠h:=fun e=>by rw[e,a]at c;cases c
 refine⟨M.set h (vA me P u v r kd st dn sh .non seat),by rw[b8 a (by simp) (by simp)];rfl,⟨⟨kd,st,dn,sh,seat,get_set a,by rw[aF (Ne.symm hs)];exact c⟩,⟨by rw[aF H.nhr];exact H.r.o,by rw[aF H.nhl];exact H.r.k⟩,by rw[aF H.W8];exact H.p⟩,Fm.Nf⟩
theorem j6.JK(H:j6 M h me P t v r l b bt br es ps):∃M',dU [11] "chair" .non (.ref h) M=some M'∧j6 M' h me P t v r l b bt br es ps∧Fm h P M M':=by
 obtain⟨kd,st,dn,sh,seat,a,c⟩:=H.o
 have hs:seat≠h:=fun e=>by rw[e,a]at c;cases c
 refine⟨M.set h (vA me P t v r kd st dn sh .non seat),by rw[b8 a (by simp) (by simp)];rfl,⟨⟨kd,st,dn,sh,seat,get_set a,by rw[aF (Ne.symm hs)];exact c⟩,⟨by rw[aF H.nhr];exact H.r.o,by rw[aF H.nhl];exact H.r.k⟩,by rw[aF H.W8];exact H.p⟩,Fm.Nf⟩
theorem j6.Nb(H:j6 M h me P t v r l b bt br es ps){s:Nat}(c:M[s]? = some (.ins 7 [])):∃M',dU [11] "seat" (.ref s) (.ref h) M=some M'∧j6 M' h me P t v r l b bt br es ps∧Fm h P M M':=by
 obtain⟨kd,st,dn,sh,seat,a,_⟩:=H.o
 have hs:s≠h:=fun e=>by rw[e,a]at c;cases c
 refine⟨M.set h (vA me P t v r kd st dn sh .non s),by rw[b8 a (by simp) (by simp)];rfl,⟨⟨kd,st,dn,sh,s,get_set a,by rw[aF (Ne.symm hs)];exact c⟩,⟨by rw[aF H.nhr];exact H.r.o,by rw[aF H.nhl];exact H.r.k⟩,by rw[aF H.W8];exact H.p⟩,Fm.Nf⟩
theorem Mx(H:j6 M h me P t v r l b bt br es ps)(hl:l≠P)(hz:ps.length<100)(d:D):∃M',iH [.ref h,d] M= .ok .non M'∧j6 M' h me P t v r l b bt br es (ps++[d])∧Fm h P M M':=by
 obtain⟨kd,st,dn,sh,seat,a,c⟩:=H.o
 have hs:seat≠P:=fun e=>by rw[e,H.p]at c;cases c
 have e1:w6 (.fn P) d M= .ok .non (M.set P (.lst (ps++[d]))):=by
  simp only[w6,H.p]
  rw[if_pos (by rw[wk];omega)]
 refine⟨M.set P (.lst (ps++[d])),?_,⟨⟨kd,st,dn,sh,seat,by rw[aF (Ne.symm H.W8)];exact a,by rw[aF (Ne.symm hs)];exact c⟩,⟨by rw[aF H.nPr];exact H.r.o,by rw[aF (Ne.symm hl)];exact H.r.k⟩,get_set H.p⟩,Fm.abF⟩
 have e2:Gv (.fn P)=false:=rfl
 have e3:isFn (.fn P)=true:=rfl
 simp only[iH,cJ,lZ]
 simp[H.Yo,e2,Er,e3,e1]
theorem O6(H:j6 M h me P t v r l b bt br es ps)(hl:l≠P)(hz:ps.length<100)(w:Int):∃M',ji [.ref h,.int w] M= .ok .non M'∧j6 M' h me P t (.int w) r l b bt br es (ps++[.tup [.str "vote",.int me,.int t,.int w]])∧Fm h P M M':=by
 obtain⟨M1,e1,H1,f1⟩:=H.FQ (.int w)
 obtain⟨M2,e2,H2,f2⟩:=Mx H1 hl hz (.tup [.str "vote",.int me,.int t,.int w])
 refine⟨M2,?_,H2,f1.trans f2⟩
 simp only[ji,cU]
 simp[e1,H1.Td (m:= "tell_paper") (by simp),H1.Vp,H1.x_,e2]
theorem Ld(H:j6 M h me P t v r l b bt br es ps)(u:Int):∃M',mH [.ref h,.int u] M= .ok .non M'∧j6 M' h me P u .non r l b bt br es ps∧Fm h P M M':=by
 obtain⟨M1,e1,H1,f1⟩:=H.M_ u
 obtain⟨M2,e2,H2,f2⟩:=H1.FQ .non
 obtain⟨M3,e3,H3,f3⟩:=H2.JK
 have g3:Gr M3 (M3++[.ins 7 []]):=Gr.app
 obtain⟨M4,e4,H4,f4⟩:=(H3.gr g3).Nb (s:=M3.length) cA
 refine⟨M4,?_,H4,f1.trans (f2.trans (f3.trans (g3.fm.trans f4)))⟩
 simp only[mH,ie]
 simp[e1,e2,e3,e4]
theorem Qu{w:Int}{u:Option Int}{M:Mem}:sEq (vD u) (.int w) M= .ok (.bl (decide (u=some w))) M:=by
 cases u with
 | none=>refine(zZ (b:=false) (uP (a:= .non) (b:= .int w) rfl rfl)).trans ?_;simp
 | some j=>show sEq (.int j) (.int w) M=_;rw[Ny];simp
theorem Qs{w:Int}{u:Option Int}{M:Mem}:sNe (vD u) (.int w) M= .ok (.bl (!decide (u=some w))) M:=by
 cases u with
 | none=>refine(wY (b:=false) (uP (a:= .non) (b:= .int w) rfl rfl)).trans ?_;simp
 | some j=>show sNe (.int j) (.int w) M=_;rw[Nh];simp
theorem KN{u:Option Int}:Gv (vD u)=decide (u=none):=by cases u<;>rfl
variable{u:Option Int}{whom:Int}{et ep x y:Int}
theorem yS(H:j6 M h me P t (vD u) r l b bt br es ps)(hl:l≠P)(hz:ps.length<100)(hE:∀d∈es,qY d)(he:endOf b bt es= .tup [.int et,.int ep]):
  ∃n M',cR [.ref h,.int whom,.tup [.int x,.int y]] M= .ok (.ref n) M'∧M'[n]? = some (.lst (if(if u=none∧yI.uI [et,ep] [x,y]=true then some whom else u)=some whom then[.tup [.str "vote",.int me,.int whom,.int t]]else[]))∧M.length≤n∧
   j6 M' h me P t (vD (if u=none∧yI.uI [et,ep] [x,y]=true then some whom else u)) r l b bt br es (ps++if u=none∧yI.uI [et,ep] [x,y]=true then[.tup [.str "vote",.int me,.int t,.int whom]]else[])∧Fm h P M M':=by
 have en:=Ue H.r hE
 rw[he]at en
 have le:∀M:Mem,Vh (.tup [.int et,.int ep]) (.tup [.int x,.int y]) M= .ok (.bl (yI.uI [et,ep] [x,y])) M:=fun M=>Qt rfl rfl
 have rest:∀(u':Option Int) (ps':List D) (M1:Mem),j6 M1 h me P t (vD u') r l b bt br es ps'→Fm h P M M1→M.length≤M1.length→∃n M',Ed ((aQ fu (fY (kE (ao (jK (ao (mC (.str "vote")) (ao (dD [11] (aq 0) "me") (ao (aq 1) (ao (dD [5,11] (aq 0) "term") aH))))) aH)))) [some (.ref h),some (.int whom),some (.tup [.int x,.int y])] M1)= .ok (.ref n) M'∧M'[n]? = some (.lst (if u'=some whom then[.tup [.str "vote",.int me,.int whom,.int t]]else[]))∧M.length≤n∧j6 M' h me P t (vD u') r l b bt br es ps'∧Fm h P M M':=fun u' ps' M1 H1 f1 hlen=>by
  by_cases hw:u'=some whom
  ·refine⟨M1.length,M1++[.lst [.tup [.str "vote",.int me,.int whom,.int t]]],?_,by rw[if_pos hw];exact cA,hlen,H1.gr Gr.app,f1.trans Gr.app.fm⟩
   simp only[fu]
   simp[H1.za,Qs,hw,H1.Vp,H1.x_]
  ·refine⟨M1.length,M1++[.lst []],?_,by rw[if_neg hw];exact cA,hlen,H1.gr Gr.app,f1.trans Gr.app.fm⟩
   simp only[fu]
   simp[H1.za,Qs,hw]
 by_cases hu:u=none
 ·subst hu
  cases hf:yI.uI [et,ep] [x,y]with
  | true=>
   rw[hf]at le
   obtain⟨M1,e1,H1,f1⟩:=O6 H hl hz whom
   have hlen:M.length≤M1.length:=by
    rcases Nat.eq_zero_or_pos M.length with z | z
    ·omega
    ·have hh:M[M.length - 1]? = some M[M.length - 1]:=List.getElem?_eq_getElem (by omega)
     rcases Nat.lt_or_ge M1.length M.length with w | w
     ·exfalso
      obtain⟨kd,st,dn,sh,seat,a⟩:=H1.ob
      have a1:=j_ a
      have a2:=j_ H1.p
      have:=j_ (f1 (M.length - 1) _ (by omega) (by omega) hh)
      omega
     ·exact w
   obtain⟨n,M2,e2,r2⟩:=rest (some whom) _ M1 H1 f1 hlen
   refine⟨n,M2,?_,by simpa using r2⟩
   simp only[cR,bC,fB,tO]
   rw[←e2]
   have hv:vD none= .non:=rfl
   simp[H.za,hv,H.Ua,H.r.me (m:= "end") rfl,en,le,H.Td (m:= "give_vote") (by simp),e1]
  | false=>
   rw[hf]at le
   obtain⟨n,M2,e2,r2⟩:=rest none ps M H .refl (Nat.le_refl _)
   refine⟨n,M2,?_,by simpa using r2⟩
   simp only[cR,bC,fB,tO]
   rw[←e2]
   have hv:vD none= .non:=rfl
   simp[H.za,hv,H.Ua,H.r.me (m:= "end") rfl,en,le]
 ·obtain⟨n,M2,e2,r2⟩:=rest u ps M H .refl (Nat.le_refl _)
  refine⟨n,M2,?_,by simpa[hu]using r2⟩
  simp only[cR,bC,fB,tO]
  rw[←e2]
  simp[H.za,KN,hu]
end
section
variable{M:Mem}{h P r l:Nat}{me t b bt:Int}{br:D}{es ps:List D}{u:Option Int}{whom asked et ep x y:Int}
theorem Fm.len(H:j6 M h me P t (vD u) r l b bt br es ps){M':Mem}(f:Fm h P M M'){t':Int}{u':D}{ps':List D}(H':j6 M' h me P t' u' r l b bt br es ps'):M.length≤M'.length:=by
 rcases Nat.lt_or_ge M'.length M.length with w | w
 ·exfalso
  obtain⟨kd,st,dn,sh,seat,a⟩:=H'.ob
  have a1:=j_ a
  have a2:=j_ H'.p
  have hh:M[M.length - 1]? = some M[M.length - 1]:=List.getElem?_eq_getElem (by omega)
  have:=j_ (f (M.length - 1) _ (by omega) (by omega) hh)
  omega
 ·exact w
def letter(whom me asked x y:Int):D:= .tup [.str "please",.int whom,.int me,.int asked,.tup [.int x,.int y]]
theorem ix4{a b c d e:D}{M:Mem}:j8 (.tup [a,b,c,d,e]) (.int 4) M= .ok e M:=pN (by decide) rfl
theorem Mz(H:j6 M h me P t (vD u) r l b bt br es ps)(hl:l≠P)(hz:ps.length<100)(hE:∀d∈es,qY d)(he:endOf b bt es= .tup [.int et,.int ep]):
  ∃n M',jM [.ref h,letter whom me asked x y] M= .ok (.ref n) M'∧M'[n]? = some (.lst (oW me whom t asked u (yI.uI [et,ep] [x,y])))∧M.length≤n∧
   j6 M' h me P (jn t asked) (vD (j4 whom t asked u (yI.uI [et,ep] [x,y]))) r l b bt br es (ps++oV me whom t asked u (yI.uI [et,ep] [x,y]))∧Fm h P M M':=by
 have pl:("please" : Str)= "please" := rfl
 have w1:decide (("please" : Str)= "please")=true:=decide_eq_true rfl
 by_cases h1:asked<t
 ·have inn:∀M:Mem,sIn (.str "please") (.tup [.str "please",.str "tell",.str "whole"]) M= .ok (.bl true) M:=fun M=>rfl
  refine⟨M.length,M++[.lst [.tup [.str "late",.int me,.int whom,.int t]]],?_,by simp only[oW,h1,if_true];exact cA,Nat.le_refl _,?_,Gr.app.fm⟩
  ·have e1:gY [.ref h,letter whom me asked x y] M= .ok (.ref M.length) (M++[.lst [.tup [.str "late",.int me,.int whom,.int t]]]):=by
    simp only[gY,cj,lz,letter]
    simp[inn,H.Vp,H.x_]
   simp only[letter]at e1
   simp only[jM,fH,lg,k_,letter]
   simp[H.Vp,H.x_,h1,H.Td (m:= "answer_late") (by simp),e1]
  ·have:oV me whom t asked u (yI.uI [et,ep] [x,y])=[]:=by simp only[oV,h1,if_true]
   rw[this,List.append_nil]
   have:jn t asked=t:=by simp only[jn,h1,if_true]
   rw[this]
   have:j4 whom t asked u (yI.uI [et,ep] [x,y])=u:=by simp only[j4,h1,if_true]
   rw[this]
   exact H.gr Gr.app
 ·have ht:jn t asked=asked:=by simp only[jn,h1,if_false]
  by_cases h2:t<asked
  ·obtain⟨M1,e1,H1,f1⟩:=Ld H asked
   have H1:j6 M1 h me P asked (vD none) r l b bt br es ps:=H1
   obtain⟨n,M2,e2,q1,q2,q3,q4⟩:=yS (whom:=whom) (x:=x) (y:=y) H1 hl hz hE he
   have hlen:=Fm.len H f1 H1
   refine⟨n,M2,?_,?_,by omega,?_,f1.trans q4⟩
   ·simp only[jM,fH,lg,k_,oO,oN,letter]
    simp[H.Vp,H.x_,h1,h2,H.Td (m:= "enter") (by simp),e1,H1.Td (m:= "take_please") (by simp),ix4,e2]
   ·simpa only[oW,h1,h2,if_false,if_true]using q1
   ·rw[ht]
    simpa only[oV,j4,h1,h2,if_false,if_true]using q3
  ·have hta:t=asked:=by omega
   subst hta
   obtain⟨n,M2,e2,q1,q2,q3,q4⟩:=yS (whom:=whom) (x:=x) (y:=y) H hl hz hE he
   refine⟨n,M2,?_,?_,q2,?_,q4⟩
   ·simp only[jM,fH,lg,k_,oO,oN,letter]
    simp[H.Vp,H.x_,H.Td (m:= "take_please") (by simp),ix4,e2]
   ·simpa only[oW,h1,if_false]using q1
   ·rw[ht]
    simpa only[oV,j4,h1,if_false]using q3
end
theorem Uh{M:Mem}{me whom t asked:Int}{u:Option Int}{f:Bool}:∃a p c M',mK [.int me,.int whom,.int t,vD u,.int asked,.bl f] M= .ok (.tup [.ref a,.ref p,.ref c]) M'∧M'[a]? = some (.lst (oW me whom t asked u f))∧M'[p]? = some (.lst (oV me whom t asked u f))∧M'[c]? = some (.lst [.int (jn t asked),vD (j4 whom t asked u f),.non])∧M.length≤a∧M.length≤p∧M.length≤c∧Gr M M':=by
 by_cases h1:asked<t
 ·refine⟨M.length,M.length+1,M.length+2,M++[.lst [.tup [.str "late",.int me,.int whom,.int t]],.lst [],.lst [.int t,vD u,.non]],?_,?_,?_,?_,by omega,by omega,by omega,Gr.app⟩
  ·simp only[mK,jl,oE]
   simp[h1]
  ·simp[oW,h1]
  ·simp[oV,h1,List.getElem?_append_right]
  ·simp[jn,j4,h1,List.getElem?_append_right]
 ·obtain⟨w,hw⟩:∃w:Option Int,w=if t<asked then none else u:=⟨_,rfl⟩
  have ea:oW me whom t asked u f=if(if w=none∧f=true then some whom else w)=some whom then[.tup [.str "vote",.int me,.int whom,.int asked]]else[]:=by simp only[oW,h1,if_false,←hw]
  have ep:oV me whom t asked u f=if w=none∧f=true then[.tup [.str "vote",.int me,.int asked,.int whom]]else[]:=by simp only[oV,h1,if_false,←hw]
  have et:jn t asked=asked:=by simp only[jn,h1,if_false]
  have ev:j4 whom t asked u f=if w=none∧f=true then some whom else w:=by simp only[j4,h1,if_false,←hw]
  rw[ea,ep,et,ev]
  have s2:∀(v6:Option D) (M:Mem),oA [some (.int me),some (.int whom),some (.int t),some (vD u),some (.int asked),some (.bl f),v6] M= .next [some (.int me),some (.int whom),some (.int t),some (vD w),some (.int asked),some (.bl f),v6] M:=fun v6 M=>by
   by_cases h2:t<asked
   ·rw[hw,if_pos h2]
    simp only[oA]
    simp[h2]
    rfl
   ·rw[hw,if_neg h2]
    simp only[oA]
    simp[h2]
  have s1:∀(M:Mem),oE [some (.int me),some (.int whom),some (.int t),some (vD u),some (.int asked),some (.bl f),none] M= .next [some (.int me),some (.int whom),some (.int t),some (vD u),some (.int asked),some (.bl f),none] M:=fun M=>by
   simp only[oE]
   simp[h1]
  have rest:∀(w':Option Int) (p:Nat) (M1:Mem) (ds:List D),M1[p]? = some (.lst ds)→M.length≤p→M.length≤M1.length→Gr M M1→∃a c M',Ed ((aQ ou (fY (jK (ao (kE aH) (ao (aq 6) (ao (kE (ao (aq 4) (ao (aq 3) (ao (mC .non) aH)))) aH)))))) [some (.int me),some (.int whom),some (.int t),some (vD w'),some (.int asked),some (.bl f),some (.ref p)] M1)= .ok (.tup [.ref a,.ref p,.ref c]) M'∧M'[a]? = some (.lst (if w'=some whom then[.tup [.str "vote",.int me,.int whom,.int asked]]else[]))∧M'[p]? = some (.lst ds)∧M'[c]? = some (.lst [.int asked,vD w',.non])∧M.length≤a∧M.length≤p∧M.length≤c∧Gr M M':=fun w' p M1 ds hp hpl hlen g=>by
   by_cases hww:w'=some whom
   ·refine⟨M1.length,M1.length+1,M1++[.lst [.tup [.str "vote",.int me,.int whom,.int asked]],.lst [.int asked,vD w',.non]],?_,by rw[if_pos hww];simp,Gr.app _ _ hp,by simp[List.getElem?_append_right],hlen,hpl,by omega,g.trans Gr.app⟩
    simp only[ou]
    simp[Qu,hww]
   ·refine⟨M1.length,M1.length+1,M1++[.lst [],.lst [.int asked,vD w',.non]],?_,by rw[if_neg hww];simp,Gr.app _ _ hp,by simp[List.getElem?_append_right],hlen,hpl,by omega,g.trans Gr.app⟩
    simp only[ou]
    simp[Qu,hww]
  by_cases hc:w=none∧f=true
  ·obtain⟨hc1,hc2⟩:=hc
   obtain⟨a,c,M',e,q1,q2,q3,q4,q5,q6,q7⟩:=rest (some whom) (M.length+1) (M++[.lst [],.lst [.tup [.str "vote",.int me,.int asked,.int whom]]]) [.tup [.str "vote",.int me,.int asked,.int whom]] (by simp[List.getElem?_append_right]) (by omega) (by simp) Gr.app
   refine⟨a,M.length+1,c,M',?_,by simpa[hc1,hc2]using q1,by simpa[hc1,hc2]using q2,by simpa[hc1,hc2]using q3,q4,q5,q6,q7⟩
   rw[←e]
   simp only[mK,jl,tO]
   subst hc2
   rw[hc1]at s2
   have hv:vD none= .non:=rfl
   simp only[qL]
   simp[s1,s2,hv]
   rfl
  ·obtain⟨a,c,M',e,q1,q2,q3,q4,q5,q6,q7⟩:=rest w M.length (M++[.lst []]) [] cA (by omega) (by simp) Gr.app
   refine⟨a,M.length,c,M',?_,by simpa only[hc,if_false]using q1,by simpa only[hc,if_false]using q2,by simpa only[hc,if_false]using q3,q4,q5,q6,q7⟩
   rw[←e]
   simp only[mK,jl,tO]
   simp only[qL]
   by_cases hw0:w=none
   ·have hf:f=false:=by cases f with | true=>exact absurd ⟨hw0,rfl⟩ hc | false=>rfl
    subst hf
    simp[s1,s2,KN,hw0]
   ·simp[s1,s2,KN,hw0]
theorem Jr{M:Mem}{k:Nat}{u:Option Int}:rC M (k+1) (vD u) (vD u):=by cases u with
 | none=>exact .non
 | some j=>exact .int j
theorem Kf{Q:D→Prop}{C:Prop}[Decidable C]{x:D}(h:Q x):(∀d∈(if C then[x]else[]),Q d)∧(if C then[x]else[]).length≤1:=by
 by_cases c:C
 ·rw[if_pos c]
  exact⟨fun d hd=>by rw[List.mem_singleton.mp hd];exact h,by simp⟩
 ·rw[if_neg c]
  exact⟨by simp,by simp⟩
theorem wH{M:Mem}{k:Nat}{s:Str}{a b c:Int}:rC M (k+2) (.tup [.str s,.int a,.int b,.int c]) (.tup [.str s,.int a,.int b,.int c]):= .tups (.cons (.str _) (.cons (.int _) (.cons (.int _) (.cons (.int _) .nil)))) (by simp)
theorem Qc{M:Mem}{k:Nat}{me whom t asked:Int}{u:Option Int}{f:Bool}:(∀d∈oW me whom t asked u f,rC M (k+2) d d)∧(oW me whom t asked u f).length≤1:=by
 unfold oW
 by_cases h1:asked<t
 ·rw[if_pos h1]
  exact⟨fun d hd=>by rw[List.mem_singleton.mp hd];exact wH,by simp⟩
 ·rw[if_neg h1]
  exact Kf (Q:=fun d=>rC M (k+2) d d) wH
theorem Oi{M:Mem}{k:Nat}{me whom t asked:Int}{u:Option Int}{f:Bool}:(∀d∈oV me whom t asked u f,rC M (k+2) d d)∧(oV me whom t asked u f).length≤1:=by
 unfold oV
 by_cases h1:asked<t
 ·rw[if_pos h1]
  exact⟨by simp,by simp⟩
 ·rw[if_neg h1]
  exact Kf (Q:=fun d=>rC M (k+2) d d) wH
structure Vf(M:Mem)(h P E a p c:Nat)(es ans pap:List D)(t:Int)(v:Option Int):Prop where
 e:M[E]? = some (.lst es)
 a:M[a]? = some (.lst ans)
 p:M[p]? = some (.lst pap)
 c:M[c]? = some (.lst [.int t,vD v,.non])
theorem Vf.fm{M M':Mem}{h P E a p c:Nat}{es ans pap:List D}{t:Int}{v:Option Int}(C:Vf M h P E a p c es ans pap t v){o:MO}(hh:M[h]? = some o)(ho:∀ds,o≠ .lst ds)(f:Fm h P M M')(n1:E≠P)(n2:a≠P)(n3:p≠P)(n4:c≠P):Vf M' h P E a p c es ans pap t v:=by
 have nh:∀(i:Nat) (ds:List D),M[i]? = some (.lst ds)→i≠h:=fun i ds q e=>by rw[e,hh]at q;cases q;exact ho ds rfl
 exact⟨f _ _ (nh _ _ C.e) n1 C.e,f _ _ (nh _ _ C.a) n2 C.a,f _ _ (nh _ _ C.p) n3 C.p,f _ _ (nh _ _ C.c) n4 C.c⟩
theorem Ql{M:Mem}{h P E a p c r l:Nat}{me whom asked b bt et ep x y t u':Int}{br:D}{es ps ans pap:List D}{u v':Option Int}{v0 v3 v4 v6 v7 v8 v11 DG Dz:Option D}
  (H:j6 M h me P t (vD u) r l b bt br es ps) (hl:l≠P) (hz:ps.length<100) (hE:∀d∈es,qY d) (hel:es.length≤4) (he:endOf b bt es= .tup [.int et,.int ep]) (C:Vf M h P E a p c es ans pap u' v') (n1:E≠P) (n2:a≠P) (n3:p≠P) (n4:c≠P)
  (q1:oW me whom t asked u (yI.uI [et,ep] [x,y])=ans) (q2:ps++oV me whom t asked u (yI.uI [et,ep] [x,y])=pap) (q3:jn t asked=u') (q4:j4 whom t asked u (yI.uI [et,ep] [x,y])=v')
  (ha:∀(M:Mem),qw M 6 ans ans∧ans.length≤1000) (hp:∀(M:Mem),qw M 6 pap pap∧pap.length≤1000):
  ∃M',vQ [v0,some (.int me),some (.int whom),v3,v4,some (.ref E),v6,v7,v8,some (.int asked),some (.tup [.int x,.int y]),v11,some (.ref P),some (.ref h),some (.ref a),some (.ref p),some (.ref c),DG,Dz] M= .next [v0,some (.int me),some (.int whom),v3,v4,some (.ref E),v6,v7,v8,some (.int asked),some (.tup [.int x,.int y]),v11,some (.ref P),some (.ref h),some (.ref a),some (.ref p),some (.ref c),DG,Dz] M'∧
   j6 M' h me P u' (vD v') r l b bt br es pap∧Vf M' h P E a p c es ans pap u' v'∧Fm h P M M':=by
 obtain⟨n,M1,e1,hn,_,H1,f1⟩:=Mz (whom:=whom) (asked:=asked) (x:=x) (y:=y) H hl hz hE he
 rw[q1]at hn
 rw[q2,q3,q4]at H1
 obtain⟨kd,st,dn,sh,seat,hob⟩:=H.ob
 have C1:=C.fm hob (fun ds z=>by cases z) f1 n1 n2 n3 n4
 obtain⟨M2,e2,g2⟩:=qX (.Ky (k:=6+1) hn C1.a (by
  have:=(ha M1).1
  exact qw.self fun d hd=>by
   obtain⟨i,hi⟩:=List.getElem?_of_mem hd
   have:=this.get i d d hi hi
   exact rC.up this) (ha M1).2)
 have H2:=H1.gr g2
 have C2:Vf M2 h P E a p c es ans pap u' v':=⟨g2 _ _ C1.e,g2 _ _ C1.a,g2 _ _ C1.p,g2 _ _ C1.c⟩
 obtain⟨M3,e3,g3⟩:=qX (.Ky (k:=6+1) H2.p C2.p (by
  have:=(hp M2).1
  exact qw.self fun d hd=>by
   obtain⟨i,hi⟩:=List.getElem?_of_mem hd
   have:=this.get i d d hi hi
   exact rC.up this) (hp M2).2)
 have H3:=H2.gr g3
 obtain⟨N3,hN3⟩:∃N3,N3=M3++[MO.lst [.int u',vD v',.non]]:=⟨_,rfl⟩
 have gN3:Gr M3 N3:=by rw[hN3];exact Gr.app
 have ac0:N3[M3.length]? = some (.lst [.int u',vD v',.non]):=by rw[hN3];exact cA
 obtain⟨M4,e4,g4⟩:=qX (.Ky (k:=7) ac0 (gN3 _ _ (g3 _ _ C2.c)) (.cons (.int _) (.cons Jr (.cons .non .nil))) (by simp))
 have H4:=(H3.gr gN3).gr g4
 obtain⟨s4,fs,hs⟩:=H4.Yn
 have iw:qK 7 "word" (.ref s4) M4=true:=xV hs rfl
 have e5:=GJ H4.r
 obtain⟨N5,hN5⟩:∃N5,N5=M4++[MO.lst es]:=⟨_,rfl⟩
 have gN5:Gr M4 N5:=by rw[hN5];exact Gr.app
 rw[←hN5]at e5
 have hE5:N5[E]? = some (.lst es):=gN5 _ _ (g4 _ _ (gN3 _ _ (g3 _ _ C2.e)))
 obtain⟨M6,e6,g6⟩:=qX (CT (k:=3) hE hel (by rw[hN5];exact cA) hE5)
 have gg:Gr M2 M6:=g3.trans (gN3.trans (g4.trans (gN5.trans g6)))
 refine⟨M6,?_,H2.gr gg,⟨gg _ _ C2.e,gg _ _ C2.a,gg _ _ C2.p,gg _ _ C2.c⟩,f1.trans (g2.trans gg).fm⟩
 simp only[letter]at e1
 have w12:∀(a0 a1 a2 a3 a4 a5 a6 a7 a8 a9 a10 a11:Option D) (d:D) (r:Sl) (M:Mem),aq 12 (a0::a1::a2::a3::a4::a5::a6::a7::a8::a9::a10::a11::some d::r) M= .ok d M:=fun _ _ _ _ _ _ _ _ _ _ _ _ _ _ _=>tZ rfl
 have w16:∀(a0 a1 a2 a3 a4 a5 a6 a7 a8 a9 a10 a11 a12 a13 a14 a15:Option D) (d:D) (r:Sl) (M:Mem),aq 16 (a0::a1::a2::a3::a4::a5::a6::a7::a8::a9::a10::a11::a12::a13::a14::a15::some d::r) M= .ok d M:=fun _ _ _ _ _ _ _ _ _ _ _ _ _ _ _ _ _ _ _=>tZ rfl
 have ws:kY [.ref s4] M4= .ok (.str "sits") M4:=by simp[kY,fP]
 simp only[vQ,Gy,Gx,Gw]
 simp[H.Td (m:= "take") (by simp),e1,e2,e3,w16,H3.x_,H3.za,H3.Ub,←hN3,e4,fs,iw,ws,H4.Ua,H4.r.me (m:= "entries") rfl,e5,e6]
theorem JQ{M:Mem}{n k:Nat}{ds:List D}{d:D}(hM:M[n]? = some (.lst ds))(hl:ds.length=k+1)(h:ds[k]? = some d):j8 (.ref n) (.int (-1)) M= .ok d M:=by
 have atl:yH ds (-1)=ds[k]? := by
  unfold yH TV
  rw[if_neg (by decide),if_pos (by omega),hl]
  show ds[(-1+((k+1:Nat):Int)).toNat]? = _
  congr 1
  omega
 exact nW (nW (by simp only[Ce,wM,iD hM,atl,h]))
abbrev tE(ns:List Int)(me whom t:Int)(v:D)(E:Nat)(v6 v7 v8 v9 v10 v11 Mh Mg Mf Ma L_ DG Dz:Option D):Sl:=[some (.cl (ns.map D.int)),some (.int me),some (.int whom),some (.int t),some v,some (.ref E),v6,v7,v8,v9,v10,v11,Mh,Mg,Mf,Ma,L_,DG,Dz]
section
variable{M:Mem}{ns:List Int}{me whom t:Int}{v:D}{E:Nat}
theorem P_(v8 v9 v10 v11 Mh Mg Mf Ma L_ DG Dz:Option D):∃b w:Int,t7 (tE ns me whom t v E (some (.int 0)) (some (.int 0)) v8 v9 v10 v11 Mh Mg Mf Ma L_ DG Dz) M= .next (tE ns me whom t v E (some (.int b)) (some (.int w)) v8 v9 v10 v11 Mh Mg Mf Ma L_ DG Dz) M:=by
 have c5:=uo (M:=M) ns 5 (kk:=5) rfl
 have m3:∀(z:Int) (M:Mem),fW (.int z) (.int 3) M= .ok (.int (z % 3)) M:=fun z M=>di (by omega)
 have d3:∀(z:Int) (M:Mem),o6 (.int z) (.int 3) M= .ok (.int (z / 3)) M:=fun z M=>lu (by omega) (by omega)
 have m9:∀(z:Int) (M:Mem),fW (.int z) (.int 999999) M= .ok (.int (z % 999999)) M:=fun z M=>di (by omega)
 by_cases h1:cell ns 5 % 3=1
 ·by_cases h2:1<t
  ·refine⟨1+cell ns 5 / 3 % 999999,1,?_⟩
   simp only[t7]
   simp[c5,m3,d3,m9,h1,h2]
  ·refine⟨0,0,?_⟩
   simp only[t7]
   simp[c5,m3,h1,h2]
 ·refine⟨0,0,?_⟩
  simp only[t7]
  simp[c5,m3,h1]
theorem Ph{es:List D}{b w:Int}(hE:∀d∈es,qY d)(hM:M[E]? = some (.lst es))(v9 v10 v11 Mh Mg Mf Ma L_ DG Dz:Option D):wC (tE ns me whom t v E (some (.int b)) (some (.int w)) (some (.tup [.int w,.int b])) v9 v10 v11 Mh Mg Mf Ma L_ DG Dz) M= .next (tE ns me whom t v E (some (.int b)) (some (.int w)) (some (endOf b w es)) v9 v10 v11 Mh Mg Mf Ma L_ DG Dz) (M++[.lst []]):=by
 have g:Gr M (M++[.lst []]):=Gr.app
 have e1:=Pb hE (g _ _ hM) (m:=M.length) cA
 rcases uR (b:=b) (bt:=w) hE with⟨rfl,e⟩ | ⟨k,t',w',hl,hk,e⟩
 ·rw[e]
  simp only[wC]
  simp at e1
  simp[e1]
 ·rw[e]
  have hne:es.isEmpty=false:=by cases es with | nil=>simp at hl | cons a b=>rfl
  rw[hne]at e1
  have e2:=JQ (g _ _ hM) hl hk
  have e3:=o5 (g _ _ hM)
  simp only[wC]
  simp[e1,e2,e3]
theorem Lq{T:Int}(hT:0<T)(pw:∀M:Mem,zX (.int 10) (.int 40) M= .ok (.int T) M)(a:Int)(v6 v7 v8 v10 v11 Mh Mg Mf Ma L_ DG Dz:Option D):∃a':Int,wB (tE ns me whom t v E v6 v7 v8 (some (.int a)) v10 v11 Mh Mg Mf Ma L_ DG Dz) M= .next (tE ns me whom t v E v6 v7 v8 (some (.int a')) v10 v11 Mh Mg Mf Ma L_ DG Dz) M:=by
 have c8:=uo (M:=M) ns 8 (kk:=8) rfl
 have m4:∀(z:Int) (M:Mem),fW (.int z) (.int 4) M= .ok (.int (z % 4)) M:=fun z M=>di (by omega)
 have d4:∀(z:Int) (M:Mem),o6 (.int z) (.int 4) M= .ok (.int (z / 4)) M:=fun z M=>lu (by omega) (by omega)
 have mT:∀(z:Int) (M:Mem),fW (.int z) (.int T) M= .ok (.int (z % T)) M:=fun z M=>di hT
 by_cases h1:cell ns 8 % 4=3
 ·refine⟨t+1+cell ns 8 / 4 % T,?_⟩
  simp only[wB]
  simp[c8,m4,d4,pw,mT,h1]
 ·refine⟨a,?_⟩
  simp only[wB]
  simp[c8,m4,h1]
end
theorem lw2{g:Tg}{b:MS}{d:D}{ds:List D}{e e1:Sl}{M M':Mem}(hg:g d e=some e1){e2:Sl}(hb:b e1 M= .next e2 M'):lC none g b (d::ds) e M=lC none g b ds e2 M':=by
 rw[lC,if_pos (show mz none M from trivial),hg]
 simp only[hb]
theorem Tq(ns:List Int)(hn:ns.length≤63):∃M,Ks [.cl (ns.map D.int)] []= .ok (.bl true) M:=by
 obtain⟨T,hT,pw⟩:∃T:Int,0<T∧∀M:Mem,zX (.int 10) (.int 40) M= .ok (.int T) M:=⟨10 ^ 40,by decide,fun M=>B_ (by decide)⟩
 have c:∀(k:Nat) (M:Mem),aR [.cl (ns.map D.int),.int (k:Int)] M= .ok (.int (cell ns k)) M:=fun k M=>uo ns k rfl
 have c0:=c 0
 have c1:=c 1
 have c2:=c 2
 have c3:=c 3
 have c4:=c 4
 have c8:=c 8
 simp only[Int.cast_ofNat_Int]at c0 c1 c2 c3 c4 c8
 have m60:∀(z:Int) (M:Mem),fW (.int z) (.int 60) M= .ok (.int (z % 60)) M:=fun z M=>di (by omega)
 have m59:∀(z:Int) (M:Mem),fW (.int z) (.int 59) M= .ok (.int (z % 59)) M:=fun z M=>di (by omega)
 have m4:∀(z:Int) (M:Mem),fW (.int z) (.int 4) M= .ok (.int (z % 4)) M:=fun z M=>di (by omega)
 have d4:∀(z:Int) (M:Mem),o6 (.int z) (.int 4) M= .ok (.int (z / 4)) M:=fun z M=>lu (by omega) (by omega)
 have mT:∀(z:Int) (M:Mem),fW (.int z) (.int T) M= .ok (.int (z % T)) M:=fun z M=>di hT
 obtain⟨me,hme⟩:∃me,me=cell ns 0 % 60:=⟨_,rfl⟩
 obtain⟨whom,X8⟩:∃w,w=(me+1+cell ns 1 % 59) % 60:=⟨_,rfl⟩
 obtain⟨t,ht⟩:∃t,t=cell ns 2 % T:=⟨_,rfl⟩
 obtain⟨M1,hM1⟩:∃M1:Mem,M1=[MO.lst [.non,.non,.int whom,.int (cell ns 3 / 4 % 60)]]:=⟨_,rfl⟩
 obtain⟨u,hu⟩:∃u:Option Int,j8 (.ref 0) (.int (cell ns 3 % 4)) M1= .ok (vD u) M1:=by
  obtain⟨d,hd,e⟩:=WQ (M:=M1) (n:=0) (z:=cell ns 3) (j:=4) (ds:=[.non,.non,.int whom,.int (cell ns 3 / 4 % 60)]) (by rw[hM1];rfl) (by simp) (by omega)
  simp only[List.mem_cons,List.not_mem_nil,or_false]at hd
  rcases hd with rfl | rfl | rfl | rfl
  ·exact⟨none,e⟩
  ·exact⟨none,e⟩
  ·exact⟨some _,e⟩
  ·exact⟨some _,e⟩
 obtain⟨es,E,M2,e4,hE2,hE,hel,g2⟩:=Fb (M:=M1) (cell ns 4) t
 obtain⟨b,w,s1⟩:=P_ (M:=M2) (ns:=ns) (me:=me) (whom:=whom) (t:=t) (v:=vD u) (E:=E) none none none none none none none none none none none
 have s2:=Ph (ns:=ns) (me:=me) (whom:=whom) (t:=t) (v:=vD u) (b:=b) (w:=w) hE hE2 none none none none none none none none none none
 obtain⟨M3,hM3⟩:∃M3,M3=M2++[MO.lst []]:=⟨_,rfl⟩
 rw[←hM3]at s2
 have g3:Gr M2 M3:=by rw[hM3];exact Gr.app
 obtain⟨et,ep,he⟩:=Lf (b:=b) (bt:=w) hE
 rw[he]at s2
 obtain⟨a0,ha0⟩:∃a0:Int,Cd [.int 1,.int (t+cell ns 8 % 4 - 1)] M3= .ok (.int a0) M3:=⟨_,yQ⟩
 obtain⟨asked,s3⟩:=Lq (M:=M3) (ns:=ns) (me:=me) (whom:=whom) (t:=t) (v:=vD u) (E:=E) hT pw a0 (some (.int b)) (some (.int w)) (some (.tup [.int et,.int ep])) none none none none none none none none none
 obtain⟨x,y,s4⟩:=Ou (M:=M3) ns et ep asked
 have hE3:=g3 _ _ hE2
 have l1:=uz hE3
 obtain⟨M4,hM4⟩:∃M4,M4=M3++[MO.lst es]:=⟨_,rfl⟩
 rw[←hM4]at l1
 have g4:Gr M3 M4:=by rw[hM4];exact Gr.app
 have hL4:M4[M3.length]? = some (.lst es):=by rw[hM4];exact cA
 obtain⟨M5,r5,R5,g5⟩:=Ci (b:=b) (bt:=w) (br:= .tup [.int 7,.int 0]) hL4
 obtain⟨M6,r6,hB6,R6,g6⟩:=IW (t:=t) (v:=vD u) (kd:= .tup [.tup [],.tup []]) R5
 obtain⟨M7,hM7⟩:∃M7,M7=M6++[MO.lst []]:=⟨_,rfl⟩
 have g7:Gr M6 M7:=by rw[hM7];exact Gr.app
 have hP7:M7[M6.length]? = some (.lst []):=by rw[hM7];exact cA
 obtain⟨M8,r8,H8,g8⟩:=Ik (me:=me) (g7 _ _ hB6) (R6.gr g7) hP7
 have hPh:M6.length<M7.length:=j_ hP7
 obtain⟨f,hf⟩:∃f,f=yI.uI [et,ep] [x,y]:=⟨_,rfl⟩
 have le:Vh (.tup [.int et,.int ep]) (.tup [.int x,.int y]) M8= .ok (.bl f) M8:=by rw[hf];exact Qt rfl rfl
 obtain⟨a,p,cc,M9,e9,qa,qp,qc,na,np,nc,g9⟩:=Uh (M:=M8) (me:=me) (whom:=whom) (t:=t) (asked:=asked) (u:=u) (f:=f)
 have H9:=H8.gr g9
 have gE:Gr M3 M9:=g4.trans (g5.trans (g6.trans (g7.trans (g8.trans g9))))
 have lE:E<M6.length:=by
  have:=j_ hE3
  have:=(g4.trans (g5.trans g6)).len
  omega
 have l8:M7.length<M8.length:=by obtain⟨_,_,_,_,_,q⟩:=H8.ob;exact j_ q
 have C9:Vf M9 M7.length M6.length E a p cc es (oW me whom t asked u f) (oV me whom t asked u f) (jn t asked) (j4 whom t asked u f):=⟨gE _ _ hE3,qa,qp,qc⟩
 have pa:=fun(M:Mem)=>Qc (M:=M) (k:=4) (me:=me) (whom:=whom) (t:=t) (asked:=asked) (u:=u) (f:=f)
 have pp:=fun(M:Mem)=>Oi (M:=M) (k:=4) (me:=me) (whom:=whom) (t:=t) (asked:=asked) (u:=u) (f:=f)
 have hA:∀M:Mem,qw M 6 (oW me whom t asked u f) (oW me whom t asked u f)∧(oW me whom t asked u f).length≤1000:=fun M=>⟨.self (pa M).1,by have:=(pa M).2;omega⟩
 have Ye:∀M:Mem,qw M 6 (oV me whom t asked u f) (oV me whom t asked u f)∧(oV me whom t asked u f).length≤1000:=fun M=>⟨.self (pp M).1,by have:=(pp M).2;omega⟩
 have again:=Pk (me:=me) (whom:=whom) (t:=t) (asked:=asked) (v:=u) (f:=f)
 obtain⟨M10,t10,H10,C10,Vq⟩:=Ql (whom:=whom) (asked:=asked) (x:=x) (y:=y) (v0:=some (.cl (ns.map D.int))) (v3:=some (.int t)) (v4:=some (vD u)) (v6:=some (.int b)) (v7:=some (.int w)) (v8:=some (.tup [.int et,.int ep])) (v11:=some (.ref M5.length)) (DG:=some (.int 0)) (Dz:=none) H9 (by omega) (by simp) hE hel he C9 (by omega) (by omega) (by omega) (by omega) (by rw[←hf]) (by rw[←hf,List.nil_append]) rfl (by rw[←hf]) hA Ye
 obtain⟨Jf,t11,H11,C11,f11⟩:=Ql (whom:=whom) (asked:=asked) (x:=x) (y:=y) (v0:=some (.cl (ns.map D.int))) (v3:=some (.int t)) (v4:=some (vD u)) (v6:=some (.int b)) (v7:=some (.int w)) (v8:=some (.tup [.int et,.int ep])) (v11:=some (.ref M5.length)) (DG:=some (.int 1)) (Dz:=none) H10 (by omega) (by have:=(pp M10).2;omega) hE hel he C10 (by omega) (by omega) (by omega) (by omega) (by rw[←hf];exact again.1) (by rw[←hf,again.2.1,List.append_nil]) again.2.2.1 (by rw[←hf];exact again.2.2.2) hA Ye
 have fm:=Vq.trans f11
 have gB:Gr M6 M9:=g7.trans (g8.trans g9)
 obtain⟨_,_,_,_,_,qh⟩:=H9.ob
 have l5:=j_ hB6
 have T7:Jf[M5.length]? = some (Dg t (vD u) (M5.length+1) (.tup [.tup [],.tup []])):=fm _ _ (by omega) (by omega) (gB _ _ hB6)
 have lr:=j_ R6.o
 have lk:=j_ R6.k
 have R11:fU Jf (M5.length+1) b w (.tup [.int 7,.int 0]) (M5.length+2) es:=⟨fm _ _ (by omega) (by omega) (gB _ _ R6.o),fm _ _ (by omega) (by omega) (gB _ _ R6.k)⟩
 have b1:lB [5,11] "term" (.ref M5.length) Jf= .ok (.int t) Jf:=dw T7 (by simp) rfl
 have b2:lB [5,11] "vote" (.ref M5.length) Jf= .ok (vD u) Jf:=dw T7 (by simp) rfl
 have b3:lB [5,11] "row" (.ref M5.length) Jf= .ok (.ref (M5.length+1)) Jf:=dw T7 (by simp) rfl
 have b4:=GJ R11
 obtain⟨Vt,T5⟩:∃Vt,Vt=Jf++[MO.lst es]:=⟨_,rfl⟩
 rw[←T5]at b4
 have g12:Gr Jf Vt:=by rw[T5];exact Gr.app
 obtain⟨Vs,T4⟩:∃Vs,Vs=Vt++[MO.lst [.int t,vD u,.int b,.ref Jf.length]]:=⟨_,rfl⟩
 have g13:Gr Vt Vs:=by rw[T4];exact Gr.app
 obtain⟨M14,T3⟩:∃M14,M14=Vs++[MO.lst [.int t,vD u,.int b,.ref E]]:=⟨_,rfl⟩
 have g14:Gr Vs M14:=by rw[T3];exact Gr.app
 obtain⟨M15,e15,_⟩:=qX (M:=M14) (d:= .ref Vt.length) (d':= .ref Vs.length) (.Ky (k:=7) (g14 _ _ (by rw[T4];exact cA)) (by rw[T3];exact cA)
  (.cons (.int _) (.cons Jr (.cons (.int _) (.cons (CT (k:=2) hE hel (g14 _ _ (g13 _ _ (by rw[T5];exact cA))) (g14 _ _ (g13 _ _ (g12 _ _ C11.e)))) .nil)))) (by simp))
 refine⟨M15,?_⟩
 have rg:∀M:Mem,Ck [.int 2] M= .ok ⟨none,[.int 0,.int 1]⟩ M:=fun M=>Cj (by omega) (by omega)
 have f0:∀(g:Tg) (b:MS) (e:Sl) (M:Mem),lC none g b [] e M= .next e M:=fun g b e M=>by rw[lC,if_pos (show mz none M from trivial)]
 have lp:lC none (gN 17) vQ [.int 0,.int 1] (tE ns me whom t (vD u) E (some (.int b)) (some (.int w)) (some (.tup [.int et,.int ep])) (some (.int asked)) (some (.tup [.int x,.int y])) (some (.ref M5.length)) (some (.ref M6.length)) (some (.ref M7.length)) (some (.ref a)) (some (.ref p)) (some (.ref cc)) none none) M9= .next (tE ns me whom t (vD u) E (some (.int b)) (some (.int w)) (some (.tup [.int et,.int ep])) (some (.int asked)) (some (.tup [.int x,.int y])) (some (.ref M5.length)) (some (.ref M6.length)) (some (.ref M7.length)) (some (.ref a)) (some (.ref p)) (some (.ref cc)) (some (.int 1)) none) Jf:=by
  rw[lw2 rfl t10,lw2 rfl t11,f0]
 have lam:∀(e:Sl) (M:Mem),e[12]? = some (some (.ref M6.length))→Kw 12 e M= .ok (.fn M6.length) M:=fun e M h=>by unfold Kw;rw[h]
 have eM1:[MO.lst [.non,.non,.int whom,.int (cell ns 3 / 4 % 60)]]=M1:=hM1.symm
 simp only[tE]at s1 s2 s3 lp
 have w12:∀(a0 a1 a2 a3 a4 a5 a6 a7 a8 a9 a10 a11 a12 a13 a14 a15:Option D) (d:D) (r:Sl) (M:Mem),aq 16 (a0::a1::a2::a3::a4::a5::a6::a7::a8::a9::a10::a11::a12::a13::a14::a15::some d::r) M= .ok d M:=fun _ _ _ _ _ _ _ _ _ _ _ _ _ _ _ _ _ _ _=>tZ rfl
 have w18:∀(a0 a1 a2 a3 a4 a5 a6 a7 a8 a9 a10 a11 a12 a13 a14 a15 a16 a17:Option D) (d:D) (r:Sl) (M:Mem),aq 18 (a0::a1::a2::a3::a4::a5::a6::a7::a8::a9::a10::a11::a12::a13::a14::a15::a16::a17::some d::r) M= .ok d M:=fun _ _ _ _ _ _ _ _ _ _ _ _ _ _ _ _ _ _ _ _ _=>tZ rfl
 simp only[Ks,zy,GC]
 simp[-yQ,c0,c1,c2,c3,c4,c8,m60,m59,m4,d4,pw,mT,←hme,←X8,←ht,eM1,hu,e4,s1,s2,ha0,s3,s4,l1,r5,r6,←hM7,lam,r8,le,e9,rg,lp,b1,b2,b3,R11.fb,R11.me (m:= "entries") rfl,b4,←T4,w18,←T3,e15]
def top(i:Nat):Stmt:=PySem.Challenge.pw_chairvote_k31_a_please.main.body.getD i (.Pass ⟨0,0,0,0⟩)
abbrev cX:Stmt:=top 29
abbrev cW:Stmt:=top 31
abbrev cD:Stmt:=top 32
abbrev gQ:Stmt:=inClass (top 7) 0
abbrev gM:Stmt:=inClass (top 7) 17
abbrev eY:Stmt:=inClass (top 9) 0
abbrev dG:Stmt:=inClass (top 23) 0
abbrev gK:Stmt:=top 24
abbrev gG:Stmt:=inClass (top 27) 0
abbrev jf:Stmt:=top 33
abbrev eU:Stmt:=top 30
abbrev bz:Stmt:=inClass (top 27) 14
abbrev dH:Stmt:=inClass (top 27) 6
abbrev gO:Stmt:=inClass (top 7) 2
abbrev eV:Stmt:=inClass (top 7) 4
abbrev cF:Stmt:=inClass (top 7) 5
abbrev cZ:Stmt:=inClass (top 7) 6
abbrev jg:Stmt:=inClass (top 7) 3
abbrev bG:Stmt:=inClass (top 27) 2
abbrev bO:Stmt:=inClass (top 27) 7
abbrev bx:Stmt:=inClass (top 27) 15
abbrev eX:Stmt:=inClass (top 27) 13
abbrev cY:Stmt:=inClass (top 19) 0
abbrev dg:Stmt:=inClass (top 7) 1
abbrev tM:Stmt:=top 34
set_option genInjectivity false in
structure Adr where
 jz:Addr
 jE:FuncData
 jy:Addr
 jD:FuncData
 iT:Addr
 iV:FuncData
 nj:Addr
 nJ:FuncData
 m_:Addr
 nG:FuncData
 lJ:Addr
 lO:FuncData
 jX:Addr
 jZ:FuncData
 m8:Addr
 nF:FuncData
 lH:Addr
 jN:FuncData
 u6:Addr
 pq:Addr
 pB:FuncData
 lD:Addr
 lK:FuncData
 dX:Addr
 dZ:FuncData
 jY:Addr
 j0:FuncData
 ni:Addr
 nH:FuncData
 lF:Addr
 lM:FuncData
 iU:Addr
 iW:FuncData
 jB:Addr
 jG:FuncData
 pA:Addr
 pC:FuncData
 fD:Addr
 fG:FuncData
 gk:Addr
 gm:FuncData
 dW:Addr
 dY:FuncData
 lG:Addr
 lN:FuncData
 jA:Addr
 jF:FuncData
 jC:Addr
 jH:FuncData
 y_:Addr
 um:FuncData
 mq:Addr
 pU:Addr
 pR:Addr
 eE:Addr
 pF:Addr
 p_:Addr
 qb:Addr
structure Txt(K:Frag)(mg:Str→Option Value)(t:Adr):Prop where
 aV:cM K "_law_cell_at" "_law_cell_at" cX .none t.jz t.jE
 aN:Binds K t.jE ["_law_script","_law_k"] []
 aZ:mg "_law_cell_at" = some (.ref t.jz)
 mZ:cM K "_law_entries" "_law_entries" cW .none t.jy t.jD
 fO:Binds K t.jD ["_law_number","_law_term"] []
 qG:mg "_law_entries" = some (.ref t.jy)
 lV:cM K "_law_end_near" "_law_end_near" cD .none t.iT t.iV
 cI:Binds K t.iV ["_law_script","_law_end","_law_term"] []
 qe:mg "_law_end_near" = some (.ref t.iT)
 vG:cM K "__init__" "Row.__init__" gQ .none t.nj t.nJ
 i_:Binds K t.nJ ["self","base","base_term","base_roll","entries"] []
 rZ:Mk K t.mq t.nj
 vB:cM K "twin" "Row.twin" gM .none t.m_ t.nG
 iY:Binds K t.nG ["self"] []
 qI:Meth K t.mq "twin" t.m_
 uf:cM K "__init__" "Book.__init__" eY .none t.lJ t.lO
 jc:Binds K t.lO ["self","term","vote","row","kept"] []
 rm:Mk K t.pU t.lJ
 rN:cM K "__init__" "Shelf.__init__" dG .none t.jX t.jZ
 g_:Binds K t.jZ ["self"] []
 o7:Mk K t.pR t.jX
 qM:cM K "shelf_of" "shelf_of" gK .none t.m8 t.nF
 jL:Binds K t.nF ["told"] []
 vm:mg "shelf_of" = some (.ref t.m8)
 ue:cM K "__init__" "Hand.__init__" gG (.ref t.u6) t.lH t.jN
 jb:Binds K t.jN ["self","me","book","note"] []
 Bl:Binds K t.jN ["self","me","book","note"] [.none]
 q_:Mk K t.eE t.lH
 sy:cM K "_law_due" "_law_due" jf .none t.pq t.pB
 jl:Binds K t.pB ["_law_me","_law_whom","_law_term","_law_vote","_law_asked","_law_fits"] []
 xJ:mg "_law_due" = some (.ref t.pq)
 fC:cM K "_law_alike" "_law_alike" eU .none t.lD t.lK
 a_:Binds K t.lK ["_law_found","_law_due_here"] []
 gW:mg "_law_alike" = some (.ref t.lD)
 mj:cM K "answer_late" "Hand.answer_late" bz .none t.dX t.dZ
 cj:Binds K t.dZ ["self","letter"] []
 lX:Meth K t.eE "answer_late" t.dX
 rO:cM K "enter" "Hand.enter" dH .none t.jY t.j0
 ie:Binds K t.j0 ["self","term"] []
 rM:Meth K t.eE "enter" t.jY
 vC:cM K "last" "Row.last" gO .none t.ni t.nH
 h_:Binds K t.nH ["self"] []
 nY:Meth K t.mq "last" t.ni
 t_:cM K "keeps" "Row.keeps" eV .none t.lF t.lM
 iZ:Binds K t.lM ["self","place"] []
 tW:Meth K t.mq "keeps" t.lF
 qj:cM K "entry_at" "Row.entry_at" cF .none t.iU t.iW
 d7:Binds K t.iW ["self","place"] []
 qg:Meth K t.mq "entry_at" t.iU
 qO:cM K "term_at" "Row.term_at" cZ .none t.jB t.jG
 dJ:Binds K t.jG ["self","place"] []
 qJ:Meth K t.mq "term_at" t.jB
 xZ:cM K "end" "Row.end" jg .none t.pA t.pC
 jO:Binds K t.pC ["self"] []
 xN:Meth K t.mq "end" t.pA
 m6:cM K "tell_paper" "Hand.tell_paper" bG .none t.fD t.fG
 cJ:Binds K t.fG ["self","paper"] []
 mV:Meth K t.eE "tell_paper" t.fD
 oF:cM K "give_vote" "Hand.give_vote" bO .none t.gk t.gm
 cU:Binds K t.gm ["self","whom"] []
 nZ:Meth K t.eE "give_vote" t.gk
 l_:cM K "take_please" "Hand.take_please" bx .none t.dW t.dY
 bC:Binds K t.dY ["self","asker","end"] []
 lW:Meth K t.eE "take_please" t.dW
 ud:cM K "take" "Hand.take" eX .none t.lG t.lN
 fH:Binds K t.lN ["self","letter"] []
 tX:Meth K t.eE "take" t.lG
 qN:cM K "word" "Sitter.word" cY .none t.jA t.jF
 fP:Binds K t.jF ["self"] []
 qH:Meth K t.pF "word" t.jA
 qP:cM K "entries" "Row.entries" dg .none t.jC t.jH
 dM:Binds K t.jH ["self"] []
 mU:Meth K t.mq "entries" t.jC
 EY:cM K "law" "law" tM .none t.y_ t.um
 zy:Binds K t.um ["_law_script"] []
 Ko:mg "law" = some (.ref t.y_)
 bM:zA K t.mq
 Em:mg "Row" = some (.ref t.mq)
 bV:cL K t.mq "base"
 cu:cL K t.mq "base_term"
 cQ:cL K t.mq "base_roll"
 bU:cL K t.mq "kept"
 aP:zA K t.pU
 Gj:mg "Book" = some (.ref t.pU)
 bu:cL K t.pU "term"
 bJ:cL K t.pU "vote"
 bZ:cL K t.pU "row"
 bK:cL K t.pU "kept"
 qT:zA K t.pR
 Cz:mg "Shelf" = some (.ref t.pR)
 cP:cL K t.pR "amounts"
 cH:cL K t.pR "answered"
 aC:zA K t.eE
 Gi:mg "Hand" = some (.ref t.eE)
 fL:cL K t.eE "me"
 gR:cL K t.eE "note"
 bh:cL K t.eE "term"
 bH:cL K t.eE "vote"
 bW:cL K t.eE "row"
 bI:cL K t.eE "kept"
 eG:cL K t.eE "settled"
 jh:cL K t.eE "done"
 iB:cL K t.eE "shelf"
 dI:cL K t.eE "chair"
 fc:cL K t.eE "seat"
 uH:QV K t.pF
 zm:zA K t.pF
 uF:mg "Sitter" = some (.ref t.pF)
 p_:t.um.code= .ref t.p_
 ux:t.qb≠0
 Jv:PySem.W.tabIn K "law" = some (t.p_,t.qb)
 uJ:K.lookup t.qb=none
 QC:mg "all" = none
 Am:mg "bool" = none
 Ku:mg "int" = none
 b_:mg "isinstance" = none
 tY:mg "len" = none
 uG:mg "list" = none
 QB:mg "max" = none
 Qz:mg "min" = none
 Al:mg "range" = none
 Kr:mg "str" = none
 Ak:mg "tuple" = none
def cT(t:Adr):Nat→Addr:=fun k=>match k with
 | 4=>t.mq
 | 5=>t.pU
 | 10=>t.pR
 | 11=>t.eE
 | 7=>t.pF
 | 1000=>t.qb
 | _=>0
section
variable{P:Program}{w:World}{K:Frag}{mg:Str→Option Value}{base:Heap}{t:Adr}
theorem wQ:bf ["_law_script","_law_k"] ["_law_script","_law_k"] (au cX):=vJ
theorem cC:bf ["_law_number","_law_term","_law_found","_law_size","_law_what"] ["_law_number","_law_term"] (au cW):=vJ
theorem cN:bf ["_law_script","_law_end","_law_term","_law_cell","_law_last","_law_place"] ["_law_script","_law_end","_law_term"] (au cD):=vJ
theorem BZ:bf ["self","base","base_term","base_roll","entries"] ["self","base","base_term","base_roll","entries"] (au gQ):=vJ
theorem BW:bf ["self"] ["self"] (au gM):=vJ
theorem zU:bf ["self","term","vote","row","kept"] ["self","term","vote","row","kept"] (au eY):=vJ
theorem yw:bf ["self"] ["self"] (au dG):=vJ
theorem iK:bf ["told","shelf","name","value","who","number","answer"] ["told"] (au gK):=vJ
theorem zT:bf ["self","me","book","note"] ["self","me","book","note"] (au gG):=vJ
theorem mO:bf ["_law_me","_law_whom","_law_term","_law_vote","_law_asked","_law_fits","_law_due_here"] ["_law_me","_law_whom","_law_term","_law_vote","_law_asked","_law_fits"] (au jf):=vJ
theorem zP:bf ["_law_found","_law_due_here"] ["_law_found","_law_due_here"] (au eU):=vJ
theorem rF:bf ["self","letter"] ["self","letter"] (au bz):=vJ
theorem yx:bf ["self","term"] ["self","term"] (au dH):=vJ
theorem BX:bf ["self"] ["self"] (au gO):=vJ
theorem zQ:bf ["self","place"] ["self","place"] (au eV):=vJ
theorem vI:bf ["self","place"] ["self","place"] (au cF):=vJ
theorem wU:bf ["self","place"] ["self","place"] (au cZ):=vJ
theorem DX:bf ["self"] ["self"] (au jg):=vJ
theorem mQ:bf ["self","paper","note"] ["self","paper"] (au bG):=vJ
theorem tL:bf ["self","whom"] ["self","whom"] (au bO):=vJ
theorem rE:bf ["self","asker","end"] ["self","asker","end"] (au bx):=vJ
theorem zR:bf ["self","letter"] ["self","letter"] (au eX):=vJ
theorem wR:bf ["self"] ["self"] (au cY):=vJ
theorem wV:bf ["self"] ["self"] (au dg):=vJ
theorem dR:bf ["_law_script","_law_me","_law_whom","_law_term","_law_vote","_law_entries_here","_law_base","_law_low","_law_end","_law_asked","_law_other","_law_book","_law_papers","_law_hand","_law_answer","_law_due_here","_law_after","_law_k","_law_stays"] ["_law_script"] (au tM):=vJ
theorem qF(T:Txt K mg t):aY P w K mg base (fX P w) 1 t.jz t.jE ["_law_script","_law_k"] (spS K (cT t) aR 2):=by
 show aY P w K mg base (fX P w) (0+1) t.jz t.jE ["_law_script","_law_k"] (spS K (cT t) (cG 2 aN) 2)
 refine mJ (n:=2) (ar:=2) (k:=0) (b:=aN) T.aV wQ rfl rfl ?_
 intro cdv A outer s H E W hr
 exact(aB (dB (bR (sH hr.units) (aj 1) (bQ qR rfl T.tY qU (ak (aj 0) az)) (bA _)) (aK (bL (iJ hr.units (aj 0) (aj 1)))) bT)
  (aK (bL aA)))
theorem xx(T:Txt K mg t):aY P w K mg base (fX P w) 1 t.jy t.jD ["_law_number","_law_term"] (spS K (cT t) kW 2):=by
 show aY P w K mg base (fX P w) (0+1) t.jy t.jD ["_law_number","_law_term"] (spS K (cT t) (cG 5 fO) 2)
 refine mJ (n:=5) (ar:=2) (k:=0) (b:=fO) T.mZ cC rfl rfl ?_
 intro cdv A outer s H E W hr
 exact(aB (bD (i:=2) cC.nd rfl (Or.inl rfl) (fJ az))
  (aB (bD (i:=1) cC.nd rfl (Or.inl rfl) (aO pW (aj 1) (aO eF (aj 0) aA)))
  (aB (bD (i:=3) cC.nd rfl (Or.inl rfl) (aO eF (aO pX (aj 0) aA) aA))
  (aB (bD (i:=0) cC.nd rfl (Or.inl rfl) (aO pX (aj 0) aA))
  (aB (JD (tU rfl rfl) (SW.pt (zL (bR (sH hr.units) (bQ qR rfl T.tY qU (ak (aj 2) az)) (aj 3) (bA _)) (vR (bR GZ (aj 1) aA (bA _))))) (aB (bD (i:=4) cC.nd rfl (Or.inl rfl) (dz (ak gJ (ak (aO pW (aO eF (aj 0) aA) aA) (ak (bQ qR rfl T.tY qU (ak (aj 2) az)) (ak (dz (ak gJ (ak gJ (ak (aO eF (aj 0) aA) az)))) az))))))
  (aB (dB (bR (pG hr.units) (aO eF (aj 0) aA) aA (bA _)) (aK (bD (i:=4) cC.nd rfl (Or.inl rfl) (dz (ak gJ az)))) bT)
  (aB (tD (VV PySem.F.plainAttrs_list PySem.F.slot_list_insert PySem.F.type_list_insert HQ (aj 2) (ak aA (ak (dz (ak (aj 1) (ak (aj 4) az))) az))))
  (aB (bD (i:=1) cC.nd rfl (Or.inl rfl) (aO pW (aj 1) (aO eF (aj 0) aA)))
  (aK (bD (i:=0) cC.nd rfl (Or.inl rfl) (aO pX (aj 0) aA))))))))
  (aK (bL (aj 2))))))))
theorem vN(T:Txt K mg t):aY P w K mg base (fX P w) 2 t.iT t.iV ["_law_script","_law_end","_law_term"] (spS K (cT t) gb 3):=by
 show aY P w K mg base (fX P w) (1+1) t.iT t.iV ["_law_script","_law_end","_law_term"] (spS K (cT t) (cG 6 cI) 3)
 have bw:= @qF P w K mg base t T
 refine mJ (n:=6) (ar:=3) (k:=1) (b:=cI) T.lV cN rfl rfl ?_
 intro cdv A outer s H E W hr
 exact(aB (bD (i:=3) cN.nd rfl (Or.inl rfl) (cB bw Tk.wish (hr.mono (by decide)) rfl T.aZ T.aV.kp T.aN .nil (ak (aj 0) (ak aA az))))
  (aB (bD (i:=4) cN.nd rfl (Or.inl rfl) (aO pW (aO oX (iJ hr.units (aj 1) aA) (aO eF (aj 3) aA)) aA))
  (aB (bD (i:=5) cN.nd rfl (Or.inl rfl) (aO pW (aO oX (iJ hr.units (aj 1) aA) (aO eF (aO pX (aj 3) aA) aA)) aA))
  (aB (dB (bR (pG hr.units) (aO eF (aO pX (aj 3) aA) aA) aA (bA _)) (aK (bD (i:=5) cN.nd rfl (Or.inl rfl) (aO eF (cB bw Tk.wish (hr.mono (by decide)) rfl T.aZ T.aV.kp T.aN .nil (ak (aj 0) (ak aA az))) (aO Fg aA aA)))) bT)
  (aB (dB (bR (pG hr.units) (aO eF (aO pX (aj 3) aA) aA) aA (bA _)) (aK (JF (aj 1) (zN rfl (ju (jR (i:=4) cN.nd rfl (Or.inl rfl)) (ju (jR (i:=5) cN.nd rfl (Or.inl rfl)) vU))))) bT)
  (aB (bD (i:=4) cN.nd rfl (Or.inl rfl) (bQ (Pu rfl) rfl T.Qz UL (ak (aj 4) (ak (aO pW (aj 2) aA) az))))
  (aB (dB (SW.pt (FN (bR (sH hr.units) (aj 4) aA (bA _)) (zK (bR (sH hr.units) (aj 5) aA (bA _))))) (aK (bL (dz (ak aA (ak aA az))))) bT)
  (aK (bL (dz (ak (aj 4) (ak (aj 5) az))))))))))))
theorem vh(T:Txt K mg t):aY P w K mg base (fX P w) 1 t.nj t.nJ ["self","base","base_term","base_roll","entries"] (spS K (cT t) mX 5):=by
 show aY P w K mg base (fX P w) (0+1) t.nj t.nJ ["self","base","base_term","base_roll","entries"] (spS K (cT t) (cG 5 i_) 5)
 refine mJ (n:=5) (ar:=5) (k:=0) (b:=i_) T.vG BZ rfl rfl ?_
 intro cdv A outer s H E W hr
 exact(aB (dh (cs:=[4]) ⟨⟨T.bM,T.bV⟩,True.intro⟩ (aj 0) (aj 1))
  (aB (dh (cs:=[4]) ⟨⟨T.bM,T.cu⟩,True.intro⟩ (aj 0) (aj 2))
  (aB (dh (cs:=[4]) ⟨⟨T.bM,T.cQ⟩,True.intro⟩ (aj 0) (aj 3))
  (aK (dh (cs:=[4,5,11]) ⟨⟨T.bM,T.bU⟩,⟨⟨T.aP,T.bK⟩,⟨⟨T.aC,T.bI⟩,True.intro⟩⟩⟩ (aj 0) (wN Bd rfl T.uG uq (ak (aj 4) az)))))))
theorem vf(T:Txt K mg t):aY P w K mg base (fX P w) 3 t.m_ t.nG ["self"] (spS K (cT t) mW 1):=by
 show aY P w K mg base (fX P w) (2+1) t.m_ t.nG ["self"] (spS K (cT t) (cG 1 iY) 1)
 have sJ:= @vh P w K mg base t T
 refine mJ (n:=1) (ar:=1) (k:=2) (b:=iY) T.vB BW rfl rfl ?_
 intro cdv A outer s H E W hr
 exact(aK (bL (vV (kc:=4) T.rZ sJ Tk.wish (hr.mono (by decide)) rfl T.Em T.i_ .nil (ak (aW (cs:=[4]) ⟨⟨T.bM,T.bV⟩,True.intro⟩ (aj 0)) (ak (aW (cs:=[4]) ⟨⟨T.bM,T.cu⟩,True.intro⟩ (aj 0)) (ak (aW (cs:=[4]) ⟨⟨T.bM,T.cQ⟩,True.intro⟩ (aj 0)) (ak (aW (cs:=[4,5,11]) ⟨⟨T.bM,T.bU⟩,⟨⟨T.aP,T.bK⟩,⟨⟨T.aC,T.bI⟩,True.intro⟩⟩⟩ (aj 0)) az)))))))
theorem Ah(T:Txt K mg t):aY P w K mg base (fX P w) 4 t.lJ t.lO ["self","term","vote","row","kept"] (spS K (cT t) n_ 5):=by
 show aY P w K mg base (fX P w) (3+1) t.lJ t.lO ["self","term","vote","row","kept"] (spS K (cT t) (cG 5 jc) 5)
 have sI:= @vf P w K mg base t T
 refine mJ (n:=5) (ar:=5) (k:=3) (b:=jc) T.uf zU rfl rfl ?_
 intro cdv A outer s H E W hr
 exact(aB (dh (cs:=[5,11]) ⟨⟨T.aP,T.bu⟩,⟨⟨T.aC,T.bh⟩,True.intro⟩⟩ (aj 0) (aj 1))
  (aB (dh (cs:=[5,11]) ⟨⟨T.aP,T.bJ⟩,⟨⟨T.aC,T.bH⟩,True.intro⟩⟩ (aj 0) (aj 2))
  (aB (dh (cs:=[5,11]) ⟨⟨T.aP,T.bZ⟩,⟨⟨T.aC,T.bW⟩,True.intro⟩⟩ (aj 0) (jU (kc:=4) (aj 3) T.bM T.qI sI Tk.wish (hr.mono (by decide)) T.iY .nil))
  (aK (dh (cs:=[4,5,11]) ⟨⟨T.bM,T.bU⟩,⟨⟨T.aP,T.bK⟩,⟨⟨T.aC,T.bI⟩,True.intro⟩⟩⟩ (aj 0) (aj 4))))))
theorem yC(T:Txt K mg t):aY P w K mg base (fX P w) 1 t.jX t.jZ ["self"] (spS K (cT t) mG 1):=by
 show aY P w K mg base (fX P w) (0+1) t.jX t.jZ ["self"] (spS K (cT t) (cG 1 g_) 1)
 refine mJ (n:=1) (ar:=1) (k:=0) (b:=g_) T.rN yw rfl rfl ?_
 intro cdv A outer s H E W hr
 exact(aB (dh (cs:=[10]) ⟨⟨T.qT,T.cP⟩,True.intro⟩ (aj 0) FT)
  (aK (dh (cs:=[10]) ⟨⟨T.qT,T.cH⟩,True.intro⟩ (aj 0) FT)))
theorem Cr(T:Txt K mg t):aY P w K mg base (fX P w) 3 t.m8 t.nF ["told"] (spS K (cT t) pP 1):=by
 show aY P w K mg base (fX P w) (2+1) t.m8 t.nF ["told"] (spS K (cT t) (cG 7 jL) 1)
 have Bs:= @yC P w K mg base t T
 refine mJ (n:=7) (ar:=1) (k:=2) (b:=jL) T.qM iK rfl rfl ?_
 intro cdv A outer s H E W hr
 exact(aB (bD (i:=1) iK.nd rfl (Or.inl rfl) (JL (kc:=10) T.o7 Bs Tk.wish (hr.mono (by decide)) rfl T.Cz T.g_ .nil))
  (aB (DR (tU rfl rfl) rfl (JG (iJ hr.units (aj 0) aA)) (zN rfl (ju (jR (i:=2) iK.nd rfl (Or.inl rfl)) (ju (jR (i:=3) iK.nd rfl (Or.inl rfl)) vU))) (aK (FP hr.units (aW (cs:=[10]) ⟨⟨T.qT,T.cP⟩,True.intro⟩ (aj 1)) (aj 2) (aj 3))))
  (aB (DR (tU rfl rfl) rfl (JG (iJ hr.units (aj 0) aA)) (zN rfl (ju (jR (i:=4) iK.nd rfl (Or.inl rfl)) (ju (jR (i:=5) iK.nd rfl (Or.inl rfl)) (ju (jR (i:=6) iK.nd rfl (Or.inl rfl)) vU)))) (aK (FP hr.units (aW (cs:=[10]) ⟨⟨T.qT,T.cH⟩,True.intro⟩ (aj 1)) (dz (ak (aj 4) (ak (aj 5) az))) (aj 6))))
  (aK (bL (aj 1))))))
theorem Ag(T:Txt K mg t):aY P w K mg base (fX P w) 4 t.lH t.jN ["self","me","book","note"] (spS K (cT t) n8 4):=by
 show aY P w K mg base (fX P w) (3+1) t.lH t.jN ["self","me","book","note"] (spS K (cT t) (cG 4 jb) 4)
 have sI:= @vf P w K mg base t T
 have Fo:= @Cr P w K mg base t T
 refine mJ (n:=4) (ar:=4) (k:=3) (b:=jb) T.ue zT rfl rfl ?_
 intro cdv A outer s H E W hr
 exact(aB (dh (cs:=[11]) ⟨⟨T.aC,T.fL⟩,True.intro⟩ (aj 0) (aj 1))
  (aB (dh (cs:=[11]) ⟨⟨T.aC,T.gR⟩,True.intro⟩ (aj 0) (aj 3))
  (aB (dh (cs:=[5,11]) ⟨⟨T.aP,T.bu⟩,⟨⟨T.aC,T.bh⟩,True.intro⟩⟩ (aj 0) (aW (cs:=[5,11]) ⟨⟨T.aP,T.bu⟩,⟨⟨T.aC,T.bh⟩,True.intro⟩⟩ (aj 2)))
  (aB (dh (cs:=[5,11]) ⟨⟨T.aP,T.bJ⟩,⟨⟨T.aC,T.bH⟩,True.intro⟩⟩ (aj 0) (aW (cs:=[5,11]) ⟨⟨T.aP,T.bJ⟩,⟨⟨T.aC,T.bH⟩,True.intro⟩⟩ (aj 2)))
  (aB (dh (cs:=[5,11]) ⟨⟨T.aP,T.bZ⟩,⟨⟨T.aC,T.bW⟩,True.intro⟩⟩ (aj 0) (jU (kc:=4) (aW (cs:=[5,11]) ⟨⟨T.aP,T.bZ⟩,⟨⟨T.aC,T.bW⟩,True.intro⟩⟩ (aj 2)) T.bM T.qI sI Tk.wish (hr.mono (by decide)) T.iY .nil))
  (aB (dh (cs:=[4,5,11]) ⟨⟨T.bM,T.bU⟩,⟨⟨T.aP,T.bK⟩,⟨⟨T.aC,T.bI⟩,True.intro⟩⟩⟩ (aj 0) (aW (cs:=[4,5,11]) ⟨⟨T.bM,T.bU⟩,⟨⟨T.aP,T.bK⟩,⟨⟨T.aC,T.bI⟩,True.intro⟩⟩⟩ (aj 2)))
  (aB (dh (cs:=[11]) ⟨⟨T.aC,T.eG⟩,True.intro⟩ (aj 0) (aW (cs:=[4]) ⟨⟨T.bM,T.bV⟩,True.intro⟩ (aW (cs:=[5,11]) ⟨⟨T.aP,T.bZ⟩,⟨⟨T.aC,T.bW⟩,True.intro⟩⟩ (aj 0))))
  (aB (dh (cs:=[11]) ⟨⟨T.aC,T.jh⟩,True.intro⟩ (aj 0) (aW (cs:=[4]) ⟨⟨T.bM,T.bV⟩,True.intro⟩ (aW (cs:=[5,11]) ⟨⟨T.aP,T.bZ⟩,⟨⟨T.aC,T.bW⟩,True.intro⟩⟩ (aj 0))))
  (aB (dh (cs:=[11]) ⟨⟨T.aC,T.iB⟩,True.intro⟩ (aj 0) (cB Fo Tk.wish (hr.mono (by decide)) rfl T.vm T.qM.kp T.jL .nil (ak (aW (cs:=[4,5,11]) ⟨⟨T.bM,T.bU⟩,⟨⟨T.aP,T.bK⟩,⟨⟨T.aC,T.bI⟩,True.intro⟩⟩⟩ (aj 2)) az)))
  (aB (dh (cs:=[11]) ⟨⟨T.aC,T.dI⟩,True.intro⟩ (aj 0) jT)
  (aK (dh (cs:=[11]) ⟨⟨T.aC,T.fc⟩,True.intro⟩ (aj 0) (yP (kc:=7) T.uH rfl T.uF)))))))))))))
theorem Ei(T:Txt K mg t):aY P w K mg base (fX P w) 1 t.pq t.pB ["_law_me","_law_whom","_law_term","_law_vote","_law_asked","_law_fits"] (spS K (cT t) mK 6):=by
 show aY P w K mg base (fX P w) (0+1) t.pq t.pB ["_law_me","_law_whom","_law_term","_law_vote","_law_asked","_law_fits"] (spS K (cT t) (cG 7 jl) 6)
 refine mJ (n:=7) (ar:=6) (k:=0) (b:=jl) T.sy mO rfl rfl ?_
 intro cdv A outer s H E W hr
 exact(aB (dB (bR (sH hr.units) (aj 4) (aj 2) (bA _)) (aK (bL (dz (ak (fJ (ak (dz (ak gJ (ak (aj 0) (ak (aj 1) (ak (aj 2) az))))) az)) (ak (fJ az) (ak (fJ (ak (aj 2) (ak (aj 3) (ak jT az)))) az)))))) bT)
  (aB (dB (bR GZ (aj 4) (aj 2) (bA _)) (aK (bD (i:=3) mO.nd rfl (Or.inl rfl) jT)) bT)
  (aB (bD (i:=6) mO.nd rfl (Or.inl rfl) (fJ az))
  (aB (dB (SW.pt (zL (bR GX (aj 3) jT (bA _)) (vR (pM (aj 5))))) (aB (bD (i:=3) mO.nd rfl (Or.inl rfl) (aj 1))
  (aK (bD (i:=6) mO.nd rfl (Or.inl rfl) (fJ (ak (dz (ak gJ (ak (aj 0) (ak (aj 4) (ak (aj 1) az))))) az))))) bT)
  (aB (dB (bR (pG hr.units) (aj 3) (aj 1) (bA _)) (aK (bL (dz (ak (fJ (ak (dz (ak gJ (ak (aj 0) (ak (aj 1) (ak (aj 4) az))))) az)) (ak (aj 6) (ak (fJ (ak (aj 4) (ak (aj 3) (ak jT az)))) az)))))) bT)
  (aK (bL (dz (ak (fJ az) (ak (aj 6) (ak (fJ (ak (aj 4) (ak (aj 3) (ak jT az)))) az)))))))))))
theorem Ad(T:Txt K mg t):aY P w K mg base (fX P w) 9 t.lD t.lK ["_law_found","_law_due_here"] (spS K (cT t) iR 2):=by
 refine Gz (k:=1) (n:=8) (g:=fun m=>cG 2 (a_ m)) fun n m G=> ?_
 show aY P w K mg base (fX P w) (n+1) t.lD t.lK ["_law_found","_law_due_here"] (spS K (cT t) (cG 2 (a_ m)) 2)
 refine mJ (n:=2) (ar:=2) (k:=n) (b:=a_ m) T.fC zP rfl rfl ?_
 intro cdv A outer s H E W hr
 exact(aB (dB (bR GX (aj 1) jT (bA _)) (aK (bL (rW GX (aj 0) jT (bA _)))) bT)
  (aB (dB (pM (bQ nM rfl T.b_ b7 (ak (aj 1) (ak (qC rfl T.Am Bj) az)))) (aK (bL (wO (bQ nM rfl T.b_ b7 (ak (aj 0) (ak (qC rfl T.Am Bj) az))) (zO (rW (pG hr.units) (aj 0) (aj 1) (bA _)))))) bT)
  (aB (dB (pM (bQ nM rfl T.b_ b7 (ak (aj 1) (ak (qC rfl T.Ku Lk) az)))) (aK (bL (wO (bQ nM rfl T.b_ b7 (ak (aj 0) (ak (qC rfl T.Ku Lk) az))) (wO (Rj (bQ nM rfl T.b_ b7 (ak (aj 0) (ak (qC rfl T.Am Bj) az)))) (zO (rW (pG hr.units) (aj 0) (aj 1) (bA _))))))) bT)
  (aB (dB (pM (bQ nM rfl T.b_ b7 (ak (aj 1) (ak (qC rfl T.Kr Lj) az)))) (aK (bL (wO (bQ nM rfl T.b_ b7 (ak (aj 0) (ak (qC rfl T.Kr Lj) az))) (zO (rW (pG hr.units) (aj 0) (aj 1) (bA _)))))) bT)
  (aB (dB (SW.pt (FN (bR (ye hr.units) (bQ nM rfl T.b_ b7 (ak (aj 1) (ak (qC rfl T.Ak Df) az))) (bQ nM rfl T.b_ b7 (ak (aj 0) (ak (qC rfl T.Ak Df) az))) (bA _)) (zK (bR (ye hr.units) (bQ nM rfl T.b_ b7 (ak (aj 1) (ak (qC rfl T.uG uq) az))) (bQ nM rfl T.b_ b7 (ak (aj 0) (ak (qC rfl T.uG uq) az))) (bA _))))) (aK (bL BV)) bT)
  (aB (dB (bR (ye hr.units) (bQ qR rfl T.tY qU (ak (aj 0) az)) (bQ qR rfl T.tY qU (ak (aj 1) az)) (bA _)) (aK (bL BV)) bT)
  (aK (bL (bQ (Ul rfl) rfl T.QC UW (ak (Ng rfl ["_law_found","_law_due_here"] [0,1] (yO rfl T.Al (ak (bQ qR rfl T.tY qU (ak (aj 1) az)) az)) ⟨⟨rfl,rfl,by first | exact .inl rfl | exact .inr rfl⟩,⟨⟨rfl,rfl,by first | exact .inl rfl | exact .inr rfl⟩,True.intro⟩⟩ (fun _ _ _ _ _=>MN) (fun _ _ _ _ _=>(cB G Tk.none hr rfl T.gW T.fC.kp T.a_ .nil (ak (iJ hr.units (aj 1) (aj 0)) (ak (iJ hr.units (aj 2) (aj 0)) az)))) (by decide +kernel) (by decide +kernel) (by decide +kernel) (by decide +kernel)) az))))))))))
theorem rH(T:Txt K mg t):aY P w K mg base (fX P w) 1 t.dX t.dZ ["self","letter"] (spS K (cT t) gY 2):=by
 show aY P w K mg base (fX P w) (0+1) t.dX t.dZ ["self","letter"] (spS K (cT t) (cG 2 cj) 2)
 refine mJ (n:=2) (ar:=2) (k:=0) (b:=cj) T.mj rF rfl rfl ?_
 intro cdv A outer s H E W hr
 exact(aB (dB (bR (Zj hr.units) (iJ hr.units (aj 1) aA) (dz (ak gJ (ak gJ (ak gJ az)))) (by with_unfolding_all rfl)) (aK (bL (fJ (ak (dz (ak gJ (ak (aW (cs:=[11]) ⟨⟨T.aC,T.fL⟩,True.intro⟩ (aj 0)) (ak (iJ hr.units (aj 1) aA) (ak (aW (cs:=[5,11]) ⟨⟨T.aP,T.bu⟩,⟨⟨T.aC,T.bh⟩,True.intro⟩⟩ (aj 0)) az))))) az)))) bT)
  (aK (bL (fJ az))))
theorem yD(T:Txt K mg t):aY P w K mg base (fX P w) 1 t.jY t.j0 ["self","term"] (spS K (cT t) mH 2):=by
 show aY P w K mg base (fX P w) (0+1) t.jY t.j0 ["self","term"] (spS K (cT t) (cG 2 ie) 2)
 refine mJ (n:=2) (ar:=2) (k:=0) (b:=ie) T.rO yx rfl rfl ?_
 intro cdv A outer s H E W hr
 exact(aB (dh (cs:=[5,11]) ⟨⟨T.aP,T.bu⟩,⟨⟨T.aC,T.bh⟩,True.intro⟩⟩ (aj 0) (aj 1))
  (aB (dh (cs:=[5,11]) ⟨⟨T.aP,T.bJ⟩,⟨⟨T.aC,T.bH⟩,True.intro⟩⟩ (aj 0) jT)
  (aB (dh (cs:=[11]) ⟨⟨T.aC,T.dI⟩,True.intro⟩ (aj 0) jT)
  (aK (dh (cs:=[11]) ⟨⟨T.aC,T.fc⟩,True.intro⟩ (aj 0) (yP (kc:=7) T.uH rfl T.uF))))))
theorem vg(T:Txt K mg t):aY P w K mg base (fX P w) 1 t.ni t.nH ["self"] (spS K (cT t) kj 1):=by
 show aY P w K mg base (fX P w) (0+1) t.ni t.nH ["self"] (spS K (cT t) (cG 1 h_) 1)
 refine mJ (n:=1) (ar:=1) (k:=0) (b:=h_) T.vC BX rfl rfl ?_
 intro cdv A outer s H E W hr
 exact(aK (bL (aO oX (aW (cs:=[4]) ⟨⟨T.bM,T.bV⟩,True.intro⟩ (aj 0)) (bQ qR rfl T.tY qU (ak (aW (cs:=[4,5,11]) ⟨⟨T.bM,T.bU⟩,⟨⟨T.aP,T.bK⟩,⟨⟨T.aC,T.bI⟩,True.intro⟩⟩⟩ (aj 0)) az)))))
theorem Ae(T:Txt K mg t):aY P w K mg base (fX P w) 2 t.lF t.lM ["self","place"] (spS K (cT t) n6 2):=by
 show aY P w K mg base (fX P w) (1+1) t.lF t.lM ["self","place"] (spS K (cT t) (cG 2 iZ) 2)
 have pY:= @vg P w K mg base t T
 refine mJ (n:=2) (ar:=2) (k:=1) (b:=iZ) T.t_ zQ rfl rfl ?_
 intro cdv A outer s H E W hr
 exact(aK (bL (wO (rW (sH hr.units) (aW (cs:=[4]) ⟨⟨T.bM,T.bV⟩,True.intro⟩ (aj 0)) (aj 1) (bA _)) (zO (rW QS (aj 1) (jU (kc:=4) (aj 0) T.bM T.nY pY Tk.wish (hr.mono (by decide)) T.h_ .nil) (bA _))))))
theorem vO(T:Txt K mg t):aY P w K mg base (fX P w) 3 t.iU t.iW ["self","place"] (spS K (cT t) jV 2):=by
 show aY P w K mg base (fX P w) (2+1) t.iU t.iW ["self","place"] (spS K (cT t) (cG 2 d7) 2)
 have Dl:= @Ae P w K mg base t T
 refine mJ (n:=2) (ar:=2) (k:=2) (b:=d7) T.qj vI rfl rfl ?_
 intro cdv A outer s H E W hr
 exact(aB (dB (wL (pM (mF (kc:=4) (aj 0) T.bM T.tW Dl Tk.wish (hr.mono (by decide)) T.iZ .nil (ak (aj 1) az)))) (aK qz) bT)
  (aK (bL (iJ hr.units (aW (cs:=[4,5,11]) ⟨⟨T.bM,T.bU⟩,⟨⟨T.aP,T.bK⟩,⟨⟨T.aC,T.bI⟩,True.intro⟩⟩⟩ (aj 0)) (aO pW (aO pW (aj 1) (aW (cs:=[4]) ⟨⟨T.bM,T.bV⟩,True.intro⟩ (aj 0))) aA)))))
theorem xG(T:Txt K mg t):aY P w K mg base (fX P w) 4 t.jB t.jG ["self","place"] (spS K (cT t) iC 2):=by
 show aY P w K mg base (fX P w) (3+1) t.jB t.jG ["self","place"] (spS K (cT t) (cG 2 dJ) 2)
 have yo:= @vO P w K mg base t T
 refine mJ (n:=2) (ar:=2) (k:=3) (b:=dJ) T.qO wU rfl rfl ?_
 intro cdv A outer s H E W hr
 exact(aB (dB (bR (pG hr.units) (aj 1) (aW (cs:=[4]) ⟨⟨T.bM,T.bV⟩,True.intro⟩ (aj 0)) (bA _)) (aK (bL (aW (cs:=[4]) ⟨⟨T.bM,T.cu⟩,True.intro⟩ (aj 0)))) bT)
  (aK (bL (iJ hr.units (mF (kc:=4) (aj 0) T.bM T.qg yo Tk.wish (hr.mono (by decide)) T.d7 .nil (ak (aj 1) az)) aA))))
theorem Ej(T:Txt K mg t):aY P w K mg base (fX P w) 5 t.pA t.pC ["self"] (spS K (cT t) o8 1):=by
 show aY P w K mg base (fX P w) (4+1) t.pA t.pC ["self"] (spS K (cT t) (cG 1 jO) 1)
 have yL:= @xG P w K mg base t T
 have pY:= @vg P w K mg base t T
 refine mJ (n:=1) (ar:=1) (k:=4) (b:=jO) T.xZ DX rfl rfl ?_
 intro cdv A outer s H E W hr
 exact(aK (bL (dz (ak (mF (kc:=4) (aj 0) T.bM T.qJ yL Tk.wish (hr.mono (by decide)) T.dJ .nil (ak (jU (kc:=4) (aj 0) T.bM T.nY pY Tk.wish (hr.mono (by decide)) T.h_ .nil) az)) (ak (jU (kc:=4) (aj 0) T.bM T.nY pY Tk.wish (hr.mono (by decide)) T.h_ .nil) az)))))
theorem rY(T:Txt K mg t):aY P w K mg base (fX P w) 2 t.fD t.fG ["self","paper"] (spS K (cT t) iH 2):=by
 show aY P w K mg base (fX P w) (1+1) t.fD t.fG ["self","paper"] (spS K (cT t) (cG 3 cJ) 2)
 refine mJ (n:=3) (ar:=2) (k:=1) (b:=cJ) T.m6 mQ rfl rfl ?_
 intro cdv A outer s H E W hr
 exact(aB (bD (i:=2) mQ.nd rfl (Or.inl rfl) (aW (cs:=[11]) ⟨⟨T.aC,T.gR⟩,True.intro⟩ (aj 0)))
  (aK (dB (bR Lp (aj 2) jT (bA _)) (aK (tD (JM (aj 2) (ak (aj 1) az) (hr.mono (by decide))))) bT)))
theorem tV(T:Txt K mg t):aY P w K mg base (fX P w) 3 t.gk t.gm ["self","whom"] (spS K (cT t) ji 2):=by
 show aY P w K mg base (fX P w) (2+1) t.gk t.gm ["self","whom"] (spS K (cT t) (cG 2 cU) 2)
 have uv:= @rY P w K mg base t T
 refine mJ (n:=2) (ar:=2) (k:=2) (b:=cU) T.oF tL rfl rfl ?_
 intro cdv A outer s H E W hr
 exact(aB (dh (cs:=[5,11]) ⟨⟨T.aP,T.bJ⟩,⟨⟨T.aC,T.bH⟩,True.intro⟩⟩ (aj 0) (aj 1))
  (aK (tD (mF (kc:=11) (aj 0) T.aC T.mV uv Tk.wish (hr.mono (by decide)) T.cJ .nil (ak (dz (ak gJ (ak (aW (cs:=[11]) ⟨⟨T.aC,T.fL⟩,True.intro⟩ (aj 0)) (ak (aW (cs:=[5,11]) ⟨⟨T.aP,T.bu⟩,⟨⟨T.aC,T.bh⟩,True.intro⟩⟩ (aj 0)) (ak (aj 1) az))))) az)))))
theorem rG(T:Txt K mg t):aY P w K mg base (fX P w) 6 t.dW t.dY ["self","asker","end"] (spS K (cT t) cR 3):=by
 show aY P w K mg base (fX P w) (5+1) t.dW t.dY ["self","asker","end"] (spS K (cT t) (cG 3 bC) 3)
 have Jc:= @Ej P w K mg base t T
 have uY:= @tV P w K mg base t T
 refine mJ (n:=3) (ar:=3) (k:=5) (b:=bC) T.l_ rE rfl rfl ?_
 intro cdv A outer s H E W hr
 exact(aB (dB (SW.pt (zL (bR GX (aW (cs:=[5,11]) ⟨⟨T.aP,T.bJ⟩,⟨⟨T.aC,T.bH⟩,True.intro⟩⟩ (aj 0)) jT (bA _)) (vR (bR (Ln hr.units) (jU (kc:=4) (aW (cs:=[5,11]) ⟨⟨T.aP,T.bZ⟩,⟨⟨T.aC,T.bW⟩,True.intro⟩⟩ (aj 0)) T.bM T.xN Jc Tk.wish (hr.mono (by decide)) T.jO .nil) (aj 2) (bA _))))) (aK (tD (mF (kc:=11) (aj 0) T.aC T.nZ uY Tk.wish (hr.mono (by decide)) T.cU .nil (ak (aj 1) az)))) bT)
  (aB (dB (bR (ye hr.units) (aW (cs:=[5,11]) ⟨⟨T.aP,T.bJ⟩,⟨⟨T.aC,T.bH⟩,True.intro⟩⟩ (aj 0)) (aj 1) (bA _)) (aK (bL (fJ az))) bT)
  (aK (bL (fJ (ak (dz (ak gJ (ak (aW (cs:=[11]) ⟨⟨T.aC,T.fL⟩,True.intro⟩ (aj 0)) (ak (aj 1) (ak (aW (cs:=[5,11]) ⟨⟨T.aP,T.bu⟩,⟨⟨T.aC,T.bh⟩,True.intro⟩⟩ (aj 0)) az))))) az))))))
theorem Af(T:Txt K mg t):aY P w K mg base (fX P w) 7 t.lG t.lN ["self","letter"] (spS K (cT t) jM 2):=by
 show aY P w K mg base (fX P w) (6+1) t.lG t.lN ["self","letter"] (spS K (cT t) (cG 2 fH) 2)
 have sS:= @rH P w K mg base t T
 have Bt:= @yD P w K mg base t T
 have sO:= @rG P w K mg base t T
 refine mJ (n:=2) (ar:=2) (k:=6) (b:=fH) T.ud zR rfl rfl ?_
 intro cdv A outer s H E W hr
 exact(aB (dB (bR (ye hr.units) (iJ hr.units (aj 1) aA) (aW (cs:=[11]) ⟨⟨T.aC,T.fL⟩,True.intro⟩ (aj 0)) (bA _)) (aK qz) bT)
  (aB (dB (bR (sH hr.units) (iJ hr.units (aj 1) aA) (aW (cs:=[5,11]) ⟨⟨T.aP,T.bu⟩,⟨⟨T.aC,T.bh⟩,True.intro⟩⟩ (aj 0)) (bA _)) (aK (bL (mF (kc:=11) (aj 0) T.aC T.lX sS Tk.wish (hr.mono (by decide)) T.cj .nil (ak (aj 1) az)))) bT)
  (aB (dB (bR GZ (iJ hr.units (aj 1) aA) (aW (cs:=[5,11]) ⟨⟨T.aP,T.bu⟩,⟨⟨T.aC,T.bh⟩,True.intro⟩⟩ (aj 0)) (bA _)) (aK (tD (mF (kc:=11) (aj 0) T.aC T.rM Bt Tk.wish (hr.mono (by decide)) T.ie .nil (ak (iJ hr.units (aj 1) aA) az)))) bT)
  (aB (dB (bR (pG hr.units) (iJ hr.units (aj 1) aA) gJ (bA _)) (aK (bL (mF (kc:=11) (aj 0) T.aC T.lW sO Tk.wish (hr.mono (by decide)) T.bC .nil (ak (iJ hr.units (aj 1) aA) (ak (iJ hr.units (aj 1) aA) az))))) bT)
  (aB (dB (bR (pG hr.units) (iJ hr.units (aj 1) aA) gJ (bA _)) (aK qz) bT)
  (aB (dB (bR (pG hr.units) (iJ hr.units (aj 1) aA) gJ (bA _)) (aK qz) bT)
  (aB qz
  (aK (bL (fJ az))))))))))
theorem xF(T:Txt K mg t):aY P w K mg base (fX P w) 1 t.jA t.jF ["self"] (spS K (cT t) kY 1):=by
 show aY P w K mg base (fX P w) (0+1) t.jA t.jF ["self"] (spS K (cT t) (cG 1 fP) 1)
 refine mJ (n:=1) (ar:=1) (k:=0) (b:=fP) T.qN wR rfl rfl ?_
 intro cdv A outer s H E W hr
 exact(aK (bL gJ))
theorem xH(T:Txt K mg t):aY P w K mg base (fX P w) 1 t.jC t.jH ["self"] (spS K (cT t) jw 1):=by
 show aY P w K mg base (fX P w) (0+1) t.jC t.jH ["self"] (spS K (cT t) (cG 1 dM) 1)
 refine mJ (n:=1) (ar:=1) (k:=0) (b:=dM) T.qP wV rfl rfl ?_
 intro cdv A outer s H E W hr
 exact(aK (bL (wN Bd rfl T.uG uq (ak (aW (cs:=[4,5,11]) ⟨⟨T.bM,T.bU⟩,⟨⟨T.aP,T.bK⟩,⟨⟨T.aC,T.bI⟩,True.intro⟩⟩⟩ (aj 0)) az))))
theorem S_(T:Txt K mg t)(K3:PySem.W.CodeHd base t.p_ t.qb∧base.BuiltinsAt mg t.qb):aY P w K mg base (fX P w) 10 t.y_ t.um ["_law_script"] (spS K (cT t) Ks 1):=by
 show aY P w K mg base (fX P w) (9+1) t.y_ t.um ["_law_script"] (spS K (cT t) (cG 19 zy) 1)
 have bw:= @qF P w K mg base t T
 have yJ:= @xx P w K mg base t T
 have ym:= @vN P w K mg base t T
 have Dq:= @Ah P w K mg base t T
 have sJ:= @vh P w K mg base t T
 have Dp:= @Ag P w K mg base t T
 have Jb:= @Ei P w K mg base t T
 have lQ:= @Ad P w K mg base t T
 have Dm:= @Af P w K mg base t T
 have yK:= @xF P w K mg base t T
 have rR:= @xH P w K mg base t T
 refine Yl (n:=19) (ar:=1) (k:=9) (b:=zy) T.EY dR rfl rfl ?_
 intro cdv A outer s H E W hcd hr
 obtain rfl:cdv= .ref t.p_:=hcd.symm.trans T.p_
 exact(@dN _ _ _ _ _ _ _ (bD (i:=1) dR.nd rfl (Or.inl rfl) (aO eF (cB bw Tk.wish (hr.mono (by decide)) rfl T.aZ T.aV.kp T.aN .nil (ak (aj 0) (ak aA az))) aA)) (@dN _ _ _ _ _ _ _ (bD (i:=2) dR.nd rfl (Or.inl rfl) (aO eF (aO oX (aO oX (aj 1) aA) (aO eF (cB bw Tk.wish (hr.mono (by decide)) rfl T.aZ T.aV.kp T.aN .nil (ak (aj 0) (ak aA az))) aA)) aA)) (@dN _ _ _ _ _ _ _ (bD (i:=3) dR.nd rfl (Or.inl rfl) (aO eF (cB bw Tk.wish (hr.mono (by decide)) rfl T.aZ T.aV.kp T.aN .nil (ak (aj 0) (ak aA az))) (aO Fg aA aA))) (@dN _ _ _ _ _ _ _ (bD (i:=4) dR.nd rfl (Or.inl rfl) (iJ hr.units (fJ (ak jT (ak jT (ak (aj 2) (ak (aO eF (aO pX (cB bw Tk.wish (hr.mono (by decide)) rfl T.aZ T.aV.kp T.aN .nil (ak (aj 0) (ak aA az))) aA) aA) az))))) (aO eF (cB bw Tk.wish (hr.mono (by decide)) rfl T.aZ T.aV.kp T.aN .nil (ak (aj 0) (ak aA az))) aA))) (@dN _ _ _ _ _ _ _ (bD (i:=5) dR.nd rfl (Or.inl rfl) (cB yJ Tk.wish (hr.mono (by decide)) rfl T.qG T.mZ.kp T.fO .nil (ak (cB bw Tk.wish (hr.mono (by decide)) rfl T.aZ T.aV.kp T.aN .nil (ak (aj 0) (ak aA az))) (ak (aj 3) az)))) (@dN _ _ _ _ _ _ _ (bD (i:=6) dR.nd rfl (Or.inl rfl) aA) (@dN _ _ _ _ _ _ _ (bD (i:=7) dR.nd rfl (Or.inl rfl) aA) (@dN _ _ _ _ _ _ _ (dB (SW.pt (zL (bR (pG hr.units) (aO eF (cB bw Tk.wish (hr.mono (by decide)) rfl T.aZ T.aV.kp T.aN .nil (ak (aj 0) (ak aA az))) aA) aA (bA _)) (vR (bR GZ (aj 3) aA (bA _))))) (aB (bD (i:=6) dR.nd rfl (Or.inl rfl) (aO oX aA (aO eF (aO pX (cB bw Tk.wish (hr.mono (by decide)) rfl T.aZ T.aV.kp T.aN .nil (ak (aj 0) (ak aA az))) aA) aA)))
  (aK (bD (i:=7) dR.nd rfl (Or.inl rfl) aA))) bT) (@dN _ _ _ _ _ _ _ (bD (i:=8) dR.nd rfl (Or.inl rfl) (dz (ak (aj 7) (ak (aj 6) az)))) (@dN _ _ _ _ _ _ _ (dB (bR (ye hr.units) (aj 5) (fJ az) (bA _)) (aK (bD (i:=8) dR.nd rfl (Or.inl rfl) (dz (ak (iJ hr.units (iJ hr.units (aj 5) (VR QZ aA)) aA) (ak (aO oX (aj 6) (bQ qR rfl T.tY qU (ak (aj 5) az))) az))))) bT) (@dN _ _ _ _ _ _ _ (bD (i:=9) dR.nd rfl (Or.inl rfl) (bQ (Px rfl) rfl T.QB UT (ak aA (ak (aO pW (aO oX (aj 3) (aO eF (cB bw Tk.wish (hr.mono (by decide)) rfl T.aZ T.aV.kp T.aN .nil (ak (aj 0) (ak aA az))) aA)) aA) az)))) (@dN _ _ _ _ _ _ _ (dB (bR (pG hr.units) (aO eF (cB bw Tk.wish (hr.mono (by decide)) rfl T.aZ T.aV.kp T.aN .nil (ak (aj 0) (ak aA az))) aA) aA (bA _)) (aK (bD (i:=9) dR.nd rfl (Or.inl rfl) (aO oX (aO oX (aj 3) aA) (aO eF (aO pX (cB bw Tk.wish (hr.mono (by decide)) rfl T.aZ T.aV.kp T.aN .nil (ak (aj 0) (ak aA az))) aA) (aO Fg aA aA))))) bT) (@dN _ _ _ _ _ _ _ (bD (i:=10) dR.nd rfl (Or.inl rfl) (cB ym Tk.wish (hr.mono (by decide)) rfl T.qe T.lV.kp T.cI .nil (ak (aj 0) (ak (aj 8) (ak (aj 9) az))))) (@dN _ _ _ _ _ _ _ (bD (i:=11) dR.nd rfl (Or.inl rfl) (vV (kc:=5) T.rm Dq Tk.wish (hr.mono (by decide)) rfl T.Gj T.jc .nil (ak (aj 3) (ak (aj 4) (ak (vV (kc:=4) T.rZ sJ Tk.wish (hr.mono (by decide)) rfl T.Em T.i_ .nil (ak (aj 6) (ak (aj 7) (ak (dz (ak aA (ak aA az))) (ak (wN Bd rfl T.uG uq (ak (aj 5) az)) az))))) (ak (dz (ak (dz az) (ak (dz az) az))) az)))))) (@dN _ _ _ _ _ _ _ (bD (i:=12) dR.nd rfl (Or.inr rfl) (fJ az)) (@JC _ _ _ _ _ (fun y=> !(y== "_law_papers")) (fun _ _=>rfl) (@aB _ _ _ _ _ _ _ (bD (i:=13) dR.nd rfl (Or.inl rfl) (vV (kc:=11) T.q_ Dp Tk.wish (hr.mono (by decide)) rfl T.Gi T.jb .nil (ak (aj 1) (ak (aj 11) (ak (Hg 12 (k:=1000) ⟨rfl,rfl,rfl,rfl,rfl,by decide,by decide,rfl,rfl,rfl,rfl,rfl,fun _ z=>Tt z,fun _ _ _ _ _ _ _=>rfl⟩ rfl (by decide) T.ux rfl rfl (by first | exact Nat.le_succ _ | exact Tr | exact Nat.le_add_right _ _) rfl rfl K3.1 K3.2 rfl) az))))) (@aB _ _ _ _ _ _ _ (@JF _ _ _ _ _ _ _ _ (@cB _ _ _ _ _ _ _ _ _ _ _ _ _ _ _ _ _ _ Jb Tk.wish (hr.mono (by decide)) rfl T.xJ T.sy.kp T.jl .nil (@iM _ _ _ _ _ _ _ (aj 1) (@iM _ _ _ _ _ _ _ (aj 2) (@iM _ _ _ _ _ _ _ (aj 3) (@iM _ _ _ _ _ _ _ (aj 4) (@iM _ _ _ _ _ _ _ (aj 9) (@iM _ _ _ _ _ _ _ (rW (Ln hr.units) (aj 8) (aj 10) (bA _)) az rfl) rfl) rfl) rfl) rfl) rfl) (by decide) rfl rfl rfl) (zN rfl (ju (jR (i:=14) dR.nd rfl (Or.inl rfl)) (ju (jR (i:=15) dR.nd rfl (Or.inl rfl)) (ju (jR (i:=16) dR.nd rfl (Or.inl rfl)) vU)))) rfl rfl rfl) (@aB _ _ _ _ _ _ _ (@DR _ _ _ _ _ _ _ _ _ _ (tU rfl rfl) rfl (yO rfl T.Al (ak aA az)) (jR (i:=17) dR.nd rfl (Or.inl rfl)) (@aB _ _ _ _ _ _ _ (@dB _ _ _ _ _ _ _ _ _ _ (@wL _ _ _ _ _ _ (@pM _ _ _ _ _ (@cB _ _ _ _ _ _ _ _ _ _ _ _ _ _ _ _ _ _ lQ Tk.wish (hr.mono (by decide)) rfl T.gW T.fC.kp T.a_ .nil (@ak _ _ _ _ _ _ _ (@mF _ _ _ _ _ _ _ _ _ _ _ _ _ _ _ _ _ (11) _ _ _ _ (aj 13) T.aC T.tX Dm Tk.wish (hr.mono (by decide)) T.fH .nil (@ak _ _ _ _ _ _ _ (@dz _ _ _ _ _ _ _ (@iM _ _ _ _ _ _ _ gJ (@iM _ _ _ _ _ _ _ (aj 2) (@iM _ _ _ _ _ _ _ (aj 1) (@iM _ _ _ _ _ _ _ (aj 9) (@iM _ _ _ _ _ _ _ (aj 10) az rfl) rfl) rfl) rfl) rfl)) az rfl) rfl rfl rfl rfl) (ak (aj 14) az) rfl) (by decide) rfl rfl rfl) (by intro _ ;rfl))) (aK (bL BV)) bT) (aB (dB (SW.pt (FN (wL (pM (cB lQ Tk.wish (hr.mono (by decide)) rfl T.gW T.fC.kp T.a_ .nil (ak (aj 12) (ak (aj 15) az))))) (zK (wL (pM (cB lQ Tk.wish (hr.mono (by decide)) rfl T.gW T.fC.kp T.a_ .nil (ak (fJ (ak (aW (cs:=[5,11]) ⟨⟨T.aP,T.bu⟩,⟨⟨T.aC,T.bh⟩,True.intro⟩⟩ (aj 13)) (ak (aW (cs:=[5,11]) ⟨⟨T.aP,T.bJ⟩,⟨⟨T.aC,T.bH⟩,True.intro⟩⟩ (aj 13)) (ak (aW (cs:=[11]) ⟨⟨T.aC,T.dI⟩,True.intro⟩ (aj 13)) az)))) (ak (aj 16) az)))))))) (aK (bL BV)) bT)
  (aK (dB (SW.pt (FN (bR (ye hr.units) (jU (kc:=7) (aW (cs:=[11]) ⟨⟨T.aC,T.fc⟩,True.intro⟩ (aj 13)) T.zm T.qH yK Tk.wish (hr.mono (by decide)) T.fP .nil) gJ (bA _)) (zK (wL (pM (cB lQ Tk.wish (hr.mono (by decide)) rfl T.gW T.fC.kp T.a_ .nil (ak (jU (kc:=4) (aW (cs:=[5,11]) ⟨⟨T.aP,T.bZ⟩,⟨⟨T.aC,T.bW⟩,True.intro⟩⟩ (aj 13)) T.bM T.mU rR Tk.wish (hr.mono (by decide)) T.dM .nil) (ak (aj 5) az)))))))) (aK (bL BV)) bT)))) (by intro _ ;rfl)) (aB (bD (i:=18) dR.nd rfl (Or.inl rfl) (fJ (ak (aW (cs:=[5,11]) ⟨⟨T.aP,T.bu⟩,⟨⟨T.aC,T.bh⟩,True.intro⟩⟩ (aj 11)) (ak (aW (cs:=[5,11]) ⟨⟨T.aP,T.bJ⟩,⟨⟨T.aC,T.bH⟩,True.intro⟩⟩ (aj 11)) (ak (aW (cs:=[4]) ⟨⟨T.bM,T.bV⟩,True.intro⟩ (aW (cs:=[5,11]) ⟨⟨T.aP,T.bZ⟩,⟨⟨T.aC,T.bW⟩,True.intro⟩⟩ (aj 11))) (ak (jU (kc:=4) (aW (cs:=[5,11]) ⟨⟨T.aP,T.bZ⟩,⟨⟨T.aC,T.bW⟩,True.intro⟩⟩ (aj 11)) T.bM T.mU rR Tk.wish (hr.mono (by decide)) T.dM .nil) az))))))
  (aK (bL (cB lQ Tk.wish (hr.mono (by decide)) rfl T.gW T.fC.kp T.a_ .nil (ak (aj 18) (ak (fJ (ak (aj 3) (ak (aj 4) (ak (aj 6) (ak (aj 5) az))))) az)))))))))))))))))))))))))
theorem H_(T:Txt K mg t)(s:Shared)(u:Value):BindsTo s t.um ⟨[u],[]⟩ [("_law_script",u)]:=by
 obtain⟨oc,od,kV,doc,pm,an,cdv,ct,osl,e,_⟩:=T.EY.ex
 rw[e]
 exact .of_eq rfl
theorem Pr{k:Nat}(hk:1000≤k)(hc:cT t k≠0):∃z∈[(t.p_,t.qb)],cT t k=z.2:=by
 by_cases e:k=1000
 ·subst e;exact⟨_,List.mem_cons_self,rfl⟩
 ·exfalso
  unfold cT at hc
  split at hc<;>first | omega | exact hc rfl
theorem Oo(T:Txt K mg t)(h0:PySem.W.CodeHd base t.p_ t.qb∧base.BuiltinsAt mg t.qb):aY P w K mg base QW 10 t.y_ t.um ["_law_script"] (Rf K (cT t)):=Tp (S_ T h0) Tq
end
set_option autoImplicit true in
theorem all_mk{K:Frag}{h:Heap}{mg:Str→Option Value}(X:K.In h)(G:h.Ns mainGlobals mg){vo8:Obj}{vn8:Nat}{Jq:Array Value}(Fj:nsIn K mainGlobals "Row" = some (some (.ref jP)))(Bq:nsIn K mainGlobals "Book" = some (some (.ref kO)))(yf:nsIn K mainGlobals "Shelf" = some (some (.ref j7)))(Bp:nsIn K mainGlobals "Hand" = some (some (.ref dm)))(uW:nsIn K mainGlobals "Sitter" = some (some (.ref jJ)))(a0:nsIn K mainGlobals "_law_cell_at" = some (some (.ref f0)))(l0:K.lookup f0=some ⟨oc0,od0,.func (fnOf "_law_cell_at" "_law_cell_at" (aG cX) (aD cX) (au cX) .none kV0 dc0 pm0 an0 cd0 ct0),sl0⟩)(c0:codeIn K cd0 "_law_cell_at" = true)(k0:keepIn K (.ref f0)=true)(a1:nsIn K mainGlobals "_law_entries" = some (some (.ref f1)))(l1:K.lookup f1=some ⟨oc1,od1,.func (fnOf "_law_entries" "_law_entries" (aG cW) (aD cW) (au cW) .none kV1 dc1 pm1 an1 cd1 ct1),sl1⟩)(c1:codeIn K cd1 "_law_entries" = true)(k1:keepIn K (.ref f1)=true)(a2:nsIn K mainGlobals "_law_end_near" = some (some (.ref f2)))(l2:K.lookup f2=some ⟨oc2,od2,.func (fnOf "_law_end_near" "_law_end_near" (aG cD) (aD cD) (au cD) .none kV2 dc2 pm2 an2 cd2 ct2),sl2⟩)(c2:codeIn K cd2 "_law_end_near" = true)(k2:keepIn K (.ref f2)=true)(a3:findIn K (.ref jP) "__init__" = some (some (.ref f3)))(i3:isFn K (.ref f3)=true)(l3:K.lookup f3=some ⟨oc3,od3,.func (fnOf "__init__" "Row.__init__" (aG gQ) (aD gQ) (au gQ) .none kV3 dc3 pm3 an3 cd3 ct3),sl3⟩)(c3:codeIn K cd3 "Row.__init__" = true)(k3:keepIn K (.ref f3)=true)(a4:findIn K (.ref jP) "twin" = some (some (.ref f4)))(i4:isFn K (.ref f4)=true)(l4:K.lookup f4=some ⟨oc4,od4,.func (fnOf "twin" "Row.twin" (aG gM) (aD gM) (au gM) .none kV4 dc4 pm4 an4 cd4 ct4),sl4⟩)(c4:codeIn K cd4 "Row.twin" = true)(k4:keepIn K (.ref f4)=true)(a5:findIn K (.ref kO) "__init__" = some (some (.ref f5)))(i5:isFn K (.ref f5)=true)(l5:K.lookup f5=some ⟨oc5,od5,.func (fnOf "__init__" "Book.__init__" (aG eY) (aD eY) (au eY) .none kV5 dc5 pm5 an5 cd5 ct5),sl5⟩)(c5:codeIn K cd5 "Book.__init__" = true)(k5:keepIn K (.ref f5)=true)(a6:findIn K (.ref j7) "__init__" = some (some (.ref f6)))(i6:isFn K (.ref f6)=true)(l6:K.lookup f6=some ⟨oc6,od6,.func (fnOf "__init__" "Shelf.__init__" (aG dG) (aD dG) (au dG) .none kV6 dc6 pm6 an6 cd6 ct6),sl6⟩)(c6:codeIn K cd6 "Shelf.__init__" = true)(k6:keepIn K (.ref f6)=true)(a7:nsIn K mainGlobals "shelf_of" = some (some (.ref f7)))(l7:K.lookup f7=some ⟨oc7,od7,.func (fnOf "shelf_of" "shelf_of" (aG gK) (aD gK) (au gK) .none kV7 dc7 pm7 an7 cd7 ct7),sl7⟩)(c7:codeIn K cd7 "shelf_of" = true)(k7:keepIn K (.ref f7)=true)(a8:findIn K (.ref dm) "__init__" = some (some (.ref f8)))(i8:isFn K (.ref f8)=true)(l8:K.lookup f8=some ⟨oc8,od8,.func (fnOf "__init__" "Hand.__init__" (aG gG) (aD gG) (au gG) (.ref v8) kV8 dc8 pm8 an8 cd8 ct8),sl8⟩)(c8:codeIn K cd8 "Hand.__init__" = true)(k8:keepIn K (.ref f8)=true)(lv8:K.lookup v8=some vo8)(dv8:vo8.data= .seq #[.none] vn8)(a9:nsIn K mainGlobals "_law_due" = some (some (.ref f9)))(l9:K.lookup f9=some ⟨oc9,od9,.func (fnOf "_law_due" "_law_due" (aG jf) (aD jf) (au jf) .none kV9 dc9 pm9 an9 cd9 ct9),sl9⟩)(c9:codeIn K cd9 "_law_due" = true)(k9:keepIn K (.ref f9)=true)(a10:nsIn K mainGlobals "_law_alike" = some (some (.ref Vq)))(l10:K.lookup Vq=some ⟨acr,ab7,.func (fnOf "_law_alike" "_law_alike" (aG eU) (aD eU) (au eU) .none XJ YZ WN ZG UJ Zh),abE⟩)(c10:codeIn K UJ "_law_alike" = true)(k10:keepIn K (.ref Vq)=true)(a11:findIn K (.ref dm) "answer_late" = some (some (.ref f11)))(i11:isFn K (.ref f11)=true)(l11:K.lookup f11=some ⟨acq,ab6,.func (fnOf "answer_late" "Hand.answer_late" (aG bz) (aD bz) (au bz) .none XH YX WM ZF UG Zg),abD⟩)(c11:codeIn K UG "Hand.answer_late" = true)(k11:keepIn K (.ref f11)=true)(a12:findIn K (.ref dm) "enter" = some (some (.ref YB)))(i12:isFn K (.ref YB)=true)(l12:K.lookup YB=some ⟨acp,ab5,.func (fnOf "enter" "Hand.enter" (aG dH) (aD dH) (au dH) .none XF YW WL ZD Uz Zf),abC⟩)(c12:codeIn K Uz "Hand.enter" = true)(k12:keepIn K (.ref YB)=true)(a13:findIn K (.ref jP) "last" = some (some (.ref Yz)))(i13:isFn K (.ref Yz)=true)(l13:K.lookup Yz=some ⟨aco,ab4,.func (fnOf "last" "Row.last" (aG gO) (aD gO) (au gO) .none XD YT WK ZC Uy Ze),abB⟩)(c13:codeIn K Uy "Row.last" = true)(k13:keepIn K (.ref Yz)=true)(a14:findIn K (.ref jP) "keeps" = some (some (.ref Yy)))(i14:isFn K (.ref Yy)=true)(l14:K.lookup Yy=some ⟨acn,ab3,.func (fnOf "keeps" "Row.keeps" (aG eV) (aD eV) (au eV) .none XC YS WD Zz Ux Zd),abA⟩)(c14:codeIn K Ux "Row.keeps" = true)(k14:keepIn K (.ref Yy)=true)(a15:findIn K (.ref jP) "entry_at" = some (some (.ref Yx)))(i15:isFn K (.ref Yx)=true)(l15:K.lookup Yx=some ⟨ack,ab2,.func (fnOf "entry_at" "Row.entry_at" (aG cF) (aD cF) (au cF) .none Xz YQ Wz Zy Uw Zc),abz⟩)(c15:codeIn K Uw "Row.entry_at" = true)(X5:keepIn K (.ref Yx)=true)(a16:findIn K (.ref jP) "term_at" = some (some (.ref Yw)))(i16:isFn K (.ref Yw)=true)(l16:K.lookup Yw=some ⟨acj,ab1,.func (fnOf "term_at" "Row.term_at" (aG cZ) (aD cZ) (au cZ) .none Xy YM Wy Zx Uv Zb),aby⟩)(c16:codeIn K Uv "Row.term_at" = true)(X4:keepIn K (.ref Yw)=true)(a17:findIn K (.ref jP) "end" = some (some (.ref Yv)))(i17:isFn K (.ref Yv)=true)(l17:K.lookup Yv=some ⟨aci,ab0,.func (fnOf "end" "Row.end" (aG jg) (aD jg) (au jg) .none Xx YL Wx Zw Uu Za),abx⟩)(c17:codeIn K Uu "Row.end" = true)(X3:keepIn K (.ref Yv)=true)(a18:findIn K (.ref dm) "tell_paper" = some (some (.ref Yu)))(i18:isFn K (.ref Yu)=true)(l18:K.lookup Yu=some ⟨ach,abZ,.func (fnOf "tell_paper" "Hand.tell_paper" (aG bG) (aD bG) (au bG) .none Xw YK Ww Zv Ut Y_),abw⟩)(c18:codeIn K Ut "Hand.tell_paper" = true)(XX:keepIn K (.ref Yu)=true)(a19:findIn K (.ref dm) "give_vote" = some (some (.ref Yt)))(i19:isFn K (.ref Yt)=true)(l19:K.lookup Yt=some ⟨acg,abY,.func (fnOf "give_vote" "Hand.give_vote" (aG bO) (aD bO) (au bO) .none Xv YJ Wv Zu Us Y9),abv⟩)(c19:codeIn K Us "Hand.give_vote" = true)(XS:keepIn K (.ref Yt)=true)(a20:findIn K (.ref dm) "take_please" = some (some (.ref Ys)))(i20:isFn K (.ref Ys)=true)(l20:K.lookup Ys=some ⟨ace,abW,.func (fnOf "take_please" "Hand.take_please" (aG bx) (aD bx) (au bx) .none Xu YH Wu Zt Ur Y8),abu⟩)(c20:codeIn K Ur "Hand.take_please" = true)(XR:keepIn K (.ref Ys)=true)(a21:findIn K (.ref dm) "take" = some (some (.ref Yr)))(i21:isFn K (.ref Yr)=true)(l21:K.lookup Yr=some ⟨acd,abV,.func (fnOf "take" "Hand.take" (aG eX) (aD eX) (au eX) .none Xr YG Wt Zr Uq Y7),abt⟩)(c21:codeIn K Uq "Hand.take" = true)(XQ:keepIn K (.ref Yr)=true)(a22:findIn K (.ref jJ) "word" = some (some (.ref Yq)))(i22:isFn K (.ref Yq)=true)(l22:K.lookup Yq=some ⟨ab_,abU,.func (fnOf "word" "Sitter.word" (aG cY) (aD cY) (au cY) .none Xq YF Wr Zq Uo Y6),abr⟩)(c22:codeIn K Uo "Sitter.word" = true)(XN:keepIn K (.ref Yq)=true)(a23:findIn K (.ref jP) "entries" = some (some (.ref Yp)))(i23:isFn K (.ref Yp)=true)(l23:K.lookup Yp=some ⟨ab9,abT,.func (fnOf "entries" "Row.entries" (aG dg) (aD dg) (au dg) .none Xp YD Wq Zo Um Y5),abq⟩)(c23:codeIn K Um "Row.entries" = true)(XM:keepIn K (.ref Yp)=true)(a24:nsIn K mainGlobals "law" = some (some (.ref f24)))(Xn:K.lookup f24=some ⟨ab8,abS,.func (fnOf "law" "law" (aG tM) (aD tM) (au tM) .none Xo YC Wo Zn PK Y4),abp⟩)(c24:codeIn K PK "law" = true)(k24:keepIn K (.ref f24)=true)(Be:PK= .ref LQ)(Eu:K.lookup LQ=some ⟨Sv,Ui,.fields Jq,Rc⟩)(Dy:Jq[11]? = some (.ref G5))(ux:G5≠0)(uJ:K.lookup G5=none)(Eg:PySem.W.plainGet K jP Str.empty=true)(Ey:PySem.W.hasDictIn K jP=true)(Ef:PySem.W.plainOver K jP=true)(DY:findIn K (.ref jP) "__setattr__" = some (some (.builtin "object.__setattr__")))(rZ:PySem.W.makesIn K jP=true)(Ew:keepIn K (.ref jP)=true)(bV:findIn K (.ref jP) "base" = some none)(cu:findIn K (.ref jP) "base_term" = some none)(cQ:findIn K (.ref jP) "base_roll" = some none)(bU:findIn K (.ref jP) "kept" = some none)(Ab:PySem.W.plainGet K kO Str.empty=true)(Ay:PySem.W.hasDictIn K kO=true)(z_:PySem.W.plainOver K kO=true)(zW:findIn K (.ref kO) "__setattr__" = some (some (.builtin "object.__setattr__")))(rm:PySem.W.makesIn K kO=true)(Av:keepIn K (.ref kO)=true)(bu:findIn K (.ref kO) "term" = some none)(bJ:findIn K (.ref kO) "vote" = some none)(bZ:findIn K (.ref kO) "row" = some none)(bK:findIn K (.ref kO) "kept" = some none)(xr:PySem.W.plainGet K j7 Str.empty=true)(xX:PySem.W.hasDictIn K j7=true)(xm:PySem.W.plainOver K j7=true)(wW:findIn K (.ref j7) "__setattr__" = some (some (.builtin "object.__setattr__")))(o7:PySem.W.makesIn K j7=true)(xU:keepIn K (.ref j7)=true)(cP:findIn K (.ref j7) "amounts" = some none)(cH:findIn K (.ref j7) "answered" = some none)(Aa:PySem.W.plainGet K dm Str.empty=true)(Ax:PySem.W.hasDictIn K dm=true)(z9:PySem.W.plainOver K dm=true)(zV:findIn K (.ref dm) "__setattr__" = some (some (.builtin "object.__setattr__")))(q_:PySem.W.makesIn K dm=true)(Ar:keepIn K (.ref dm)=true)(fL:findIn K (.ref dm) "me" = some none)(gR:findIn K (.ref dm) "note" = some none)(bh:findIn K (.ref dm) "term" = some none)(bH:findIn K (.ref dm) "vote" = some none)(bW:findIn K (.ref dm) "row" = some none)(bI:findIn K (.ref dm) "kept" = some none)(eG:findIn K (.ref dm) "settled" = some none)(jh:findIn K (.ref dm) "done" = some none)(iB:findIn K (.ref dm) "shelf" = some none)(dI:findIn K (.ref dm) "chair" = some none)(fc:findIn K (.ref dm) "seat" = some none)(uC:PySem.W.plainGet K jJ Str.empty=true)(uO:PySem.W.hasDictIn K jJ=true)(uB:PySem.W.plainOver K jJ=true)(uy:findIn K (.ref jJ) "__setattr__" = some (some (.builtin "object.__setattr__")))(uE:PySem.W.makesIn K jJ=true)(uL:keepIn K (.ref jJ)=true)(uD:findIn K (.ref jJ) "__init__" = some (some (.builtin "object.__init__")))(Jo:nsIn K mainGlobals "all" = some none)(Dv:nsIn K mainGlobals "bool" = some none)(Jm:nsIn K mainGlobals "int" = some none)(pI:nsIn K mainGlobals "isinstance" = some none)(Jl:nsIn K mainGlobals "len" = some none)(Du:nsIn K mainGlobals "list" = some none)(Jk:nsIn K mainGlobals "max" = some none)(Jj:nsIn K mainGlobals "min" = some none)(zE:nsIn K mainGlobals "range" = some none)(Ji:nsIn K mainGlobals "str" = some none)(zB:nsIn K mainGlobals "tuple" = some none):
  ∃t,Txt K mg t:=
 ⟨{mq:=jP,
   pU:=kO,
   pR:=j7,
   eE:=dm,
   pF:=jJ,
   jz:=f0,jE:=fnOf "_law_cell_at" "_law_cell_at" (aG cX) (aD cX) (au cX) .none kV0 dc0 pm0 an0 cd0 ct0,
   jy:=f1,jD:=fnOf "_law_entries" "_law_entries" (aG cW) (aD cW) (au cW) .none kV1 dc1 pm1 an1 cd1 ct1,
   iT:=f2,iV:=fnOf "_law_end_near" "_law_end_near" (aG cD) (aD cD) (au cD) .none kV2 dc2 pm2 an2 cd2 ct2,
   nj:=f3,nJ:=fnOf "__init__" "Row.__init__" (aG gQ) (aD gQ) (au gQ) .none kV3 dc3 pm3 an3 cd3 ct3,
   m_:=f4,nG:=fnOf "twin" "Row.twin" (aG gM) (aD gM) (au gM) .none kV4 dc4 pm4 an4 cd4 ct4,
   lJ:=f5,lO:=fnOf "__init__" "Book.__init__" (aG eY) (aD eY) (au eY) .none kV5 dc5 pm5 an5 cd5 ct5,
   jX:=f6,jZ:=fnOf "__init__" "Shelf.__init__" (aG dG) (aD dG) (au dG) .none kV6 dc6 pm6 an6 cd6 ct6,
   m8:=f7,nF:=fnOf "shelf_of" "shelf_of" (aG gK) (aD gK) (au gK) .none kV7 dc7 pm7 an7 cd7 ct7,
   lH:=f8,jN:=fnOf "__init__" "Hand.__init__" (aG gG) (aD gG) (au gG) (.ref v8) kV8 dc8 pm8 an8 cd8 ct8,
   u6:=v8,
   pq:=f9,pB:=fnOf "_law_due" "_law_due" (aG jf) (aD jf) (au jf) .none kV9 dc9 pm9 an9 cd9 ct9,
   lD:=Vq,lK:=fnOf "_law_alike" "_law_alike" (aG eU) (aD eU) (au eU) .none XJ YZ WN ZG UJ Zh,
   dX:=f11,dZ:=fnOf "answer_late" "Hand.answer_late" (aG bz) (aD bz) (au bz) .none XH YX WM ZF UG Zg,
   jY:=YB,j0:=fnOf "enter" "Hand.enter" (aG dH) (aD dH) (au dH) .none XF YW WL ZD Uz Zf,
   ni:=Yz,nH:=fnOf "last" "Row.last" (aG gO) (aD gO) (au gO) .none XD YT WK ZC Uy Ze,
   lF:=Yy,lM:=fnOf "keeps" "Row.keeps" (aG eV) (aD eV) (au eV) .none XC YS WD Zz Ux Zd,
   iU:=Yx,iW:=fnOf "entry_at" "Row.entry_at" (aG cF) (aD cF) (au cF) .none Xz YQ Wz Zy Uw Zc,
   jB:=Yw,jG:=fnOf "term_at" "Row.term_at" (aG cZ) (aD cZ) (au cZ) .none Xy YM Wy Zx Uv Zb,
   pA:=Yv,pC:=fnOf "end" "Row.end" (aG jg) (aD jg) (au jg) .none Xx YL Wx Zw Uu Za,
   fD:=Yu,fG:=fnOf "tell_paper" "Hand.tell_paper" (aG bG) (aD bG) (au bG) .none Xw YK Ww Zv Ut Y_,
   gk:=Yt,gm:=fnOf "give_vote" "Hand.give_vote" (aG bO) (aD bO) (au bO) .none Xv YJ Wv Zu Us Y9,
   dW:=Ys,dY:=fnOf "take_please" "Hand.take_please" (aG bx) (aD bx) (au bx) .none Xu YH Wu Zt Ur Y8,
   lG:=Yr,lN:=fnOf "take" "Hand.take" (aG eX) (aD eX) (au eX) .none Xr YG Wt Zr Uq Y7,
   jA:=Yq,jF:=fnOf "word" "Sitter.word" (aG cY) (aD cY) (au cY) .none Xq YF Wr Zq Uo Y6,
   jC:=Yp,jH:=fnOf "entries" "Row.entries" (aG dg) (aD dg) (au dg) .none Xp YD Wq Zo Um Y5,
   y_:=f24,um:=fnOf "law" "law" (aG tM) (aD tM) (au tM) .none Xo YC Wo Zn PK Y4,
   p_:=LQ,qb:=G5},
  {aV:=aM l0 c0 k0,
   aN:=(aM l0 c0 k0:cM K _ _ cX .none _ _).binds (ps:=["_law_script","_law_k"]) fun _ _ _ _ _ _ us hl=>by obtain⟨u0,u1,rfl⟩:=jW hl;rfl,
   aZ:=PySem.W.mg_of X G a0,
   mZ:=aM l1 c1 k1,
   fO:=(aM l1 c1 k1:cM K _ _ cW .none _ _).binds (ps:=["_law_number","_law_term"]) fun _ _ _ _ _ _ us hl=>by obtain⟨u0,u1,rfl⟩:=jW hl;rfl,
   qG:=PySem.W.mg_of X G a1,
   lV:=aM l2 c2 k2,
   cI:=(aM l2 c2 k2:cM K _ _ cD .none _ _).binds (ps:=["_law_script","_law_end","_law_term"]) fun _ _ _ _ _ _ us hl=>by obtain⟨u0,u1,u2,rfl⟩:=An hl;rfl,
   qe:=PySem.W.mg_of X G a2,
   vG:=aM l3 c3 k3,
   i_:=(aM l3 c3 k3:cM K _ _ gQ .none _ _).binds (ps:=["self","base","base_term","base_roll","entries"]) fun _ _ _ _ _ _ us hl=>by obtain⟨u0,u1,u2,u3,u4,rfl⟩:=Gq hl;rfl,
   rZ:=⟨rZ,a3,i3,Ew⟩,
   vB:=aM l4 c4 k4,
   iY:=(aM l4 c4 k4:cM K _ _ gM .none _ _).binds (ps:=["self"]) fun _ _ _ _ _ _ us hl=>by obtain⟨u0,rfl⟩:=oh hl;rfl,
   qI:=⟨a4,i4,k4⟩,
   uf:=aM l5 c5 k5,
   jc:=(aM l5 c5 k5:cM K _ _ eY .none _ _).binds (ps:=["self","term","vote","row","kept"]) fun _ _ _ _ _ _ us hl=>by obtain⟨u0,u1,u2,u3,u4,rfl⟩:=Gq hl;rfl,
   rm:=⟨rm,a5,i5,Av⟩,
   rN:=aM l6 c6 k6,
   g_:=(aM l6 c6 k6:cM K _ _ dG .none _ _).binds (ps:=["self"]) fun _ _ _ _ _ _ us hl=>by obtain⟨u0,rfl⟩:=oh hl;rfl,
   o7:=⟨o7,a6,i6,xU⟩,
   qM:=aM l7 c7 k7,
   jL:=(aM l7 c7 k7:cM K _ _ gK .none _ _).binds (ps:=["told"]) fun _ _ _ _ _ _ us hl=>by obtain⟨u0,rfl⟩:=oh hl;rfl,
   vm:=PySem.W.mg_of X G a7,
   ue:=aM l8 c8 k8,
   jb:=fun s us X hl=>by obtain⟨u0,u1,u2,u3,rfl⟩:=Oz (us:=us) (by simpa using hl);exact PySem.W.binds_K X rfl lv8 dv8 rfl rfl,
   Bl:=fun s us X hl=>by obtain⟨u0,u1,u2,rfl⟩:=An (us:=us) (by simpa using hl);exact PySem.W.binds_K X rfl lv8 dv8 rfl rfl,
   q_:=⟨q_,a8,i8,Ar⟩,
   sy:=aM l9 c9 k9,
   jl:=(aM l9 c9 k9:cM K _ _ jf .none _ _).binds (ps:=["_law_me","_law_whom","_law_term","_law_vote","_law_asked","_law_fits"]) fun _ _ _ _ _ _ us hl=>by obtain⟨u0,u1,u2,u3,u4,u5,rfl⟩:=Ox hl;rfl,
   xJ:=PySem.W.mg_of X G a9,
   fC:=aM l10 c10 k10,
   a_:=(aM l10 c10 k10:cM K _ _ eU .none _ _).binds (ps:=["_law_found","_law_due_here"]) fun _ _ _ _ _ _ us hl=>by obtain⟨u0,u1,rfl⟩:=jW hl;rfl,
   gW:=PySem.W.mg_of X G a10,
   mj:=aM l11 c11 k11,
   cj:=(aM l11 c11 k11:cM K _ _ bz .none _ _).binds (ps:=["self","letter"]) fun _ _ _ _ _ _ us hl=>by obtain⟨u0,u1,rfl⟩:=jW hl;rfl,
   lX:=⟨a11,i11,k11⟩,
   rO:=aM l12 c12 k12,
   ie:=(aM l12 c12 k12:cM K _ _ dH .none _ _).binds (ps:=["self","term"]) fun _ _ _ _ _ _ us hl=>by obtain⟨u0,u1,rfl⟩:=jW hl;rfl,
   rM:=⟨a12,i12,k12⟩,
   vC:=aM l13 c13 k13,
   h_:=(aM l13 c13 k13:cM K _ _ gO .none _ _).binds (ps:=["self"]) fun _ _ _ _ _ _ us hl=>by obtain⟨u0,rfl⟩:=oh hl;rfl,
   nY:=⟨a13,i13,k13⟩,
   t_:=aM l14 c14 k14,
   iZ:=(aM l14 c14 k14:cM K _ _ eV .none _ _).binds (ps:=["self","place"]) fun _ _ _ _ _ _ us hl=>by obtain⟨u0,u1,rfl⟩:=jW hl;rfl,
   tW:=⟨a14,i14,k14⟩,
   qj:=aM l15 c15 X5,
   d7:=(aM l15 c15 X5:cM K _ _ cF .none _ _).binds (ps:=["self","place"]) fun _ _ _ _ _ _ us hl=>by obtain⟨u0,u1,rfl⟩:=jW hl;rfl,
   qg:=⟨a15,i15,X5⟩,
   qO:=aM l16 c16 X4,
   dJ:=(aM l16 c16 X4:cM K _ _ cZ .none _ _).binds (ps:=["self","place"]) fun _ _ _ _ _ _ us hl=>by obtain⟨u0,u1,rfl⟩:=jW hl;rfl,
   qJ:=⟨a16,i16,X4⟩,
   xZ:=aM l17 c17 X3,
   jO:=(aM l17 c17 X3:cM K _ _ jg .none _ _).binds (ps:=["self"]) fun _ _ _ _ _ _ us hl=>by obtain⟨u0,rfl⟩:=oh hl;rfl,
   xN:=⟨a17,i17,X3⟩,
   m6:=aM l18 c18 XX,
   cJ:=(aM l18 c18 XX:cM K _ _ bG .none _ _).binds (ps:=["self","paper"]) fun _ _ _ _ _ _ us hl=>by obtain⟨u0,u1,rfl⟩:=jW hl;rfl,
   mV:=⟨a18,i18,XX⟩,
   oF:=aM l19 c19 XS,
   cU:=(aM l19 c19 XS:cM K _ _ bO .none _ _).binds (ps:=["self","whom"]) fun _ _ _ _ _ _ us hl=>by obtain⟨u0,u1,rfl⟩:=jW hl;rfl,
   nZ:=⟨a19,i19,XS⟩,
   l_:=aM l20 c20 XR,
   bC:=(aM l20 c20 XR:cM K _ _ bx .none _ _).binds (ps:=["self","asker","end"]) fun _ _ _ _ _ _ us hl=>by obtain⟨u0,u1,u2,rfl⟩:=An hl;rfl,
   lW:=⟨a20,i20,XR⟩,
   ud:=aM l21 c21 XQ,
   fH:=(aM l21 c21 XQ:cM K _ _ eX .none _ _).binds (ps:=["self","letter"]) fun _ _ _ _ _ _ us hl=>by obtain⟨u0,u1,rfl⟩:=jW hl;rfl,
   tX:=⟨a21,i21,XQ⟩,
   qN:=aM l22 c22 XN,
   fP:=(aM l22 c22 XN:cM K _ _ cY .none _ _).binds (ps:=["self"]) fun _ _ _ _ _ _ us hl=>by obtain⟨u0,rfl⟩:=oh hl;rfl,
   qH:=⟨a22,i22,XN⟩,
   qP:=aM l23 c23 XM,
   dM:=(aM l23 c23 XM:cM K _ _ dg .none _ _).binds (ps:=["self"]) fun _ _ _ _ _ _ us hl=>by obtain⟨u0,rfl⟩:=oh hl;rfl,
   mU:=⟨a23,i23,XM⟩,
   EY:=aM Xn c24 k24,
   zy:=(aM Xn c24 k24:cM K _ _ tM .none _ _).binds (ps:=["_law_script"]) fun _ _ _ _ _ _ us hl=>by obtain⟨u0,rfl⟩:=oh hl;rfl,
   Ko:=PySem.W.mg_of X G a24,
   p_:=Be,
   ux:=ux,
   Jv:=Q6 a24 Xn Be Eu Dy,
   uJ:=uJ,
   bM:=⟨Eg,Ey,Ef,DY⟩,
   Em:=PySem.W.mg_of X G Fj,
   bV:=bV,
   cu:=cu,
   cQ:=cQ,
   bU:=bU,
   aP:=⟨Ab,Ay,z_,zW⟩,
   Gj:=PySem.W.mg_of X G Bq,
   bu:=bu,
   bJ:=bJ,
   bZ:=bZ,
   bK:=bK,
   qT:=⟨xr,xX,xm,wW⟩,
   Cz:=PySem.W.mg_of X G yf,
   cP:=cP,
   cH:=cH,
   aC:=⟨Aa,Ax,z9,zV⟩,
   Gi:=PySem.W.mg_of X G Bp,
   fL:=fL,
   gR:=gR,
   bh:=bh,
   bH:=bH,
   bW:=bW,
   bI:=bI,
   eG:=eG,
   jh:=jh,
   iB:=iB,
   dI:=dI,
   fc:=fc,
   uH:=⟨uE,uD,uL⟩,
   zm:=⟨uC,uO,uB,uy⟩,
   uF:=PySem.W.mg_of X G uW,
   QC:=PySem.W.mg_none_of X G Jo,
   Am:=PySem.W.mg_none_of X G Dv,
   Ku:=PySem.W.mg_none_of X G Jm,
   b_:=PySem.W.mg_none_of X G pI,
   tY:=PySem.W.mg_none_of X G Jl,
   uG:=PySem.W.mg_none_of X G Du,
   QB:=PySem.W.mg_none_of X G Jk,
   Qz:=PySem.W.mg_none_of X G Jj,
   Al:=PySem.W.mg_none_of X G zE,
   Kr:=PySem.W.mg_none_of X G Ji,
   Ak:=PySem.W.mg_none_of X G zB}⟩
end My
open PySem PySem.W PyProof.Rows
namespace PySem.W.Fast
def tw609001278831925248:=0
def tw11144793985667871744:=0
def tw2290300563961207904:=0
def tw12513408686324304128:=0
def tw7369657432017865056:=0
def tw2029939186421878112:=0
def tw2742762569887901088:=0
def tw5889592657662486176:=0
def tw8584859299250530976:=0
def tw9519302308304631712:=0
def tw9766159931310049216:=0
def tw15620972450570200000:=0
def tw5867282033308899457:=0
def tw4363676853651677377:=0
def tw1584123718891223233:=0
def tw8845118775137214689:=0
def tw2558441749139940577:=0
def tw9993927818053589377:=0
def tw7366412819710584193:=0
def tw10051453094426006081:=0
def tw6521841786708232929:=0
def tw17179299660075391745:=0
def tw4893949366567667521:=0
def tw18071621837539630017:=0
def tw15613053424077082722:=0
def tw5476091258374259970:=0
def tw10421833731287823618:=0
def tw7581314311597015298:=0
def tw18133695752275051842:=0
def tw14620015977289386530:=0
def tw5567782391735694882:=0
def tw13200653095505249858:=0
def tw1771383010071900738:=0
def tw14765104163482341986:=0
def tw8786569396253079138:=0
def tw2166874551930379874:=0
def tw16327729357521142402:=0
def tw12872861523292165826:=0
def tw7865157689351957218:=0
def tw14259351384009833250:=0
def tw6610263102048512834:=0
def tw17826662148633459522:=0
def tw1120551220362358658:=0
def tw12836187683533730690:=0
def tw17181135467860080514:=0
def tw5126315882820367234:=0
def tw14760718290586226691:=0
def tw16154599050250440707:=0
def tw11976718907946817603:=0
def tw2247713789007755331:=0
def tw15038949872224689251:=0
def tw11489735810670604451:=0
def tw17611210709373430979:=0
def tw8192561067794775267:=0
def tw17168596321441789219:=0
def tw6635423641185830179:=0
def tw7346361496658818435:=0
def tw12395595591155395043:=0
def tw14192481815329006051:=0
def tw5135309309279982115:=0
def tw1704838666674169379:=0
def tw1983714056006934115:=0
def tw14367197853062357635:=0
def tw5835579577351782051:=0
def tw6880893109028174531:=0
def tw593059513597815491:=0
def tw14771702252866716387:=0
def tw14159648048921722659:=0
def tw14202492057540135747:=0
def tw8938279406415982403:=0
def tw6115585801119674179:=0
def tw15960949923514413891:=0
def tw3425132582683462788:=0
def tw1067305148088737956:=0
def tw1818854562776155364:=0
def tw948311489053501764:=0
def tw14843699900212705604:=0
def tw5625652043873332580:=0
def tw15125013446689394052:=0
def tw13722505360941100452:=0
def tw12524298116326835684:=0
def tw11639652445758114276:=0
def tw14736119130384583140:=0
def tw5464879664695368196:=0
def tw3252142314731655748:=0
def tw16455135886604728900:=0
def tw17436847652356384356:=0
def tw1693256356946387588:=0
def tw5135955168646984324:=0
def tw14494687857913295588:=0
def tw5100291899051142980:=0
def tw3045004968619460548:=0
def tw13540405613285209060:=0
def tw7382699062217710597:=0
def tw10586160153553462277:=0
def tw11355262401744793605:=0
def tw18067260896101484613:=0
def tw1095539536356336709:=0
def tw3127693704950674501:=0
def tw8344634975793413221:=0
def tw16541606124177351813:=0
def tw10751263491914138789:=0
def tw11887489410807680165:=0
def tw5528187433712855333:=0
def tw1511878023225995557:=0
def tw5492590302970745189:=0
def tw10128461433120500101:=0
def tw4160475349877908901:=0
def tw7959072232028105125:=0
def tw17685018142072807877:=0
def tw584953337092272613:=0
def tw13149316891292712485:=0
def tw3292261356855166565:=0
def tw3830607445949974149:=0
def tw5459239600229241509:=0
def tw731353320335920837:=0
def tw13246401211928209093:=0
def tw12320572162899714821:=0
def tw12218081506595285765:=0
def tw4840773410761197317:=0
def tw9834374500017862405:=0
def tw4317746262504920933:=0
def tw5667517907751432037:=0
def tw6682894880696563589:=0
def tw17931830110351740837:=0
def tw9217391724948482981:=0
def tw9075852083845001189:=0
def tw9693121324397701190:=0
def tw13325456115173684294:=0
def tw17530288968254979142:=0
def tw1110980266912816262:=0
def tw14872822282333169830:=0
def tw8929532283627941030:=0
def tw3186885235731607782:=0
def tw10063983924925875558:=0
def tw8012445309291784614:=0
def tw6146393274185130598:=0
def tw9180758578792323782:=0
def tw8037060896327671590:=0
def tw6735800585578283846:=0
def tw15290606209587642182:=0
def tw13309515550282866566:=0
def tw7892486513605393318:=0
def tw3967984047433015206:=0
def tw4047741786328587238:=0
def tw2694301206878643207:=0
def tw6098294389506252839:=0
def tw6288018140577105063:=0
def tw11235300836152097959:=0
def tw10981493090839051591:=0
def tw114933315227812327:=0
def tw17122896465173911047:=0
def tw2808097169820004903:=0
def tw18315989712835938887:=0
def tw13130663741764217447:=0
def tw6673903519913651815:=0
def tw15693148070025241255:=0
def tw3958953178433671847:=0
def tw6267966093806109383:=0
def tw12376770292693074631:=0
def tw10708885568909819591:=0
def tw13766383441705664263:=0
def tw17144412815179817767:=0
def tw10086387894283325223:=0
def tw10371433529987070791:=0
def tw16546483673108763495:=0
def tw7205879929515540327:=0
def tw16005340460596960135:=0
def tw6942471656981431207:=0
def tw5637497331678908359:=0
def tw6292383078546530247:=0
def tw7259191885542061128:=0
def tw3876977882452970824:=0
def tw6244294685776207240:=0
def tw13621086617744800264:=0
def tw15644916486080069192:=0
def tw6097095177336481384:=0
def tw15948323835186082440:=0
def tw10966053813120594728:=0
def tw12646074663884274504:=0
def tw10550243288277484392:=0
def tw14427497552051477384:=0
def tw1423915870962929576:=0
def tw6143048455823641544:=0
def tw12968809116747887689:=0
def tw18092541745129780425:=0
def tw9830854747549713769:=0
def tw414315526103273865:=0
def tw1356338493870219785:=0
def tw3742807807437172233:=0
def tw9391765087204482601:=0
def tw7767016431961259625:=0
def tw10057832707319116681:=0
def tw13149852139855150025:=0
def tw10949492089201581162:=0
def tw11111883777080367274:=0
def tw14810535559604704458:=0
def tw10748842824704578794:=0
def tw3072730785999429930:=0
def tw2456619088955060522:=0
def tw4728481717880196458:=0
def tw7859188151611831658:=0
def tw4102951515773093322:=0
def tw327968737407885770:=0
def tw10578763209038196170:=0
def tw2072594343737144810:=0
def tw12991453330895453706:=0
def tw653533015100285514:=0
def tw8087661675811079786:=0
def tw17754952618662324874:=0
def tw2630604438344753930:=0
def tw18271173183184840554:=0
def tw12533985439727558506:=0
def tw16750372611480806282:=0
def tw15163581666532260746:=0
def tw2925412094297299882:=0
def tw16360519297143269451:=0
def tw17789209072255893611:=0
def tw14300621533737029803:=0
def tw14702978643357745419:=0
def tw1513364085404192011:=0
def tw8606280894964735275:=0
def tw9940529102268860747:=0
def tw5918633149900964171:=0
def tw17923588107349189963:=0
def tw17490869789770322283:=0
def tw2119989435113778795:=0
def tw11626955247175047787:=0
def tw6997032589860321899:=0
def tw8632695201632965291:=0
def tw17574367334396824363:=0
def tw3797521138068173611:=0
def tw15588640861936269356:=0
def tw676230446957596748:=0
def tw18433157577943823468:=0
def tw2751471850507054284:=0
def tw12318590024139486476:=0
def tw157243605110417708:=0
def tw7705064269787954476:=0
def tw13764329824206008652:=0
def tw8463911958433577292:=0
def tw17098700649281248620:=0
def tw13629323395487559052:=0
def tw1157597210420003308:=0
def tw15862731312475300332:=0
def tw18374430377483427372:=0
def tw2116305003304869452:=0
def tw16745638151058131628:=0
def tw18163631026947277548:=0
def tw11312936086359610316:=0
def tw1242394333318774732:=0
def tw14347642822892211180:=0
def tw10008572591529875436:=0
def tw145003578420926509:=0
def tw7029768986682829901:=0
def tw4234403098014378093:=0
def tw10939626029053203757:=0
def tw11956834803149606221:=0
def tw16516279988774174093:=0
def tw3989006272397430253:=0
def tw9028023222832331245:=0
def tw5959418613856798221:=0
def tw5403090424340431405:=0
def tw121559597874157261:=0
def tw14710448504709885645:=0
def tw17074584262893641453:=0
def tw17031286567231135533:=0
def tw914715253946951469:=0
def tw15840622206908064557:=0
def tw12353796029883075405:=0
def tw10708281729045529453:=0
def tw1201688801367789582:=0
def tw9974307815470519342:=0
def tw9533482492030451822:=0
def tw6544767873428031726:=0
def tw9065800651162886414:=0
def tw17028768851040013678:=0
def tw17451977794158018958:=0
def tw7026651742449083822:=0
def tw10418128723245793838:=0
def tw10302400162075764270:=0
def tw4385633117254054446:=0
def tw13086780265874275918:=0
def tw5247399923392029390:=0
def tw1807452736475997934:=0
def tw731521425941492462:=0
def tw10167685217823260430:=0
def tw13413239860709981966:=0
def tw241122324820436750:=0
def tw1134097368715505711:=0
def tw7354525780905868335:=0
def tw2581330009537221711:=0
def tw879399087000999023:=0
def tw9824700897542769839:=0
def tw1545133208492258543:=0
def tw17109632487714665743:=0
def tw5603284656218990863:=0
def tw3882254603693548815:=0
def tw14724064610149453103:=0
def tw17789113969789512015:=0
def tw17633414899140155759:=0
def tw4664124214466480527:=0
def tw6264495856137137551:=0
def tw11351457473843036623:=0
def tw16019244171115492815:=0
def tw1216040648905952783:=0
def tw2038959340072543119:=0
def tw10670388247132278735:=0
def tw3094350369181185007:=0
def tw1429725319182461968:=0
def tw13267189345865653264:=0
def tw13654557365247853648:=0
def tw5551863475785960656:=0
def tw12677834186434283760:=0
def tw5410141337264331056:=0
def tw17904626082558399792:=0
def tw10467640621552058736:=0
def tw13662764215889215856:=0
def tw14392578442673358288:=0
def tw11900605519905183248:=0
def tw13403666034390626832:=0
def tw13457035844941452848:=0
def tw14293910416195925552:=0
def tw5763756931049014864:=0
def tw13712850441307412048:=0
def tw8153463589422033488:=0
def tw7072571141920227984:=0
def tw15609315833138591408:=0
def tw13598805076223113904:=0
def tw15325786754033141424:=0
def tw3339490234695168720:=0
def tw813928801959426768:=0
def tw16571559092986120944:=0
def tw12279652066684680048:=0
def tw1682830629118409584:=0
def tw16004292536526147472:=0
def tw3613741677431539632:=0
def tw10669696423084791760:=0
def tw12777361841124263953:=0
def tw3548390436860547121:=0
def tw11550625889842228369:=0
def tw1842249739642077457:=0
def tw12871598931512388881:=0
def tw7548789494559915313:=0
def tw4043528652020310353:=0
def tw8853127477424151921:=0
def tw6477696525171717489:=0
def tw2696137958757445009:=0
def tw17018525199454720401:=0
def tw5999149436687900113:=0
def tw2553941058991067633:=0
def tw5607552214089591377:=0
def tw3027920727159121553:=0
def tw844005703323901681:=0
def tw7421214169707442961:=0
def tw1181709011328994225:=0
def tw14408691172008525842:=0
def tw13753548118644489234:=0
def tw5762947275239061554:=0
def tw12769599826839622738:=0
def tw2550131738749270098:=0
def tw1267646169040649298:=0
def tw8682074350325665906:=0
def tw13433030425659552882:=0
def tw9312877926986253522:=0
def tw17427740801617377586:=0
def tw4006065496576314770:=0
def tw9287976734483780050:=0
def tw18354587419784009266:=0
def tw5584839708918654546:=0
def tw4129129528509815442:=0
def tw15407496065047975698:=0
def tw6661083724676837138:=0
def tw14080089098136942450:=0
def tw12172770130486683570:=0
def tw13090503633185352658:=0
def tw13915542438094903282:=0
def tw1248271047754712243:=0
def tw11725361883572635859:=0
def tw9908104999155772627:=0
def tw6938647518605427955:=0
def tw13905780441932061939:=0
def tw8365794263560402227:=0
def tw9745146684985719091:=0
def tw15773703482599800115:=0
def tw31085125761014131:=0
def tw15030830277264691667:=0
def tw2607531298909629011:=0
def tw14840917296151590515:=0
def tw17361142328890588851:=0
def tw17162289232197018355:=0
def tw164364091394851603:=0
def tw6319596697332717395:=0
def tw13657060585508131667:=0
def tw8938041175651646387:=0
def tw13016520937689043:=0
def tw11792308117402958868:=0
def tw1321655839948160052:=0
def tw16485524171365059732:=0
def tw16956274856610490516:=0
def tw3409876737381811380:=0
def tw10707960331063028980:=0
def tw17264128822174908724:=0
def tw11008852079146210644:=0
def tw8066437592668883316:=0
def tw6678414376587026804:=0
def tw13447975161315194260:=0
def tw6199127941353078324:=0
def tw5478856413334168180:=0
def tw15817150632018166420:=0
def tw2862580475220834964:=0
def tw4877252070586279604:=0
def tw12125252565334792948:=0
def tw14504151311905665812:=0
def tw9968747806208400180:=0
def tw12083013637892411220:=0
def tw8515698032938848116:=0
def tw13524180693695419252:=0
def tw8182929631357955093:=0
def tw9199160007474871349:=0
def tw8150503788062163061:=0
def tw12064925062389015733:=0
def tw16680632910400503029:=0
def tw9401467172460947893:=0
def tw13553088458672579093:=0
def tw2230339409819500053:=0
def tw13999440343506010709:=0
def tw6320424818397969013:=0
def tw538867289191246549:=0
def tw6430632502808253141:=0
def tw8003633560222830357:=0
def tw9593816951739276085:=0
def tw716331740683180917:=0
def tw11202928729374108533:=0
def tw5687698001416773525:=0
def tw1726651093549932437:=0
def tw4469748453085037493:=0
def tw10793012254148766677:=0
def tw1276488185446631574:=0
def tw911912198555347094:=0
def tw4518227589221153974:=0
def tw4977220958408917206:=0
def tw4398839856303100182:=0
def tw11069603059699186998:=0
def tw13963898853375468886:=0
def tw1721811772099992982:=0
def tw15656290339900141974:=0
def tw9853887607249080086:=0
def tw13584048305449820054:=0
def tw9458514235761185847:=0
def tw5171662341631165559:=0
def tw16140840316381252759:=0
def tw16704397038659657943:=0
def tw17889253627077739863:=0
def tw11811144536709411191:=0
def tw14702452213397280343:=0
def tw14838688072229314167:=0
def tw5255711958611923767:=0
def tw8733205755592686551:=0
def tw16652792745759939575:=0
def tw17476575355929904119:=0
def tw3722651487560585207:=0
def tw6683602100322394200:=0
def tw12226707301727677592:=0
def tw1939175910389882072:=0
def tw11099752796881516984:=0
def tw17877273034341273112:=0
def tw11080389451363348088:=0
def tw13145948286929175352:=0
def tw10001765895755951032:=0
def tw6622461128184573977:=0
def tw16649176199645794457:=0
def tw6103019588405930201:=0
def tw12134897257596798169:=0
def tw12232521475882371321:=0
def tw5206211225299849561:=0
def tw1410347898406635897:=0
def tw9792894209203729785:=0
def tw11174636767626529177:=0
def tw17421998643005746585:=0
def tw11105017482248568249:=0
def tw16372172871697626617:=0
def tw5406324896899674713:=0
def tw5923561226513438329:=0
def tw3649147064137894681:=0
def tw8236730241002163993:=0
def tw9592531782252350361:=0
def tw12302882538354928537:=0
def tw13964899117206425529:=0
def tw978122795318334393:=0
def tw12529171346023019610:=0
def tw7818650860979583066:=0
def tw712097383776600250:=0
def tw5709938568235966682:=0
def tw14699306661970817402:=0
def tw4137905394295688570:=0
def tw12283787025493228954:=0
def tw827123403272814010:=0
def tw3334513486527621594:=0
def tw1764361493264533082:=0
def tw2585940598161640090:=0
def tw11885394896261755546:=0
def tw8331444747407137466:=0
def tw5591530081158908602:=0
def tw6920458476588007098:=0
def tw15280538447908607706:=0
def tw8577986080792951674:=0
def tw8412473366878784699:=0
def tw16294692270211262651:=0
def tw5780827026891854107:=0
def tw15331936686452450619:=0
def tw13203512228747551067:=0
def tw3774047923154811227:=0
def tw13044769046299282907:=0
def tw14839020129977014907:=0
def tw6377737591324417691:=0
def tw12654524772355675803:=0
def tw7874843182372002491:=0
def tw4586941755016465083:=0
def tw12771099310890061563:=0
def tw12714174343506283291:=0
def tw13591911783038422875:=0
def tw715203630777145179:=0
def tw14578937141007642491:=0
def tw18272466685075050395:=0
def tw1569185557179432923:=0
def tw3138630447817289756:=0
def tw15295822586171511932:=0
def tw294575523299884220:=0
def tw12858189263155779836:=0
def tw2463679556471748988:=0
def tw17685641383694968220:=0
def tw12353955715782071708:=0
def tw8396618417694242204:=0
def tw17418481516508051964:=0
def tw211841383715539516:=0
def tw15469125840154049148:=0
def tw11969021907743748956:=0
def tw99823678550395772:=0
def tw7620765269877117820:=0
def tw2255480734289486748:=0
def tw3462033101885140892:=0
def tw18396234386515842012:=0
def tw2639663165795737596:=0
def tw15162852191638337597:=0
def tw5277075708789900381:=0
def tw1038223265120076957:=0
def tw8469831575314841981:=0
def tw15741504386022858205:=0
def tw299673126790299133:=0
def tw15819972692491395613:=0
def tw15857186346696230461:=0
def tw15472288458885160509:=0
def tw17211334991452359261:=0
def tw353406272424540765:=0
def tw14496573089855159005:=0
def tw6402690992792156893:=0
def tw2411359662605224733:=0
def tw11831161722941559581:=0
def tw10641459964472761181:=0
def tw9184423409139349373:=0
def tw3579765119112023933:=0
def tw4791005133482483613:=0
def tw15576544939936207805:=0
def tw10838441015447666718:=0
def tw9112694787435489374:=0
def tw955390721240214718:=0
def tw16971811648429115582:=0
def tw14616100275568909534:=0
def tw7580058572066933086:=0
def tw18201823638206372190:=0
def tw9833912273476038014:=0
def tw9637335205454255550:=0
def tw2916847314154170814:=0
def tw13272932599928284606:=0
def tw13854374223686331870:=0
def tw5631986294151227902:=0
def tw803964729015592478:=0
def tw13909571547759757982:=0
def tw6303886924955017950:=0
def tw1893497916966514430:=0
def tw12018426946206759678:=0
def tw18132195784573228926:=0
def tw5092424781385420670:=0
def tw4781912483720321982:=0
def tw7187415883960832990:=0
def tw4671684561273307134:=0
def tw7475262547475462142:=0
def tw5511159552568486143:=0
def tw17851335103264139711:=0
def tw9507658906607839775:=0
def tw13184942749988374143:=0
def tw16634759407571109535:=0
def tw93277945415028479:=0
def tw6890805577331057439:=0
def tw8653771917095109567:=0
def tw5225564782222604255:=0
def tw7608417198288075775:=0
def tw3804645353900615341:=0
end PySem.W.Fast
theorem PySem.Challenge.cw_chairvote_k31_a_please_holds : PySem.Challenge.rw_chairvote_k31_a_please.Holds := by
 w_on;o_law;k_head;(case hw=>w_witness2)
 k_fill
 refine S.Vv (l:=PySem.Challenge.rw_chairvote_k31_a_please) (x:= "_law_script") (k:=10) rfl rfl ⟨rfl,by decide,by decide⟩ (fun w h Y=>PySem.W.km_in_of Y) ?F
 case F=>
  intro w mg fa h KX G hmg
  have T:∃t,My.Txt (L2.KOf KX) mg t:=by
   dsimp only[L2.KOf]
   refine' My.all_mk KX G ?Fj ?Bq ?yf ?Bp ?uW ?a0 ?l0 ?c0 ?k0 ?a1 ?l1 ?c1 ?k1 ?a2 ?l2 ?c2 ?k2 ?a3 ?i3 ?l3 ?c3 ?k3 ?a4 ?i4 ?l4 ?c4 ?k4 ?a5 ?i5 ?l5 ?c5 ?k5 ?a6 ?i6 ?l6 ?c6 ?k6 ?a7 ?l7 ?c7 ?k7 ?a8 ?i8 ?l8 ?c8 ?k8 ?lv8 ?dv8 ?a9 ?l9 ?c9 ?k9 ?a10 ?l10 ?c10 ?k10 ?a11 ?i11 ?l11 ?c11 ?k11 ?a12 ?i12 ?l12 ?c12 ?k12 ?a13 ?i13 ?l13 ?c13 ?k13 ?a14 ?i14 ?l14 ?c14 ?k14 ?a15 ?i15 ?l15 ?c15 ?X5 ?a16 ?i16 ?l16 ?c16 ?X4 ?a17 ?i17 ?l17 ?c17 ?X3 ?a18 ?i18 ?l18 ?c18 ?XX ?a19 ?i19 ?l19 ?c19 ?XS ?a20 ?i20 ?l20 ?c20 ?XR ?a21 ?i21 ?l21 ?c21 ?XQ ?a22 ?i22 ?l22 ?c22 ?XN ?a23 ?i23 ?l23 ?c23 ?XM ?a24 ?Xn ?c24 ?k24 ?Be ?Eu ?Dy ?ux ?uJ ?Eg ?Ey ?Ef ?DY ?rZ ?Ew ?bV ?cu ?cQ ?bU ?Ab ?Ay ?z_ ?zW ?rm ?Av ?bu ?bJ ?bZ ?bK ?xr ?xX ?xm ?wW ?o7 ?xU ?cP ?cH ?Aa ?Ax ?z9 ?zV ?q_ ?Ar ?fL ?gR ?bh ?bH ?bW ?bI ?eG ?jh ?iB ?dI ?fc ?uC ?uO ?uB ?uy ?uE ?uL ?uD ?Jo ?Dv ?Jm ?pI ?Jl ?Du ?Jk ?Jj ?zE ?Ji ?zB
   case Fj | Bq | yf | Bp | uW | a0 | l0 | c0 | k0 | a1 | l1 | c1 | k1 | a2 | l2 | c2 | k2 | a3 | i3 | l3 | c3 | k3 | a4 | i4 | l4 | c4 | k4 | a5 | i5 | l5 | c5 | k5 | a6 | i6 | l6 | c6 | k6 | a7 | l7 | c7 | k7 | a8 | i8 | l8 | c8 | k8 | lv8=>k_is
   case dv8=>rfl
   case a9 | l9 | c9 | k9 | a10 | l10 | c10 | k10 | a11 | i11 | l11 | c11 | k11 | a12 | i12 | l12 | c12 | k12 | a13 | i13 | l13 | c13 | k13 | a14 | i14 | l14 | c14 | k14 | a15 | i15 | l15 | c15 | X5 | a16 | i16 | l16 | c16 | X4 | a17 | i17 | l17 | c17 | X3 | a18 | i18 | l18 | c18 | XX | a19 | i19 | l19 | c19 | XS | a20 | i20 | l20 | c20 | XR | a21 | i21 | l21 | c21 | XQ | a22 | i22 | l22 | c22 | XN | a23 | i23 | l23 | c23 | XM | a24 | Xn | c24 | k24=>k_is
   case Be=>rfl
   case Eu=>k_is
   case Dy=>rfl
   case ux=>decide
   case uJ=>kernel_rfl
   case Eg | Ey | Ef | DY | rZ | Ew | bV | cu | cQ | bU | Ab | Ay | z_ | zW | rm | Av | bu | bJ | bZ | bK | xr | xX | xm | wW | o7 | xU | cP | cH | Aa | Ax | z9 | zV | q_ | Ar | fL | gR | bh | bH | bW | bI | eG | jh | iB | dI | fc | uC | uO | uB | uy | uE | uL | uD | Jo | Dv | Jm | pI | Jl | Du | Jk | Jj | zE | Ji | zB=>k_is
  obtain⟨t,T⟩:=T
  have e0:=hmg.symm.trans T.Ko
  cases e0
  refine⟨t.um,[(t.p_,t.qb)],My.cT t,fun s u=>My.H_ T s u,fun z hz=> ?_,fun z hz=> ?_,fun k' hk hc=>My.Pr hk hc,fun base _ _ hz=>My.Oo T (hz (t.p_,t.qb) (by simp))⟩
  ·simp only[List.mem_cons,List.not_mem_nil,or_false]at hz
   rcases hz with rfl
   ·exact⟨"law",_,T.Jv,rfl⟩
  ·simp only[List.mem_cons,List.not_mem_nil,or_false]at hz
   rcases hz with rfl
   ·exact T.uJ

