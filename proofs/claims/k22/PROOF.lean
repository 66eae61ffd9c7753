import PyProof.Rows.All
import Wide.All
import OpenK.AllK
import Wide.FinOn
import Lean
import PyProof.EqAt
import PyProof.EqKinds
import PyProof.TupleCall
import PySem.Challenge.RW_chairvote_k22_torn_at_a_row
noncomputable section
open PySem.W (Frag fnOf findIn keepIn nsIn codeIn isFn kitOne subIn exmOne)
set_option Elab.async false
set_option linter.all false
set_option maxRecDepth 100000
namespace L2
open PySem PySem.Spec PyProof.Rows
abbrev Key:=Sum Int Str
def aev:Key→Value→Bool
 | .inl k,v=>Value.isInt k v
 | .inr x,v=>Value.isStrOf x v
def arb(w:World):Key→Int
 | .inl k=>hashInt k
 | .inr x=>hashStr w x
theorem jR:∀{k:Key} {v:Value},aev k v=true→(∃i t,k=Sum.inl i∧v=Value.int i t)∨(∃x t,k=Sum.inr x∧v=Value.str x t)
 | .inl i,v,h=>by
  obtain⟨t,e⟩:=Value.isInt_shape (k:=i) (v:=v) h
  exact .inl ⟨i,t,rfl,e⟩
 | .inr x,v,h=>by
  obtain⟨t,e⟩:=Value.isStrOf_shape (x:=x) (v:=v) h
  exact .inr ⟨x,t,rfl,e⟩
theorem agq(a b:Int):decide ((Sum.inl a:Key)=Sum.inl b)=(a==b):=by
 by_cases e:a=b
 ·subst e;simp
 ·have h:¬(Sum.inl a:Key)=Sum.inl b:=fun q=>e (Sum.inl.inj q)
  rw[decide_eq_false h]
  exact(beq_eq_false_iff_ne.mpr e).symm
theorem agn(a b:Str):decide ((Sum.inr a:Key)=Sum.inr b)=decide (a=b):=by
 by_cases e:a=b
 ·subst e;simp
 ·have h:¬(Sum.inr a:Key)=Sum.inr b:=fun q=>e (Sum.inr.inj q)
  rw[decide_eq_false h,decide_eq_false e]
theorem agp(a:Int)(b:Str):decide ((Sum.inl a:Key)=Sum.inr b)=false:=decide_eq_false (fun q=>nomatch q)
theorem ago(a:Str)(b:Int):decide ((Sum.inr a:Key)=Sum.inl b)=false:=decide_eq_false (fun q=>nomatch q)
def WQ(prog:Program)(w:World):PySem.KeyKind prog w Key where
 is:=aev
 hash:=arb w
 inj:=fun v a b ha hb=>by
  rcases jR ha with⟨i,t,rfl,rfl⟩ | ⟨x,t,rfl,rfl⟩
  ·rcases jR hb with⟨j,u,rfl,e⟩ | ⟨y,u,rfl,e⟩
   ·injection e with e1 _;rw[e1]
   ·exact nomatch e
  ·rcases jR hb with⟨j,u,rfl,e⟩ | ⟨y,u,rfl,e⟩
   ·exact nomatch e
   ·injection e with e1 _;rw[e1]
 byValue:=fun k v h=>by
  rcases jR h with⟨i,t,rfl,rfl⟩ | ⟨x,t,rfl,rfl⟩<;>rfl
 pyHash:=fun hv h=>by
  rcases jR hv with⟨i,t,rfl,rfl⟩ | ⟨x,t,rfl,rfl⟩
  ·exact wpAny_pyHash_int h
  ·exact wpAny_pyHash_str h
 eqBool:=fun hu hv h=>by
  rcases jR hu with⟨i,t,rfl,rfl⟩ | ⟨x,t,rfl,rfl⟩
  ·rcases jR hv with⟨j,u,rfl,rfl⟩ | ⟨y,u,rfl,rfl⟩
   ·rw[agq]at h;exact wpAny_eqBool_int h
   ·rw[agp]at h;exact SeqAt.EqAt.int_str i t y u _ _ _ _ h
  ·rcases jR hv with⟨j,u,rfl,rfl⟩ | ⟨y,u,rfl,rfl⟩
   ·rw[ago]at h;exact SeqAt.EqAt.str_int x t j u _ _ _ _ h
   ·rw[agn]at h;exact wpAny_eqBool_str h
 «strs» := fun k x t v h=>by
  rcases jR h with⟨i,u,rfl,e⟩ | ⟨y,u,rfl,e⟩
  ·exact nomatch e
  ·injection e with e1 _
   subst e1
   cases v<;>rfl
inductive V where
 | non | bl (b:Bool) | int (i:Int) | str (x:Str) | byt (b:Array UInt8) | flt (b:UInt64) | ref (a:Addr) | ty (n:String)
 deriving DecidableEq
def RelV:V→Value→Prop
 | .non,u=>u=Value.none
 | .bl b,u=>u=Value.bool b
 | .int i,u=>∃t,u=Value.int i t
 | .str x,u=>∃t,u=Value.str x t
 | .byt b,u=>∃t,u=Value.bytes b t
 | .flt b,u=>∃t,u=Value.float b t
 | .ref a,u=>u=Value.ref a
 | .ty n,u=>u=Value.type n
abbrev Vals:List V→List Value→Prop:=Paired RelV
theorem Vals.length{xs:List V}{us:List Value}(r:Vals xs us):xs.length=us.length:=Paired.length r
theorem Vals.get:∀{xs:List V} {us:List Value} {i:Nat} {x:V},Vals xs us→xs[i]? = some x→∃u,us[i]? = some u∧RelV x u
 | _,_,_,_,.nil,e=>by simp at e
 | _,_,0,_,.cons r _,e=>by simp at e;subst e;exact⟨_,rfl,r⟩
 | _,_,i+1,x,.cons _ t,e=>by
  obtain⟨u,h1,h2⟩:=Vals.get (i:=i) (x:=x) t (by simpa using e)
  exact⟨u,by simpa using h1,h2⟩
theorem Vals.append:∀{xs ys:List V} {us ws:List Value},Vals xs us→Vals ys ws→Vals (xs++ys) (us++ws)
 | _,_,_,_,.nil,s=>s
 | _,_,_,_,.cons r t,s=> .cons r (Vals.append t s)
theorem Vals.take:∀{xs:List V} {us:List Value} (n:Nat),Vals xs us→Vals (xs.take n) (us.take n)
 | _,_,0,_=> .nil
 | _,_,_+1,.nil=> .nil
 | _,_,n+1,.cons r t=> .cons r (Vals.take n t)
theorem Vals.drop:∀{xs:List V} {us:List Value} (n:Nat),Vals xs us→Vals (xs.drop n) (us.drop n)
 | _,_,0,r=>r
 | _,_,_+1,.nil=> .nil
 | _,_,n+1,.cons _ t=>Vals.drop n t
def DG:Option V→Option Value→Prop
 | some v,some u=>RelV v u
 | none,none=>True
 | _,_=>False
def KV{κ:Type}:List (κ×V)→List (κ×Value)→Prop:=Paired fun(p:κ×V) (q:κ×Value)=>p.1=q.1∧RelV p.2 q.2
def kV:Key→V
 | .inl i=> .int i
 | .inr x=> .str x
inductive HO where
 | lst (xs:List V)
 | tup (xs:List V)
 | dK (kvs:List (Key×V)) | dT (kvs:List (List Key×V))
 | set (S:Int→Bool) (n:Nat)
 | ins (C dx:Addr) (fs:List (Str×V))
 | own (x:Addr)
 | xd (fs:List (Str×V))
 | met (f x:Addr)
 | Hs (lo hi:Int)
 | Dr (o:Obj) (u:HO)
 | ZL (ps:Array Value)
 | ext (φ:Heap→Prop)
abbrev Hp:=Addr→Option HO
def upd(H:Hp)(a:Addr)(o:HO):Hp:=fun b=>if b=a then some o else H b
theorem fX{H:Hp}{a:Addr}{o:HO}:upd H a o a=some o:=by unfold upd;rw[if_pos rfl]
theorem bG{H:Hp}{a b:Addr}{o:HO}(h:b≠a):upd H a o b=H b:=by unfold upd;rw[if_neg h]
theorem dW{H:Hp}{a b:Addr}{o:HO}(h:H a=some o)(h':H b=none):a≠b:=by
 intro e;subst e;rw[h]at h';cases h'
section
variable(P:Program)(w:World)
def jr(H:Hp)(h:Heap)(a:Addr):HO→Prop
 | .lst xs=>xs.length≤sizeLine∧∃(its:List Value) (n:Nat),Vals xs its∧h.get? a=some {cls:= .type "list",data:= .seq its.toArray n}
 | .tup xs=>xs.length≤sizeLine∧∃its:List Value,Vals xs its∧IsTup h a its.toArray
 | .dK kvs=>kvs.length≤sizeLine∧(a==sysModules)=false∧∃vs,KV kvs vs∧h.DictOf (WQ P w) a vs
 | .dT kvs=>kvs.length≤sizeLine∧(a==sysModules)=false∧∃xs:List (List Key×Addr×Value),
   Paired (fun(p:List Key×V) (q:List Key×Addr×Value)=>p.1=q.1∧H q.2.1=some (.tup (p.1.map kV))∧RelV p.2 q.2.2) kvs xs∧
   ∃o es ep,h.get? a=some o∧o.ExactDict∧o.data= .dict es ep∧es.toList=xs.map (entryOfKey (tupleKind (WQ P w)))∧(xs.map (·.1)).Nodup
 | .set S n=>h.SetOf (intKind P w) a S n
 | .ins C dx fs=>H dx=some (.own a)∧fs.length≤1000∧dx≠a∧h.get? a=some (PySem.W.instObj C dx)∧
   ∃mA,h.Ns1 dx mA∧(∀f,DG (fs.lookup f) (mA f))∧PySem.Within mA (fs.map (·.1))
 | .own _=>∃o,h.get? a=some o
 | .xd fs=>∃mA,h.Ns1 a mA∧∀f,DG (fs.lookup f) (mA f)
 | .Hs lo hi=>∃t u v,h.get? a=some {cls:= .type "range",data:= .fields #[.int lo t,.int hi u,.int 1 v]}
 | .Dr o u=>h.get? a=some o∧jr H h a u
 | .ZL ps=>h.get? a=some {cls:= .none,data:= .fields ps}
 | .met f x=>h.get? a=some (PySem.W.methodObj (.ref f) (.ref x))
 | .ext φ=>φ h∧(∃o,h.get? a=some o)∧∀h1 h2:Heap,φ h1→(∀o,h1.get? a=some o→h2.get? a=some o)→φ h2
def Br(H:Hp)(h:Heap):Prop:=∀a o,H a=some o→jr P w H h a o
end
section
variable{P:Program}{w:World}{H H':Hp}{h h':Heap}{a:Addr}{o:HO}
theorem jr.lt(x:jr P w H h a o):a<h.objs.size:=by
 cases o with
 | lst xs=>obtain⟨_,_,_,_,e⟩:=x;exact Heap.lt_size e
 | tup xs=>obtain⟨_,_,_,p⟩:=x;exact p.lt
 | dK kvs=>obtain⟨_,_,_,_,o,_,_,e,_⟩:=x;exact Heap.lt_size e
 | dT kvs=>obtain⟨_,_,_,_,o,_,_,e,_⟩:=x;exact Heap.lt_size e
 | set S n=>obtain⟨o,_,_,_,e,_⟩:=x;exact Heap.lt_size e
 | ins C dx fs=>obtain⟨_,_,_,e,_⟩:=x;exact Heap.lt_size e
 | own y=>obtain⟨_,e⟩:=x;exact Heap.lt_size e
 | xd fs=>obtain⟨_,⟨_,_,_,e,_⟩,_⟩:=x;exact Heap.lt_size e
 | Hs lo hi=>obtain⟨_,_,_,e⟩:=x;exact Heap.lt_size e
 | Dr ob u=>obtain⟨e,_⟩:=x;exact Heap.lt_size e
 | ZL ps=>exact Heap.lt_size (show h.get? a=some _ from x)
 | met f y=>exact Heap.lt_size (show h.get? a=some _ from x)
 | ext φ=>obtain⟨_,⟨_,e⟩,_⟩:=x;exact Heap.lt_size e
theorem Paired.agg{α β:Type}{F G:α→β→Prop}:∀{l₁:List α} {l₂:List β},Paired F l₁ l₂→(∀a b,F a b→G a b)→Paired G l₁ l₂
 | _,_,.nil,_=> .nil
 | _,_,.cons r t,f=> .cons (f _ _ r) (Paired.agg t f)
theorem jr.stay(x:jr P w H h a o)(k:∀b u,(b=a∨H b=some (.own a))→h.get? b=some u→h'.get? b=some u)
  (ho:∀b,H b=some (.own a)→H' b=some (.own a)) (ht:∀b xs,H b=some (.tup xs)→H' b=some (.tup xs)):jr P w H' h' a o:=by
 induction o with
 | lst xs=>obtain⟨z,its,n,r,e⟩:=x;exact⟨z,its,n,r,k _ _ (.inl rfl) e⟩
 | tup xs=>obtain⟨z,its,r,ob,e,c⟩:=x;exact⟨z,its,r,ob,k _ _ (.inl rfl) e,c⟩
 | dK kvs=>obtain⟨z,y,vs,r,ob,es,ep,e,c⟩:=x;exact⟨z,y,vs,r,ob,es,ep,k _ _ (.inl rfl) e,c⟩
 | dT kvs=>
  obtain⟨z,y,xs,r,ob,es,ep,e,c⟩:=x
  exact⟨z,y,xs,Paired.agg r fun p q z=>⟨z.1,ht _ _ z.2.1,z.2.2⟩,ob,es,ep,k _ _ (.inl rfl) e,c⟩
 | set S n=>obtain⟨ob,es,ep,t,e,c⟩:=x;exact⟨ob,es,ep,t,k _ _ (.inl rfl) e,c⟩
 | ins C dx fs=>
  obtain⟨d,z,ne,e,mA,⟨od,es,ep,e2,c⟩,r⟩:=x
  exact⟨ho _ d,z,ne,k _ _ (.inl rfl) e,mA,⟨od,es,ep,k _ _ (.inr d) e2,c⟩,r⟩
 | own y=>obtain⟨ob,e⟩:=x;exact⟨ob,k _ _ (.inl rfl) e⟩
 | xd fs=>obtain⟨mA,⟨od,es,ep,e,c⟩,r⟩:=x;exact⟨mA,⟨od,es,ep,k _ _ (.inl rfl) e,c⟩,r⟩
 | Hs lo hi=>obtain⟨t,u,v,e⟩:=x;exact⟨t,u,v,k _ _ (.inl rfl) e⟩
 | Dr ob u ih=>obtain⟨e,q⟩:=x;exact⟨k _ _ (.inl rfl) e,ih q⟩
 | ZL ps=>
  have e:h.get? a=some {cls:= .none,data:= .fields ps}:=x
  show h'.get? a=some {cls:= .none,data:= .fields ps}
  exact k a _ (.inl rfl) e
 | met f y=>
  have e:h.get? a=some (PySem.W.methodObj (.ref f) (.ref y)):=x
  show h'.get? a=some (PySem.W.methodObj (.ref f) (.ref y))
  exact k a _ (.inl rfl) e
 | ext φ=>obtain⟨p,⟨o,e⟩,st⟩:=x;exact⟨st _ _ p fun o q=>k _ _ (.inl rfl) q,⟨o,k _ _ (.inl rfl) e⟩,st⟩
theorem Br.lt(x:Br P w H h)(e:H a=some o):a<h.objs.size:=(x a o e).lt
theorem Br.fresh(x:Br P w H h)(e:h.objs.size≤a):H a=none:=by
 cases q:H a with
 | none=>rfl
 | some u=>exact absurd (Nat.lt_of_lt_of_le (x.lt q) e) (Nat.lt_irrefl _)
theorem Br.kept(x:Br P w H h)(k:∀b u,h.get? b=some u→h'.get? b=some u):Br P w H h':=fun a o e=>
 (x a o e).stay (fun b u _ q=>k b u q) (fun _ q=>q) fun _ _ q=>q
theorem Br.laid(x:Br P w H h)(k:∀b u,h.get? b=some u→h'.get? b=some u)(hp:h.objs.size≤a)(new:jr P w (upd H a o) h' a o):Br P w (upd H a o) h':=fun b u e=>by
 have hn:=x.fresh hp
 by_cases hb:b=a
 ·subst hb;rw[fX]at e;cases e;exact new
 ·rw[bG hb]at e
  exact(x b u e).stay (fun c v _ q=>k c v q) (fun c q=>by rw[bG (dW q hn)];exact q) fun c xs q=>by rw[bG (dW q hn)];exact q
end
def Rd(H:Hp)(a:Addr)(u:HO):Prop:=H a=some u∨∃o,H a=some (.Dr o u)
theorem Rd.ok{P:Program}{w:World}{H:Hp}{h:Heap}{a:Addr}{u:HO}(r:Rd H a u)(x:Br P w H h):jr P w H h a u:=by
 rcases r with r | ⟨o,r⟩
 ·exact x a u r
 ·obtain⟨_,q⟩:=x a _ r
  exact q
def Mut:Option HO→Prop
 | some (.lst _)=>True
 | some (.dK _)=>True
 | some (.dT _)=>True
 | some (.set _ _)=>True
 | some (.ins _ _ _)=>True
 | some (.ext _)=>True
 | _=>False
section
variable{P:Program}{w:World}{H:Hp}{h h':Heap}{x e:Addr}{o':HO}
theorem Br.write(ok:Br P w H h)(mu:Mut (H x))(he:e=x∨H e=some (.own x))(k:∀b u,b≠e→h.get? b=some u→h'.get? b=some u)(heo:∃u,h'.get? e=some u)
  (new:jr P w (upd H x o') h' x o'):Br P w (upd H x o') h':=fun b u q=>by
 have ajD:∀c y,H c=some (.own y)→c≠x:=fun c y r z=>by subst z;rw[r]at mu;exact mu
 have aq1:∀c xs,H c=some (.tup xs)→c≠x:=fun c xs r z=>by subst z;rw[r]at mu;exact mu
 by_cases hb:b=x
 ·subst hb;rw[fX]at q;cases q;exact new
 ·rw[bG hb]at q
  by_cases hbe:b=e
  ·have q':H b=some (.own x):=by
    rcases he with z | z
    ·exact absurd (hbe.trans z) hb
    ·rw[hbe];exact z
   rw[q]at q';cases q'
   obtain⟨v,hv⟩:=heo
   exact⟨v,by rw[hbe];exact hv⟩
  ·refine(ok b u q).stay (fun c v hc r=>k c v ?_ r) (fun c r=>by rw[bG (ajD c b r)];exact r) fun c xs r=>by rw[bG (aq1 c xs r)];exact r
   rcases hc with rfl | hc
   ·exact hbe
   ·rintro rfl
    rcases he with z | z
    ·exact ajD c b hc z
    ·rw[hc]at z;cases z;exact hb rfl
end
structure Un(fs ex:List Addr)(H H':Hp)(h h':Heap):Prop where
 keep:∀b o,h.get? b=some o→H b=none→b∉fs→b∉ex→h'.get? b=some o
 slot:∀b o,h.get? b=some o→H b=none→b∈fs→b∉ex→∃sl,h'.get? b=some {o with slots:=sl}
 free:∀b o,h.get? b=some o→H b=none→b∉ex→H' b=none
 there:∀b o,h.get? b=some o→b∉ex→∃o',h'.get? b=some o'
 tups:∀b xs,H b=some (.tup xs)→H' b=some (.tup xs)
 Bp:∀b o u,H b=some (.Dr o u)→H' b=some (.Dr o u)
 BW:∀b ps,H b=some (.ZL ps)→∃more,H' b=some (.ZL (ps++more))
section
variable{fs fs' ex ex':List Addr}{H H1 H2:Hp}{h h1 h2 h':Heap}{a x e:Addr}{o:HO}
theorem Un.any(u:Un fs ex H H1 h h1){b:Addr}{ob:Obj}(q:h.get? b=some ob)(n:H b=none)(hx:b∉ex):∃sl,h1.get? b=some {ob with slots:=sl}:=by
 by_cases hb:b∈fs
 ·exact u.slot b ob q n hb hx
 ·exact⟨ob.slots,u.keep b ob q n hb hx⟩
theorem Un.trans(a:Un fs ex H H1 h h1)(b:Un fs ex H1 H2 h1 h2):Un fs ex H H2 h h2 where
 keep:=fun c ob q n hc hx=>b.keep c ob (a.keep c ob q n hc hx) (a.free c ob q n hx) hc hx
 slot:=fun c ob q n hc hx=>by
  obtain⟨sl,e1⟩:=a.slot c ob q n hc hx
  obtain⟨sl',e2⟩:=b.slot c _ e1 (a.free c ob q n hx) hc hx
  exact⟨sl',e2⟩
 free:=fun c ob q n hx=>by
  obtain⟨o',e1⟩:=a.there c ob q hx
  exact b.free c o' e1 (a.free c ob q n hx) hx
 there:=fun c ob q hx=>by
  obtain⟨o',e1⟩:=a.there c ob q hx
  exact b.there c o' e1 hx
 tups:=fun c xs q=>b.tups c xs (a.tups c xs q)
 Bp:=fun c ob xs q=>b.Bp c ob xs (a.Bp c ob xs q)
 BW:=fun c ps q=>by
  obtain⟨m1,e1⟩:=a.BW c ps q
  obtain⟨m2,e2⟩:=b.BW c _ e1
  exact⟨m1++m2,by rw[e2,Array.append_assoc]⟩
theorem Un.kept(k:∀b u,h.get? b=some u→h'.get? b=some u):Un fs ex H H h h':=
 ⟨fun b ob q _ _ _=>k b ob q,fun b ob q _ _ _=>⟨ob.slots,k b ob q⟩,fun _ _ _ n _=>n,fun b ob q _=>⟨ob,k b ob q⟩,fun _ _ q=>q,fun _ _ _ q=>q,fun _ ps q=>⟨#[],by rw[q];simp⟩⟩
theorem Un.refl:Un fs ex H H h h:=Un.kept fun _ _ q=>q
theorem Un.laid(k:∀b u,h.get? b=some u→h'.get? b=some u)(hp:h.objs.size≤a)(hn:H a=none):Un fs ex H (upd H a o) h h' where
 keep:=fun b u q _ _ _=>k b u q
 slot:=fun b u q _ _ _=>⟨u.slots,k b u q⟩
 free:=fun b u q n _=>by rw[bG (Nat.ne_of_lt (Nat.lt_of_lt_of_le (Heap.lt_size q) hp))];exact n
 there:=fun b u q _=>⟨u,k b u q⟩
 tups:=fun b xs q=>by rw[bG (dW q hn)];exact q
 Bp:=fun b u xs q=>by rw[bG (dW q hn)];exact q
 BW:=fun b ps q=>⟨#[],by rw[bG (dW q hn),q];simp⟩
theorem Un.write(mu:Mut (H x))(he:e=x∨H e=some (.own x))(k:∀b u,b≠e→h.get? b=some u→h'.get? b=some u)(heo:∃u,h'.get? e=some u):Un fs ex H (upd H x o) h h':=by
 have hx:∀b,H b=none→b≠x:=fun b n z=>by subst z;rw[n]at mu;exact mu
 have hb:∀b,H b=none→b≠e:=fun b n z=>by
  subst z
  rcases he with r | r
  ·exact hx b n r
  ·rw[n]at r;cases r
 have hm:∀b u,H b=some u→¬Mut (some u)→b≠x:=fun b u q nm z=>by subst z;rw[q]at mu;exact nm mu
 refine⟨fun b u q n _ _=>k b u (hb b n) q,fun b u q n _ _=>⟨u.slots,k b u (hb b n) q⟩,fun b u q n _=>by rw[bG (hx b n)];exact n,fun b u q _=> ?_,
  fun b xs q=>by rw[bG (hm b _ q fun z=>z)];exact q,fun b u xs q=>by rw[bG (hm b _ q fun z=>z)];exact q,fun b ps q=>⟨#[],by rw[bG (hm b _ q fun z=>z),q];simp⟩⟩
 by_cases hbe:b=e
 ·subst hbe;exact heo
 ·exact⟨u,k b u hbe q⟩
end
def trk(h:Heap)(H:Hp):List Addr:=(List.range h.objs.size).filter fun a=>(H a).isSome
def Qq(h:Heap)(H:Hp):Heap:=PySem.W.hideAll h (trk h H)
theorem YL(h:Heap)(H:Hp):(Qq h H).objs.size=h.objs.size:=PySem.W.hideAll_size _ _
theorem abh{h:Heap}{H:Hp}{b:Addr}{o:Obj}(e:h.get? b=some o)(n:H b=none):(Qq h H).get? b=some o:=
 PySem.W.hideAll_get _ e fun hm=>by
  have q:(H b).isSome=true:=(List.mem_filter.mp hm).2
  rw[n]at q;simp at q
theorem acZ{h:Heap}{H:Hp}{b:Addr}{o:Obj}(e:(Qq h H).get? b=some o):h.get? b=some o∧H b=none:=by
 have e':h.get? b=some o:=PySem.W.of_hideAll (trk h H) e
 refine⟨e',?_⟩
 cases q:H b with
 | none=>rfl
 | some x=>
  have hm:b∈trk h H:=List.mem_filter.mpr ⟨List.mem_range.mpr (Heap.lt_size e'),by simp[q]⟩
  have z:(Qq h H).get? b=none:=PySem.W.hideAll_none (trk h H) hm
  rw[z]at e;cases e
def ad5(g h:Heap)(L:Addr):List (Addr×Obj):=(List.range h.objs.size).filterMap fun a=>if a=L∨(g.get? a).isSome=true then none else(h.get? a).map fun o=>(a,o)
def rest(g h:Heap)(L d:Addr):List (Addr×Obj):=(ad5 g h L).filter fun p=>decide (p.1≠d)
structure Mod(K:Frag)(mg:Str→Option Value)(base:Heap):Prop where
 kin:K.In base
 glob:base.Ns mainGlobals mg
 blt:∃mb,base.Ns builtinsNs mb∧∀x:Str,x≠ "__name__" → mb x=bootBuiltins x
 nolimit:base.NoLimit
structure Cx where
 prog:Program
 w:World
 K:Frag
 mg:Str→Option Value
 base:Heap
 A:Around
 N:List Str
 s₀:Shared
 H₀:Hp
 env:Env
 outer:List Env
 stack:List Env
 ex:List Addr
 fn:Str→Bool
 calm:Bool
 pn:List (Addr×Obj)
 xe:Value→Shared→Prop
def frs(l:List Env):List Addr:=l.filterMap (·.frame)
abbrev Cx.fs(X:Cx):List Addr:=frs X.outer
def Zm(sc:Scope)(x:Str):Prop:=sc.names.lookup x=some .local∨sc.names.lookup x=some .cell∨sc.names.lookup x=some .free
def Loc(sc:Scope)(x:Str):Prop:=sc.names.lookup x=some .local∨sc.names.lookup x=some .cell
def Look(env:Env)(h:Heap)(m:Str→Option Value)(x:Str)(u:Value):Prop:=
 (env.kindOf x=some .local∧m x=some u)∨((env.kindOf x=some .cell∨env.kindOf x=some .free)∧∃c,env.cells.lookup x=some c∧h.IsCell c (some u))
structure Cx.Ok(X:Cx):Prop where
 mod:Mod X.K X.mg X.base
 kind:X.env.scope.kind= .function
 glob:X.env.globals=mainGlobals
 blt:X.env.builtins=builtinsNs
 above:X.s₀.heap.objs.size≤X.env.locals
 inj:∀x y c,X.env.cells.lookup x=some c→X.env.cells.lookup y=some c→x=y
 has:∀x,(X.env.kindOf x=some .cell∨X.env.kindOf x=some .free)→∃c,X.env.cells.lookup x=some c
 cab:∀x c,X.fn x=true→X.env.cells.lookup x=some c→X.s₀.heap.objs.size≤c
 hd:X.calm=true→X.A.handled=none
 frames:X.A.frames=some X.stack
 stk:X.stack=X.outer∨(X.stack=X.env::X.outer∧X.env.frame=some X.env.locals)
 exf:∀b∈X.ex,b≠X.env.locals∧∀x c,X.env.cells.lookup x=some c→c≠b
 bs:∀b o,X.base.get? b=some o→X.s₀.heap.get? b=some o∧X.H₀ b=none
 Xq:X.base.objs.size≤X.s₀.heap.objs.size
 RW:∀b o,X.base.get? b=some o→b∉X.ex
 SX:∀b∈X.ex,b∉X.fs
 CG:X.s₀.heap.FunFrames X.base X.outer
 frf:∀b∈X.fs,X.H₀ b=none
structure Inv(X:Cx)(pins:List (Addr×Obj))(σ:List (Option V))(H:Hp)(s:Shared):Prop where
 ok:X.Ok
 os:s.os=X.s₀.os
 bare:AllBare s.gens
 base:Un X.fs X.ex X.H₀ H X.s₀.heap s.heap
 loc:∃m,s.heap.Ns X.env.locals m∧∀(i:Nat) (x:Str) (v:V),X.N[i]? = some x→σ[i]? = some (some v)→Zm X.env.scope x→∃u,RelV v u∧Look X.env s.heap m x u
 cell:∀x c,X.env.cells.lookup x=some c→∃v,s.heap.IsCell c v
 free:H X.env.locals=none
 rR:∀x c,X.env.cells.lookup x=some c→H c=none
 pin:∀p∈X.pn++pins,s.heap.get? p.1=some p.2∧H p.1=none∧p.1≠X.env.locals∧p.1∉X.fs∧∀v,p.2.data≠ .cell v
 hok:Br X.prog X.w H s.heap
 len:σ.length=X.N.length
section
variable{X:Cx}{pins:List (Addr×Obj)}{σ:List (Option V)}{H H':Hp}{s:Shared}{h':Heap}
theorem Cx.Ok.aq3(ok:X.Ok){b:Addr}{o:Obj}(e:X.base.get? b=some o):b∉X.fs:=fun hb=>by
 have:=(ok.CG.mem hb).1
 rw[e]at this;cases this
theorem Inv.bs(I:Inv X pins σ H s):∀b o,X.base.get? b=some o→s.heap.get? b=some o∧H b=none:=fun b o e=>
 ⟨I.base.keep b o (I.ok.bs b o e).1 (I.ok.bs b o e).2 (I.ok.aq3 e) (I.ok.RW b o e),I.base.free b o (I.ok.bs b o e).1 (I.ok.bs b o e).2 (I.ok.RW b o e)⟩
theorem Inv.bk(I:Inv X pins σ H s):∀b o,X.base.get? b=some o→s.heap.get? b=some o:=fun b o e=>(I.bs b o e).1
theorem Inv.mod(I:Inv X pins σ H s):Mod X.K X.mg X.base:=I.ok.mod
theorem Inv.yX(I:Inv X pins σ H s):X.K.In s.heap:=I.ok.mod.kin.keeps I.bk
theorem Inv.nolimit(I:Inv X pins σ H s):s.heap.NoLimit:=I.ok.mod.nolimit.keeps I.bk
theorem Inv.fr(I:Inv X pins σ H s):∃m,Fr X.base X.env.locals s.heap m:=
 let⟨m,hn,_⟩:=I.loc
 ⟨m,hn,I.bk,Nat.le_trans I.ok.Xq I.ok.above⟩
theorem Inv.lt(I:Inv X pins σ H s):X.env.locals<s.heap.objs.size:=let⟨_,hn,_⟩:=I.loc;hn.lt
theorem Inv.sz(I:Inv X pins σ H s):X.s₀.heap.objs.size≤s.heap.objs.size:=Nat.le_trans I.ok.above (Nat.le_of_lt I.lt)
theorem Inv.aq2(I:Inv X pins σ H s){a:Addr}(h:s.heap.objs.size≤a):a∉X.fs:=fun hb=>by
 obtain⟨_,o,ho,_⟩:=I.ok.CG.mem hb
 exact absurd (Nat.lt_of_lt_of_le (Heap.lt_size ho) (Nat.le_trans I.sz h)) (Nat.lt_irrefl _)
theorem Inv.cne(I:Inv X pins σ H s):∀x c,X.env.cells.lookup x=some c→c≠X.env.locals:=fun x c e z=>by
 obtain⟨v,o,ho,hd⟩:=I.cell x c e
 obtain⟨m,⟨o',es,ep,ho',hd',_⟩,_⟩:=I.loc
 rw[z,ho']at ho;cases ho;rw[hd']at hd;cases hd
theorem Inv.CG(I:Inv X pins σ H s):s.heap.FunFrames X.base X.outer:=by
 have all:∀(l:List Env),(∀b∈frs l,b∈X.fs)→X.s₀.heap.FunFrames X.base l→s.heap.FunFrames X.base l:=by
  intro l
  induction l with
  | nil=>intro _ _;trivial
  | cons env r ih=>
   intro hs hl
   obtain⟨hk,⟨L,o,hf,hn,ho,hd⟩,hr⟩:=hl
   have hL:L∈X.fs:=hs L (by unfold frs;rw[List.filterMap_cons,hf];exact List.mem_cons_self)
   obtain⟨sl,e⟩:=I.base.slot L o ho (I.ok.frf L hL) hL fun z=>I.ok.SX L z hL
   exact⟨hk,⟨L,_,hf,hn,e,hd⟩,ih (fun b hb=>hs b (by unfold frs;rw[List.filterMap_cons,hf];exact List.mem_cons_of_mem _ hb)) hr⟩
 exact all X.outer (fun _ hb=>hb) I.ok.CG
theorem Inv.stack(I:Inv X pins σ H s):s.heap.FunFrames X.base X.stack:=by
 rcases I.ok.stk with e | ⟨e,hf⟩
 ·rw[e];exact I.CG
 ·rw[e]
  obtain⟨m,hn,_⟩:=I.loc
  refine .cons (by rw[I.ok.kind];decide) hf hn ?_ I.CG
  exact Heap.get?_none_of_le (Nat.le_trans I.ok.Xq I.ok.above)
theorem Inv.O1(I:Inv X pins σ H s):∀b∈frs X.stack,b∈X.env.locals::X.fs:=fun b hb=>by
 rcases I.ok.stk with e | ⟨e,hf⟩
 ·rw[e]at hb;exact List.mem_cons_of_mem _ hb
 ·rw[e]at hb
  unfold frs at hb
  rw[List.filterMap_cons,hf]at hb
  exact hb
theorem Inv.Ju(I:Inv X pins σ H s):∀b∈frs X.stack,H b=none:=fun b hb=>by
 rcases List.mem_cons.mp (I.O1 b hb)with e | hb
 ·rw[e];exact I.free
 ·obtain⟨_,o,ho,_⟩:=I.ok.CG.mem hb
  exact I.base.free b o ho (I.ok.frf b hb) fun z=>I.ok.SX b z hb
theorem Inv.step{g':Array GenState}{t':Nat}{d':Drawn}{ch:List Addr}(I:Inv X pins σ H s)
  (hch:∀b∈ch,(b∈X.ex∨X.s₀.heap.objs.size≤b)∧b≠X.env.locals∧(∀x c,X.env.cells.lookup x=some c→c≠b)∧∀p∈X.pn++pins,p.1≠b)
  (keep:∀b o,b≠X.env.locals→b∉X.fs→b∉ch→s.heap.get? b=some o→H b=none→h'.get? b=some o)
  (slot:∀b o,b≠X.env.locals→b∈X.fs→b∉ch→s.heap.get? b=some o→H b=none→∃sl,h'.get? b=some {o with slots:=sl}) (free:∀b o,b∉ch→s.heap.get? b=some o→H b=none→H' b=none)
  (there:∀b o,b∉ch→s.heap.get? b=some o→∃o',h'.get? b=some o')
  (tups:∀b xs,H b=some (.tup xs)→H' b=some (.tup xs)) (Bp:∀b o u,H b=some (.Dr o u)→H' b=some (.Dr o u)) (BW:∀b ps,H b=some (.ZL ps)→∃more,H' b=some (.ZL (ps++more)))
  (ns:∀m,s.heap.Ns X.env.locals m→h'.Ns X.env.locals m) (hok:Br X.prog X.w H' h') (hg:AllBare g'):
  Inv X pins σ H' {s with heap:=h',gens:=g',drawn:=d',toks:=t'}:=by
 have neL:∀b o,X.s₀.heap.get? b=some o→b≠X.env.locals:=fun b o e=>Nat.ne_of_lt (Nat.lt_of_lt_of_le (Heap.lt_size e) I.ok.above)
 have neC:∀b o,X.s₀.heap.get? b=some o→b∉X.ex→b∉ch:=fun b o e hx hb=>by
  rcases(hch b hb).1 with z | z
  ·exact hx z
  ·exact absurd (Nat.lt_of_lt_of_le (Heap.lt_size e) z) (Nat.lt_irrefl _)
 have cellK:∀x c,X.env.cells.lookup x=some c→∀v,s.heap.IsCell c v→h'.IsCell c v:=fun x c e v ⟨o,ho,hd⟩=>by
  have nch:c∉ch:=fun z=>(hch c z).2.2.1 x c e rfl
  by_cases hc:c∈X.fs
  ·obtain⟨sl,q⟩:=slot c o (I.cne x c e) hc nch ho (I.rR x c e)
   exact⟨_,q,hd⟩
  ·exact⟨o,keep c o (I.cne x c e) hc nch ho (I.rR x c e),hd⟩
 refine⟨I.ok,I.os,hg,⟨fun b o e n hb hx=> ?_,fun b o e n hb hx=> ?_,fun b o e n hx=> ?_,fun b o e hx=> ?_,fun b xs e=>tups b xs (I.base.tups b xs e),fun b o xs e=>Bp b o xs (I.base.Bp b o xs e),fun b ps e=> ?_⟩,?_,fun x c e=> ?_,?_,fun x c e=> ?_,fun p hp=> ?_,hok,I.len⟩
 ·exact keep b o (neL b o e) hb (neC b o e hx) (I.base.keep b o e n hb hx) (I.base.free b o e n hx)
 ·obtain⟨sl,e1⟩:=I.base.slot b o e n hb hx
  obtain⟨sl',e2⟩:=slot b _ (neL b o e) hb (neC b o e hx) e1 (I.base.free b o e n hx)
  exact⟨sl',e2⟩
 ·obtain⟨o',e1⟩:=I.base.there b o e hx
  exact free b o' (neC b o e hx) e1 (I.base.free b o e n hx)
 ·obtain⟨o',e1⟩:=I.base.there b o e hx
  exact there b o' (neC b o e hx) e1
 ·obtain⟨m1,e1⟩:=I.base.BW b ps e
  obtain⟨m2,e2⟩:=BW b _ e1
  exact⟨m1++m2,by rw[e2,Array.append_assoc]⟩
 ·obtain⟨m,hn,hl⟩:=I.loc
  refine⟨m,ns m hn,fun i x v e1 e2 e3=> ?_⟩
  obtain⟨u,r,l⟩:=hl i x v e1 e2 e3
  refine⟨u,r,?_⟩
  rcases l with l | ⟨k,c,e,z⟩
  ·exact .inl l
  ·exact .inr ⟨k,c,e,cellK x c e _ z⟩
 ·obtain⟨v,z⟩:=I.cell x c e
  exact⟨v,cellK x c e v z⟩
 ·obtain⟨m,⟨o,_,_,ho,_⟩,_⟩:=I.loc
  exact free _ o (fun z=>(hch _ z).2.1 rfl) ho I.free
 ·obtain⟨v,o,ho,hd⟩:=I.cell x c e
  exact free c o (fun z=>(hch c z).2.2.1 x c e rfl) ho (I.rR x c e)
 ·obtain⟨e,n,ne,nf,d⟩:=I.pin p hp
  have nch:p.1∉ch:=fun z=>(hch p.1 z).2.2.2 p hp rfl
  exact⟨keep p.1 p.2 ne nf nch e n,free p.1 p.2 nch e n,ne,nf,d⟩
theorem Inv.un{t':Nat}(I:Inv X pins σ H s)(u:Un X.fs [] H H' s.heap h')(hok:Br X.prog X.w H' h'):Inv X pins σ H' {s with heap:=h',toks:=t'}:=by
 obtain⟨m,⟨o,es,ep,ho,r⟩,_⟩:=id I.loc
 obtain⟨sl,hL⟩:=u.any ho I.free (by simp)
 exact I.step (g':=s.gens) (d':=s.drawn) (ch:=[]) (fun _ z=>nomatch z) (fun b o _ hb _ e n=>u.keep b o e n hb (by simp)) (fun b o _ hb _ e n=>u.slot b o e n hb (by simp)) (fun b o _ e n=>u.free b o e n (by simp)) (fun b o _ e=>u.there b o e (by simp)) u.tups u.Bp u.BW (fun m' hm=>by
  obtain⟨o',es',ep',ho',r'⟩:=hm
  rw[ho]at ho';cases ho'
  exact⟨_,es',ep',hL,r'⟩) hok I.bare
theorem Inv.call{g':Array GenState}{t':Nat}{d':Drawn}{ch:List Addr}(I:Inv X pins σ H s)(u:Un (frs X.stack) ch H H' s.heap h')(hok:Br X.prog X.w H' h')(hg:AllBare g')
  (hch:∀b∈ch,(b∈X.ex∨X.s₀.heap.objs.size≤b)∧b≠X.env.locals∧(∀x c,X.env.cells.lookup x=some c→c≠b)∧∀p∈X.pn++pins,p.1≠b):
  Inv X pins σ H' {s with heap:=h',gens:=g',drawn:=d',toks:=t'}:=by
 obtain⟨m,⟨o,es,ep,ho,r⟩,_⟩:=id I.loc
 obtain⟨sl,hL⟩:=u.any ho I.free fun z=>(hch _ z).2.1 rfl
 exact I.step (ch:=ch) hch (fun b o hL hb hc e n=>u.keep b o e n (fun z=>(List.mem_cons.mp (I.O1 b z)).elim hL hb) hc) (fun b o _ _ hc e n=>u.any e n hc) (fun b o hc e n=>u.free b o e n hc) (fun b o hc e=>u.there b o e hc) u.tups u.Bp u.BW (fun m' hm=>by
  obtain⟨o',es',ep',ho',r'⟩:=hm
  rw[ho]at ho';cases ho'
  exact⟨_,es',ep',hL,r'⟩) hok hg
theorem Inv.turned{t':Nat}{it:Addr}(I:Inv X pins σ H s)(k:∀b o,b≠it→s.heap.get? b=some o→h'.get? b=some o)(hn:H it=none)(hL:it≠X.env.locals)
  (h1:it∈X.ex∨X.s₀.heap.objs.size≤it) (h2:∀x c,X.env.cells.lookup x=some c→c≠it) (h3:∀p∈X.pn++pins,p.1≠it):Inv X pins σ H {s with heap:=h',toks:=t'}:=by
 have nit:∀b u,H b=some u→b≠it:=fun b u e z=>by rw[z,hn]at e;cases e
 refine I.step (g':=s.gens) (d':=s.drawn) (ch:=[it]) (fun b hb=> ?_) (fun b o _ _ hc e _=>k b o (fun z=>hc (by simp[z])) e) (fun b o _ _ hc e _=>⟨o.slots,k b o (fun z=>hc (by simp[z])) e⟩) (fun _ _ _ _ n=>n)
  (fun b o hc e=>⟨o,k b o (fun z=>hc (by simp[z])) e⟩) (fun _ _ e=>e) (fun _ _ _ e=>e) (fun b ps e=>⟨#[],by rw[e];simp⟩) (fun m hm=> ?_) (fun b u e=> ?_) I.bare
 ·have e:b=it:=by simpa using hb
  subst e
  exact⟨h1,hL,h2,h3⟩
 ·obtain⟨o,es,ep,ho,r⟩:=hm
  exact⟨o,es,ep,k _ o (Ne.symm hL) ho,r⟩
 ·refine(I.hok b u e).stay (fun c v hc q=>k c v ?_ q) (fun _ q=>q) fun _ _ q=>q
  rcases hc with z | z
  ·rw[z];exact nit b u e
  ·exact nit c _ z
theorem Inv.tok(I:Inv X pins σ H s)(t:Nat):Inv X pins σ H {s with toks:=t}:=I.un (h':=s.heap) (t':=t) Un.refl I.hok
theorem Inv.kept{t':Nat}(I:Inv X pins σ H s)(k:∀b u,s.heap.get? b=some u→h'.get? b=some u):Inv X pins σ H {s with heap:=h',toks:=t'}:=I.un (Un.kept k) (I.hok.kept k)
theorem Inv.laid{a:Addr}{o:HO}{t':Nat}(I:Inv X pins σ H s)(k:∀b u,s.heap.get? b=some u→h'.get? b=some u)(hp:s.heap.objs.size≤a)(new:jr X.prog X.w (upd H a o) h' a o):
  Inv X pins σ (upd H a o) {s with heap:=h',toks:=t'}:=I.un (Un.laid k hp (I.hok.fresh hp)) (I.hok.laid k hp new)
theorem Inv.write{x e:Addr}{o:HO}{t':Nat}(I:Inv X pins σ H s)(mu:Mut (H x))(he:e=x∨H e=some (.own x))(k:∀b u,b≠e→s.heap.get? b=some u→h'.get? b=some u)(heo:∃u,h'.get? e=some u)
  (new:jr X.prog X.w (upd H x o) h' x o):Inv X pins σ (upd H x o) {s with heap:=h',toks:=t'}:=I.un (Un.write mu he k heo) (I.hok.write mu he k heo new)
theorem Inv.weak{σ':List (Option V)}(I:Inv X pins σ H s)(hl:σ'.length=σ.length)(w:∀(i:Nat) v,σ'[i]? = some (some v)→σ[i]? = some (some v)):Inv X pins σ' H s:=
 ⟨I.ok,I.os,I.bare,I.base,let⟨m,hn,hl'⟩:=I.loc;⟨m,hn,fun i x v e1 e2 e3=>hl' i x v e1 (w i v e2) e3⟩,I.cell,I.free,I.rR,I.pin,I.hok,hl.trans I.len⟩
theorem Inv.Gg{yF:List (Addr×Obj)}(I:Inv X pins σ H s)(h:∀p∈yF,s.heap.get? p.1=some p.2∧H p.1=none∧p.1≠X.env.locals∧p.1∉X.fs∧∀v,p.2.data≠ .cell v):Inv X yF σ H s:=
 ⟨I.ok,I.os,I.bare,I.base,I.loc,I.cell,I.free,I.rR,fun p hp=>(List.mem_append.mp hp).elim (fun z=>I.pin p (List.mem_append_left _ z)) (h p),I.hok,I.len⟩
theorem Kw{N:List Str}(hN:N.Nodup){i j:Nat}{x:Str}(a:N[i]? = some x)(b:N[j]? = some x):i=j:=by
 obtain⟨h1,e1⟩:=List.getElem?_eq_some_iff.mp a
 obtain⟨h2,e2⟩:=List.getElem?_eq_some_iff.mp b
 exact(List.getElem_inj hN).mp (e1.trans e2.symm)
theorem MF{M:Model}{A:Around}{E:Value→Shared→Prop}{i:Nat}{x:Str}{v:V}{u:Value}{Q:Unit→Shared→Prop}(I:Inv X pins σ H s)(hN:X.N.Nodup)(hi:X.N[i]? = some x)(hx:Loc X.env.scope x)(r:RelV v u)
  (h:∀s',Inv X pins (σ.set i (some v)) H s'→(∃a,Heap.SameBut a s.heap s'.heap∧(a=X.env.locals∨X.env.cells.lookup x=some a))→Q () s') (hf:X.fn x=true∨X.env.scope.names.lookup x=some .local:=by first | exact .inl rfl | exact .inr rfl | assumption):wpAny M A (storeName X.env x u) Q E s:=by
 obtain⟨m,hn,hl⟩:=id I.loc
 have hcls:(X.env.scope.kind== .class||(X.env.scope.kind== .module&&X.env.locals != X.env.globals))=false:=by rw[I.ok.kind];rfl
 have akA:i<σ.length:=by rw[I.len];exact(List.getElem?_eq_some_iff.mp hi).1
 have cne:=I.cne
 have tracked:∀{a:Addr} {h':Heap},(∃o,s.heap.get? a=some o∧H a=none)→Heap.SameBut a s.heap h'→Br X.prog X.w H h':=fun{a h'} ha hs b ob e=>by
  obtain⟨_,_,hfree⟩:=ha
  refine(I.hok b ob e).stay (fun c w' hc q=>(hs.2 c ?_).trans q) (fun _ q=>q) fun _ _ q=>q
  rintro rfl
  rcases hc with rfl | hc
  ·rw[hfree]at e;cases e
  ·rw[hfree]at hc;cases hc
 rcases hx with hk | hk
 ·refine wpAny_storeName_local hk hn (fun h' hn' hs=> ?_) hcls
  obtain⟨oL,_,_,hoL,_⟩:=id hn
  refine h _ ⟨I.ok,I.os,I.bare,⟨fun b o e n hb hx=> ?_,fun b o e n hb hx=> ?_,I.base.free,fun b o e hx=> ?_,I.base.tups,I.base.Bp,I.base.BW⟩,⟨_,hn',fun j y v' e1 e2 e3=> ?_⟩,fun y c e=> ?_,I.free,I.rR,fun p hp=> ?_,tracked ⟨oL,hoL,I.free⟩ hs,by simpa using I.len⟩ ⟨_,hs,.inl rfl⟩
  ·exact(hs.2 b (Nat.ne_of_lt (Nat.lt_of_lt_of_le (Heap.lt_size e) I.ok.above))).trans (I.base.keep b o e n hb hx)
  ·obtain⟨sl,e1⟩:=I.base.slot b o e n hb hx
   exact⟨sl,(hs.2 b (Nat.ne_of_lt (Nat.lt_of_lt_of_le (Heap.lt_size e) I.ok.above))).trans e1⟩
  ·obtain⟨o',e1⟩:=I.base.there b o e hx
   exact⟨o',(hs.2 b (Nat.ne_of_lt (Nat.lt_of_lt_of_le (Heap.lt_size e) I.ok.above))).trans e1⟩
  ·by_cases hj:j=i
   ·subst hj
    rw[hi]at e1;cases e1
    rw[List.getElem?_set_self akA]at e2
    cases e2
    exact⟨u,r,.inl ⟨hk,by simp⟩⟩
   ·rw[List.getElem?_set_ne (Ne.symm hj)]at e2
    obtain⟨u',r',q⟩:=hl j y v' e1 e2 e3
    refine⟨u',r',?_⟩
    rcases q with⟨k,e⟩ | ⟨k,c,e,z⟩
    ·refine .inl ⟨k,?_⟩
     have:y≠x:=fun e=>hj (Kw hN e1 (e▸hi))
     simp[this,e]
    ·exact .inr ⟨k,c,e,z.sameBut hs (cne y c e)⟩
  ·obtain⟨w',z⟩:=I.cell y c e
   exact⟨w',z.sameBut hs (cne y c e)⟩
  ·obtain⟨e,n,ne,nf,d⟩:=I.pin p hp
   exact⟨(hs.2 p.1 ne).trans e,n,ne,nf,d⟩
 ·have hfn:X.fn x=true:=by
   rcases hf with z | z
   ·exact z
   ·rw[z]at hk;cases hk
  obtain⟨c,hc⟩:=I.ok.has x (.inl hk)
  obtain⟨w',z⟩:=I.cell x c hc
  refine wpAny_storeName_cell I.ok.kind hk hc z (fun h' hc' hs=> ?_)
  obtain⟨oc,hoc,arD⟩:=id z
  refine h {s with heap:=h'} ⟨I.ok,I.os,I.bare,⟨fun b o e n hb hx=> ?_,fun b o e n hb hx=> ?_,I.base.free,fun b o e hx=> ?_,I.base.tups,I.base.Bp,I.base.BW⟩,⟨m,hn.sameBut hs (Ne.symm (cne x c hc)),fun j y v' e1 e2 e3=> ?_⟩,fun y c' e=> ?_,I.free,I.rR,fun p hp=> ?_,tracked ⟨oc,hoc,I.rR x c hc⟩ hs,by simpa using I.len⟩ ⟨c,hs,.inr hc⟩
  ·exact(hs.2 b (Nat.ne_of_lt (Nat.lt_of_lt_of_le (Heap.lt_size e) (I.ok.cab x c hfn hc)))).trans (I.base.keep b o e n hb hx)
  ·obtain⟨sl,e1⟩:=I.base.slot b o e n hb hx
   exact⟨sl,(hs.2 b (Nat.ne_of_lt (Nat.lt_of_lt_of_le (Heap.lt_size e) (I.ok.cab x c hfn hc)))).trans e1⟩
  ·obtain⟨o',e1⟩:=I.base.there b o e hx
   exact⟨o',(hs.2 b (Nat.ne_of_lt (Nat.lt_of_lt_of_le (Heap.lt_size e) (I.ok.cab x c hfn hc)))).trans e1⟩
  ·by_cases hj:j=i
   ·subst hj
    rw[hi]at e1;cases e1
    rw[List.getElem?_set_self akA]at e2
    cases e2
    exact⟨u,r,.inr ⟨.inl hk,c,hc,hc'⟩⟩
   ·rw[List.getElem?_set_ne (Ne.symm hj)]at e2
    obtain⟨u',r',q⟩:=hl j y v' e1 e2 e3
    refine⟨u',r',?_⟩
    rcases q with q | ⟨k,c',e,z'⟩
    ·exact .inl q
    ·refine .inr ⟨k,c',e,z'.sameBut hs ?_⟩
     rintro rfl
     exact hj (Kw hN e1 (I.ok.inj _ _ _ e hc▸hi))
  ·by_cases hcc:c'=c
   ·subst hcc;exact⟨_,hc'⟩
   ·obtain⟨w2,z2⟩:=I.cell y c' e
    exact⟨w2,z2.sameBut hs hcc⟩
  ·obtain⟨e,n,ne,nf,d⟩:=I.pin p hp
   refine⟨(hs.2 p.1 ?_).trans e,n,ne,nf,d⟩
   intro q
   rw[q,hoc]at e
   have q':oc=p.2:=Option.some.inj e
   exact d w' (by rw[←q'];exact arD)
theorem yz{M:Model}{A:Around}{E:Value→Shared→Prop}{i:Nat}{x:Str}{v:V}{u:Value}{Q:Unit→Shared→Prop}(I:Inv X pins σ H s)(hN:X.N.Nodup)(hi:X.N[i]? = some x)(hx:Loc X.env.scope x)(r:RelV v u)
  (h:∀s',Inv X pins (σ.set i (some v)) H s'→Q () s') (hf:X.fn x=true∨X.env.scope.names.lookup x=some .local:=by first | exact .inl rfl | exact .inr rfl | assumption):wpAny M A (storeName X.env x u) Q E s:=
 MF I hN hi hx r (fun s' I' _=>h s' I') hf
theorem Inv.call'{s':Shared}{ch:List Addr}(I:Inv X pins σ H s)(ho:s'.os=s.os)(u:Un (frs X.stack) ch H H' s.heap s'.heap)(hok:Br X.prog X.w H' s'.heap)(hg:AllBare s'.gens)
  (hch:∀b∈ch,(b∈X.ex∨X.s₀.heap.objs.size≤b)∧b≠X.env.locals∧(∀x c,X.env.cells.lookup x=some c→c≠b)∧∀p∈X.pn++pins,p.1≠b):Inv X pins σ H' s':=by
 obtain⟨h',g',d',t',o'⟩:=s'
 have e:o'=s.os:=ho
 subst e
 exact I.call (g':=g') (t':=t') (d':=d') u hok hg hch
end
abbrev XK:=Value→Option Addr→Hp→Prop
abbrev St:=List (Option V)
abbrev VK:=V→Hp→Prop
abbrev TE:=St→Hp→VK→Prop
abbrev TT:=St→Hp→(Bool→Hp→Prop)→Prop
abbrev TA:=St→Hp→(List V→Hp→Prop)→Prop
structure Ends where
 nx:St→Hp→Prop
 rt:VK
 bk:St→Hp→Prop:=fun _ _=>False
 ct:St→Hp→Prop:=fun _ _=>False
abbrev TS:=Ends→St→Hp→Prop
def EP(X:Cx)(pins:List (Addr×Obj))(σ:St)(Q:VK)(u:Value)(s':Shared):Prop:=∃v H',Inv X pins σ H' s'∧RelV v u∧Q v H'
def TP(X:Cx)(pins:List (Addr×Obj))(σ:St)(Q:Bool→Hp→Prop)(b:Bool)(s':Shared):Prop:=∃H',Inv X pins σ H' s'∧Q b H'
def AP(X:Cx)(pins:List (Addr×Obj))(σ:St)(Q:List V→Hp→Prop)(us:List Value)(s':Shared):Prop:=∃vs H',Inv X pins σ H' s'∧Vals vs us∧Q vs H'
def SP(X:Cx)(pins:List (Addr×Obj))(D:Ends)(f:Flow)(s':Shared):Prop:=
 match f with
 | .next=>∃σ' H',Inv X pins σ' H' s'∧D.nx σ' H'
 | .brk=>∃σ' H',Inv X pins σ' H' s'∧D.bk σ' H'
 | .cont=>∃σ' H',Inv X pins σ' H' s'∧D.ct σ' H'
 | .ret u=>∃v σ' H',Inv X pins σ' H' s'∧RelV v u∧D.rt v H'
def PE(X:Cx)(e:Expr)(t:TE):Prop:=
 ∀(pins:List (Addr×Obj)) (s:Shared) (σ:St) (H:Hp) (Q:VK),Inv X pins σ H s→t σ H Q→wpAny (model X.prog X.w) X.A (eval e X.env) (EP X pins σ Q) X.xe s
def PT(X:Cx)(e:Expr)(t:TT):Prop:=
 ∀(pins:List (Addr×Obj)) (s:Shared) (σ:St) (H:Hp) (Q:Bool→Hp→Prop),Inv X pins σ H s→t σ H Q→wpAny (model X.prog X.w) X.A (isTrue e X.env (eval e X.env)) (TP X pins σ Q) X.xe s
def PW(X:Cx)(e:Expr)(t:TT):Prop:=
 ∀(whole:Sem Value) (pins:List (Addr×Obj)) (s:Shared) (σ:St) (H:Hp) (Q:Bool→Hp→Prop),Inv X pins σ H s→t σ H Q→wpAny (model X.prog X.w) X.A (isTrue e X.env whole) (TP X pins σ Q) X.xe s
theorem PW.pt{X:Cx}{e:Expr}{t:TT}(h:PW X e t):PT X e t:=h _
def PA(X:Cx)(es:List Expr)(t:TA):Prop:=
 ∀(pos:Pos) (pins:List (Addr×Obj)) (s:Shared) (σ:St) (H:Hp) (Q:List V→Hp→Prop),Inv X pins σ H s→t σ H Q→wpAny (model X.prog X.w) X.A (spliced (backTo pos (starEach es X.env))) (AP X pins σ Q) X.xe s
def PS(X:Cx)(st:Stmt)(t:TS):Prop:=
 ∀(pins:List (Addr×Obj)) (s:Shared) (σ:St) (H:Hp) (D:Ends),Inv X pins σ H s→t D σ H→wpAny (model X.prog X.w) X.A (exec st X.env) (SP X pins D) X.xe s
def Jl(X:Cx)(st:List Stmt)(t:TS):Prop:=
 ∀(pins:List (Addr×Obj)) (s:Shared) (σ:St) (H:Hp) (D:Ends),Inv X pins σ H s→t D σ H→wpAny (model X.prog X.w) X.A (execs st X.env) (SP X pins D) X.xe s
theorem mz{α:Type}{t:Sem α}{Q Q':α→Shared→Prop}{M:Model}{A:Around}{E:Value→Shared→Prop}{s:Shared}(h:wpAny M A t Q E s)(hQ:∀a s,Q a s→Q' a s):wpAny M A t Q' E s:=wpAny_mono h hQ fun _ _ x=>x
section
variable{X:Cx}
theorem bin{a b:Expr}{ta tb:TE}(ha:PE X a ta)(hb:PE X b tb){pins:List (Addr×Obj)}{s:Shared}{σ:St}{H:Hp}{R:V→V→Hp→Prop}(I:Inv X pins σ H s)(h:ta σ H fun x H1=>tb σ H1 fun y H2=>R x y H2)
  {α:Type} {Q:α→Shared→Prop} {f:Value→Value→Sem α}
  (hf:∀v u s2 x y H2,Inv X pins σ H2 s2→RelV x v→RelV y u→R x y H2→wpAny (model X.prog X.w) X.A (f v u) Q X.xe s2):
  wpAny (model X.prog X.w) X.A (eval a X.env) (fun v s₁=>wpAny (model X.prog X.w) X.A (eval b X.env) (fun u s₂=>wpAny (model X.prog X.w) X.A (f v u) Q X.xe s₂) X.xe s₁) X.xe s:=by
 refine mz (ha pins s σ H _ I h) fun v s1 ⟨x,H1,I1,r1,q1⟩=> ?_
 refine mz (hb pins s1 σ H1 _ I1 q1) fun u s2 ⟨y,H2,I2,r2,q2⟩=> ?_
 exact hf v u s2 x y H2 I2 r1 r2 q2
def ab_(i:Nat):TE:=fun σ H Q=>∃v,σ[i]? = some (some v)∧Q v H
def tC(v:V):TE:=fun _ H Q=>Q v H
theorem aaG{i:Nat}{x:Str}{pos:Pos}(hN:X.N[i]? = some x)(hv:Zm X.env.scope x)(hd:(x==("__debug__" : Str))=false:=by decide)(hcd:(x==("__classdict__" : Str))=false:=by decide):PE X (.Name x pos) (ab_ i):=by
 intro pins s σ H Q I h
 obtain⟨v,e,h⟩:=h
 obtain⟨m,hn,hl⟩:=I.loc
 obtain⟨u,r,l⟩:=hl i x v hN e hv
 have fin:EP X pins σ Q u s:=⟨v,H,I,r,h⟩
 rcases l with⟨hk,hm⟩ | ⟨hk,c,hc,hcell⟩
 ·exact wpAny_Name (wpAny_loadName_local I.ok.kind hk hn hm fin) hd
 ·rcases hk with hk | hk
  ·exact wpAny_Name (wpAny_loadName_cell I.ok.kind hk hc hcell fin) hd
  ·exact wpAny_Name (wpAny_loadName_free I.ok.kind hk hc hcell fin hcd) hd
theorem afP{i j pos}:PE X (.Constant (.int i) j pos) (tC (.int i)):=fun _ _ _ H _ I h=>wpAny_Constant_int ⟨.int i,H,I.tok _,⟨_,rfl⟩,h⟩
theorem ajs{b j pos}:PE X (.Constant (.bool b) j pos) (tC (.bl b)):=fun _ _ _ H _ I h=>Constant_bool ⟨.bl b,H,I,rfl,h⟩
theorem afN{j pos}:PE X (.Constant .none j pos) (tC .non):=fun _ _ _ H _ I h=>Constant_none ⟨.non,H,I,rfl,h⟩
theorem afK{x j pos}:PE X (.Constant (.str x) j pos) (tC (.str x)):=fun _ _ _ H _ I h=>Calls.Constant_str ⟨.str x,H,I.tok _,⟨_,rfl⟩,h⟩
def Gl(X:Cx)(x:Str):Prop:=X.env.kindOf x=some .globalImplicit
theorem JC{E:Value→Shared→Prop}{pins:List (Addr×Obj)}{s:Shared}{σ:St}{H:Hp}{x:Str}{u:Value}{pos:Pos}{Q:Value→Shared→Prop}(I:Inv X pins σ H s)(hg:Gl X x)(hm:X.mg x=some u)(h:Q u s)
  (hd:(x==("__debug__" : Str))=false:=by decide):wpAny (model X.prog X.w) X.A (eval (.Name x pos) X.env) Q E s:=
 Calls.Name_function_global I.ok.kind hg (Calls.loadGlobal_global (by rw[I.ok.glob];exact I.mod.glob.keeps I.bk) hm h) hd
theorem Qe{E:Value→Shared→Prop}{pins:List (Addr×Obj)}{s:Shared}{σ:St}{H:Hp}{x:Str}{u:Value}{pos:Pos}{Q:Value→Shared→Prop}(I:Inv X pins σ H s)(hg:Gl X x)(hm:X.mg x=none)(hv:bootBuiltins x=some u)(h:Q u s)
  (hn:x≠ "__name__" := by decide) (hd:(x==("__debug__" : Str))=false:=by decide):wpAny (model X.prog X.w) X.A (eval (.Name x pos) X.env) Q E s:=by
 obtain⟨mb,h1,h2⟩:=I.mod.blt
 exact Calls.Name_function_global I.ok.kind hg (Calls.loadGlobal_builtin (by rw[I.ok.glob];exact I.mod.glob.keeps I.bk) hm (by rw[I.ok.blt];exact h1.keeps I.bk) ((h2 x hn).trans hv) h) hd
theorem Dm{x:Str}{v:V}{u:Value}{pos:Pos}(hg:Gl X x)(hm:X.mg x=some u)(r:RelV v u)(hd:(x==("__debug__" : Str))=false:=by decide):PE X (.Name x pos) (tC v):=
 fun _ _ _ H _ I h=>JC I hg hm ⟨v,H,I,r,h⟩ hd
theorem acP{x:Str}{v:V}{u:Value}{pos:Pos}(hg:Gl X x)(hm:X.mg x=none)(hv:bootBuiltins x=some u)(r:RelV v u)(hn:x≠ "__name__" := by decide)(hd:(x==("__debug__" : Str))=false:=by decide):PE X (.Name x pos) (tC v):=
 fun _ _ _ H _ I h=>Qe I hg hm hv ⟨v,H,I,r,h⟩ hn hd
variable{a b:Expr}{ta tb:TE}{pos:Pos}
def PC(X:Cx)(op:CmpOp)(a b:Expr)(t:TE):Prop:=
 ∀(pins:List (Addr×Obj)) (s:Shared) (σ:St) (H:Hp) (Q:VK),Inv X pins σ H s→t σ H Q→
  wpAny (model X.prog X.w) X.A (eval a X.env) (fun v s₁=>wpAny (model X.prog X.w) X.A (eval b X.env) (fun u s₂=>wpAny (model X.prog X.w) X.A (compareOp op v u) (EP X pins σ Q) X.xe s₂) X.xe s₁) X.xe s
theorem aaV(b:Expr){op:CmpOp}(h:op≠ .In)(h2:op≠ .NotIn):behindInMarks op b=false:=by
 have e1:(op==CmpOp.In)=false:=by cases op<;>first | rfl | exact absurd rfl h
 have e2:(op==CmpOp.NotIn)=false:=by cases op<;>first | rfl | exact absurd rfl h2
 cases b<;>simp[behindInMarks,e1,e2]
def tB(t:TE):TT:=fun σ H Q=>t σ H fun x H1=>∃c,x= .bl c∧Q c H1
theorem ap4{op:CmpOp}{t:TE}(h:PC X op a b t)(h1:behindInMarks op b=false:=by first | exact aaV _ (by decide) (by decide) | rfl):PT X (.Compare a [op] [b] pos) (tB t):=by
 intro pins s σ H Q I hw
 refine wpAny_isTrue_Compare1 (mz (h pins s σ H _ I hw) fun v s1 h1=>mz h1 fun u s2 h2=>mz h2 fun c s3 ⟨x,H1,I1,r1,q1⟩=> ?_) h1
 obtain⟨d,rfl,q⟩:=q1
 cases r1
 exact wpAny_truthy_bool ⟨H1,I1,q⟩
theorem afy{e:Expr}{t:TE}(h:PE X e t)(he:∀whole,isTrue e X.env whole=(do let v ←whole;standAt e.pos;holding [v] (truthy v)):=by intro _;rfl):PT X e (tB t):=by
 intro pins s σ H Q I hw
 refine isTrue_plain (mz (h pins s σ H _ I hw) fun v s1 ⟨x,H1,I1,r1,q1⟩=> ?_) (he _)
 obtain⟨d,rfl,q⟩:=q1
 cases r1
 exact wpAny_truthy_bool ⟨H1,I1,q⟩
variable{tA tB':TT}{rest:List Expr}
def apj(t u:TT):TT:=fun σ H Q=>t σ H fun c H1=>if c=true then u σ H1 Q else Q false H1
def tOr(t u:TT):TT:=fun σ H Q=>t σ H fun c H1=>if c=true then Q true H1 else u σ H1 Q
def apd(t:TT):TT:=fun σ H Q=>t σ H fun c H1=>Q (!c) H1
theorem acC(ha:PT X a tA):PW X (.BoolOp .And [a] pos) tA:=by
 intro wh pins s σ H Q I h
 refine isTrue_and (mz (ha pins s σ H Q I h) fun c s1 e=> ?_)
 cases c with
 | true=>exact isTrue_and_nil e
 | false=>exact e
theorem afw(ha:PT X a tA):PW X (.BoolOp .Or [a] pos) tA:=by
 intro wh pins s σ H Q I h
 refine isTrue_or (mz (ha pins s σ H Q I h) fun c s1 e=> ?_)
 cases c with
 | false=>exact isTrue_or_nil e
 | true=>exact e
theorem afx(ha:PT X a tA)(hb:PW X (.BoolOp .And (b::rest) pos) tB'):PW X (.BoolOp .And (a::b::rest) pos) (apj tA tB'):=by
 intro wh pins s σ H Q I h
 refine isTrue_and (mz (ha pins s σ H _ I h) fun c s1 ⟨H1,I1,q1⟩=> ?_)
 cases c with
 | true=>exact hb wh pins s1 σ H1 Q I1 q1
 | false=>exact⟨H1,I1,q1⟩
theorem aiU(ha:PT X a tA)(hb:PW X (.BoolOp .Or (b::rest) pos) tB'):PW X (.BoolOp .Or (a::b::rest) pos) (tOr tA tB'):=by
 intro wh pins s σ H Q I h
 refine isTrue_or (mz (ha pins s σ H _ I h) fun c s1 ⟨H1,I1,q1⟩=> ?_)
 cases c with
 | true=>exact⟨H1,I1,q1⟩
 | false=>exact hb wh pins s1 σ H1 Q I1 q1
theorem afz(ha:PT X a tA):PT X (.UnaryOp .Not a pos) (apd tA):=by
 intro pins s σ H Q I h
 exact isTrue_not (ha pins s σ H (fun c H1=>Q (!c) H1) I h)
def aio(ta tb:TE):TE:=fun σ H Q=>ta σ H fun x H1=>∃c,x= .bl c∧if c=true then tb σ H1 Q else Q (.bl false) H1
def apc(ta tb:TE):TE:=fun σ H Q=>ta σ H fun x H1=>∃c,x= .bl c∧if c=true then Q (.bl true) H1 else tb σ H1 Q
def aih(ta:TE):TE:=fun σ H Q=>ta σ H fun x H1=>∃c,x= .bl c∧Q (.bl (!c)) H1
theorem afL{op}{t:TE}(h:PE X a t):PE X (.BoolOp op [a] pos) t:=fun pins s σ H Q I hw=>BoolOp_one (h pins s σ H Q I hw)
theorem afR(ha:PE X a ta)(hb:PE X (.BoolOp .And (b::rest) pos) tb):PE X (.BoolOp .And (a::b::rest) pos) (aio ta tb):=by
 intro pins s σ H Q I h
 refine BoolOp_and (mz (ha pins s σ H _ I h) fun v s1 ⟨x,H1,I1,r1,q1⟩=> ?_)
 obtain⟨c,rfl,q1⟩:=q1
 cases r1
 refine wpAny_truthy_bool ?_
 cases c with
 | true=>exact hb pins s1 σ H1 Q I1 q1
 | false=>exact⟨.bl false,H1,I1,rfl,q1⟩
theorem ajo(ha:PE X a ta)(hb:PE X (.BoolOp .Or (b::rest) pos) tb):PE X (.BoolOp .Or (a::b::rest) pos) (apc ta tb):=by
 intro pins s σ H Q I h
 refine BoolOp_or (mz (ha pins s σ H _ I h) fun v s1 ⟨x,H1,I1,r1,q1⟩=> ?_)
 obtain⟨c,rfl,q1⟩:=q1
 cases r1
 refine wpAny_truthy_bool ?_
 cases c with
 | false=>exact hb pins s1 σ H1 Q I1 q1
 | true=>exact⟨.bl true,H1,I1,rfl,q1⟩
theorem afM(ha:PE X a ta):PE X (.UnaryOp .Not a pos) (aih ta):=by
 intro pins s σ H Q I h
 refine UnaryOp_ (mz (ha pins s σ H _ I h) fun v s1 ⟨x,H1,I1,r1,q1⟩=> ?_)
 obtain⟨c,rfl,q1⟩:=q1
 cases r1
 exact not_of (wpAny_truthy_bool ⟨.bl (!c),H1,I1,rfl,q1⟩)
end
def yV(K:Frag)(H:Hp)(a:Addr)(xs:List V):Prop:=
 Rd H a (.lst xs)∨
  ∃(o:Obj) (its:Array Value) (n:Nat),K.lookup a=some o∧o.cls= .type "list" ∧ o.dict=none∧o.data= .seq its n∧its.size≤sizeLine∧Vals xs its.toList
def xq(K:Frag)(H:Hp)(a:Addr)(xs:List V):Prop:=
 Rd H a (.tup xs)∨
  ∃(o:Obj) (its:Array Value) (n:Nat),K.lookup a=some o∧o.cls= .type "tuple" ∧ o.data= .seq its n∧its.size≤sizeLine∧Vals xs its.toList
def ar9:Value→Option V
 | .none=>some .non
 | .bool b=>some (.bl b)
 | .int i _=>some (.int i)
 | .str x _=>some (.str x)
 | .bytes b _=>some (.byt b)
 | .float b _=>some (.flt b)
 | .ref a=>some (.ref a)
 | .type n=>some (.ty n)
 | _=>none
theorem RelV.abs{x:V}{u:Value}(r:RelV x u):ar9 u=some x:=by
 cases x with
 | non=>cases r;rfl
 | bl _=>cases r;rfl
 | int _=>obtain⟨t,rfl⟩:=r;rfl
 | str _=>obtain⟨t,rfl⟩:=r;rfl
 | byt _=>obtain⟨t,rfl⟩:=r;rfl
 | flt _=>obtain⟨t,rfl⟩:=r;rfl
 | ref _=>cases r;rfl
 | ty _=>cases r;rfl
theorem RelV.inj{x y:V}{u:Value}(r:RelV x u)(q:RelV y u):x=y:=Option.some.inj (r.abs.symm.trans q.abs)
theorem Vals.inj:∀{xs ys:List V} {us:List Value},Vals xs us→Vals ys us→xs=ys
 | _,_,_,.nil,.nil=>rfl
 | _,_,_,.cons r t,.cons r' t'=>by rw[r.inj r',Vals.inj t t']
section
variable{X:Cx}{pins:List (Addr×Obj)}{σ:St}{H:Hp}{s:Shared}{a:Addr}{xs ys:List V}
theorem yV.of{K:Frag}(h:H a=some (.lst xs)):yV K H a xs:= .inl (.inl h)
theorem xq.of{K:Frag}(h:H a=some (.tup xs)):xq K H a xs:= .inl (.inl h)
theorem Inv.list(I:Inv X pins σ H s)(h:yV X.K H a xs):∃its:List Value,Vals xs its∧PlainL s.heap a its.toArray∧xs.length≤sizeLine:=by
 rcases h with h | ⟨o,its,n,hk,hc,hd,hs,hz,r⟩
 ·obtain⟨z,its,n,r,e⟩:=h.ok I.hok
  exact⟨its,r,⟨_,n,e,rfl,rfl,rfl⟩,z⟩
 ·refine⟨its.toList,r,⟨o,n,I.yX a o hk,hc,hd,by simpa using hs⟩,?_⟩
  have e:=r.length
  simp only[Array.length_toList]at e
  omega
theorem Inv.tuple(I:Inv X pins σ H s)(h:xq X.K H a xs):∃its:List Value,Vals xs its∧IsTup s.heap a its.toArray∧xs.length≤sizeLine:=by
 rcases h with h | ⟨o,its,n,hk,hc,hs,hz,r⟩
 ·obtain⟨z,its,r,p⟩:=h.ok I.hok
  exact⟨its,r,p,z⟩
 ·refine⟨its.toList,r,⟨o,I.yX a o hk,hc,n,by simpa using hs⟩,?_⟩
  have e:=r.length
  simp only[Array.length_toList]at e
  omega
theorem Inv.R8(I:Inv X pins σ H s)(h:yV X.K H a xs)(h':yV X.K H a ys):xs=ys:=by
 obtain⟨its,r,⟨o,n,e,_,_,d⟩,_⟩:=I.list h
 obtain⟨its',r',⟨o',n',e',_,_,d'⟩,_⟩:=I.list h'
 rw[e]at e';cases e'
 rw[d]at d'
 injection d' with d1 _
 have:its=its':=by simpa using congrArg Array.toList d1
 subst this
 exact r.inj r'
theorem Inv.Mu(I:Inv X pins σ H s)(h:xq X.K H a xs)(h':xq X.K H a ys):xs=ys:=by
 obtain⟨its,r,⟨o,e,_,n,d⟩,_⟩:=I.tuple h
 obtain⟨its',r',⟨o',e',_,n',d'⟩,_⟩:=I.tuple h'
 rw[e]at e';cases e'
 rw[d]at d'
 injection d' with d1 _
 have:its=its':=by simpa using congrArg Array.toList d1
 subst this
 exact r.inj r'
end
abbrev Cx.wish(X:Cx)(E:Value→Shared→Prop):Cx:={X with xe:=E}
abbrev Cx.nox(X:Cx):Cx:=X.wish fun _ _=>False
theorem Cx.Ok.wish{X:Cx}(ok:X.Ok)(E:Value→Shared→Prop):(X.wish E).Ok:=
 ⟨ok.mod,ok.kind,ok.glob,ok.blt,ok.above,ok.inj,ok.has,ok.cab,ok.hd,ok.frames,ok.stk,ok.exf,ok.bs,ok.Xq,ok.RW,ok.SX,ok.CG,ok.frf⟩
theorem Cx.Ok.nP{X:Cx}{E:Value→Shared→Prop}(ok:(X.wish E).Ok):X.Ok:=
 ⟨ok.mod,ok.kind,ok.glob,ok.blt,ok.above,ok.inj,ok.has,ok.cab,ok.hd,ok.frames,ok.stk,ok.exf,ok.bs,ok.Xq,ok.RW,ok.SX,ok.CG,ok.frf⟩
section
variable{X:Cx}{pins:List (Addr×Obj)}{σ:St}{H:Hp}{s:Shared}{E:Value→Shared→Prop}
theorem Inv.wish(I:Inv X pins σ H s)(E:Value→Shared→Prop):Inv (X.wish E) pins σ H s:=⟨I.ok.wish E,I.os,I.bare,I.base,I.loc,I.cell,I.free,I.rR,I.pin,I.hok,I.len⟩
theorem Inv.nP(I:Inv (X.wish E) pins σ H s):Inv X pins σ H s:=⟨I.ok.nP,I.os,I.bare,I.base,I.loc,I.cell,I.free,I.rR,I.pin,I.hok,I.len⟩
theorem SP.nP{D:Ends}{f:Flow}{s':Shared}(h:SP (X.wish E) pins D f s'):SP X pins D f s':=by
 cases f with
 | next=>obtain⟨σ',H',I,q⟩:=h;exact⟨σ',H',I.nP,q⟩
 | brk=>obtain⟨σ',H',I,q⟩:=h;exact⟨σ',H',I.nP,q⟩
 | cont=>obtain⟨σ',H',I,q⟩:=h;exact⟨σ',H',I.nP,q⟩
 | ret u=>obtain⟨v,σ',H',I,r,q⟩:=h;exact⟨v,σ',H',I.nP,r,q⟩
theorem PE.nox{e:Expr}{t:TE}(h:PE X.nox e t):PE X e t:=fun pins s σ H Q I hw=>
 wpAny_mono (h pins s σ H Q (I.wish _) hw) (fun _ _ ⟨v,H',I',r,q⟩=>⟨v,H',I'.nP,r,q⟩) fun _ _ z=>False.elim z
theorem PT.nox{e:Expr}{t:TT}(h:PT X.nox e t):PT X e t:=fun pins s σ H Q I hw=>
 wpAny_mono (h pins s σ H Q (I.wish _) hw) (fun _ _ ⟨H',I',q⟩=>⟨H',I'.nP,q⟩) fun _ _ z=>False.elim z
theorem Jl.nox{st:List Stmt}{t:TS}(h:Jl X.nox st t):Jl X st t:=fun pins s σ H D I hw=>
 wpAny_mono (h pins s σ H D (I.wish _) hw) (fun _ _ q=>q.nP) fun _ _ z=>False.elim z
end
section
variable{X:Cx}{st:Stmt}{rest:List Stmt}{t u:TS}{e:Expr}{te:TE}{pos:Pos}
def aeh:TS:=fun D σ H=>D.nx σ H
def apa(t u:TS):TS:=fun D σ H=>t {D with nx:=u D} σ H
theorem acF:Jl X [] aeh:=fun _ _ σ H _ I h=>wpAny_execs_nil ⟨σ,H,I,h⟩
theorem aay(h1:PS X st t)(h2:Jl X rest u):Jl X (st::rest) (apa t u):=by
 intro pins s σ H D I h
 refine wpAny_execs_cons (mz (h1 pins s σ H {D with nx:=u D} I h) fun f s1 q=> ?_)
 cases f with
 | next=>
  obtain⟨σ',H',I',q⟩:=q
  exact h2 pins s1 σ' H' D I' q
 | ret v=>exact q
 | brk=>exact q
 | cont=>exact q
theorem Wx(h1:PS X st t):Jl X [st] t:=by
 intro pins s σ H D I h
 refine wpAny_execs_cons (mz (h1 pins s σ H D I h) fun f s1 q=> ?_)
 cases f with
 | next=>exact wpAny_execs_nil q
 | ret v=>exact q
 | brk=>exact q
 | cont=>exact q
theorem Inv.quiet{pins:List (Addr×Obj)}{σ:St}{H:Hp}{s:Shared}(I:Inv X pins σ H s):interactive X.env=false:=by simp[interactive,I.ok.kind]
def ail(te:TE):TS:=fun D σ H=>te σ H fun _ H1=>D.nx σ H1
theorem acI(he:PE X e te)(hs:swapsWith e none pos.line X.env=pure false:=by rfl):PS X (.Expr e pos) (ail te):=by
 intro pins s σ H D I h
 exact wpAny_Expr_any (mz (he pins s σ H _ I h) fun v s1 ⟨x,H1,I1,r1,q1⟩=>⟨σ,H1,I1,q1⟩) I.quiet hs
def apb(te:TE):TS:=fun D σ H=>te σ H D.rt
theorem afB(he:PE X e te):PS X (.Return (some e) pos) (apb te):=by
 intro pins s σ H D I h
 exact wpAny_Return_some (mz (he pins s σ H _ I h) fun v s1 ⟨x,H1,I1,r1,q1⟩=>⟨x,σ,H1,I1,r1,q1⟩)
def apf(c:TT)(t u:TS):TS:=fun D σ H=>c σ H fun b H1=>if b=true then t D σ H1 else u D σ H1
theorem aiW{c:Expr}{a b:List Stmt}{tc:TT}(hc:PT X c tc)(ha:Jl X a t)(hb:Jl X b u):PS X (.If c a b pos) (apf tc t u):=by
 intro pins s σ H D I h
 refine wpAny_If (mz (hc pins s σ H _ I h) fun d s1 ⟨H1,I1,q1⟩=> ?_)
 cases d with
 | true=>exact ha pins s1 σ H1 D I1 q1
 | false=>exact hb pins s1 σ H1 D I1 q1
end
abbrev TG:=V→St→Hp→(St→Hp→Prop)→Prop
abbrev TGs:=List V→St→Hp→(St→Hp→Prop)→Prop
def PG(X:Cx)(target:Expr)(t:TG):Prop:=
 ∀(pins:List (Addr×Obj)) (s:Shared) (σ:St) (H:Hp) (v:V) (u:Value) (Q:St→Hp→Prop),Inv X pins σ H s→RelV v u→t v σ H Q→
  wpAny (model X.prog X.w) X.A (assign target X.env u) (fun _ s'=>∃σ' H',Inv X pins σ' H' s'∧Q σ' H') X.xe s
def PGs(X:Cx)(ts:List Expr)(t:TGs):Prop:=
 ∀(pins:List (Addr×Obj)) (s:Shared) (σ:St) (H:Hp) (vs:List V) (us:List Value) (Q:St→Hp→Prop),Inv X pins σ H s→Vals vs us→t vs σ H Q→
  wpAny (model X.prog X.w) X.A (assignInOrder ((assignEach ts X.env).map (·.2)) us) (fun _ s'=>∃σ' H',Inv X pins σ' H' s'∧Q σ' H') X.xe s
section
variable{X:Cx}{pos:Pos}
def Xd(i:Nat):TG:=fun v σ H Q=>Q (σ.set i (some v)) H
theorem acM{i:Nat}{x:Str}(hN:X.N.Nodup)(hi:X.N[i]? = some x)(hx:Loc X.env.scope x)(hf:X.fn x=true∨X.env.scope.names.lookup x=some .local:=by first | exact .inl rfl | exact .inr rfl | assumption):PG X (.Name x pos) (Xd i):=by
 intro pins s σ H v u Q I r h
 exact wpAny_assign_Name (yz I hN hi hx r (fun s' I'=>⟨_,H,I',h⟩) hf)
def arO:TGs:=fun vs σ H Q=>vs=[]∧Q σ H
def akD(t:TG)(u:TGs):TGs:=fun vs σ H Q=>∃v r,vs=v::r∧t v σ H fun σ' H'=>u r σ' H' Q
theorem acL:PGs X [] arO:=by
 intro pins s σ H vs us Q I r h
 obtain⟨e,h⟩:=h
 subst e
 cases r
 exact assignInOrder_nil ⟨σ,H,I,h⟩
theorem aaF{e:Expr}{es:List Expr}{t:TG}{u:TGs}(h1:PG X e t)(h2:PGs X es u)
  (hs:(assignEach (e::es) X.env).map (·.2)=assign e X.env::(assignEach es X.env).map (·.2):=by rfl):PGs X (e::es) (akD t u):=by
 intro pins s σ H vs us Q I r h
 obtain⟨v,vr,e1,h⟩:=h
 subst e1
 cases r with
 | cons r rr=>
  rw[hs]
  refine assignInOrder_cons (mz (h1 pins s σ H _ _ _ I r h) fun _ s1 ⟨σ1,H1,I1,q1⟩=> ?_)
  exact h2 pins s1 σ1 H1 _ _ Q I1 rr q1
def arN(K:Frag)(n:Nat)(t:TGs):TG:=fun v σ H Q=>∃a xs,v= .ref a∧xq K H a xs∧xs.length=n∧t xs σ H Q
theorem afH{es:List Expr}{k:Nat}{t:TGs}{n:Nat}(hc:X.calm=true)(h:PGs X es t)
  (hn:(assignEach es X.env).length=n:=by rfl) (hst:(assignEach es X.env).findIdx? (·.1)=none:=by rfl):PG X (.Tuple es k pos) (arN X.K n t):=by
 intro pins s σ H v u Q I r hw
 obtain⟨a,xs,e1,hq,hl,hw⟩:=hw
 subst e1
 cases r
 obtain⟨its,rv,ht,hz⟩:=I.tuple hq
 refine assign_Tuple_tuple (I.ok.hd hc) ht (by simp[hn,←hl,rv.length]) hst fun h' hx=> ?_
 have I1:Inv X pins σ H {s with heap:=h'}:=I.kept (t':=s.toks) fun b o e=>hx b o (Nat.ne_of_lt (Heap.lt_size e)) e
 exact h pins _ σ H xs _ Q I1 (by simpa using rv) hw
def ace(te:TE)(g:TG):TS:=fun D σ H=>te σ H fun x H1=>g x σ H1 D.nx
theorem afE{tg e:Expr}{te:TE}{g:TG}(he:PE X e te)(hg:PG X tg g)(hs:swapsWithSole [tg] e pos.line X.env=pure false:=by rfl)(hw:swappedStores [tg] e X.env=pure none:=by rfl)
  (h1:(assignEach [tg] X.env).map (·.2)=[assign tg X.env]:=by rfl):PS X (.Assign [tg] e pos) (ace te g):=by
 intro pins s σ H D I h
 refine wpAny_Assign_stores (mz (he pins s σ H _ I h) fun v s1 ⟨x,H1,I1,r1,q1⟩=> ?_) hs hw
 rw[h1]
 exact mz (hg pins s1 σ H1 x v _ I1 r1 q1) fun _ s2 q=>q
theorem afA{i:Nat}{x:Str}{e:Expr}{te:TE}{pos':Pos}(hN:X.N.Nodup)(hi:X.N[i]? = some x)(hx:Loc X.env.scope x)(he:PE X e te)(hs:swapsWith e (some (.Name x pos')) pos.line X.env=pure false:=by rfl)(hf:X.fn x=true∨X.env.scope.names.lookup x=some .local:=by first | exact .inl rfl | exact .inr rfl | assumption):
  PS X (.Assign [.Name x pos'] e pos) (ace te (Xd i)):=by
 intro pins s σ H D I h
 refine wpAny_Assign_Name (mz (he pins s σ H _ I h) fun v s1 ⟨y,H1,I1,r1,q1⟩=> ?_) hs
 exact yz I1 hN hi hx r1 (fun s2 I2=>⟨_,H1,I2,q1⟩) hf
end
section
variable{X:Cx}{pos:Pos}
def aeV(c:TT)(tb:TS):TS:=fun D σ H=>∃W:Nat→St→Hp→Prop,(∃m,W m σ H)∧∀m σ H,W m σ H→
 c σ H fun b H1=>if b=true then ∃N:St→Hp→Prop,(∀σ' H',N σ' H'→∃m',m'<m∧W m' σ' H')∧tb {D with nx:=N,ct:=N,bk:=D.nx} σ H1 else D.nx σ H1
theorem aaz{c:Expr}{body:List Stmt}{tc:TT}{tb:TS}(hp:PassesOwn (model X.prog X.w) X.A X.env X.xe)(hc:PT X c tc)(hb:Jl X body tb):PS X (.While c body [] pos) (aeV tc tb):=by
 intro pins s σ H D I h
 obtain⟨W,⟨m0,w0⟩,turn⟩:=h
 refine wpAny_While (codeAny_whileLoop (fun n s'=>∃σ' H',Inv X pins σ' H' s'∧W n σ' H') ?_ m0 ⟨σ,H,I,w0⟩)
 rintro n s1 ⟨σ1,H1,I1,w1⟩
 refine wpAny_passesOwn hp (mz (hc pins s1 σ1 H1 _ I1 (turn n σ1 H1 w1)) fun b s2 ⟨H2,I2,q2⟩=> ?_)
 cases b with
 | true=>
  obtain⟨N,hN,q2⟩:=q2
  rw[if_pos rfl]
  refine wpAny_passesOwn hp (mz (hb pins s2 σ1 H2 _ I2 q2) fun f s3 q3=> ?_)
  cases f with
  | next=>
   obtain⟨σ3,H3,I3,n3⟩:=q3
   obtain⟨m',hm,w3⟩:=hN σ3 H3 n3
   exact⟨m',hm,σ3,H3,I3,w3⟩
  | cont=>
   obtain⟨σ3,H3,I3,n3⟩:=q3
   obtain⟨m',hm,w3⟩:=hN σ3 H3 n3
   exact⟨m',hm,σ3,H3,I3,w3⟩
  | brk=>exact q3
  | ret v=>exact q3
 | false=>
  rw[if_neg Bool.false_ne_true]
  exact wpAny_execs_nil ⟨σ1,H2,I2,q2⟩
end
structure It where
 go:Nat→Hp→Prop
 yld:Nat→Hp→V→Hp→Prop
 stop:Nat→Hp→Prop
def QZ(X:Cx)(pins:List (Addr×Obj))(H:Hp)(b:Addr):Prop:=
 H b=none∧b≠X.env.locals∧b∉X.fs∧(b∈X.ex∨X.s₀.heap.objs.size≤b)∧(∀x c,X.env.cells.lookup x=some c→c≠b)∧∀p∈X.pn++pins,p.1≠b
theorem Inv.adz{X:Cx}{pins:List (Addr×Obj)}{σ:St}{H H':Hp}{s:Shared}{b:Addr}(I:Inv X pins σ H s)(hb:s.heap.objs.size≤b)(hn:H' b=none):QZ X pins H' b:=by
 refine⟨hn,Nat.ne_of_gt (Nat.lt_of_lt_of_le I.lt hb),I.aq2 hb,.inr (Nat.le_trans I.sz hb),fun x c e z=> ?_,fun p hp z=> ?_⟩
 ·obtain⟨v,q⟩:=I.cell x c e
  exact absurd (Nat.lt_of_lt_of_le q.lt (by rw[z];exact hb)) (Nat.lt_irrefl _)
 ·exact absurd (Nat.lt_of_lt_of_le (Heap.lt_size (I.pin p hp).1) (by rw[z];exact hb)) (Nat.lt_irrefl _)
structure Turn(P:Program)(w:World)(K:Frag)(tg:Expr)(J:It)(fp:List Addr)(it:Addr)(tn:Nat→Heap→Prop):Prop where
 mem:it∈fp
 obj:∀i h,tn i h→∀b∈fp,∃o,h.get? b=some o∧∀v,o.data≠ .cell v
 keep:∀i h h',tn i h→(∀b∈fp,∀o,h.get? b=some o→h'.get? b=some o)→tn i h'
 item:∀(X:Cx),X.prog=P→X.w=w→X.K=K→X.calm=true→∀(i:Nat) (pins:List (Addr×Obj)) (s:Shared) (σ:St) (H:Hp) (E:Value→Shared→Prop),Inv X pins σ H s→(∀b∈fp,QZ X pins H b)→tn i s.heap→J.go i H→
  wpAny (model P w) X.A (pyNext (.ref it)) (fun r s1=>∃u,r=some u∧
   wpAny (model P w) X.A (letOwnedTupleGo tg (.ref it) u) (fun _ s2=>∃x H',Inv X pins σ H' s2∧RelV x u∧J.yld i H x H'∧tn (i+1) s2.heap∧∀b∈fp,H' b=none) E s1) E s
 done:∀(X:Cx),X.prog=P→X.w=w→X.K=K→X.calm=true→∀(i:Nat) (pins:List (Addr×Obj)) (s:Shared) (σ:St) (H:Hp) (E:Value→Shared→Prop),Inv X pins σ H s→(∀b∈fp,QZ X pins H b)→tn i s.heap→J.stop i H→
  wpAny (model P w) X.A (pyNext (.ref it)) (fun r s1=>r=none∧Inv X pins σ H s1) E s
 self:∀(A:Around) (i:Nat) (s:Shared) (Q:Value→Shared→Prop) (E:Value→Shared→Prop),tn i s.heap→Q (.ref it) s→wpAny (model P w) A (pyIter (.ref it)) Q E s
abbrev TI:=St→Hp→(It→Hp→Prop)→Prop
def PIE(X:Cx)(pins:List (Addr×Obj))(σ:St)(tg:Expr)(R:It→Hp→Prop)(itv:Value)(s2:Shared):Prop:=
 ∃(it:Addr) (fp:List Addr) (tn:Nat→Heap→Prop) (J:It) (H':Hp),itv= .ref it∧Inv X pins σ H' s2∧Turn X.prog X.w X.K tg J fp it tn∧tn 0 s2.heap∧(∀b∈fp,QZ X pins H' b)∧R J H'
def PI(X:Cx)(tg iter:Expr)(wi:TI):Prop:=
 ∀(pins:List (Addr×Obj)) (s:Shared) (σ:St) (H:Hp) (R:It→Hp→Prop),Inv X pins σ H s→wi σ H R→
  wpAny (model X.prog X.w) X.A (eval iter X.env) (fun v s1=>wpAny (model X.prog X.w) X.A (pyIter v) (PIE X pins σ tg R) X.xe s1) X.xe s
theorem W_{M:Model}{A:Around}{E:Value→Shared→Prop}{s:Shared}{tg:Expr}{it:Addr}{u:Value}{o:Obj}{n:String}{vs:Array Value}{Q:Unit→Shared→Prop}(ho:s.heap.get? it=some o)(hc:o.cls= .type n)(hd:o.data= .fields vs)
  (hn:["enumerate","zip","dict_itemiterator","dict_reverseitemiterator","odict_iterator","itertools.zip_longest","itertools.pairwise"].contains n=false) (hQ:Q () s):wpAny M A (letOwnedTupleGo tg (.ref it) u) Q E s:=by
 unfold letOwnedTupleGo
 cases tg<;>first
  | exact wpAny_pure hQ
  | (cases u<;>first
    | exact wpAny_pure hQ
    | (refine wpAny_bind (wpAny_load ho ?_)
       rw[hc,hd]
       show wpAny M A (if(["enumerate","zip","dict_itemiterator","dict_reverseitemiterator","odict_iterator","itertools.zip_longest","itertools.pairwise"].contains n&&vs[0]? == some (rawInt _))=true then _ else _) Q E s
       rw[if_neg (by intro h;rw[hn,Bool.false_and]at h;cases h)]
       exact wpAny_pure hQ))
def Itl(K:Frag)(a:Addr):It:=
 ⟨fun i H=>∃xs x,yV K H a xs∧xs[i]? = some x,fun i H x H'=>H'=H∧∀xs,yV K H a xs→xs[i]? = some x,fun i H=>∃xs,yV K H a xs∧xs.length≤i⟩
def Itt(K:Frag)(a:Addr):It:=
 ⟨fun i H=>∃xs x,xq K H a xs∧xs[i]? = some x,fun i H x H'=>H'=H∧∀xs,xq K H a xs→xs[i]? = some x,fun i H=>∃xs,xq K H a xs∧xs.length≤i⟩
def Itr(lo:Int)(n:Nat):It:=⟨fun i _=>i<n,fun i H x H'=>H'=H∧x= .int (lo+i),fun i _=>n≤i⟩
theorem XJ{P:Program}{w:World}{K:Frag}{tg:Expr}(a it:Addr):Turn P w K tg (Itl K a) [it] it (fun i h=>h.IsListIter it a i) where
 mem:=by simp
 obj:=fun i h st b hb=>by
  have e:b=it:=by simpa using hb
  subst e
  obtain⟨o,e,c,d⟩:=st
  exact⟨o,e,fun v z=>by rw[d]at z;cases z⟩
 keep:=fun i h h' st k=>st.at fun o e=>k it (by simp) o e
 item:=by
  intro X hP hw hK hc i pins s σ H E I hf st hg
  subst hP hw hK
  obtain⟨xs,x,hq,hx⟩:=hg
  obtain⟨its,rv,p,hz⟩:=I.list hq
  obtain⟨u,hu,ru⟩:=rv.get hx
  obtain⟨f0,f1,f2,f3,f4,f5⟩:=hf it (by simp)
  refine wpAny_pyNext_list_item st p.isList (x:=u) (by simpa using hu) fun h' st' sb=> ?_
  have I1:Inv X pins σ H {s with heap:=h'}:=I.turned (t':=s.toks) (fun b o hb e=>(sb.2 b hb).trans e) f0 f1 f3 f4 f5
  obtain⟨o,e,c,d⟩:=id st'
  exact⟨u,rfl,W_ (s:={s with heap:=h'}) e c d (by decide) ⟨x,H,I1,ru,⟨rfl,fun ys hy=>by rw[I.R8 hy hq];exact hx⟩,st',fun b hb=>(hf b hb).1⟩⟩
 done:=by
  intro X hP hw hK hc i pins s σ H E I hf st hg
  subst hP hw hK
  obtain⟨xs,hq,hx⟩:=hg
  obtain⟨its,rv,p,hz⟩:=I.list hq
  obtain⟨f0,f1,f2,f3,f4,f5⟩:=hf it (by simp)
  have hl:=rv.length
  exact wpAny_pyNext_list_end (I.ok.hd hc) st p.isList (by simp;omega) fun h' eb=>⟨rfl,I.turned (t':=s.toks) (fun b o hb e=>eb b o hb e) f0 f1 f3 f4 f5⟩
 self:=fun _ _ _ _ _ st h=>wpAny_pyIter_listiter st h
theorem Uh{P:Program}{w:World}{K:Frag}{tg:Expr}(a it:Addr):Turn P w K tg (Itt K a) [it] it (fun i h=>h.IsTupleIter it a i) where
 mem:=by simp
 obj:=fun i h st b hb=>by
  have e:b=it:=by simpa using hb
  subst e
  obtain⟨o,e,c,d⟩:=st
  exact⟨o,e,fun v z=>by rw[d]at z;cases z⟩
 keep:=fun i h h' st k=>st.at fun o e=>k it (by simp) o e
 item:=by
  intro X hP hw hK hc i pins s σ H E I hf st hg
  subst hP hw hK
  obtain⟨xs,x,hq,hx⟩:=hg
  obtain⟨its,rv,p,hz⟩:=I.tuple hq
  obtain⟨u,hu,ru⟩:=rv.get hx
  obtain⟨f0,f1,f2,f3,f4,f5⟩:=hf it (by simp)
  refine wpAny_pyNext_tuple_item st (show s.heap.IsTuple a its.toArray from p) (x:=u) (by simpa using hu) fun h' st' sb=> ?_
  have I1:Inv X pins σ H {s with heap:=h'}:=I.turned (t':=s.toks) (fun b o hb e=>(sb.2 b hb).trans e) f0 f1 f3 f4 f5
  obtain⟨o,e,c,d⟩:=id st'
  exact⟨u,rfl,W_ (s:={s with heap:=h'}) e c d (by decide) ⟨x,H,I1,ru,⟨rfl,fun ys hy=>by rw[I.Mu hy hq];exact hx⟩,st',fun b hb=>(hf b hb).1⟩⟩
 done:=by
  intro X hP hw hK hc i pins s σ H E I hf st hg
  subst hP hw hK
  obtain⟨xs,hq,hx⟩:=hg
  obtain⟨its,rv,p,hz⟩:=I.tuple hq
  obtain⟨f0,f1,f2,f3,f4,f5⟩:=hf it (by simp)
  have hl:=rv.length
  exact wpAny_pyNext_tuple_end (I.ok.hd hc) st (show s.heap.IsTuple a its.toArray from p) (by simp;omega) fun h' eb=>⟨rfl,I.turned (t':=s.toks) (fun b o hb e=>eb b o hb e) f0 f1 f3 f4 f5⟩
 self:=fun _ _ _ _ _ st h=>wpAny_pyIter_tupleiter st h
theorem Ui{P:Program}{w:World}{K:Frag}{tg:Expr}(it:Addr)(lo:Int)(n:Nat):Turn P w K tg (Itr lo n) [it] it (fun i h=>IsRangeIter h it (lo+(i:Nat)*1) ((n:Int) - (i:Nat)) 1) where
 mem:=by simp
 obj:=fun i h st b hb=>by
  have e:b=it:=by simpa using hb
  subst e
  exact⟨_,st,fun v z=>by
   have z':Data.fields _=Data.cell v:=z
   cases z'⟩
 keep:=fun i h h' st k=>k it (by simp) _ st
 item:=by
  intro X hP hw hK hc i pins s σ H E I hf st hg
  subst hP hw hK
  obtain⟨f0,f1,f2,f3,f4,f5⟩:=hf it (by simp)
  have W:=Walks.range (prog:=X.prog) (w:=X.w) (I.ok.hd hc) it lo 1 n
  refine W.item i s _ _ hg st fun v h' tk hv st' kk=> ?_
  obtain⟨t,rfl⟩:=hv
  have I1:Inv X pins σ H {s with heap:=h',toks:=tk}:=I.turned (fun b o hb e=>kk b o (by simpa using hb) e) f0 f1 f3 f4 f5
  refine⟨_,rfl,W_ (s:={s with heap:=h',toks:=tk}) (n:= "range_iterator") st' rfl rfl (by decide) ⟨.int (lo+i),H,I1,⟨t,?_⟩,⟨rfl,rfl⟩,st',fun b hb=>(hf b hb).1⟩⟩
  rw[Int.mul_one]
 done:=by
  intro X hP hw hK hc i pins s σ H E I hf st hg
  subst hP hw hK
  obtain⟨f0,f1,f2,f3,f4,f5⟩:=hf it (by simp)
  exact wpAny_pyNext_range_end (I.ok.hd hc) st (by have:n≤i:=hg;omega) fun h' eb=>⟨rfl,I.turned (t':=s.toks) (fun b o hb e=>eb b o hb e) f0 f1 f3 f4 f5⟩
 self:=fun _ _ _ _ _ st h=>wpAny_pyIter_rangeiter st h
section
variable{X:Cx}{tg:Expr}
theorem aaw{pins:List (Addr×Obj)}{σ:St}{H:Hp}{s:Shared}{R:It→Hp→Prop}{E:Value→Shared→Prop}{lo hi:Int}{t u v:Tok}{tk:Nat}(I:Inv X pins σ H s)(h1: -(2 ^ 62)≤lo)(h2:lo<2 ^ 62)(h3: -(2 ^ 62)≤hi)(h4:hi<2 ^ 62)
  (q:R (Itr lo (hi - lo).toNat) H):wpAny (model X.prog X.w) X.A (pyIter (.ref s.heap.objs.size)) (PIE X pins σ tg R) E {s with heap:=s.heap.push {cls:= .type "range",data:= .fields #[.int lo t,.int hi u,.int 1 v]},toks:=tk}:=by
 refine wpAny_pyIter_range (IsRange.new ..) (small_one h1 h2 h3 h4) ?_
 have I1:Inv X pins σ H {s with heap:=s.heap.push {cls:= .type "range",data:= .fields #[.int lo t,.int hi u,.int 1 v]},toks:=tk}:=I.kept fun b o e=>Heap.get?_push_of_some _ e
 refine⟨(s.heap.push {cls:= .type "range",data:= .fields #[.int lo t,.int hi u,.int 1 v]}).objs.size,[(s.heap.push {cls:= .type "range",data:= .fields #[.int lo t,.int hi u,.int 1 v]}).objs.size],_,_,H,rfl,
  I1.kept (t':=tk) fun b o e=>Heap.get?_push_of_some _ e,Ui _ lo (hi - lo).toNat,?_,fun b hb=> ?_,q⟩
 ·have e1:lo+((0:Nat):Int)*1=lo:=by simp
  have e2:(((hi - lo).toNat:Nat):Int) - ((0:Nat):Int)=Builtin.Range.rangeSize lo hi 1:=by rw[rangeSize_one];split<;>omega
  show IsRangeIter _ _ (lo+((0:Nat):Int)*1) ((((hi - lo).toNat:Nat):Int) - ((0:Nat):Int)) 1
  rw[e1,e2]
  exact Heap.get?_push_size _ rfl
 ·have e:b=(s.heap.push {cls:= .type "range",data:= .fields #[.int lo t,.int hi u,.int 1 v]}).objs.size:=by simpa using hb
  subst e
  exact I1.adz (Nat.le_refl _) (I1.hok.fresh (Nat.le_refl _))
def akx(ta:TA):TI:=fun σ H R=>ta σ H fun vs H1=>∃j:Int,vs=[.int j]∧ -(2 ^ 62)≤j∧j<2 ^ 62∧R (Itr 0 j.toNat) H1
theorem Yg{a:Expr}{ta:TA}{p pos:Pos}(hg:Gl X "range")(hm:X.mg "range" = none)(ha:PA X [a] ta)(hs:starEach [a] X.env=[(false,eval a X.env)]:=by rfl):PI X tg (.Call (.Name "range" p) [a] [] pos) (akx ta):=by
 intro pins s σ H R I h
 refine Call_ (Qe I hg hm boot_range (PyProof.Rows.callWith_type1 (mz (ha pos pins s σ H _ I h) fun us s1 ⟨vs,H1,I1,r1,q1⟩=> ?_) hs rfl))
 obtain⟨j,e,q1,q2,q⟩:=q1
 subst e
 cases r1 with
 | cons r rr=>
  cases rr
  obtain⟨t,rfl⟩:=r
  exact call_range_1 (aaw I1 (by omega) (by omega) q1 q2 (by simpa using q))
def apg(wi:TI)(g:TG)(tb:TS):TS:=fun D σ H=>wi σ H fun J H1=>∃W:Nat→Nat→St→Hp→Prop,(∃m,W 0 m σ H1)∧∀i m σ H,W i m σ H→
 (J.stop i H∧D.nx σ H)∨(J.go i H∧∃N:St→Hp→Prop,(∀σ' H',N σ' H'→∃m',m'<m∧W (i+1) m' σ' H')∧∀x H',J.yld i H x H'→g x σ H' fun σ2 H2=>tb {D with nx:=N,ct:=N,bk:=D.nx} σ2 H2)
def Km(fp:List Addr)(h:Heap):List (Addr×Obj):=fp.filterMap fun b=>(h.get? b).map fun o=>(b,o)
theorem zP{fp:List Addr}{h:Heap}{b:Addr}{o:Obj}(hb:b∈fp)(e:h.get? b=some o):(b,o)∈Km fp h:=List.mem_filterMap.mpr ⟨b,hb,by rw[e];rfl⟩
theorem Yo{fp:List Addr}{h:Heap}{p:Addr×Obj}(hp:p∈Km fp h):p.1∈fp∧h.get? p.1=some p.2:=by
 obtain⟨b,hb,e⟩:=List.mem_filterMap.mp hp
 cases q:h.get? b with
 | none=>rw[q]at e;cases e
 | some o=>
  rw[q]at e
  have e':(b,o)=p:=Option.some.inj e
  subst e'
  exact⟨hb,q⟩
theorem Inv.pinned{pins:List (Addr×Obj)}{σ:St}{H:Hp}{s:Shared}{fp:List Addr}(I:Inv X pins σ H s)(hf:∀b∈fp,QZ X pins H b)(ho:∀b∈fp,∃o,s.heap.get? b=some o∧∀v,o.data≠ .cell v):Inv X (pins++Km fp s.heap) σ H s:=
 I.Gg fun p hp=>(List.mem_append.mp hp).elim (fun z=>I.pin p (List.mem_append_right _ z)) fun z=>by
  obtain⟨hb,e⟩:=Yo z
  obtain⟨f0,f1,f2,_⟩:=hf p.1 hb
  obtain⟨o,e',d⟩:=ho p.1 hb
  rw[e]at e';cases e'
  exact⟨e,f0,f1,f2,d⟩
theorem Inv.FJ{pins pl:List (Addr×Obj)}{σ:St}{H:Hp}{s:Shared}(I:Inv X (pins++pl) σ H s):Inv X pins σ H s:=I.Gg fun p hp=>I.pin p (List.mem_append_right _ (List.mem_append_left _ hp))
theorem afC{iter:Expr}{body:List Stmt}{wi:TI}{g:TG}{tb:TS}{pos:Pos}(hp:PassesOwn (model X.prog X.w) X.A X.env X.xe)(hc:X.calm=true)(hi:PI X tg iter wi)(hg:PG X tg g)(hb:Jl X body tb)
  (hs:∀x,foldedSetIterable iter X.env x=pure x:=by intro _;rfl):PS X (.For tg iter body [] pos) (apg wi g tb):=by
 intro pins s σ H D I h
 refine wpAny_For (mz (hi pins s σ H _ I h) fun v s1 h1=>mz h1 fun itv s2 h2=> ?_) hs
 obtain⟨it,fp,tn,J,H2,e,I2,T,st2,f2,W,⟨m0,w0⟩,turn⟩:=h2
 subst e
 have stat:∀{H':Hp},(∀b∈fp,H' b=none)→∀b∈fp,QZ X pins H' b:=fun hn b hb=>⟨hn b hb,(f2 b hb).2⟩
 refine codeAny_forLoop_any (fun n s'=>∃i σ' H',Inv X pins σ' H' s'∧tn i s'.heap∧(∀b∈fp,H' b=none)∧W i n σ' H') ?_ m0 ⟨0,σ,H2,I2,st2,fun b hb=>(f2 b hb).1,w0⟩
 rintro n s3 ⟨i,σ3,H3,I3,st3,fr3,w3⟩
 rcases turn i n σ3 H3 w3 with⟨stop,qn⟩ | ⟨go,N,hN,step⟩
 ·refine wpAny_passesOwn hp (mz (T.done X rfl rfl rfl hc i pins s3 σ3 H3 X.xe I3 (stat fr3) st3 stop) fun r s4 ⟨hr,I4⟩=> ?_)
  subst hr
  exact wpAny_execs_nil ⟨σ3,H3,I4,qn⟩
 ·refine wpAny_passesOwn hp (mz (T.item X rfl rfl rfl hc i pins s3 σ3 H3 X.xe I3 (stat fr3) st3 go) fun r s4 ⟨u,hr,h4⟩=> ?_)
  subst hr
  refine wpAny_passesOwn hp (mz h4 fun _ s5 ⟨x,H5,I5,r5,y5,st5,fr5⟩=> ?_)
  have I5':=I5.pinned (stat fr5) (T.obj _ _ st5)
  refine wpAny_passesOwn hp (mz (hg _ s5 σ3 H5 x u _ I5' r5 (step x H5 y5)) fun _ s6 ⟨σ6,H6,I6,q6⟩=> ?_)
  refine wpAny_passesOwn hp (mz (hb _ s6 σ6 H6 _ I6 q6) fun f s7 q7=> ?_)
  have again:∀{Zn:St} {H7:Hp},Inv X (pins++Km fp s5.heap) Zn H7 s7→N Zn H7→∃m,m<n∧∃i σ' H',Inv X pins σ' H' s7∧tn i s7.heap∧(∀b∈fp,H' b=none)∧W i m σ' H':=fun{Zn H7} I7 n7=>by
   obtain⟨m',hm,w7⟩:=hN Zn H7 n7
   refine⟨m',hm,i+1,Zn,H7,I7.FJ,T.keep _ _ _ st5 fun b hb o e=>(I7.pin (b,o) (List.mem_append_right _ (List.mem_append_right _ (zP hb e)))).1,fun b hb=> ?_,w7⟩
   obtain⟨o,e,d⟩:=T.obj _ _ st5 b hb
   exact(I7.pin (b,o) (List.mem_append_right _ (List.mem_append_right _ (zP hb e)))).2.1
  cases f with
  | next=>obtain⟨Zn,H7,I7,n7⟩:=q7;exact again I7 n7
  | cont=>obtain⟨Zn,H7,I7,n7⟩:=q7;exact again I7 n7
  | brk=>obtain⟨Zn,H7,I7,q7⟩:=q7;exact⟨Zn,H7,I7.FJ,q7⟩
  | ret v=>obtain⟨x7,Zn,H7,I7,r7,q7⟩:=q7;exact⟨x7,Zn,H7,I7.FJ,r7,q7⟩
end
abbrev R2:=V→V→Hp→VK→Prop
def Bs(X:Cx)(f:Value→Value→Sem Value)(r:R2):Prop:=
 ∀(pins:List (Addr×Obj)) (s:Shared) (σ:St) (H:Hp) (x y:V) (v u:Value) (Q:VK),Inv X pins σ H s→RelV x v→RelV y u→r x y H Q→
  wpAny (model X.prog X.w) X.A (f v u) (EP X pins σ Q) X.xe s
def UnR(X:Cx)(f:Value→Sem Value)(r:V→Hp→VK→Prop):Prop:=
 ∀(pins:List (Addr×Obj)) (s:Shared) (σ:St) (H:Hp) (x:V) (v:Value) (Q:VK),Inv X pins σ H s→RelV x v→r x H Q→
  wpAny (model X.prog X.w) X.A (f v) (EP X pins σ Q) X.xe s
def sJ(X:Cx)(f:Value)(r:List V→Hp→VK→Prop):Prop:=
 ∀(pins:List (Addr×Obj)) (s:Shared) (σ:St) (H:Hp) (xs:List V) (us:List Value) (Q:VK),Inv X pins σ H s→Vals xs us→r xs H Q→
  wpAny (model X.prog X.w) X.A (call f us) (EP X pins σ Q) X.xe s
def tOp(r:R2)(ta tb:TE):TE:=fun σ H Q=>ta σ H fun x H1=>tb σ H1 fun y H2=>r x y H2 Q
def tUn(r:V→Hp→VK→Prop)(ta:TE):TE:=fun σ H Q=>ta σ H fun x H1=>r x H1 Q
def rI(C:Int→Int→Prop)(g:Int→Int→V):R2:=fun x y H Q=>∃i j,x= .int i∧y= .int j∧C i j∧Q (g i j) H
def rI0(g:Int→Int→V):R2:=fun x y H Q=>∃i j,x= .int i∧y= .int j∧Q (g i j) H
def rU(g:Int→V):V→Hp→VK→Prop:=fun x H Q=>∃i,x= .int i∧Q (g i) H
section
variable{X:Cx}{a b c:Expr}{ta tb tc:TE}{pos:Pos}
theorem ahv(ha:PE X a ta)(hb:PE X b tb){pins:List (Addr×Obj)}{s:Shared}{σ:St}{H:Hp}{R:V→V→Hp→Prop}(I:Inv X pins σ H s)
  (h:ta σ H fun x H1=>tb σ H1 fun y H2=>R x y H2) {Q:Value→Shared→Prop} {f:Value→Value→Sem Value}
  (hf:∀v u s2 x y H2,Inv X pins σ H2 s2→RelV x v→RelV y u→R x y H2→wpAny (model X.prog X.w) X.A (f v u) Q X.xe s2):
  wpAny (model X.prog X.w) X.A (eval a X.env) (fun v s₁=>wpAny (model X.prog X.w) X.A (eval b X.env) (fun u s₂=>wpAny (model X.prog X.w) X.A (f v u) Q X.xe s₂) X.xe s₁) X.xe s:=by
 refine mz (ha pins s σ H _ I h) fun v s1 ⟨x,H1,I1,r1,q1⟩=> ?_
 refine mz (hb pins s1 σ H1 _ I1 q1) fun u s2 ⟨y,H2,I2,r2,q2⟩=> ?_
 exact hf v u s2 x y H2 I2 r1 r2 q2
theorem ajp{op:Operator}{r:R2}(ho:Bs X (binaryOp op) r)(ha:PE X a ta)(hb:PE X b tb):PE X (.BinOp a op b pos) (tOp r ta tb):=by
 intro pins s σ H Q I h
 exact wpAny_BinOp (ahv ha hb I h fun v u s2 x y H2 I2 rx ry q=>ho pins s2 σ H2 x y v u Q I2 rx ry q)
theorem ajn{op:UnaryOp}{r:V→Hp→VK→Prop}(ho:UnR X (unaryOp op) r)(ha:PE X a ta):PE X (.UnaryOp op a pos) (tUn r ta):=by
 intro pins s σ H Q I h
 exact UnaryOp_ (mz (ha pins s σ H _ I h) fun v s1 ⟨x,H1,I1,r1,q1⟩=>ho pins s1 σ H1 x v Q I1 r1 q1)
theorem opI{f:Value→Value→Sem Value}{C:Int→Int→Prop}{g:Int→Int→Int}
  (rule:∀(i j:Int) (t u:Tok) (s:Shared) (Q:Value→Shared→Prop) (E:Value→Shared→Prop),C i j→Q (.int (g i j) s.toks) {s with toks:=s.toks+1}→wpAny (model X.prog X.w) X.A (f (.int i t) (.int j u)) Q E s):
  Bs X f (rI C fun i j=> .int (g i j)):=by
 intro pins s σ H x y v u Q I rx ry h
 obtain⟨i,j,rfl,rfl,hc,q⟩:=h
 obtain⟨t,rfl⟩:=rx
 obtain⟨t',rfl⟩:=ry
 exact rule i j t t' s _ _ hc ⟨.int (g i j),H,I.tok _,⟨_,rfl⟩,q⟩
theorem ajx{f:Value→Value→Sem Value}{g:Int→Int→Int}
  (rule:∀(i j:Int) (t u:Tok) (s:Shared) (Q:Value→Shared→Prop) (E:Value→Shared→Prop),Q (.int (g i j) s.toks) {s with toks:=s.toks+1}→wpAny (model X.prog X.w) X.A (f (.int i t) (.int j u)) Q E s):
  Bs X f (rI0 fun i j=> .int (g i j)):=by
 intro pins s σ H x y v u Q I rx ry h
 obtain⟨i,j,rfl,rfl,q⟩:=h
 obtain⟨t,rfl⟩:=rx
 obtain⟨t',rfl⟩:=ry
 exact rule i j t t' s _ _ ⟨.int (g i j),H,I.tok _,⟨_,rfl⟩,q⟩
theorem acV{f:Value→Value→Sem Value}{g:Int→Int→Bool}
  (rule:∀(i j:Int) (t u:Tok) (s:Shared) (Q:Value→Shared→Prop) (E:Value→Shared→Prop),Q (.bool (g i j)) s→wpAny (model X.prog X.w) X.A (f (.int i t) (.int j u)) Q E s):
  Bs X f (rI0 fun i j=> .bl (g i j)):=by
 intro pins s σ H x y v u Q I rx ry h
 obtain⟨i,j,rfl,rfl,q⟩:=h
 obtain⟨t,rfl⟩:=rx
 obtain⟨t',rfl⟩:=ry
 exact rule i j t t' s _ _ ⟨.bl (g i j),H,I,rfl,q⟩
def ash(i j:Int):Prop:=0<j∧j<1073741824
def amu(i j:Int):Prop:=0≤j∧j≤1000000∧i.natAbs<2 ^ 64
def ahI(i j:Int):Prop:=(-(2 ^ 64)<i∧i<2 ^ 64)∨(-(2 ^ 64)<j∧j<2 ^ 64)
theorem ahI.ok{i j:Int}(h:ahI i j):IntMulOk i j:=by
 rcases h with⟨h1,h2⟩ | ⟨h1,h2⟩
 ·exact .of_left (intBits_le_64 h1 h2)
 ·exact .of_right (intBits_le_64 h1 h2)
theorem af8:Bs X (binaryOp .Add) (rI0 fun i j=> .int (i+j)):=ajx fun _ _ _ _ _ _ _ q=>add_int q
theorem afY:Bs X (binaryOp .Sub) (rI0 fun i j=> .int (i - j)):=ajx fun _ _ _ _ _ _ _ q=>sub_int q
theorem af2:Bs X (binaryOp .Mult) (rI ahI fun i j=> .int (i*j)):=opI fun _ _ _ _ _ _ _ hc q=>mul_int q hc.ok
theorem acT:Bs X (binaryOp .FloorDiv) (rI ash fun i j=> .int (i / j)):=opI fun i j _ _ _ _ _ hc q=>by
 have h1:(0:Int)<j:=hc.1
 have h2:j<1073741824:=hc.2
 exact floordiv_int (by omega) (by rw[Int.fdiv_eq_ediv_of_nonneg i (by omega)];exact q) (.inl (PyProof.noPylong_small (by omega)))
theorem af3:Bs X (binaryOp .Mod) (rI (fun _ j=>0<j) fun i j=> .int (i % j)):=opI fun i j _ _ _ _ _ hc q=>by
 have h1:(0:Int)<j:=hc
 exact mod_int' (by omega) (by rw[Int.fmod_eq_emod_of_nonneg i (by omega)];exact q)
theorem af0:Bs X (binaryOp .Pow) (rI amu fun i j=> .int (i ^ j.toNat)):=opI fun _ _ _ _ _ _ _ hc q=>pow_int_small hc.1 hc.2.1 hc.2.2 q
theorem afZ:Bs X (binaryOp .LShift) (rI amu fun i j=> .int (i*2 ^ j.toNat)):=opI fun _ _ _ _ _ _ _ hc q=>lshift_int_small hc.1 hc.2.1 hc.2.2 q
theorem unI{f:Value→Sem Value}{g:Int→Int}
  (rule:∀(i:Int) (t:Tok) (s:Shared) (Q:Value→Shared→Prop) (E:Value→Shared→Prop),Q (.int (g i) s.toks) {s with toks:=s.toks+1}→wpAny (model X.prog X.w) X.A (f (.int i t)) Q E s):
  UnR X f (rU fun i=> .int (g i)):=by
 intro pins s σ H x v Q I rx h
 obtain⟨i,rfl,q⟩:=h
 obtain⟨t,rfl⟩:=rx
 exact rule i t s _ _ ⟨.int (g i),H,I.tok _,⟨_,rfl⟩,q⟩
theorem aeR:UnR X (unaryOp .USub) (rU fun i=> .int (-i)):=unI fun _ _ _ _ _ q=>neg_int q
end
section
variable{X:Cx}{a b c:Expr}{ta tb tc:TE}{pos:Pos}
theorem Vp{pins:List (Addr×Obj)}{σ:St}{H:Hp}{s:Shared}{Q:VK}{k k':Bool}(I:Inv X pins σ H s)(q:Q (.bl k) H)(e:k=k'):EP X pins σ Q (.bool k') s:=by
 subst e
 exact⟨.bl k,H,I,rfl,q⟩
theorem ajt:Bs X (compareOp .Lt) (rI0 fun i j=> .bl (decide (i<j))):=acV fun _ _ _ _ _ _ _ q=>lt_int q
theorem aju:Bs X (compareOp .LtE) (rI0 fun i j=> .bl (decide (i≤j))):=acV fun _ _ _ _ _ _ _ q=>le_int q
theorem ajv:Bs X (compareOp .Gt) (rI0 fun i j=> .bl (decide (j<i))):=acV fun _ _ _ _ _ _ _ q=>gt_int q
theorem ajw:Bs X (compareOp .GtE) (rI0 fun i j=> .bl (decide (j≤i))):=acV fun _ _ _ _ _ _ _ q=>ge_int q
theorem Yk:Bs X (compareOp .Lt) (fun x y H Q=>∃i j,x= .str i∧y= .str j∧Q (.bl (decide (i.cps.toList<j.cps.toList))) H):=by
 intro pins s σ H x y v u Q I rx ry h
 obtain⟨i,j,rfl,rfl,q⟩:=h
 obtain⟨t,rfl⟩:=rx
 obtain⟨t',rfl⟩:=ry
 exact lt_str (Vp I q rfl)
theorem Ym:Bs X (compareOp .In) (fun x y H Q=>∃i j,x= .str i∧y= .str j∧Q (.bl (!(Builtin.Str.occurrences j i 0 j.length 1).isEmpty)) H):=by
 intro pins s σ H x y v u Q I rx ry h
 obtain⟨i,j,rfl,rfl,q⟩:=h
 obtain⟨t,rfl⟩:=rx
 obtain⟨t',rfl⟩:=ry
 exact in_str (Vp I q rfl)
theorem Bs.or{f:Value→Value→Sem Value}{r r':R2}(h:Bs X f r)(h':Bs X f r'):Bs X f (fun x y H Q=>r x y H Q∨r' x y H Q):=by
 intro pins s σ H x y v u Q I rx ry q
 rcases q with q | q
 ·exact h pins s σ H x y v u Q I rx ry q
 ·exact h' pins s σ H x y v u Q I rx ry q
theorem bU(b:Expr){op:CmpOp}(h:op≠ .In:=by decide)(h2:op≠ .NotIn:=by decide):behindInMarks op b=false:=by
 have e1:(op==CmpOp.In)=false:=by cases op<;>first | rfl | exact absurd rfl h
 have e2:(op==CmpOp.NotIn)=false:=by cases op<;>first | rfl | exact absurd rfl h2
 cases b<;>simp[behindInMarks,e1,e2]
theorem acO{op:CmpOp}{r:R2}(ho:Bs X (compareOp op) r)(ha:PE X a ta)(hb:PE X b tb)(hm:behindInMarks op b=false):PE X (.Compare a [op] [b] pos) (tOp r ta tb):=by
 intro pins s σ H Q I h
 exact wpAny_Compare1 (ahv ha hb I h fun v u s2 x y H2 I2 rx ry q=>ho pins s2 σ H2 x y v u Q I2 rx ry q) hm
def aeg(t:TE):TT:=fun σ H Q=>t σ H fun x H'=>∃k,x= .bl k∧Q k H'
theorem acE{op:CmpOp}{r:R2}(ho:Bs X (compareOp op) r)(ha:PE X a ta)(hb:PE X b tb)(hm:behindInMarks op b=false):PT X (.Compare a [op] [b] pos) (aeg (tOp r ta tb)):=by
 intro pins s σ H Q I h
 refine wpAny_isTrue_Compare1 (mz (ha pins s σ H _ I h) fun v s1 ⟨x,H1,I1,r1,q1⟩=>mz (hb pins s1 σ H1 _ I1 q1) fun u s2 ⟨y,H2,I2,r2,q2⟩=>
  mz (ho pins s2 σ H2 x y v u _ I2 r1 r2 q2) fun c s3 ⟨z,H3,I3,r3,k,e,q3⟩=> ?_) hm
 subst e
 cases r3
 exact wpAny_truthy_bool ⟨H3,I3,q3⟩
theorem KQ:(sizeLine:Nat)<2 ^ 63:=by rw[sizeLine_eq];decide
theorem U0:Bs X (binaryOp .Add) (fun x y H Q=>∃i j,x= .str i∧y= .str j∧i.length+j.length≤sizeLine∧Q (.str (i++j)) H):=by
 intro pins s σ H x y v u Q I rx ry h
 obtain⟨i,j,rfl,rfl,hz,q⟩:=h
 obtain⟨t,rfl⟩:=rx
 obtain⟨t',rfl⟩:=ry
 exact add_str (fun t' tk=>⟨.str (i++j),H,I.tok _,⟨_,rfl⟩,q⟩) hz
theorem vals1{x:V}{us:List Value}(r:Vals [x] us):∃u,us=[u]∧RelV x u:=by
 cases r with
 | cons r1 r2=>cases r2;exact⟨_,rfl,r1⟩
theorem vals2{x y:V}{us:List Value}(r:Vals [x,y] us):∃u w',us=[u,w']∧RelV x u∧RelV y w':=by
 cases r with
 | cons r1 r2=>
  cases r2 with
  | cons r3 r4=>cases r4;exact⟨_,_,rfl,r1,r3⟩
theorem Y4(hc:X.calm=true):sJ X (.builtin "min") (fun xs H Q=>∃i j,xs=[.int i,.int j]∧Q (.int (if j<i then j else i)) H):=by
 intro pins s σ H xs us Q I r h
 obtain⟨i,j,rfl,q⟩:=h
 obtain⟨u,w',rfl,⟨t,rfl⟩,⟨t',rfl⟩⟩:=vals2 r
 refine min_two_ints (I.ok.hd hc) fun h' tk k=>⟨_,H,I.kept k,?_,q⟩
 by_cases hj:j<i
 ·rw[if_pos hj,if_pos hj];exact⟨_,rfl⟩
 ·rw[if_neg hj,if_neg hj];exact⟨_,rfl⟩
theorem NB:sJ X (.type "int") (fun xs H Q=>(∃i,xs=[.int i]∧Q (.int i) H)∨∃k,xs=[.bl k]∧Q (.int (if k then 1 else 0)) H):=by
 intro pins s σ H xs us Q I r h
 rcases h with⟨i,rfl,q⟩ | ⟨k,rfl,q⟩
 ·obtain⟨u,rfl,t,rfl⟩:=vals1 r
  exact call_int_int ⟨.int i,H,I,⟨_,rfl⟩,q⟩
 ·obtain⟨u,rfl,r1⟩:=vals1 r
  cases r1
  exact call_int_bool ⟨.int (if k then 1 else 0),H,I.tok _,⟨_,rfl⟩,q⟩
theorem QD:sJ X (.type "str") (fun xs H Q=>∃i,xs=[.int i]∧i.natAbs.log2<1920∧Q (.str (toString i)) H):=by
 intro pins s σ H xs us Q I r h
 obtain⟨i,rfl,hz,q⟩:=h
 obtain⟨u,rfl,t,rfl⟩:=vals1 r
 exact PySem.P.str_of_int hz ⟨.str _,H,I.tok _,⟨_,rfl⟩,q⟩
end
structure VN(h:Heap)(x dx C:Addr)(mA:Str→Option Value):Prop where
 obj:h.get? x=some (PySem.W.instObj C dx)
 ns:h.Ns1 dx mA
 ne:dx≠x
theorem Hy{h:Heap}{dx:Addr}{mA:Str→Option Value}(n:h.Ns1 dx mA):∃od,h.get? dx=some od∧∀name,PySem.W.lookIn name od=some (mA name):=by
 obtain⟨o,es,ep,ho,hd,hk,_,hm⟩:=n
 refine⟨o,ho,fun name=> ?_⟩
 have e:=hm name
 unfold nsFind findBy at e
 rw[←Array.find?_toList]at e
 unfold PySem.W.lookIn
 rw[hd]
 dsimp only
 split
 ·rename_i y q
  rw[q]at e
  exact congrArg some e
 ·rename_i q
  rw[q]at e
  have a:es.toList.any (·.refKey)=false:=by
   rw[List.any_eq_false]
   intro y hy
   obtain⟨z,t,hkey⟩:=hk y (Array.mem_toList_iff.mp hy)
   simp[DictEntry.refKey,hkey]
  have a':¬es.toList.any (·.refKey)=true:=by rw[a];exact Bool.false_ne_true
  rw[if_neg a']
  exact congrArg some e
theorem VN.look{h:Heap}{x dx C:Addr}{mA:Str→Option Value}(I:VN h x dx C mA):∃od,PySem.W.InstAt h x (PySem.W.instObj C dx) C (some od)∧∀name,PySem.W.lookIn name od=some (mA name):=
 let⟨od,ho,hl⟩:=Hy I.ns
 ⟨od,⟨I.obj,rfl,rfl,ho⟩,hl⟩
section
variable{prog:Program}{w:World}{A:Around}{E:Value→Shared→Prop}{s:Shared}{K:Frag}{x dx C f:Addr}{mA:Str→Option Value}{name:Str}{v:Value}
theorem get_map{expr:Bool}{Q:Value→Shared→Prop}(X:K.In s.heap)(I:VN s.heap x dx C mA)(hg:PySem.W.plainGet K C name=true)(hh:PySem.W.hasDictIn K C=true)
  (ha:findIn K (.ref C) name=some none) (hv:mA name=some v) (hv':PySem.W.handedIn v=true) (h:Q v {s with toks:=s.toks+1}):
  wpAny (model prog w) A (getAttr (.ref x) name expr) Q E s:=by
 obtain⟨od,J,hl⟩:=I.look
 exact PySem.W.get_value X J (PySem.W.plainGet_of hg).1 (PySem.W.findObj_own hh ha rfl (by rw[hl,hv])) hv' h
theorem abj{pl:Sem Bool}{Q:Value×List Value→Shared→Prop}(X:K.In s.heap)(I:VN s.heap x dx C mA)(hg:PySem.W.plainGet K C name=true)
  (hf:findIn K (.ref C) name=some (some (.ref f))) (ht:isFn K (.ref f)=true) (hv:mA name=none) (h:Q (.ref f,[.ref x]) s):
  wpAny (model prog w) A (getMethod (.ref x) name pl) Q E s:=by
 obtain⟨od,J,hl⟩:=I.look
 exact PySem.W.method_fn X J (PySem.W.plainGet_of hg).1 (PySem.W.plainGet_of hg).2 hf (beq_iff_eq.mp ht) (by show(PySem.W.lookIn name od).map (·.isSome)=some false;rw[hl,hv];rfl) h
theorem ack{ns:List Str}{Q:Unit→Shared→Prop}(X:K.In s.heap)(I:VN s.heap x dx C mA)
  (hs:findIn K (.ref C) "__setattr__" = some (some (.builtin "object.__setattr__"))) (hp:PySem.W.plainOver K C=true) (ht:PySem.W.takerIn K C name=some none) (hh:PySem.W.hasDictIn K C=true)
  (hw:PySem.Within mA ns) (hsz:ns.length≤sizeLine)
  (h:∀h',VN h' x dx C (fun y=>if y=name then some v else mA y)→Heap.SameBut dx s.heap h'→Q () {s with heap:=h',toks:=s.toks+2}):
  wpAny (model prog w) A (setAttr (.ref x) name v) Q E s:=by
 obtain⟨od,J,hl⟩:=I.look
 refine PySem.W.set_plain X J hs (PySem.W.osa_open (s:={s with toks:=s.toks+1}) (r:=none) X J hp ht fun b=> ?_)
 obtain⟨cd,hc,hd'⟩:=PySem.W.any_some hh
 have hx:s.heap.get? x=some ⟨.ref C,some dx,.plain,#[]⟩:=I.obj
 refine wpAny_bind (wpAny_pure (wpAny_bind (wpAny_bind (wpAny_loadPart hx (wpAny_bind (PySem.W.Looks.here (s:={s with toks:=s.toks+1}) (PySem.W.looks_clsIn X hc) ?_))))))
 rw[hd']
 refine wpAny_pure (a:=some dx) (wpAny_bind (wpAny_pure (wpAny_bind ?_)))
 refine wpAny_nsSet1 (s:={s with toks:=s.toks+1}) I.ns fun h' hn2 hs2=> ?_
 obtain⟨oD,esD,epD,hoD,hdD,hcD⟩:=hn2.count (PySem.Within.cons name v hw)
 refine wpAny_bind (wpAny_lookBehind hoD (by rw[hdD];exact pastItsLine_dict (Nat.le_trans hcD (by rw[List.length_cons];omega))) ?_)
 exact wpAny_pure (h _ ⟨(hs2.2 _ (Ne.symm I.ne)).trans I.obj,hn2,I.ne⟩ hs2)
theorem aa0{R:Result→Shared→Prop}{vs:List Value}{kw:List (Str×Value)}(X:K.In s.heap)(hm:PySem.W.makesIn K C=true)
  (hi:findIn K (.ref C) "__init__" = some (some (.ref f))) (hf:PySem.W.typeIn K (.ref f)=some (.type "function"))
  (h:codeAny (model prog w) (A.under (.builtin "type.__call__" ⟨.ref C::vs,kw⟩)) (.call (.ref f) ⟨.ref (s.heap.objs.size+1)::vs,kw⟩) (PySem.W.InitBack (s.heap.objs.size+1) R)
   {s with heap:=(s.heap.push PySem.W.emptyDict).push (PySem.W.instObj C s.heap.objs.size)}):
  codeAny (model prog w) A (.call (.ref C) ⟨vs,kw⟩) R s:=by
 obtain⟨hh,g,d,t,os⟩:=s
 exact PySem.W.make_core (PySem.W.makes_of X hm) (PySem.W.looks_findIn X hi) (fun self=>PySem.W.bind_fn X self hf) (.inl rfl) h
end
def yf(f:Str)(v:V):List (Str×V)→List (Str×V)
 | []=>[(f,v)]
 | (g,x)::r=>if g=f then(g,v)::r else(g,x)::yf f v r
theorem Io(f g:Str)(v:V):∀fs:List (Str×V),(yf f v fs).lookup g=if g=f then some v else fs.lookup g
 | []=>by
  show List.lookup g [(f,v)]=_
  by_cases h:g=f
  ·have hb:(g==f)=true:=beq_iff_eq.mpr h
   simp only[List.lookup,hb,if_pos h]
  ·have hb:(g==f)=false:=beq_eq_false_iff_ne.mpr h
   simp only[List.lookup,hb,if_neg h]
 | (k,x)::r=>by
  have ih:=Io f g v r
  rw[show yf f v ((k,x)::r)=(if k=f then(k,v)::r else(k,x)::yf f v r)from rfl]
  by_cases hk:k=f
  ·rw[if_pos hk]
   by_cases h:g=k
   ·have hb:(g==k)=true:=beq_iff_eq.mpr h
    simp only[List.lookup,hb,if_pos (h.trans hk)]
   ·have hb:(g==k)=false:=beq_eq_false_iff_ne.mpr h
    simp only[List.lookup,hb,if_neg (fun e:g=f=>h (e.trans hk.symm))]
  ·rw[if_neg hk]
   by_cases h:g=k
   ·have hb:(g==k)=true:=beq_iff_eq.mpr h
    simp only[List.lookup,hb,if_neg (fun e:g=f=>hk (h.symm.trans e))]
   ·have hb:(g==k)=false:=beq_eq_false_iff_ne.mpr h
    simp only[List.lookup,hb]
    exact ih
theorem Hz(f:Str)(v:V):∀fs:List (Str×V),f∈(yf f v fs).map (·.1)∧∀g,g∈fs.map (·.1)→g∈(yf f v fs).map (·.1)
 | []=>⟨by simp[yf],fun g h=>by simp at h⟩
 | (k,x)::r=>by
  obtain⟨i1,i2⟩:=Hz f v r
  rw[show yf f v ((k,x)::r)=(if k=f then(k,v)::r else(k,x)::yf f v r)from rfl]
  by_cases hk:k=f
  ·rw[if_pos hk]
   subst hk
   exact⟨by simp,fun g h=>by simpa using h⟩
  ·rw[if_neg hk]
   refine⟨?_,fun g h=> ?_⟩
   ·rw[List.map_cons]
    exact List.mem_cons_of_mem _ i1
   ·rw[List.map_cons]at h ⊢
    rcases List.mem_cons.mp h with e | e
    ·exact List.mem_cons.mpr (.inl e)
    ·exact List.mem_cons_of_mem _ (i2 g e)
theorem Ip(f:Str)(v:V):∀fs:List (Str×V),(yf f v fs).length≤fs.length+1
 | []=>by simp[yf]
 | (k,x)::r=>by
  have ih:=Ip f v r
  rw[show yf f v ((k,x)::r)=(if k=f then(k,v)::r else(k,x)::yf f v r)from rfl]
  by_cases hk:k=f
  ·rw[if_pos hk,List.length_cons,List.length_cons];omega
  ·rw[if_neg hk,List.length_cons,List.length_cons];omega
theorem DG.some_of{v:V}{o:Option Value}(r:DG (some v) o):∃u,o=some u∧RelV v u:=by
 cases o with
 | none=>exact(show False from r).elim
 | some u=>exact⟨u,rfl,r⟩
theorem DG.none_of{o:Option Value}(r:DG none o):o=none:=by
 cases o with
 | none=>rfl
 | some u=>exact(show False from r).elim
theorem Np{v:V}{u:Value}(r:RelV v u):PySem.W.handedIn u=true:=by
 cases v with
 | non=>cases(show u=Value.none from r);rfl
 | bl b=>cases(show u=Value.bool b from r);rfl
 | int i=>obtain⟨t,e⟩:=(show ∃t,u=Value.int i t from r);cases e;rfl
 | str x=>obtain⟨t,e⟩:=(show ∃t,u=Value.str x t from r);cases e;rfl
 | byt b=>obtain⟨t,e⟩:=(show ∃t,u=Value.bytes b t from r);cases e;rfl
 | flt b=>obtain⟨t,e⟩:=(show ∃t,u=Value.float b t from r);cases e;rfl
 | ref a=>cases(show u=Value.ref a from r);rfl
 | ty n=>cases(show u=Value.type n from r);rfl
section
variable{P:Program}{w:World}{H H':Hp}{h h':Heap}{a C dx:Addr}{fs fs':List (Str×V)}
theorem JF(hok:Br P w H h)(e:H a=some (.ins C dx fs)):∃mA,VN h a dx C mA∧(∀f,DG (fs.lookup f) (mA f))∧PySem.Within mA (fs.map (·.1))∧fs.length≤1000∧H dx=some (.own a):=by
 obtain⟨d,z,ne,ob,mA,n,r,q⟩:=(show jr P w H h a (.ins C dx fs)from hok a _ e)
 exact⟨mA,⟨ob,n,ne⟩,r,q,z,d⟩
end
structure T7(K:Frag)(C:Addr):Prop where
 pg:PySem.W.plainGet K C Str.empty=true
 hd:PySem.W.hasDictIn K C=true
 po:PySem.W.plainOver K C=true
 sa:findIn K (.ref C) "__setattr__" = some (some (.builtin "object.__setattr__"))
theorem T7.get{K:Frag}{C:Addr}(c:T7 K C)(f:Str):PySem.W.plainGet K C f=true:=c.pg
def m9(K:Frag)(C:Addr)(f:Str):Prop:=findIn K (.ref C) f=some none
theorem m9.taker{K:Frag}{C:Addr}{f:Str}(n:m9 K C f):PySem.W.takerIn K C f=some none:=by
 unfold PySem.W.takerIn
 rw[show findIn K (.ref C) f=some none from n]
 rfl
structure Meth(K:Frag)(C:Addr)(m:Str)(f:Addr):Prop where
 at_:findIn K (.ref C) m=some (some (.ref f))
 fn:isFn K (.ref f)=true
 kp:keepIn K (.ref f)=true
section
variable{X:Cx}{pins:List (Addr×Obj)}{σ:St}{H:Hp}{s:Shared}{a C dx:Addr}{fs:List (Str×V)}{f:Str}{v:V}{A:Around}{E:Value→Shared→Prop}
theorem Vn{b:Bool}{Q:Value→Shared→Prop}(I:Inv X pins σ H s)(e:H a=some (.ins C dx fs))(c:T7 X.K C)(n:m9 X.K C f)(l:fs.lookup f=some v)
  (h:∀u s',Inv X pins σ H s'→RelV v u→Q u s'):wpAny (model X.prog X.w) A (getAttr (.ref a) f b) Q E s:=by
 obtain⟨mA,O,r,_,_,_⟩:=JF I.hok e
 obtain⟨u,hu,ru⟩:=DG.some_of (v:=v) (o:=mA f) (by rw[←l];exact r f)
 exact get_map I.yX O (c.get f) c.hd n hu (Np ru) (h u _ (I.tok _) ru)
theorem K3{m:Str}{g:Addr}{pl:Sem Bool}{Q:Value×List Value→Shared→Prop}(I:Inv X pins σ H s)(e:H a=some (.ins C dx fs))(c:T7 X.K C)(k:Meth X.K C m g)(l:fs.lookup m=none)
  (h:Q (.ref g,[.ref a]) s):wpAny (model X.prog X.w) A (getMethod (.ref a) m pl) Q E s:=by
 obtain⟨mA,O,r,_,_,_⟩:=JF I.hok e
 have hn:mA m=none:=DG.none_of (by rw[←l];exact r m)
 exact abj I.yX O (c.get m) k.at_ k.fn hn h
theorem Ur{y:V}{u:Value}{Q:Unit→Shared→Prop}(I:Inv X pins σ H s)(e:H a=some (.ins C dx fs))(c:T7 X.K C)(n:m9 X.K C f)(hl:fs.length<1000)(ry:RelV y u)
  (h:∀s',Inv X pins σ (upd H a (.ins C dx (yf f y fs))) s'→Q () s'):wpAny (model X.prog X.w) A (setAttr (.ref a) f u) Q E s:=by
 obtain⟨mA,O,r,wi,_,ho⟩:=JF I.hok e
 have hz:(fs.map (·.1)).length≤sizeLine:=by rw[List.length_map,sizeLine_eq];omega
 refine ack I.yX O c.sa c.po n.taker c.hd wi hz fun h' O' sb=>h _ ?_
 have hd:∃o,h'.get? dx=some o:=let⟨o,_,_,e',_⟩:=O'.ns;⟨o,e'⟩
 refine I.write (x:=a) (e:=dx) (by rw[e];exact True.intro) (.inr ho) (fun b q hb z=>(sb.2 b hb).trans z) hd ?_
 refine⟨by rw[bG O.ne];exact ho,?_,O.ne,O'.obj,_,O'.ns,fun g=> ?_,fun g hg=> ?_⟩
 ·have:=Ip f y fs;omega
 ·show DG ((yf f y fs).lookup g) (if g=f then some u else mA g)
  rw[Io]
  by_cases q:g=f
  ·rw[if_pos q,if_pos q];exact ry
  ·rw[if_neg q,if_neg q];exact r g
 ·by_cases q:g=f
  ·rw[q];exact(Hz f y fs).1
  ·refine(Hz f y fs).2 g (wi g fun z=>hg ?_)
   show(if g=f then some u else mA g)=none
   rw[if_neg q];exact z
theorem Inv.made(I:Inv X pins σ H s):Inv X pins σ (upd (upd H s.heap.objs.size (.own (s.heap.objs.size+1))) (s.heap.objs.size+1) (.ins C s.heap.objs.size []))
  {s with heap:=(s.heap.push PySem.W.emptyDict).push (PySem.W.instObj C s.heap.objs.size)}:=by
 have e1:(s.heap.push PySem.W.emptyDict).get? s.heap.objs.size=some PySem.W.emptyDict:=Heap.get?_push_size s.heap rfl
 have e2:((s.heap.push PySem.W.emptyDict).push (PySem.W.instObj C s.heap.objs.size)).get? (s.heap.objs.size+1)=some (PySem.W.instObj C s.heap.objs.size):=by
  have:=Heap.get?_push_size (s.heap.push PySem.W.emptyDict) (o:=PySem.W.instObj C s.heap.objs.size) rfl
  rwa [Heap.size_push]at this
 have e3:(s.heap.push PySem.W.emptyDict).Ns s.heap.objs.size (fun _=>none):=⟨PySem.W.emptyDict,#[],_,e1,rfl,(fun e he=>absurd he (by simp)),fun _=>rfl⟩
 have I1:=I.laid (a:=s.heap.objs.size) (o:= .own (s.heap.objs.size+1)) (h':=s.heap.push PySem.W.emptyDict) (t':=s.toks) (fun b u q=>Heap.get?_push_of_some _ q) (Nat.le_refl _) ⟨_,e1⟩
 refine I1.laid (a:=s.heap.objs.size+1) (o:= .ins C s.heap.objs.size []) (t':=s.toks) (fun b u q=>Heap.get?_push_of_some _ q) (Nat.le_of_eq (Heap.size_push _ _)) ?_
 have ne:s.heap.objs.size≠s.heap.objs.size+1:=Nat.ne_of_lt (Nat.lt_succ_self _)
 refine⟨by rw[bG ne,fX],Nat.zero_le _,ne,e2,fun _=>none,(Heap.Ns1.of_empty e3).at fun o q=>Heap.get?_push_of_some _ q,fun _=>True.intro,fun y hy=>absurd rfl hy⟩
theorem Xw{prog:Program}{w:World}{env:Env}{e:Expr}{f:Str}{pos:Pos}{s:Shared}{Q:Value→Shared→Prop}(hb:attributeBase e f env (eval e env)=eval e env)
  (h:wpAny (model prog w) A (eval e env) (fun o s₁=>wpAny (model prog w) A (getAttr o f true) Q E s₁) E s):wpAny (model prog w) A (eval (.Attribute e f pos) env) Q E s:=
 Attribute_any_ h (by rw[arm_eval_Attribute,hb])
end
def aph(K:Frag)(ta:TE)(f:Str):TE:=fun σ H Q=>ta σ H fun x H1=>∃a C dx fs v,x= .ref a∧H1 a=some (.ins C dx fs)∧T7 K C∧m9 K C f∧fs.lookup f=some v∧Q v H1
def apT(K:Frag)(ta tv:TE)(f:Str):TS:=fun D σ H=>tv σ H fun y H1=>ta σ H1 fun x H2=>∃a C dx fs,x= .ref a∧H2 a=some (.ins C dx fs)∧T7 K C∧m9 K C f∧fs.length<1000∧
 D.nx σ (upd H2 a (.ins C dx (yf f y fs)))
section
variable{X:Cx}{o e value:Expr}{f:Str}{pos pos' tpos:Pos}{ta tv:TE}
theorem afQ(he:PE X e ta)(hb:attributeBase e f X.env (eval e X.env)=eval e X.env):PE X (.Attribute e f pos) (aph X.K ta f):=by
 intro pins s σ H Q I h
 refine Xw hb (mz (he pins s σ H _ I h) fun u s1 ⟨x,H1,I1,rx,a,C,dx,fs,v,ex,ea,c,n,l,q⟩=> ?_)
 subst ex
 obtain rfl:u=Value.ref a:=rx
 exact Vn I1 ea c n l fun u' s2 I2 ru=>⟨v,H1,I2,ru,q⟩
theorem afD(ha:PE X o ta)(hv:PE X value tv)(hs:swapsWith value (some (.Attribute o f pos')) pos.line X.env=pure false):PS X (.Assign [.Attribute o f pos'] value pos) (apT X.K ta tv f):=by
 intro pins s σ H D I h
 refine plainObj_wpAny_Assign_Attribute (mz (hv pins s σ H _ I h) fun u s1 ⟨y,H1,I1,ry,q⟩=>mz (ha pins s1 σ H1 _ I1 q) fun ov s2 ⟨x,H2,I2,rx,a,C,dx,fs,ex,ea,c,n,l,q2⟩=> ?_) hs
 subst ex
 obtain rfl:ov=Value.ref a:=rx
 exact Ur I2 ea c n l ry fun s3 I3=>⟨σ,_,I3,q2⟩
end
section
variable{X:Cx}{pins:List (Addr×Obj)}{σ:St}{H:Hp}{s:Shared}{A:Around}{E:Value→Shared→Prop}{Q:Value→Shared→Prop}{c:Value}{b:Bool}
inductive H_ (K:Frag) (H:Hp):V→Value→Prop where
 | non:H_ K H .non (.type "NoneType")
 | bl (x:Bool):H_ K H (.bl x) (.type "bool")
 | int (i:Int):H_ K H (.int i) (.type "int")
 | str (x:Str):H_ K H (.str x) (.type "str")
 | flt (x:UInt64):H_ K H (.flt x) (.type "float")
 | lst {a:Addr} {xs:List V} (e:H a=some (.lst xs)):H_ K H (.ref a) (.type "list")
 | Dr {a:Addr} {o:Obj} {xs:List V} (e:H a=some (.Dr o (.lst xs))):H_ K H (.ref a) (.type "list")
 | tup {a:Addr} {xs:List V} (e:H a=some (.tup xs)):H_ K H (.ref a) (.type "tuple")
 | dK {a:Addr} {kvs:List (Key×V)} (e:H a=some (.dK kvs)):H_ K H (.ref a) (.type "dict")
 | dT {a:Addr} {kvs:List (List Key×V)} (e:H a=some (.dT kvs)):H_ K H (.ref a) (.type "dict")
 | ins {a C dx:Addr} {fs:List (Str×V)} (e:H a=some (.ins C dx fs)) (cl:T7 K C) (ha:findIn K (.ref C) "__class__" = some (some (.builtin "object.__class__")))
   (hn:PySem.W.specialIn K (.builtin "object.__class__") "__get__" = some (some (.builtin "getset_descriptor.__get__"))) (htk:PySem.W.takesIn K (.builtin "object.__class__")=some true)
   (hm:PySem.W.mroIn K C (.type "object")=some true):H_ K H (.ref a) (.ref C)
theorem YF{x:V}{u t:Value}(I:Inv X pins σ H s)(rx:RelV x u)(ty:H_ X.K H x t)(e:kitOne X.K t c=some b)(h:∀tk,Q (.bool b) {s with toks:=tk}):
  wpAny (model X.prog X.w) A (call (.builtin "isinstance") [u,c]) Q E s:=by
 cases ty with
 | non=>cases(show u=Value.none from rx);exact PySem.W.kia_one PySem.W.kitx_none I.yX True.intro e (fun z=>nomatch z) h
 | bl y=>cases(show u=Value.bool y from rx);exact PySem.W.kia_one PySem.W.kitx_bool I.yX True.intro e (fun z=>nomatch z) h
 | int i=>obtain⟨t,q⟩:=(show ∃t,u=Value.int i t from rx);cases q;exact PySem.W.kia_one PySem.W.kitx_int I.yX True.intro e (fun z=>nomatch z) h
 | str y=>obtain⟨t,q⟩:=(show ∃t,u=Value.str y t from rx);cases q;exact PySem.W.kia_one PySem.W.kitx_str I.yX True.intro e (fun z=>nomatch z) h
 | flt y=>obtain⟨t,q⟩:=(show ∃t,u=Value.float y t from rx);cases q;exact PySem.W.kia_one PySem.W.kitx_float I.yX True.intro e (fun z=>nomatch z) h
 | @lst a xs ea=>
  cases(show u=Value.ref a from rx)
  obtain⟨_,_,n,_,h1⟩:=(show jr X.prog X.w H s.heap a (.lst xs)from I.hok a _ ea)
  exact PySem.W.kia_one PySem.W.kitx_list I.yX ⟨_,h1,rfl⟩ e (fun z=>nomatch z) h
 | @Dr a ob xs ea=>
  cases(show u=Value.ref a from rx)
  obtain⟨_,_,_,n,_,h1⟩:=(show jr X.prog X.w H s.heap a (.Dr ob (.lst xs))from I.hok a _ ea)
  exact PySem.W.kia_one PySem.W.kitx_list I.yX ⟨_,h1,rfl⟩ e (fun z=>nomatch z) h
 | @tup a xs ea=>
  cases(show u=Value.ref a from rx)
  obtain⟨_,_,_,p⟩:=(show jr X.prog X.w H s.heap a (.tup xs)from I.hok a _ ea)
  obtain⟨o,h1,h2,_⟩:=p
  exact PySem.W.kia_one PySem.W.kitx_tuple I.yX ⟨o,h1,h2⟩ e (fun z=>nomatch z) h
 | @dK a kvs ea=>
  cases(show u=Value.ref a from rx)
  obtain⟨_,_,vs,_,p⟩:=(show jr X.prog X.w H s.heap a (.dK kvs)from I.hok a _ ea)
  obtain⟨o,es,ep,h1,h2,_⟩:=p
  exact PySem.W.kia_one PySem.W.kitx_dict I.yX ⟨o,h1,h2.1⟩ e (fun z=>nomatch z) h
 | @dT a kvs ea=>
  cases(show u=Value.ref a from rx)
  obtain⟨_,_,xs,_,o,es,ep,h1,h2,_⟩:=(show jr X.prog X.w H s.heap a (.dT kvs)from I.hok a _ ea)
  exact PySem.W.kia_one PySem.W.kitx_dict I.yX ⟨o,h1,h2.1⟩ e (fun z=>nomatch z) h
 | @ins a C dx fs ea cl ha hn htk hm=>
  cases(show u=Value.ref a from rx)
  obtain⟨mA,O,_⟩:=JF I.hok ea
  obtain⟨od,J,_⟩:=O.look
  exact PySem.W.kia_one (PySem.W.kitx_own (cl.get _) cl.hd ha hn htk hm) I.yX J e (fun z=>nomatch z) h
end
structure mV(k:Nat)(A:Around):Prop where
 hd:A.handled=none
 dp:A.depth+3*k+5<recursionLimit
 un:A.units+16*k+200<cLine
theorem mV.mono{j k:Nat}{A:Around}(r:mV k A)(h:j≤k):mV j A:=⟨r.hd,by have:=r.dp;omega,by have:=r.un;omega⟩
theorem mV.deeper{k:Nat}{A:Around}(r:mV (k+1) A)(env:Env):mV k (A.deeper env):=
 ⟨r.hd,by have:=r.dp;show A.depth+1+3*k+5<_;omega,by have:=r.un;show A.units+3+16*k+200<_;omega⟩
theorem mV.in1{k:Nat}{A:Around}(r:mV (k+1) A):mV k A.in1:=
 ⟨r.hd,by have:=r.dp;show A.depth+3*k+5<_;omega,by have:=r.un;show A.units+1+16*k+200<_;omega⟩
theorem U9{A:Around}{C:Addr}{us:List Value}{kw:List (Str×Value)}:(A.under (.builtin "type.__call__" ⟨.ref C::us,kw⟩)).depth=A.depth+1:=by
 first | rfl | simp[Around.under,Code.weight,Code.isCreation,Code.isGuard,Code.isCaller,Code.frames,Code.isFrame,guardIds]
theorem U8{A:Around}{C:Addr}{us:List Value}{kw:List (Str×Value)}:(A.under (.builtin "type.__call__" ⟨.ref C::us,kw⟩)).units=A.units+1:=by
 first | rfl | simp[Around.under,Code.cUnits,Code.frames,Code.isFrame]
theorem mV.make{k:Nat}{A:Around}(r:mV (k+1) A)(C:Addr)(us:List Value)(kw:List (Str×Value)):mV k (A.under (.builtin "type.__call__" ⟨.ref C::us,kw⟩)):=
 ⟨r.hd,by have:=r.dp;rw[U9];omega,by have:=r.un;rw[U8];omega⟩
theorem mV.depth{k:Nat}{A:Around}(r:mV k A):A.depth<recursionLimit:=by have:=r.dp;omega
theorem mV.units{k:Nat}{A:Around}(r:mV k A):A.units+64<cLine:=by have:=r.un;omega
def aii:TA:=fun _ H Q=>Q [] H
def aim(ta:TE)(tr:TA):TA:=fun σ H Q=>ta σ H fun x H1=>tr σ H1 fun xs H2=>Q (x::xs) H2
section
variable{X:Cx}{e:Expr}{es:List Expr}{te:TE}{t:TA}{pos:Pos}
theorem afS:PA X [] aii:=fun _ _ _ _ H Q I h=>Calls.spliced_nil ⟨[],H,I,.nil,h⟩
theorem acQ(ha:PE X e te)(hr:PA X es t)(hs:starEach (e::es) X.env=(false,eval e X.env)::starEach es X.env:=by rfl):PA X (e::es) (aim te t):=by
 intro pos pins s σ H Q I h
 rw[hs]
 show wpAny _ _ (spliced ((false,eval e X.env)::backTo pos (starEach es X.env))) _ _ s
 refine Calls.spliced_cons (mz (ha pins s σ H _ I h) fun u s1 ⟨x,H1,I1,r1,q1⟩=> ?_)
 exact mz (hr pos pins s1 σ H1 _ I1 q1) fun us s2 ⟨xs,H2,I2,r2,q2⟩=>⟨x::xs,H2,I2,.cons r1 r2,q2⟩
def ao_(t:TA):TE:=fun σ H Q=>t σ H fun xs H1=>xs.length≤sizeLine∧∀p,H1 p=none→Q (.ref p) (upd H1 p (.tup xs))
def ape(t:TA):TE:=fun σ H Q=>t σ H fun xs H1=>xs.length≤sizeLine∧∀p,H1 p=none→Q (.ref p) (upd H1 p (.lst xs))
theorem afJ{x1}(h:PA X es t):PE X (.Tuple es x1 pos) (ao_ t):=by
 intro pins s σ H Q I hq
 refine wpAny_Tuple_spliced (mz (h pos pins s σ H _ I hq) fun us s1 ⟨xs,H1,I1,r,z,q⟩=>⟨by rw[←r.length];exact z,?_⟩)
 have hf:H1 s1.heap.objs.size=none:=I1.hok.fresh (Nat.le_refl _)
 refine⟨.ref s1.heap.objs.size,upd H1 s1.heap.objs.size (.tup xs),I1.laid (t':=s1.toks) (fun b u e=>Heap.get?_push_of_some _ e) (Nat.le_refl _) ?_,rfl,q _ hf⟩
 exact⟨z,us,r,⟨_,Heap.get?_push_size _ rfl,rfl,_,rfl⟩⟩
theorem afO(h:PA X es t):PE X (.List es pos) (ape t):=by
 intro pins s σ H Q I hq
 refine wpAny_List_spliced (mz (h pos pins s σ H _ I hq) fun us s1 ⟨xs,H1,I1,r,z,q⟩=>⟨by rw[←r.length];exact z,?_⟩)
 have hf:H1 s1.heap.objs.size=none:=I1.hok.fresh (Nat.le_refl _)
 refine⟨.ref s1.heap.objs.size,upd H1 s1.heap.objs.size (.lst xs),I1.laid (t':=s1.toks) (fun b u e=>Heap.get?_push_of_some _ e) (Nat.le_refl _) ?_,rfl,q _ hf⟩
 exact⟨z,us,0,r,Heap.get?_push_size _ rfl⟩
end
abbrev Sp:=List V→Hp→VK→XK→Prop
abbrev V2:=List Env→Hp→Shared→XK→Value→Shared→Prop
structure Mp(P:Program)(w:World)(K:Frag)(mg:Str→Option Value)(base:Heap)(A:Around)(outer:List Env)(s:Shared)(H:Hp):Prop where
 frames:A.frames=some outer
 mod:Mod K mg base
 bs:∀b o,base.get? b=some o→s.heap.get? b=some o∧H b=none
 Xq:base.objs.size≤s.heap.objs.size
 CG:s.heap.FunFrames base outer
 frf:∀b∈frs outer,H b=none
 hok:Br P w H s.heap
 bare:AllBare s.gens
def CE(outer:List Env)(P:Program)(w:World)(H:Hp)(s:Shared)(Q:VK)(u:Value)(s':Shared):Prop:=
 ∃v H',s'.os=s.os∧AllBare s'.gens∧Un (frs outer) [] H H' s.heap s'.heap∧Br P w H' s'.heap∧RelV v u∧Q v H'
def CR(CX:V2)(outer:List Env)(P:Program)(w:World)(H:Hp)(s:Shared)(Q:VK)(E:XK)(r:Result)(s':Shared):Prop:=
 match r with
 | .ok (.ret u)=>CE outer P w H s Q u s'
 | .ok _=>False
 | .error e=>CX outer H s E e s'
structure bF(P:Program)(w:World)(K:Frag)(mg:Str→Option Value)(base:Heap)(CX:V2)(k:Nat)(f:Addr)(fd:FuncData)(ps:List Str)(sp:Sp):Prop where
 len:∀vs H Q E,sp vs H Q E→vs.length=ps.length
 run:∀(A:Around) (outer:List Env) (s:Shared) (H:Hp) (args:Args) (us:List Value) (vs:List V) (Q:VK) (E:XK),mV k A→Mp P w K mg base A outer s H→BindsTo s fd args (ps.zip us)→Vals vs us→sp vs H Q E→
  codeAny (model P w) A (.call (.ref f) args) (CR CX outer P w H s Q E) s
theorem bF.imp{P:Program}{w:World}{K:Frag}{mg:Str→Option Value}{base:Heap}{CX:V2}{k:Nat}{f:Addr}{fd:FuncData}{ps:List Str}{sp sp':Sp}(F:bF P w K mg base CX k f fd ps sp)
  (h:∀vs H Q E,sp' vs H Q E→sp vs H Q E):bF P w K mg base CX k f fd ps sp':=
 ⟨fun vs H Q E q=>F.len vs H Q E (h _ _ _ _ q),fun A outer s H args us vs Q E hr he hb hv hs=>F.run A outer s H args us vs Q E hr he hb hv (h _ _ _ _ hs)⟩
theorem Mp.make{P:Program}{w:World}{K:Frag}{mg:Str→Option Value}{base:Heap}{A:Around}{outer:List Env}{s:Shared}{H:Hp}(e:Mp P w K mg base A outer s H)(C:Addr)(us:List Value)(kw:List (Str×Value)):
  Mp P w K mg base (A.under (.builtin "type.__call__" ⟨.ref C::us,kw⟩)) outer s H:=⟨by first | exact e.frames | (simpa[Around.under,Code.envs,Code.isFrame,pushEnvs]using e.frames),e.mod,e.bs,e.Xq,e.CG,e.frf,e.hok,e.bare⟩
theorem Mp.in1{P:Program}{w:World}{K:Frag}{mg:Str→Option Value}{base:Heap}{A:Around}{outer:List Env}{s:Shared}{H:Hp}(e:Mp P w K mg base A outer s H):
  Mp P w K mg base A.in1 outer s H:=⟨e.frames,e.mod,e.bs,e.Xq,e.CG,e.frf,e.hok,e.bare⟩
section
variable{X:Cx}{pins:List (Addr×Obj)}{σ:St}{H:Hp}{s s':Shared}
theorem Inv.env0(I:Inv X pins σ H s):Mp X.prog X.w X.K X.mg X.base X.A X.stack s H:=
 ⟨I.ok.frames,I.ok.mod,I.bs,Nat.le_trans I.ok.Xq I.sz,I.stack,I.Ju,I.hok,I.bare⟩
theorem Inv.after{Q:VK}{u:Value}(I:Inv X pins σ H s)(h:CE X.stack X.prog X.w H s Q u s'):EP X pins σ Q u s':=by
 obtain⟨v,H',os,bare,un,hok,r,q⟩:=h
 obtain⟨hh,g,d,t,os'⟩:=s'
 obtain rfl:os'=s.os:=os
 exact⟨v,H',I.call (h':=hh) (g':=g) (d':=d) (t':=t) (ch:=[]) un hok bare (fun b z=>absurd z (by simp)),r,q⟩
end
def Binds(K:Frag)(fd:FuncData)(ps:List Str)(ds:List Value):Prop:=
 ∀(s:Shared) (us:List Value),K.In s.heap→(us++ds).length=ps.length→BindsTo s fd ⟨us,[]⟩ (ps.zip (us++ds))
theorem Binds.all{K:Frag}{fd:FuncData}{ps:List Str}(h:∀us:List Value,us.length=ps.length→bindArgs fd ⟨us,[]⟩=pure (ps.zip us)):Binds K fd ps []:=fun s us _ hl=>by
 rw[List.append_nil]at hl ⊢
 exact .of_eq (h us hl)
section
variable{X:Cx}{CX:V2}{k:Nat}{f C:Addr}{fd:FuncData}{ps:List Str}{sp:Sp}{Ds:List V}{ds:List Value}{E:XK}{x m:Str}{p pos apos:Pos}{e o:Expr}{es:List Expr}{ta:TE}{t:TA}
structure Mk(K:Frag)(C f:Addr):Prop where
 makes:PySem.W.makesIn K C=true
 init:findIn K (.ref C) "__init__" = some (some (.ref f))
 fn:isFn K (.ref f)=true
 kp:keepIn K (.ref C)=true
end
structure bA(N P:List Str)(sc:Scope):Prop where
 kind:sc.kind= .function
 co:sc.isCoroutine=false
 gen:sc.isGenerator=false
 nd:N.Nodup
 pre:N.take P.length=P
 par:∀x∈P,sc.names.lookup x=some .local∨sc.names.lookup x=some .cell
 agb:∀y∈sc.names,y.2≠ .free
theorem NK{kindOf:Str→Option NameKind}{x:Str}:∀{binds:List (Str×Value)} {m:Str→Option Value},(∀v,(x,v)∉binds)→bindL kindOf binds m x=m x
 | [],_,_=>rfl
 | (n,v)::r,m,h=>by
  unfold bindL
  rw[NK fun w hw=>h w (List.mem_cons_of_mem _ hw)]
  split
  ·have:x≠n:=by rintro rfl;exact h v List.mem_cons_self
   simp[this]
  ·rfl
theorem NQ{kindOf:Str→Option NameKind}{x:Str}:∀{binds:List (Str×Value)} {m:Str→Option Value},(∀v,(x,v)∉binds)→bindC kindOf binds m x=m x
 | [],_,_=>rfl
 | (n,v)::r,m,h=>by
  unfold bindC
  rw[NQ fun w hw=>h w (List.mem_cons_of_mem _ hw)]
  split
  ·rfl
  ·have:x≠n:=by rintro rfl;exact h v List.mem_cons_self
   simp[this]
theorem NP{kindOf:Str→Option NameKind}{x:Str}{v:Value}:∀{P:List Str} {vs:List Value} {i:Nat} {m:Str→Option Value},P.Nodup→P[i]? = some x→vs[i]? = some v→kindOf x=some .local→
  bindL kindOf (P.zip vs) m x=some v
 | [],_,_,_,_,h,_,_=>by simp at h
 | _::_,[],_,_,_,_,h,_=>by simp at h
 | p::P,w::vs,0,m,nd,h1,h2,hk=>by
  simp at h1 h2;subst h1;subst h2
  show bindL kindOf ((p,w)::P.zip vs) m p=_
  unfold bindL
  rw[NK fun v hv=>(List.nodup_cons.mp nd).1 (List.of_mem_zip hv).1,if_pos hk]
  simp
 | p::P,w::vs,i+1,m,nd,h1,h2,hk=>by
  show bindL kindOf ((p,w)::P.zip vs) m x=_
  unfold bindL
  exact NP (i:=i) (List.nodup_cons.mp nd).2 (by simpa using h1) (by simpa using h2) hk
theorem NT{kindOf:Str→Option NameKind}{x:Str}{v:Value}:∀{P:List Str} {vs:List Value} {i:Nat} {m:Str→Option Value},P.Nodup→P[i]? = some x→vs[i]? = some v→kindOf x≠some .local→
  bindC kindOf (P.zip vs) m x=some v
 | [],_,_,_,_,h,_,_=>by simp at h
 | _::_,[],_,_,_,_,h,_=>by simp at h
 | p::P,w::vs,0,m,nd,h1,h2,hk=>by
  simp at h1 h2;subst h1;subst h2
  show bindC kindOf ((p,w)::P.zip vs) m p=_
  unfold bindC
  rw[NQ fun v hv=>(List.nodup_cons.mp nd).1 (List.of_mem_zip hv).1,if_neg hk]
  simp
 | p::P,w::vs,i+1,m,nd,h1,h2,hk=>by
  show bindC kindOf ((p,w)::P.zip vs) m x=_
  unfold bindC
  exact NT (i:=i) (List.nodup_cons.mp nd).2 (by simpa using h1) (by simpa using h2) hk
def start(N:List Str)(vs:List V):St:=vs.map some++List.replicate (N.length - vs.length) none
def Bq(CX:V2)(P:Program)(w:World)(K:Frag)(mg:Str→Option Value)(base:Heap)(N:List Str)(qual:Str)(scope:Scope)(f:Addr)(cd:Value)(A:Around)(outer:List Env)(s:Shared)(H:Hp)(E:XK):Cx where
 prog:=P
 w:=w
 K:=K
 mg:=mg
 base:=base
 A:=A.deeper (envOfC qual scope s.heap.objs.size f cd)
 N:=N
 s₀:=s
 H₀:=H
 env:=envOfC qual scope s.heap.objs.size f cd
 outer:=outer
 stack:=envOfC qual scope s.heap.objs.size f cd::outer
 ex:=[]
 calm:=true
 fn:=fun _=>true
 pn:=[]
 xe:=fun e s'=>wpAny (model P w) (A.deeper (envOfC qual scope s.heap.objs.size f cd)) (leaving (envOfC qual scope s.heap.objs.size f cd) e) (fun _ s''=>CX outer H s E e s'') (fun e' s''=>CX outer H s E e' s'') s'
theorem Tj{sc:Scope}{n:Nat}{x:Str}(h:sc.names.lookup x=some .cell):∃c,(cellsFrom n sc.names []).lookup x=some c:=by
 have q:=PySem.W.cellsFrom_some sc.names n [] (.inl h)
 exact Option.isSome_iff_exists.mp q
theorem YK{CX:V2}{P:Program}{w:World}{K:Frag}{mg:Str→Option Value}{base:Heap}{N ps:List Str}{qual:Str}{scope:Scope}{f:Addr}{cd:Value}{A:Around}{outer:List Env}{s s1:Shared}{H:Hp}{E:XK}{us:List Value}{vs:List V}
  (S:bA N ps scope) (hd:A.handled=none) (e0:Mp P w K mg base A outer s H) (hl:vs.length=ps.length) (r:Vals vs us)
  (x:InCallC s s.heap.objs.size (bindL (envOfC qual scope s.heap.objs.size f cd).kindOf (ps.zip us) fun _=>none) (cellsFrom (s.heap.objs.size+1) scope.names []) (bindC (envOfC qual scope s.heap.objs.size f cd).kindOf (ps.zip us) fun _=>none) s1):
  Inv (Bq CX P w K mg base N qual scope f cd A outer s H E) [] (start N vs) H s1:=by
 have hpl:ps.length≤N.length:=by have:=congrArg List.length S.pre;rw[List.length_take]at this;omega
 obtain⟨h1,tk,rfl,hk⟩:=x.done
 have noA:∀b:Addr,b∉(Bq CX P w K mg base N qual scope f cd A outer s H E).ex:=fun b z=>absurd (show b∈([]:List Addr)from z) (by simp)
 refine⟨⟨e0.mod,S.kind,rfl,rfl,Nat.le_refl _,fun y z c h1 h2=> ?_,fun y hy=> ?_,fun y c _ h=> ?_,fun _=>hd,Around.frames_deeper e0.frames,.inr ⟨rfl,rfl⟩,fun b z=>absurd z (noA b),e0.bs,e0.Xq,fun b _ _=>noA b,fun b z=>absurd z (noA b),e0.CG,e0.frf⟩,
  rfl,e0.bare,Un.kept hk,⟨_,x.toInCall.ns,fun i y v h1 h2 h3=> ?_⟩,fun y c h=>⟨_,x.cell y c h⟩,e0.hok.fresh (Nat.le_refl _),fun y c h=> ?_,fun p hp=>absurd (show p∈([]:List (Addr×Obj))from hp) (by simp),e0.hok.kept hk,?_⟩
 ·exact name_of_addr x.apart (PySem.mem_of_lookup h1) (PySem.mem_of_lookup h2)
 ·have hy:scope.names.lookup y=some .cell∨scope.names.lookup y=some .free:=hy
  rcases hy with hy | hy
  ·exact Tj hy
  ·exact absurd rfl (S.agb _ (PySem.mem_of_lookup hy))
 ·exact Nat.le_of_lt (x.above y c (PySem.mem_of_lookup h))
 ·have hi:i<vs.length:=by
   unfold start at h2
   by_cases hi:i<vs.length
   ·exact hi
   ·rw[List.getElem?_append_right (by simpa using hi)]at h2
    rw[List.getElem?_replicate]at h2
    split at h2<;>cases h2
  have ha:vs[i]? = some v:=by
   unfold start at h2
   rw[List.getElem?_append_left (by simpa using hi),List.getElem?_map]at h2
   cases e:vs[i]? with
   | none=>rw[e]at h2;cases h2
   | some a=>rw[e]at h2;cases h2;rfl
  obtain⟨u,hu,rv⟩:=r.get ha
  have hp:ps[i]? = some y:=by
   rw[←S.pre,List.getElem?_take_of_lt (by omega)];exact h1
  have ndP:ps.Nodup:=by rw[←S.pre];exact S.nd.sublist (List.take_sublist _ _)
  refine⟨u,rv,?_⟩
  rcases S.par y (List.mem_of_getElem? hp)with k | k
  ·exact .inl ⟨k,NP ndP hp hu k⟩
  ·obtain⟨c,e⟩:=Tj (n:=s.heap.objs.size+1) k
   refine .inr ⟨.inl k,c,e,?_⟩
   have q:=x.cell y c e
   rw[NT ndP hp hu (by show scope.names.lookup y≠_;rw[k];decide)]at q
   exact q
 ·exact e0.hok.fresh (Nat.le_of_lt (x.above y c (PySem.mem_of_lookup h)))
 ·unfold start
  show _=N.length
  rw[List.length_append,List.length_map,List.length_replicate]
  omega
theorem abo{CX:V2}{P:Program}{w:World}{K:Frag}{mg:Str→Option Value}{base:Heap}{k:Nat}{f:Addr}{name qual:Str}{params:Arguments}{body:List Stmt}{scope:Scope}{dV kV doc pm cdv ct oc:Value}{an od:Option Addr}
  {osl:Array (Option Value)} {N ps:List Str} {sp:Sp} (lk:K.lookup f=some ⟨oc,od,.func (fnOf name qual params body scope dV kV doc pm an cdv ct),osl⟩) (hcd:codeIn K cdv qual=true) (S:bA N ps scope)
  (len:∀vs H Q E,sp vs H Q E→vs.length=ps.length)
  (hbody:∀(A:Around) (outer:List Env) (s:Shared) (H:Hp) (vs:List V) (Q:VK) (E:XK),mV k (A.deeper (envOfC qual scope s.heap.objs.size f cdv))→sp vs H Q E→
   ∃t,Jl (Bq CX P w K mg base N qual scope f cdv A outer s H E) body t∧t {nx:=fun _ H'=>Q .non H',rt:=Q} (start N vs) H):
  bF P w K mg base CX (k+1) f (fnOf name qual params body scope dV kV doc pm an cdv ct) ps sp:=by
 refine⟨len,fun A outer s H args us vs Q E hr e0 hb r hsp=> ?_⟩
 have hl:=len _ _ _ _ hsp
 have KX:K.In s.heap:=e0.mod.kin.keeps fun b o e=>(e0.bs b o e).1
 have lim:s.heap.NoLimit:=e0.mod.nolimit.keeps fun b o e=>(e0.bs b o e).1
 have hkind:∀y∈ps.zip us,scope.names.lookup y.1=some .local∨(scope.names.lookup y.1=some .cell∧((cellsFrom (s.heap.objs.size+1) scope.names []).lookup y.1).isSome=true):=fun⟨n,v⟩ hy=>by
  rcases S.par n (List.of_mem_zip hy).1 with q | q
  ·exact .inl q
  ·exact .inr ⟨q,PySem.W.cellsFrom_some _ _ _ (.inl q)⟩
 refine codeAny_call_function hr.depth (KX _ _ lk) rfl S.co S.gen rfl (PySem.W.codeRec_of KX hcd) (hb _ _ _ _ ?_)
 refine wpAny_newFunctionEnv_cells S.kind hkind fun env he s1 x=> ?_
 subst he
 refine⟨lim.keeps x.toInCall.keep,codeAny_func ?_⟩
 obtain⟨t,ht,hq⟩:=hbody A outer s H vs Q E (hr.deeper _) hsp
 have I:Inv (Bq CX P w K mg base N qual scope f cdv A outer s H E) [] (start N vs) H s1:=YK S hr.hd e0 hl r x
 refine wpAny_mono (ht [] s1 (start N vs) H _ I hq) (fun fl s' hs=> ?_) fun e s' hs=>hs
 have fin:∀{σ':St} {H':Hp} {v:V} {u:Value},Inv (Bq CX P w K mg base N qual scope f cdv A outer s H E) [] σ' H' s'→RelV v u→Q v H'→CE outer P w H s Q u s':=
  fun{σ' H' v u} J rv q=>⟨v,H',J.os,J.bare,J.base,J.hok,rv,q⟩
 cases fl with
 | ret u=>
  obtain⟨v,σ',H',J,rv,q⟩:=hs
  exact fin J rv q
 | next=>
  obtain⟨σ',H',J,q⟩:=hs
  exact fin (v:=V.non) (u:=Value.none) J rfl q
 | brk=>
  obtain⟨_,_,_,q⟩:=hs
  exact False.elim q
 | cont=>
  obtain⟨_,_,_,q⟩:=hs
  exact False.elim q
section
variable{X:Cx}{x:Str}{p pos:Pos}{e:Expr}{es:List Expr}{t:TA}{id T:String}{r:List V→Hp→VK→Prop}
def tCB(r:List V→Hp→VK→Prop)(t:TA):TE:=fun σ H Q=>t σ H fun vs H1=>r vs H1 Q
theorem aaM(hc:sJ X (.builtin id) r)(hg:Gl X x)(hm:X.mg x=none)(hv:bootBuiltins x=some (.builtin id))(ha:PA X (e::es) t)(hn:x≠ "__name__" := by decide)(hdb:(x==("__debug__" : Str))=false:=by decide)
  (he:starEach (e::es) X.env=(false,eval e X.env)::starEach es X.env:=by rfl) (hpl:(backTo pos (starEach es X.env)).any (·.1)=false:=by rfl):PE X (.Call (.Name x p) (e::es) [] pos) (tCB r t):=by
 intro pins s σ H Q I h
 refine wpAny_Call_Name_kw (Qe I hg hm hv ?_ hn hdb)
 exact PyProof.Rows.callWith_builtin1 (mz (ha pos pins s σ H _ I h) fun us s1 ⟨vs,H1,I1,r1,q1⟩=>hc pins s1 σ H1 vs us Q I1 r1 q1) he hpl
theorem Yi(hc:sJ X (.type T) r)(hg:Gl X x)(hm:X.mg x=none)(hv:bootBuiltins x=some (.type T))(ha:PA X (e::es) t)(hn:x≠ "__name__" := by decide)(hdb:(x==("__debug__" : Str))=false:=by decide)
  (he:starEach (e::es) X.env=(false,eval e X.env)::starEach es X.env:=by rfl) (hpl:(backTo pos (starEach es X.env)).any (·.1)=false:=by rfl):PE X (.Call (.Name x p) (e::es) [] pos) (tCB r t):=by
 intro pins s σ H Q I h
 refine wpAny_Call_Name_kw (Qe I hg hm hv ?_ hn hdb)
 exact PyProof.Rows.callWith_type1 (mz (ha pos pins s σ H _ I h) fun us s1 ⟨vs,H1,I1,r1,q1⟩=>hc pins s1 σ H1 vs us Q I1 r1 q1) he hpl
end
end L2
namespace HT
open PySem PyProof.Rows
def lexLt:List Int→List Int→Bool
 | [],[]=>false
 | [],_::_=>true
 | _::_,[]=>false
 | x::xs,y::ys=>if x=y then lexLt xs ys else decide (x<y)
theorem e_(x y:Int)(xs ys:List Int):lexLt (x::xs) (y::ys)=if x=y then lexLt xs ys else decide (x<y):=rfl
theorem Mf:lexLt [] []=false:=rfl
theorem KR(y:Int)(ys:List Int):lexLt [] (y::ys)=true:=rfl
theorem KY(x:Int)(xs:List Int):lexLt (x::xs) []=false:=rfl
theorem abv(A:Around)(s:Shared)(a:Int)(t:Tok)(c:Int)(u:Tok):∃e,SeqAt.EqAt A s (.int a t) (.int c u) e∧(e=true↔a=c):=
 ⟨(a==c),SeqAt.EqAt.int_int a t c u,by simp⟩
theorem aav(A:Around)(s:Shared)(a:Int)(t:Tok)(c:Int)(u:Tok)(prog:Program)(w:World)(E:Value→Shared→Prop)(Q:Value→Shared→Prop)(h:Q (.bool (decide (a<c))) s):
  wpAny (model prog w) A (richCompare .Lt (.int a t) (.int c u)) Q E s:=
 (PyProof.Rows.lt_int h:wpAny (model prog w) A (compareOp .Lt (.int a t) (.int c u)) Q E s)
section
open PySem.SeqAt
open PySem.AutoSeq1 (wpAny_loadPart')
open PySem.MeetsSeq PySem.MeetsSeq2 PySem.MeetsSeq3
theorem Lx(l b:Addr)(items items2:Array Value)(n n2:Nat)(dd dd2:Option Addr)(sl sl2:Array (Option Value))(ns ms:List Int)(hi:IntsAre items.toList ns)(hj:IntsAre items2.toList ms):
  Meets (Builtin.«tuple.__lt__» ⟨[.ref l,.ref b],[]⟩)
   (fun _ R s=>s.heap.get? l=some {cls:= .type "tuple",dict:=dd,data:= .seq items n,slots:=sl}∧s.heap.get? b=some {cls:= .type "tuple",dict:=dd2,data:= .seq items2 n2,slots:=sl2}∧
    R (.ok (.ret (.bool (lexLt ns ms)))) s):=
 .of_wp fun prog w A R s h=>by
  obtain⟨hp,g,d,tk,os⟩:=s;obtain⟨hl,hb,h⟩:=h
  have f2:=AutoSeq1.sub_tuple_tuple
  have z1:items.size=ns.length:=by rw[←hi.length];simp
  have z2:items2.size=ms.length:=by rw[←hj.length];simp
  wp_walk using wpAny_loadPart' hl,wpAny_loadPart' hb,wpAny_forIn_list _ (fun rest b s'=>b.1=none∧s'=⟨hp,g,d,tk,os⟩∧∃(vs ws:List Value) (ns' ms':List Int),rest=vs.zip ws∧
   IntsAre vs ns'∧IntsAre ws ms'∧ns'.length+items2.size=ms'.length+items.size∧R (.ok (.ret (.bool (lexLt ns' ms')))) ⟨hp,g,d,tk,os⟩) _
  case turn=>
   rintro⟨y,x⟩ rest b s' ⟨hb',rfl,vs,ws,ns',ms',hz,hvi,hwi,hlen,hR⟩
   cases hvi with
   | nil=>rw[List.zip_nil_left]at hz;cases hz
   | cons a t arB=>
    cases hwi with
    | nil=>rw[List.zip_nil_right]at hz;cases hz
    | cons c u arw=>
     rw[List.zip_cons_cons]at hz
     injection hz with hyx hrest
     injection hyx with hy hx
     subst hy hx
     rw[e_]at hR
     simp only[List.length_cons]at hlen
     obtain⟨e,he,hiff⟩:=abv A.in1 ⟨hp,g,d,tk,os⟩ a t c u
     refine wpAny_bind (he prog w _ _ ?_)
     cases e with
     | true=>
      rw[if_pos (hiff.mp rfl)]at hR
      wp_walk
      exact⟨rfl,rfl,_,_,_,_,hrest,arB,arw,by omega,hR⟩
     | false=>
      rw[if_neg (fun q=>absurd (hiff.mpr q) Bool.false_ne_true)]at hR
      have hri:=aav A.in1 ⟨hp,g,d,tk,os⟩ a t c u prog w
      wp_walk using hri
      exact⟨_,rfl,by simpa using hR⟩
  case fin=>
   rintro⟨b1,b2⟩ s' ⟨hb',rfl,vs,ws,ns',ms',hz,hvi,hwi,hlen,hR⟩
   simp only at hb'
   subst hb'
   have hv:lexLt ns' ms'=decide (items.size<items2.size):=by
    cases hvi with
    | nil=>
     cases hwi with
     | nil=>
      simp only[List.length_nil]at hlen
      rw[Mf]
      exact(decide_eq_false (by omega)).symm
     | cons c u hw=>
      simp only[List.length_nil,List.length_cons]at hlen
      rw[KR]
      exact(decide_eq_true (by omega)).symm
    | cons a t hv=>
     cases hwi with
     | nil=>
      simp only[List.length_nil,List.length_cons]at hlen
      rw[KY]
      exact(decide_eq_false (by omega)).symm
     | cons c u hw=>
      rw[List.zip_cons_cons]at hz
      cases hz
   rw[hv]at hR
   wp_walk
   exact⟨_,rfl,by simpa[Builtin.Tuple.tupleCompareSizes]using hR⟩
  case h=>
   exact⟨rfl,rfl,items.toList,items2.toList,ns,ms,rfl,hi,hj,by omega,h⟩
end
section
variable{prog:Program}{w:World}{A:Around}{E:Value→Shared→Prop}{s:Shared}
theorem Va{l b:Addr}{items items2:Array Value}{ns ms:List Int}{Q:Value→Shared→Prop}(hl:IsTup s.heap l items)(hb:IsTup s.heap b items2)(hi:IntsAre items.toList ns)(hj:IntsAre items2.toList ms)
  (hu:A.units<cLine) (h:Q (.bool (lexLt ns ms)) s):wpAny (model prog w) A (compareOp .Lt (.ref l) (.ref b)) Q E s:=by
 obtain⟨⟨cls,dd,data,sl⟩,ho,hc,n,hd⟩:=id hl
 obtain⟨⟨cls2,dd2,data2,sl2⟩,ho2,hc2,n2,hd2⟩:=id hb
 simp only at hc hd hc2 hd2
 subst hc hd hc2 hd2
 exact richCompare_meets_room (op:= .Lt) ⟨_,ho,rfl⟩ ⟨_,ho2,rfl⟩ PySem.F.slot_tuple_lt PySem.F.entry_tuple_lt (PySem.F.args_tuple_lt_2 _ _) (Lx l b items items2 n n2 dd dd2 sl sl2 ns ms hi hj)
  ⟨ho,ho2,show Value.bool (lexLt ns ms)≠Value.notImplemented∧Q (.bool (lexLt ns ms)) s from⟨(fun x=>nomatch x),h⟩⟩ hu
theorem adS{t b:Addr}{vs ws:List Value}{Q:Value→Shared→Prop}(ht:IsTup s.heap t vs.toArray)(hb:IsTup s.heap b ws.toArray)(hv:vs≠[])
  (h1:ws=[]→Q (.ref t) s) (h2:ws≠[]→Q (.ref s.heap.objs.size) {s with heap:=s.heap.push {cls:= .type "tuple",data:= .seq (vs++ws).toArray}})
  (hsz:vs.length+ws.length≤sizeLine):wpAny (model prog w) A (binaryOp .Add (.ref t) (.ref b)) Q E s:=by
 obtain⟨⟨cls,dd,data,sl⟩,ho,hc,n,hd⟩:=id ht
 obtain⟨⟨cls2,dd2,data2,sl2⟩,ho2,hc2,n2,hd2⟩:=id hb
 simp only at hc hd hc2 hd2
 subst hc hd hc2 hd2
 have e:vs.toArray++ws.toArray=(vs++ws).toArray:=by simp
 by_cases hw:ws=[]
 ·exact concat_meets ⟨_,ho,rfl⟩ ⟨_,ho2,rfl⟩ noFill_tuple_add seq_tuple_add PySem.F.slot_tuple_add PySem.F.entry_tuple_add (PySem.F.args_tuple_add_2 _ _)
   (tuple_addW1 t b vs.toArray ws.toArray n n2 dd dd2 sl sl2 (by simpa using hv) (by simp[hw])) ⟨ho,ho2,h1 hw⟩
 ·refine concat_meets ⟨_,ho,rfl⟩ ⟨_,ho2,rfl⟩ noFill_tuple_add seq_tuple_add PySem.F.slot_tuple_add PySem.F.entry_tuple_add (PySem.F.args_tuple_add_2 _ _)
   (tuple_addW2 t b vs.toArray ws.toArray n n2 dd dd2 sl sl2 (by simpa using hv) (by simpa using hw) (by rw[List.size_toArray,List.size_toArray];exact hsz)) ⟨ho,ho2,?_⟩
  rw[e]
  exact h2 hw
def bJ(n d:Nat):Option Int→Nat
 | none=>d
 | some v=>if v<0 then(v+(n:Int)).toNat else min v.toNat n
theorem Kc(n d:Nat):bJ n d none=d:=rfl
theorem Wn(n d k:Nat):bJ n d (some (k:Int))=min k n:=by
 show(if(k:Int)<0 then((k:Int)+(n:Int)).toNat else min (k:Int).toNat n)=min k n
 rw[if_neg (by omega),Int.toNat_natCast]
theorem afk(n d:Nat)(hd:d≤n)(o:Option Int):bJ n d o≤n:=by
 cases o with
 | none=>exact hd
 | some v=>
  show(if v<0 then(v+(n:Int)).toNat else min v.toNat n)≤n
  by_cases hv:v<0
  ·rw[if_pos hv];omega
  ·rw[if_neg hv];exact Nat.min_le_right _ _
theorem Xp(v:Int)(n d:Nat):(if v<0 then max (v+(n:Int)) 0 else min v (n:Int))=((bJ n d (some v):Nat):Int):=by
 show(if v<0 then max (v+(n:Int)) 0 else min v (n:Int))=(((if v<0 then(v+(n:Int)).toNat else min v.toNat n):Nat):Int)
 by_cases hv:v<0
 ·simp only[if_pos hv];omega
 ·simp only[if_neg hv];omega
theorem VH(lo hi:Option Int)(n:Nat):Builtin.Slice.sliceAdjust lo hi 1 (n:Int)=(((bJ n 0 lo:Nat):Int),((bJ n n hi:Nat):Int)):=by
 have h1:¬((1:Int)<0):=by omega
 unfold Builtin.Slice.sliceAdjust
 simp only[h1,if_false]
 refine Prod.ext ?_ ?_
 ·cases lo with
  | none=>rfl
  | some v=>exact Xp v n 0
 ·cases hi with
  | none=>rfl
  | some v=>exact Xp v n n
theorem UL(i j:Nat):Builtin.Slice.slicePlaces (i:Int) (j:Int) 1=j - i:=by
 unfold Builtin.Slice.slicePlaces
 have h1:(1:Int) > 0:=by omega
 simp only[h1,if_true,Int.ediv_one]
 split<;>omega
theorem JX{v:Value}{o:Option Int}{Q:Option Int→Shared→Prop}(p:IsPart v o)(h:Q o s):wpAny (model prog w) A (Builtin.Slice.slicePartIndex v) Q E s:=by
 cases p with
 | none=>exact slicePart_none h
 | int i t=>exact slicePart_int h
theorem Hj{sl:Addr}{vl vu:Value}{lo hi:Option Int}{n:Nat}{Q:Int×Int×Nat→Shared→Prop}(hs:s.heap.IsSliceOf sl vl vu .none)(pl:IsPart vl lo)(pu:IsPart vu hi)
  (h:Q (((bJ n 0 lo:Nat):Int),1,bJ n n hi - bJ n 0 lo) s):wpAny (model prog w) A (Builtin.Slice.sliceApplied (.ref sl) (pure (n:Int))) Q E s:=by
 obtain⟨os,hos,hcs,hds⟩:=id hs
 unfold Builtin.Slice.sliceApplied Builtin.Slice.sliceFields
 refine wpAny_bind (wpAny_bind (wpAny_field hos hds (x:=vl) rfl (wpAny_bind (wpAny_field hos hds (x:=vu) rfl (wpAny_bind (wpAny_field hos hds (x:= .none) rfl (wpAny_pure ?_)))))))
 refine wpAny_bind (slicePart_none ?_)
 show wpAny _ _ (if((1:Int)==0)=true then _ else _) _ _ s
 rw[if_neg (by decide)]
 refine wpAny_bind (JX pl (wpAny_bind (JX pu (wpAny_bind (wpAny_pure ?_)))))
 show wpAny _ _ (match Builtin.Slice.sliceAdjust lo hi 1 (n:Int)with | (lo,hi)=>pure (lo,(1:Int),Builtin.Slice.slicePlaces lo hi 1)) _ _ s
 rw[VH lo hi n]
 show wpAny _ _ (pure (((bJ n 0 lo:Nat):Int),(1:Int),Builtin.Slice.slicePlaces ((bJ n 0 lo:Nat):Int) ((bJ n n hi:Nat):Int) 1)) _ _ s
 rw[UL]
 exact wpAny_pure h
theorem aaE(xs:Array Value)(i k:Nat):((List.range k).filterMap fun(m:Nat)=>xs[((i:Int)+(m:Int)*1).toNat]?).toArray=((xs.toList.drop i).take k).toArray:=by
 have e:(fun(m:Nat)=>xs[((i:Int)+(m:Int)*1).toNat]?)=fun m=>xs[i+m]? := by
  funext m
  have:((i:Int)+(m:Int)*1).toNat=i+m:=by omega
  rw[this]
 rw[e]
 have:=pick_run xs i k
 rw[List.filterMap_map]at this
 have e2:((fun x=>xs[x]?)∘fun x=>i+x)=fun m=>xs[i+m]? := rfl
 rw[e2]at this
 rw[this]
theorem Gz{t sl:Addr}{items:Array Value}{vl vu:Value}{lo hi:Option Int}{Q:Value→Shared→Prop}(ht:IsTup s.heap t items)(hs:s.heap.IsSliceOf sl vl vu .none)(pl:IsPart vl lo)(pu:IsPart vu hi)
  (hw:¬(bJ items.size 0 lo=0∧bJ items.size items.size hi=items.size))
  (h:Q (.ref s.heap.objs.size) {s with heap:=s.heap.push {cls:= .type "tuple",data:= .seq ((items.toList.drop (bJ items.size 0 lo)).take (bJ items.size items.size hi - bJ items.size 0 lo)).toArray}})
  (hsz:items.size≤sizeLine):wpAny (model prog w) A (getItem (.ref t) (.ref sl)) Q E s:=by
 have W8:sizeOk (.seq ((items.toList.drop (bJ items.size 0 lo)).take (bJ items.size items.size hi - bJ items.size 0 lo)).toArray):=by
  show((items.toList.drop (bJ items.size 0 lo)).take (bJ items.size items.size hi - bJ items.size 0 lo)).toArray.size≤sizeLine
  rw[List.size_toArray,List.length_take,List.length_drop,Array.length_toList]
  omega
 have hj:bJ items.size items.size hi≤items.size:=afk _ _ (Nat.le_refl _) hi
 obtain⟨os,hos,hcs,hds⟩:=id hs
 have hTs:s.TypeIs (.ref sl) "slice" := ⟨os,hos,hcs⟩
 unfold getItem
 try with_reducible refine wpAny_holding ?_
 first | refine wpAny_bind (wpAny_pure ?_) | skip
 refine wpAny_bind (wpAny_sequenceKey ht.typeIs (by decide) ?_)
 refine wpAny_bind (wpAny_callSpecial?_slot (name:=Str.ofString "__getitem__") ht.typeIs PyProof.Rows.slot_tuple_getitem
  (wpAny_call_entry PyProof.Rows.slot_tuple_getitem ht.typeIs entry_tuple_getitem ?_ (args_tuple_getitem _ _)))
 show wpAny _ _ (Builtin.Tuple.tupleItemsOf (.ref t) >>= _) _ _ s
 refine wpAny_bind (tupleItemsOf_ ht ?_)
 refine wpAny_bind (wpAny_typeOf hTs ?_)
 rw[if_pos (by decide)]
 refine wpAny_bind (Hj hs pl pu ?_)
 have hno:¬((((bJ items.size 0 lo:Nat):Int)==0&&(1:Int)==1&&(bJ items.size items.size hi - bJ items.size 0 lo)==items.size)=true):=by
  intro q
  rw[Bool.and_eq_true,Bool.and_eq_true]at q
  have q1:((bJ items.size 0 lo:Nat):Int)=0:=eq_of_beq q.1.1
  have q2:bJ items.size items.size hi - bJ items.size 0 lo=items.size:=eq_of_beq q.2
  exact hw ⟨by omega,by omega⟩
 show wpAny _ _ (if(((bJ items.size 0 lo:Nat):Int)==0&&(1:Int)==1&&(bJ items.size items.size hi - bJ items.size 0 lo)==items.size)=true then _ else _) _ _ s
 rw[if_neg hno,aaE]
 first
  | exact wpAny_bind (m:=Builtin.Tuple.tupleExact _) (wpAny_newObj_type (wpAny_pure ⟨_,rfl,wpAny_pure h⟩) W8)
  | exact wpAny_bind (m:=Builtin.Tuple.tupleExact _) (wpAny_newObj_type (wpAny_bind (wpAny_pure (wpAny_pure ⟨_,rfl,wpAny_pure h⟩))) W8)
  | exact wpAny_bind (wpAny_bind (m:=Builtin.Tuple.tupleExact _) (wpAny_newObj_type (wpAny_pure (wpAny_pure ⟨_,rfl,wpAny_pure h⟩)) W8))
  | exact wpAny_bind (wpAny_bind (m:=Builtin.Tuple.tupleExact _) (wpAny_newObj_type (wpAny_pure ⟨_,rfl,wpAny_pure h⟩) W8))
end
end HT
namespace L2
open PySem PySem.Spec PyProof.Rows
abbrev TO:=St→Hp→(Option Int→Hp→Prop)→Prop
def PO(X:Cx)(e:Option Expr)(t:TO):Prop:=
 ∀(pins:List (Addr×Obj)) (s:Shared) (σ:St) (H:Hp) (Q:Option Int→Hp→Prop),Inv X pins σ H s→t σ H Q→
  wpAny (model X.prog X.w) X.A (evalPart e X.env) (fun u s'=>∃o H',Inv X pins σ H' s'∧IsPart u o∧Q o H') X.xe s
def acd:TO:=fun _ H Q=>Q none H
def aie(t:TE):TO:=fun σ H Q=>t σ H fun x H1=>∃i,x= .int i∧Q (some i) H1
theorem intsAre_of{ns:List Int}:∀{us:List Value},Vals (ns.map V.int) us→IntsAre us ns:=by
 induction ns with
 | nil=>intro us r;rw[List.map_nil]at r;cases r;exact .nil
 | cons n ns ih=>
  intro us r
  rw[List.map_cons]at r
  cases r with
  | cons r1 r2=>
   obtain⟨t,e⟩:=r1
   subst e
   exact .cons n t (ih r2)
section
variable{X:Cx}{e:Expr}{te:TE}{lo hi:Option Expr}{tl th:TO}{pos p2:Pos}
theorem acK:PO X none acd:=by
 intro pins s σ H Q I h
 rw[evalPart_none]
 exact wpAny_pure ⟨none,H,I,.none,h⟩
theorem acJ(h:PE X e te):PO X (some e) (aie te):=by
 intro pins s σ H Q I hw
 rw[evalPart_some]
 refine mz (h pins s σ H _ I hw) fun u s1 ⟨x,H1,I1,r1,q1⟩=> ?_
 obtain⟨i,rfl,q⟩:=q1
 obtain⟨t,rfl⟩:=r1
 exact⟨some i,H1,I1,.int i t,q⟩
def SlR(X:Cx)(r:V→Option Int→Option Int→Hp→VK→Prop):Prop:=
 ∀(pins:List (Addr×Obj)) (s:Shared) (σ:St) (H:Hp) (x:V) (v vl vu:Value) (lo hi:Option Int) (sl:Addr) (Q:VK),Inv X pins σ H s→RelV x v→s.heap.IsSliceOf sl vl vu .none→IsPart vl lo→IsPart vu hi→r x lo hi H Q→
  ∃T id,typeLookup (.type T) "__getitem__" = pure (some (.builtin id))∧s.TypeIs v T∧wpAny (model X.prog X.w) X.A (getItem v (.ref sl)) (EP X pins σ Q) X.xe s
theorem SlR.or{r r':V→Option Int→Option Int→Hp→VK→Prop}(h:SlR X r)(h':SlR X r'):SlR X (fun x lo hi H Q=>r x lo hi H Q∨r' x lo hi H Q):=by
 intro pins s σ H x v vl vu lo hi sl Q I rx hs pl pu q
 rcases q with q | q
 ·exact h pins s σ H x v vl vu lo hi sl Q I rx hs pl pu q
 ·exact h' pins s σ H x v vl vu lo hi sl Q I rx hs pl pu q
def tSl(r:V→Option Int→Option Int→Hp→VK→Prop)(te:TE)(tl th:TO):TE:=fun σ H Q=>te σ H fun x H1=>tl σ H1 fun l H2=>th σ H2 fun u H3=>r x l u H3 Q
theorem aaH{r:V→Option Int→Option Int→Hp→VK→Prop}(hr:SlR X r)(he:PE X e te)(hl:PO X lo tl)(hu:PO X hi th):PE X (.Subscript e (.Slice lo hi none p2) pos) (tSl r te tl th):=by
 intro pins s σ H Q I h
 refine Subscript_ (mz (he pins s σ H _ I h) fun v s1 ⟨x,H1,I1,r1,q1⟩=> ?_)
 refine wpAny_Slice (mz (hl pins s1 σ H1 _ I1 q1) fun vl s2 ⟨l,H2,I2,pl,q2⟩=>mz (hu pins s2 σ H2 _ I2 q2) fun vu s3 ⟨u,H3,I3,pu,q3⟩=> ?_)
 rw[evalPart_none]
 refine wpAny_pure ?_
 have I4:Inv X pins σ H3 {s3 with heap:=s3.heap.push {cls:= .type "slice",data:= .fields #[vl,vu,.none]}}:=I3.kept (t':=s3.toks) fun b ob q=>Heap.get?_push_of_some _ q
 obtain⟨T,id,hT,ht,hg⟩:=hr pins {s3 with heap:=s3.heap.push {cls:= .type "slice",data:= .fields #[vl,vu,.none]}} σ H3 x v vl vu l u s3.heap.objs.size Q I4 r1 (Heap.IsSliceOf.new ..) pl pu q3
 show wpAny (model X.prog X.w) X.A (subscriptTail e (.Slice lo hi none p2) v (.ref s3.heap.objs.size)) (EP X pins σ Q) X.xe {s3 with heap:=s3.heap.push {cls:= .type "slice",data:= .fields #[vl,vu,.none]}}
 exact tail_any (ops:=[.ref s3.heap.objs.size,v]) ht hT hg (by with_unfolding_all rfl)
def Td(xs:List V)(lo hi:Option Int):List V:=(xs.drop (HT.bJ xs.length 0 lo)).take (HT.bJ xs.length xs.length hi - HT.bJ xs.length 0 lo)
theorem Iz(xs:List V)(lo hi:Option Int):(Td xs lo hi).length≤xs.length:=by
 unfold Td
 rw[List.length_take,List.length_drop]
 omega
def apW(K:Frag):V→Option Int→Option Int→Hp→VK→Prop:=fun x lo hi H Q=>∃a xs,x= .ref a∧xq K H a xs∧
 ¬(HT.bJ xs.length 0 lo=0∧HT.bJ xs.length xs.length hi=xs.length)∧∀p,H p=none→Q (.ref p) (upd H p (.tup (Td xs lo hi)))
theorem ae7:SlR X (apW X.K):=by
 intro pins s σ H x v vl vu lo hi sl Q I rx hs pl pu h
 obtain⟨a,xs,rfl,hx,hw,q⟩:=h
 cases rx
 obtain⟨its,r,ht,hz⟩:=I.tuple hx
 have hlen:its.toArray.size=xs.length:=by rw[List.size_toArray];exact r.length.symm
 refine⟨"tuple",_,PyProof.Rows.slot_tuple_getitem.lookup,ht.typeIs,?_⟩
 refine HT.Gz ht hs pl pu (by rw[hlen];exact hw) ?_ (by rw[hlen];exact hz)
 rw[hlen]
 refine⟨.ref s.heap.objs.size,_,I.laid (t':=s.toks) (o:= .tup (Td xs lo hi)) (fun b ob q=>Heap.get?_push_of_some _ q) (Nat.le_refl _) ?_,rfl,q _ (I.hok.fresh (Nat.le_refl _))⟩
 exact⟨Nat.le_trans (Iz xs lo hi) hz,_,(r.drop (HT.bJ xs.length 0 lo)).take (HT.bJ xs.length xs.length hi - HT.bJ xs.length 0 lo),IsTup.new _ _⟩
def ap1(K:Frag):R2:=fun x y H Q=>∃a b ns ms,x= .ref a∧y= .ref b∧xq K H a (ns.map V.int)∧xq K H b (ms.map V.int)∧Q (.bl (HT.lexLt ns ms)) H
theorem af4(hu:X.A.units<cLine):Bs X (compareOp .Lt) (ap1 X.K):=by
 intro pins s σ H x y v u Q I rx ry h
 obtain⟨a,b,ns,ms,rfl,rfl,ha,hb,q⟩:=h
 cases rx
 cases ry
 obtain⟨its,r1,p1,_⟩:=I.tuple ha
 obtain⟨its2,r2,p2,_⟩:=I.tuple hb
 have i1:IntsAre its.toArray.toList ns:=intsAre_of r1
 have i2:IntsAre its2.toArray.toList ms:=intsAre_of r2
 exact HT.Va p1 p2 i1 i2 hu ⟨.bl (HT.lexLt ns ms),H,I,rfl,q⟩
def aiS(K:Frag):R2:=fun x y H Q=>∃a b xs ys,x= .ref a∧y= .ref b∧xq K H a xs∧xq K H b ys∧xs≠[]∧xs.length+ys.length≤sizeLine∧
 (ys=[]→Q (.ref a) H)∧(ys≠[]→∀p,H p=none→Q (.ref p) (upd H p (.tup (xs++ys))))
theorem Vals.Qc{xs:List V}{us:List Value}(r:Vals xs us):us=[]↔xs=[]:=by
 cases r with
 | nil=>simp
 | cons _ _=>simp
theorem acU:Bs X (binaryOp .Add) (aiS X.K):=by
 intro pins s σ H x y v u Q I rx ry h
 obtain⟨a,b,xs,ys,rfl,rfl,ha,hb,hx,hz,q1,q2⟩:=h
 cases rx
 cases ry
 obtain⟨its,r1,p1,_⟩:=I.tuple ha
 obtain⟨its2,r2,p2,_⟩:=I.tuple hb
 refine HT.adS p1 p2 (fun z=>hx (r1.Qc.mp z)) (fun z=>⟨.ref a,H,I,rfl,q1 (r2.Qc.mp z)⟩) (fun z=> ?_) (by rw[←r1.length,←r2.length];exact hz)
 refine⟨.ref s.heap.objs.size,_,I.laid (t':=s.toks) (o:= .tup (xs++ys)) (fun b ob q=>Heap.get?_push_of_some _ q) (Nat.le_refl _) ?_,rfl,q2 (fun w=>z (r2.Qc.mpr w)) _ (I.hok.fresh (Nat.le_refl _))⟩
 exact⟨by rw[List.length_append];exact hz,_,r1.append r2,IsTup.new _ _⟩
end
def ixN(n:Nat)(i:Int):Option Nat:=if 0≤i then(if i<n then some i.toNat else none)else if -(n:Int)≤i then some (i+n).toNat else none
def Le{α:Type}(xs:List α)(i:Int):Option α:=(ixN xs.length i).bind fun j=>xs[j]?
theorem adq{n:Nat}{i:Int}{j:Nat}(h:ixN n i=some j):seqIndex? i n=some j∧j<n∧ -(n:Int)≤i∧i<n:=by
 unfold ixN at h
 by_cases h0:0≤i
 ·rw[if_pos h0]at h
  by_cases h1:i<n
  ·rw[if_pos h1]at h
   have e:i.toNat=j:=Option.some.inj h
   exact⟨by rw[seqIndex_of h0 h1,e],by omega,by omega,h1⟩
  ·rw[if_neg h1]at h;cases h
 ·rw[if_neg h0]at h
  by_cases h1: -(n:Int)≤i
  ·rw[if_pos h1]at h
   have e:(i+n).toNat=j:=Option.some.inj h
   exact⟨by rw[seqIndex_neg (by omega) h1,e],by omega,h1,by omega⟩
  ·rw[if_neg h1]at h;cases h
theorem QK{α:Type}{xs:List α}{i:Int}{v:α}(h:Le xs i=some v):∃j,seqIndex? i xs.length=some j∧xs[j]? = some v∧j<xs.length∧ -(xs.length:Int)≤i∧i<xs.length:=by
 unfold Le at h
 cases e:ixN xs.length i with
 | none=>rw[e]at h;cases h
 | some j=>
  rw[e]at h
  obtain⟨h1,h2,h3,h4⟩:=adq e
  exact⟨j,h1,h,h2,h3,h4⟩
def Xz(b:Expr):Prop:=∀o i,subscripted b false o i=operate [o,i] (getItem o i)
def IxR(X:Cx)(r:R2):Prop:=
 ∀(value slice:Expr) (pins:List (Addr×Obj)) (s:Shared) (σ:St) (H:Hp) (x y:V) (v u:Value) (Q:VK),Inv X pins σ H s→RelV x v→RelV y u→r x y H Q→
  subscripted slice false v u=operate [v,u] (getItem v u)→wpAny (model X.prog X.w) X.A (subscriptTail value slice v u) (EP X pins σ Q) X.xe s
def MtR(X:Cx)(id:String)(r:V→List V→Hp→VK→Prop):Prop:=
 ∀(pins:List (Addr×Obj)) (s:Shared) (σ:St) (H:Hp) (x:V) (xs:List V) (v:Value) (us:List Value) (Q:VK),Inv X pins σ H s→RelV x v→Vals xs us→r x xs H Q→
  wpAny (model X.prog X.w) X.A (call (.builtin id) (v::us)) (EP X pins σ Q) X.xe s
section
variable{X:Cx}{a b:Expr}{ta tb:TE}{pos:Pos}
theorem IxR.or{r r':R2}(h:IxR X r)(h':IxR X r'):IxR X (fun x y H Q=>r x y H Q∨r' x y H Q):=by
 intro value slice pins s σ H x y v u Q I rx ry q hs
 rcases q with q | q
 ·exact h value slice pins s σ H x y v u Q I rx ry q hs
 ·exact h' value slice pins s σ H x y v u Q I rx ry q hs
theorem ajq{r:R2}(hr:IxR X r)(ha:PE X a ta)(hb:PE X b tb)(hs:Xz b):PE X (.Subscript a b pos) (tOp r ta tb):=by
 intro pins s σ H Q I h
 exact Subscript_ (ahv ha hb I h fun v u s2 x y H2 I2 rx ry q=>hr a b pins s2 σ H2 x y v u Q I2 rx ry q (hs _ _))
def aiR(K:Frag):R2:=fun x y H Q=>∃p xs i v,x= .ref p∧y= .int i∧yV K H p xs∧Le xs i=some v∧Q v H
def aiP(K:Frag):R2:=fun x y H Q=>∃p xs i v,x= .ref p∧y= .int i∧xq K H p xs∧Le xs i=some v∧Q v H
def aiQ:R2:=fun x y H Q=>∃z i c,x= .str z∧y= .int i∧z.length≤sizeLine∧Le z.cps.toList i=some c∧Q (.str ⟨#[c]⟩) H
theorem adp:IxR X (aiR X.K):=by
 intro value slice pins s σ H x y v u Q I rx ry h hs
 obtain⟨p,xs,i,z,rfl,rfl,hq,he,q⟩:=h
 cases rx
 obtain⟨t,rfl⟩:=ry
 obtain⟨its,r,pl,hz⟩:=I.list hq
 obtain⟨j,h1,h2,h3,h4,h5⟩:=QK he
 obtain⟨w,ew,rw'⟩:=r.get h2
 have hl:=r.length
 have hn:=KQ
 have fin:EP X pins σ Q w s:=⟨z,H,I,rw',q⟩
 by_cases h0:0≤i
 ·have hj:i.toNat=j:=by
   rw[seqIndex_of h0 h5]at h1
   exact Option.some.inj h1
  exact item_listR pl.isList h0 (by omega) (by rw[hj];simpa using ew) fin hs
 ·have hj:(i+(its.toArray.size:Int)).toNat=j:=by
   rw[seqIndex_neg (by omega) h4]at h1
   rw[List.size_toArray,←hl]
   exact Option.some.inj h1
  exact subscriptTail_builtinR (x:=w) pl.isList.typeIs slot_list_getitem.lookup
   (wpAny_getItem_list_neg (Q:=fun r s'=>r=w∧EP X pins σ Q r s') pl.isList (by omega) (by rw[List.size_toArray]<;>omega) (by omega) (by rw[hj];simpa using ew) ⟨rfl,fin⟩) hs
theorem abb:IxR X (aiP X.K):=by
 intro value slice pins s σ H x y v u Q I rx ry h hs
 obtain⟨p,xs,i,z,rfl,rfl,hq,he,q⟩:=h
 cases rx
 obtain⟨t,rfl⟩:=ry
 obtain⟨its,r,pl,hz⟩:=I.tuple hq
 obtain⟨j,h1,h2,h3,h4,h5⟩:=QK he
 obtain⟨w,ew,rw'⟩:=r.get h2
 have hl:=r.length
 have hn:=KQ
 have fin:EP X pins σ Q w s:=⟨z,H,I,rw',q⟩
 exact subscriptTail_builtinR (x:=w) pl.typeIs slot_tuple_getitem.lookup
  (getItem_tuple (j:=j) (Q:=fun r s'=>r=w∧EP X pins σ Q r s') pl (by omega) (by omega) (by rw[List.size_toArray,←hl];exact h1) (by simpa using ew) ⟨rfl,fin⟩) hs
theorem agr:IxR X aiQ:=by
 intro value slice pins s σ H x y v u Q I rx ry h hs
 obtain⟨z,i,c,rfl,rfl,hz,he,q⟩:=h
 obtain⟨t,rfl⟩:=rx
 obtain⟨t',rfl⟩:=ry
 obtain⟨j,h1,h2,h3,h4,h5⟩:=QK he
 have hl:z.cps.toList.length=z.length:=by simp[Str.length]
 rw[hl]at h1 h4 h5
 have hn:=KQ
 exact tail_any (typeIs_str s z t) slot_str_getitem.lookup (getItem_str (c:=c) (by
  have e1:decide (i< -(2 ^ 63:Int))=false:=decide_eq_false (by omega)
  have e2:decide (i≥2 ^ 63)=false:=decide_eq_false (by omega)
  rw[e1,e2,Bool.or_false]) (by rw[h1];simpa using h2) ⟨.str ⟨#[c]⟩,H,I.tok _,⟨_,rfl⟩,q⟩) hs
theorem Inv.lst{pins:List (Addr×Obj)}{σ:St}{H:Hp}{s:Shared}{p:Addr}{xs:List V}(I:Inv X pins σ H s)(h:H p=some (.lst xs)):
  ∃(its:List Value) (n:Nat),Vals xs its∧s.heap.get? p=some {cls:= .type "list",data:= .seq its.toArray n}∧xs.length≤sizeLine:=by
 obtain⟨z,its,n,r,e⟩:=I.hok p _ h
 exact⟨its,n,r,e,z⟩
theorem O3(lo hi:Option Int)(n:Nat):(sliceBounds lo hi none n).1=((HT.bJ n 0 lo:Nat):Int)∧(sliceBounds lo hi none n).2.1=((HT.bJ n n hi:Nat):Int)∧(sliceBounds lo hi none n).2.2=1:=by
 refine⟨?_,?_,rfl⟩
 ·cases lo with
  | none=>simp[sliceBounds,HT.bJ]
  | some i=>
   simp only[sliceBounds,HT.bJ,Option.getD_none,show(1:Int) > 0 by decide,if_true]
   by_cases h:i<0
   ·simp only[h,if_true]<;>omega
   ·simp only[h,if_false]<;>omega
 ·cases hi with
  | none=>simp[sliceBounds,HT.bJ]
  | some i=>
   simp only[sliceBounds,HT.bJ,Option.getD_none,show(1:Int) > 0 by decide,if_true]
   by_cases h:i<0
   ·simp only[h,if_true]<;>omega
   ·simp only[h,if_false]<;>omega
theorem Ly(its:List Value)(lo hi:Option Int):slicePick its.toArray lo hi none=((its.drop (HT.bJ its.length 0 lo)).take (HT.bJ its.length its.length hi - HT.bJ its.length 0 lo)).toArray:=by
 obtain⟨h1,h2,h3⟩:=O3 lo hi its.toArray.size
 unfold slicePick
 rw[h1,h2,h3]
 simp only[sliceRange_one,pick_run,List.size_toArray]<;>rfl
def apZ(K:Frag):V→Option Int→Option Int→Hp→VK→Prop:=fun x lo hi H Q=>∃a xs,x= .ref a∧yV K H a xs∧∀p,H p=none→Q (.ref p) (upd H p (.lst (Td xs lo hi)))
theorem aci:SlR X (apZ X.K):=by
 intro pins s σ H x v vl vu lo hi sl Q I rx hs pl pu h
 obtain⟨a,xs,rfl,hx,q⟩:=h
 cases rx
 obtain⟨its,r,ht,hz⟩:=I.list hx
 have hlen:=r.length
 refine⟨"list",_,slot_list_getitem.lookup,ht.isList.typeIs,?_⟩
 refine wpAny_getItem_list_slice ht.isList hs pl pu .none (by simp) ?_ (by rw[List.size_toArray]<;>omega)
 rw[Ly,←hlen]
 refine⟨.ref s.heap.objs.size,_,I.laid (t':=s.toks) (o:= .lst (Td xs lo hi)) (fun b ob q=>Heap.get?_push_of_some _ q) (Nat.le_refl _) ?_,rfl,q _ (I.hok.fresh (Nat.le_refl _))⟩
 exact⟨Nat.le_trans (Iz xs lo hi) hz,_,0,(r.drop (HT.bJ xs.length 0 lo)).take (HT.bJ xs.length xs.length hi - HT.bJ xs.length 0 lo),Heap.get?_push_size _ rfl⟩
def Ea:V→Bool
 | .non=>true
 | .bl _=>true
 | .int _=>true
 | .str _=>true
 | _=>false
def eqV:V→V→Bool
 | .non,.non=>true
 | .bl a,.bl b=>a==b
 | .bl a,.int b=>(if a then 1 else 0)==b
 | .int a,.bl b=>a==(if b then 1 else 0)
 | .int a,.int b=>a==b
 | .str a,.str b=>a==b
 | _,_=>false
theorem agD{A:Around}{s:Shared}{y x:V}{u v:Value}(ry:RelV y u)(rx:RelV x v)(fy:Ea y=true)(fx:Ea x=true):SeqAt.EqAt A s u v (eqV y x):=by
 cases y with
 | non=>
  cases ry
  cases x with
  | non=>cases rx;exact SeqAt.EqAt.same _
  | bl b=>cases rx;exact SeqAt.EqAt.none_bool b
  | int b=>obtain⟨t,rfl⟩:=rx;exact SeqAt.EqAt.none_int b t
  | str b=>obtain⟨t,rfl⟩:=rx;exact SeqAt.EqAt.none_str b t
  | _=>exact absurd (show false=true from fx) Bool.false_ne_true
 | bl a=>
  cases ry
  cases x with
  | non=>cases rx;exact SeqAt.EqAt.bool_none a
  | bl b=>cases rx;exact SeqAt.EqAt.bool_bool a b
  | int b=>obtain⟨t,rfl⟩:=rx;exact SeqAt.EqAt.bool_int a b t
  | str b=>obtain⟨t,rfl⟩:=rx;exact SeqAt.EqAt.bool_str a b t
  | _=>exact absurd (show false=true from fx) Bool.false_ne_true
 | int a=>
  obtain⟨t',rfl⟩:=ry
  cases x with
  | non=>cases rx;exact SeqAt.EqAt.int_none a t'
  | bl b=>cases rx;exact SeqAt.EqAt.int_bool a t' b
  | int b=>obtain⟨t,rfl⟩:=rx;exact SeqAt.EqAt.int_int a t' b t
  | str b=>obtain⟨t,rfl⟩:=rx;exact SeqAt.EqAt.int_str a t' b t
  | _=>exact absurd (show false=true from fx) Bool.false_ne_true
 | str a=>
  obtain⟨t',rfl⟩:=ry
  cases x with
  | non=>cases rx;exact SeqAt.EqAt.str_none a t'
  | bl b=>cases rx;exact SeqAt.EqAt.str_bool a t' b
  | int b=>obtain⟨t,rfl⟩:=rx;exact SeqAt.EqAt.str_int a t' b t
  | str b=>obtain⟨t,rfl⟩:=rx;exact SeqAt.EqAt.str_str a t' b t
  | _=>exact absurd (show false=true from fx) Bool.false_ne_true
 | _=>exact absurd (show false=true from fy) Bool.false_ne_true
def eqU(x:V)(u:Value):Bool:=match u with
 | .none=>eqV .non x
 | .bool b=>eqV (.bl b) x
 | .int i _=>eqV (.int i) x
 | .str z _=>eqV (.str z) x
 | _=>false
theorem abr{x y:V}{u:Value}(r:RelV y u)(f:Ea y=true):eqU x u=eqV y x:=by
 cases y with
 | non=>cases r;rfl
 | bl b=>cases r;rfl
 | int i=>obtain⟨t,rfl⟩:=r;rfl
 | str z=>obtain⟨t,rfl⟩:=r;rfl
 | _=>exact absurd (show false=true from f) Bool.false_ne_true
theorem QL{x:V}:∀{xs:List V} {us:List Value},Vals xs us→xs.all Ea=true→us.any (eqU x)=xs.any fun y=>eqV y x
 | _,_,.nil,_=>rfl
 | y::xs,u::us,.cons r t,f=>by
  rw[List.all_cons,Bool.and_eq_true]at f
  rw[List.any_cons,List.any_cons,abr r f.1,QL t f.2]
theorem KN{A:Around}{s:Shared}{x:V}{v:Value}(rx:RelV x v)(fx:Ea x=true):∀{xs:List V} {us:List Value},Vals xs us→xs.all Ea=true→∀u∈us,SeqAt.EqAt A s u v (eqU x u)
 | _,_,.nil,_=>fun u hu=>by cases hu
 | y::xs,u::us,.cons r t,f=>fun u' hu=>by
  rw[List.all_cons,Bool.and_eq_true]at f
  rcases List.mem_cons.mp hu with rfl | hu
  ·rw[abr r f.1];exact agD r rx f.1 fx
  ·exact KN rx fx t f.2 u' hu
def inV(x:V)(xs:List V):Bool:=xs.any fun y=>eqV y x
def rIn(K:Frag)(neg:Bool):R2:=fun x y H Q=>∃p xs,y= .ref p∧(yV K H p xs∨xq K H p xs)∧Ea x=true∧xs.all Ea=true∧Q (.bl (if neg then !inV x xs else inV x xs)) H
theorem Nb:Bs X (compareOp .In) (rIn X.K false):=by
 intro pins s σ H x y v u Q I rx ry h
 obtain⟨p,xs,rfl,hq,fx,fs,q⟩:=h
 cases ry
 rcases hq with hq | hq
 ·obtain⟨its,r,pl,hz⟩:=I.list hq
  refine SeqAt.in_listAt (eqU x) pl.isList (fun w hw=>KN rx fx r fs w (by simpa using hw)) ⟨.bl _,H,I,rfl,?_⟩
  rw[show its.toArray.any (eqU x)=its.any (eqU x) by simp,QL r fs]
  exact q
 ·obtain⟨its,r,pl,hz⟩:=I.tuple hq
  refine SeqAt.in_tupleAt (eqU x) pl (fun w hw=>KN rx fx r fs w (by simpa using hw)) ⟨.bl _,H,I,rfl,?_⟩
  rw[show its.toArray.any (eqU x)=its.any (eqU x) by simp,QL r fs]
  exact q
theorem QG:sJ X (.builtin "len") (fun xs H Q=>∃p ys,xs=[.ref p]∧(yV X.K H p ys∨xq X.K H p ys)∧Q (.int ys.length) H):=by
 intro pins s σ H xs us Q I r h
 obtain⟨p,ys,rfl,hq,q⟩:=h
 obtain⟨u,rfl,rx⟩:=vals1 r
 cases rx
 have hn:=KQ
 rcases hq with hq | hq
 ·obtain⟨its,r',pl,hz⟩:=I.list hq
  have hlen:=r'.length
  exact Calls.call_len_list pl.isList (by simp only[List.size_toArray]<;>omega) ⟨.int ys.length,H,I.tok _,⟨s.toks+1,by rw[List.size_toArray,hlen]⟩,q⟩
 ·obtain⟨its,r',pl,hz⟩:=I.tuple hq
  have hlen:=r'.length
  exact len_tuple pl (by simp only[List.size_toArray]<;>omega) ⟨.int ys.length,H,I.tok _,⟨s.toks+1,by rw[List.size_toArray,hlen]⟩,q⟩
theorem G5:sJ X (.builtin "len") (fun xs H Q=>∃z,xs=[.str z]∧z.length≤sizeLine∧Q (.int z.length) H):=by
 intro pins s σ H xs us Q I r h
 obtain⟨z,rfl,hz,q⟩:=h
 obtain⟨u,rfl,t,rfl⟩:=vals1 r
 have hn:=KQ
 exact len_str (by omega) ⟨.int z.length,H,I.tok _,⟨_,rfl⟩,q⟩
theorem sJ.or{f:Value}{r r':List V→Hp→VK→Prop}(h:sJ X f r)(h':sJ X f r'):sJ X f (fun xs H Q=>r xs H Q∨r' xs H Q):=by
 intro pins s σ H xs us Q I rs q
 rcases q with q | q
 ·exact h pins s σ H xs us Q I rs q
 ·exact h' pins s σ H xs us Q I rs q
theorem QF:sJ X (.type "list") (fun xs H Q=>∃p ys,xs=[.ref p]∧(yV X.K H p ys∨xq X.K H p ys)∧∀l,H l=none→Q (.ref l) (upd H l (.lst ys))):=by
 intro pins s σ H xs us Q I r h
 obtain⟨p,ys,rfl,hq,q⟩:=h
 obtain⟨u,rfl,rx⟩:=vals1 r
 cases rx
 have fin:∀(its:List Value),Vals ys its→ys.length≤sizeLine→∀(h':Heap) (c':Nat),(∀b o',s.heap.get? b=some o'→h'.get? b=some o')→
   h'.get? s.heap.objs.size=some {cls:= .type "list",dict:=none,data:= .seq its.toArray c',slots:= #[]}→EP X pins σ Q (.ref s.heap.objs.size) {s with heap:=h'}:=fun its r' hz h' c' kp e=>
  ⟨.ref s.heap.objs.size,_,I.laid (t':=s.toks) kp (Nat.le_refl _) (show jr X.prog X.w _ h' _ (.lst ys)from⟨hz,its,c',r',e⟩),rfl,q _ (I.hok.fresh (Nat.le_refl _))⟩
 rcases hq with hq | hq
 ·obtain⟨its,r',pl,hz⟩:=I.list hq
  have hlen:=r'.length
  obtain⟨o,ho,hc,n,hd⟩:=pl.isList
  exact call_list_seq p (.inl rfl) ho hc hd (fun h' c' kp e=>fin its r' hz h' c' kp e) (by simp only[List.size_toArray]<;>omega)
 ·obtain⟨its,r',pl,hz⟩:=I.tuple hq
  have hlen:=r'.length
  obtain⟨o,ho,hc,n,hd⟩:=pl
  exact call_list_seq p (.inr rfl) ho hc hd (fun h' c' kp e=>fin its r' hz h' c' kp e) (by simp only[List.size_toArray]<;>omega)
theorem Mg:sJ X (.type "tuple") (fun xs H Q=>∃p ys,xs=[.ref p]∧((yV X.K H p ys∧∀l,H l=none→Q (.ref l) (upd H l (.tup ys)))∨(xq X.K H p ys∧Q (.ref p) H))):=by
 intro pins s σ H xs us Q I r h
 obtain⟨p,ys,rfl,h⟩:=h
 obtain⟨u,rfl,rx⟩:=vals1 r
 cases rx
 rcases h with⟨hq,q⟩ | ⟨hq,q⟩
 ·obtain⟨its,r',pl,hz⟩:=I.list hq
  have hlen:=r'.length
  refine call_tuple_list pl.isList (fun h' kp=> ?_) (by simp only[List.size_toArray]<;>omega)
  have I1:Inv X pins σ H {s with heap:=h'}:=I.kept (t':=s.toks) kp
  have I2:Inv X pins σ (upd H h'.objs.size (.tup ys)) {s with heap:=h'.push {cls:= .type "tuple",data:= .seq its.toArray}}:=
   I1.laid (t':=s.toks) (fun b o e=>Heap.get?_push_of_some _ e) (Nat.le_refl _) (show jr X.prog X.w _ _ _ (.tup ys)from⟨hz,its,r',IsTup.new _ _⟩)
  exact⟨.ref h'.objs.size,_,I2,rfl,q _ (I1.hok.fresh (Nat.le_refl _))⟩
 ·obtain⟨its,r',pl,hz⟩:=I.tuple hq
  exact call_tuple_same pl ⟨.ref p,H,I,rfl,q⟩
def tyV(K:Frag)(T:String)(x:V)(H:Hp):Prop:=match x with
 | .str _=>T= "str"
 | .int _=>T= "int"
 | .ref p=>(T= "list" ∧ ∃xs,yV K H p xs)∨(T= "tuple" ∧ ∃o,K.lookup p=some o∧o.cls= .type "tuple" ∧ o.dict=none)∨
   (T= "dict" ∧ ((∃kvs,H p=some (.dK kvs))∨∃kvs,H p=some (.dT kvs)))∨(T= "set" ∧ ∃S n,H p=some (.set S n))
 | _=>False
theorem aeS{pins:List (Addr×Obj)}{σ:St}{H:Hp}{s:Shared}{T:String}{x:V}{v:Value}(I:Inv X pins σ H s)(r:RelV x v)(ty:tyV X.K T x H):
  s.TypeIs v T∧∀a,v= .ref a→∃ob,s.heap.get? a=some ob∧ob.dict=none:=by
 cases x with
 | str z=>
  obtain⟨t,rfl⟩:=r
  cases(show T= "str" from ty)
  exact⟨typeIs_str s z t,fun _ e=>nomatch e⟩
 | int i=>
  obtain⟨t,rfl⟩:=r
  cases(show T= "int" from ty)
  exact⟨typeIs_int s i t,fun _ e=>nomatch e⟩
 | ref p=>
  cases r
  rcases ty with⟨rfl,xs,hq⟩ | ⟨rfl,o,hk,hc,hd⟩ | ⟨rfl,hk⟩ | ⟨rfl,S,n,hk⟩
  ·obtain⟨its,_,pl,_⟩:=I.list hq
   refine⟨pl.isList.typeIs,fun a e=> ?_⟩
   cases e
   obtain⟨o,n,e,c,hd,_⟩:=pl
   exact⟨o,e,hd⟩
  ·refine⟨⟨o,I.yX p o hk,hc⟩,fun a e=> ?_⟩
   cases e
   exact⟨o,I.yX _ o hk,hd⟩
  ·have z:∃o,s.heap.get? p=some o∧o.ExactDict:=by
    rcases hk with⟨kvs,hk⟩ | ⟨kvs,hk⟩
    ·obtain⟨_,_,_,_,o,_,_,e,ex,_⟩:=I.hok p _ hk
     exact⟨o,e,ex⟩
    ·obtain⟨_,_,_,_,o,_,_,e,ex,_⟩:=I.hok p _ hk
     exact⟨o,e,ex⟩
   obtain⟨o,e,ex⟩:=z
   refine⟨⟨o,e,ex.1⟩,fun a e2=> ?_⟩
   cases e2
   exact⟨o,e,ex.2.1⟩
  ·obtain⟨o,_,_,_,e,ex,_⟩:=I.hok p _ hk
   refine⟨⟨o,e,ex.1⟩,fun a e2=> ?_⟩
   cases e2
   exact⟨o,e,ex.2.1⟩
 | _=>exact False.elim ty
def tBM(K:Frag)(T:String)(r:V→List V→Hp→VK→Prop)(to:TE)(t:TA):TE:=fun σ H Q=>to σ H fun x H1=>tyV K T x H1∧t σ H1 fun xs H2=>r x xs H2 Q
variable{o e:Expr}{es:List Expr}{to:TE}{t:TA}{name:Str}{apos cpos:Pos}{T id:String}{r:V→List V→Hp→VK→Prop}
theorem ajr(pa:PlainAttrs T)(slot:Slot T name id)(hty:typeOf (.builtin id)=pure (.type "method_descriptor"))(hm:MtR X id r)(ho:PE X o to)(ha:PA X (e::es) t)
  (hbase:attributeBase o name X.env (eval o X.env)=eval o X.env:=by rfl)
  (hfew:((backTo cpos (starEach (e::es) X.env)).all (fun x=> !x.1)&&(backToKw cpos (keywordEach [] X.env)).all (fun x=>x.1.isSome)
   && decide ((e::es).length+([]:List Keyword).length+(if([]:List Keyword).isEmpty then 0 else 1)<30))=true:=by rfl)
  (hline:(apos.endLine==cpos.line)=true:=by rfl) (hs:starEach (e::es) X.env=(false,eval e X.env)::starEach es X.env:=by rfl) (hplain:(backTo cpos (starEach es X.env)).any (·.1)=false:=by rfl):
  PE X (.Call (.Attribute o name apos) (e::es) [] cpos) (tBM X.K T r to t):=by
 intro pins s σ H Q I h
 refine wpAny_Call_method_late hbase hfew hline rfl (mz (ho pins s σ H _ I h) fun v s1 ⟨x,H1,I1,r1,ty,q1⟩=> ?_)
 obtain⟨h1,h2⟩:=aeS I1 r1 ty
 refine⟨T,id,pa,slot,hty,h1,h2,?_⟩
 have hA:=ha cpos pins s1 σ H1 _ I1 q1
 rw[hs]at hA ⊢
 refine Calls.callWith_builtin (by show(false||(backTo cpos (starEach es X.env)).any (·.1))=false;rw[hplain]<;>rfl) (Calls.evalArgs_plain ?_)
 exact mz hA fun us s2 ⟨vs,H2,I2,r2,q2⟩=>hm pins s2 σ H2 x vs v us Q I2 r1 r2 q2
end
def MtM(X:Cx)(id:String)(r:V→List V→Hp→VK→Prop):Prop:=
 ∀(pins:List (Addr×Obj)) (s:Shared) (σ:St) (H:Hp) (x:V) (xs:List V) (v:Value) (us:List Value) (Q:VK),Inv X pins σ H s→RelV x v→Vals xs us→r x xs H Q→
  wpAny (model X.prog X.w) X.A (call (.builtin id) (v::us)) (EP X pins σ Q) X.xe s
theorem Vals.one:∀{x:V} {us:List Value},Vals [x] us→∃u,us=[u]∧RelV x u
 | _,_,.cons r .nil=>⟨_,rfl,r⟩
theorem Vals.two:∀{x y:V} {us:List Value},Vals [x,y] us→∃u v,us=[u,v]∧RelV x u∧RelV y v
 | _,_,_,.cons r (.cons q .nil)=>⟨_,_,rfl,r,q⟩
theorem Vals.zero:∀{us:List Value},Vals [] us→us=[]
 | _,.nil=>rfl
theorem Vals.dropLast{xs:List V}{us:List Value}(h:Vals xs us):Vals xs.dropLast us.dropLast:=by
 induction h with
 | nil=>exact .nil
 | cons r t ih=>
  cases t with
  | nil=>exact .nil
  | cons q t'=>exact .cons r ih
section
variable{X:Cx}{pins:List (Addr×Obj)}{σ:St}{H:Hp}{s:Shared}{l b:Addr}{xs ys zs:List V}
theorem Inv.ajU{its its':List Value}{n:Nat}{f:Array Value→Array Value}{t':Nat}(I:Inv X pins σ H s)(hH:H l=some (.lst xs))
  (e:s.heap.get? l=some {cls:= .type "list",data:= .seq its.toArray n}) (hf:f its.toArray=its'.toArray) (hv:Vals ys its') (hz:ys.length≤sizeLine):
  Inv X pins σ (upd H l (.lst ys)) {s with heap:=s.heap.update l (Obj.mapSeq f),toks:=t'}:=by
 have q:=PySem.IsL.update e f
 rw[hf]at q
 refine I.write (x:=l) (e:=l) (by rw[hH];exact trivial) (.inl rfl) (fun b' u hb hu=>(Heap.get?_update_other s.heap (Obj.mapSeq f) (Ne.symm hb)).trans hu) ⟨_,q⟩ ?_
 exact⟨hz,its',_,hv,q⟩
theorem Inv.ajV{its:List Value}{t':Nat}(I:Inv X pins σ H s)(hv:Vals ys its)(hz:ys.length≤sizeLine):
  Inv X pins σ (upd H s.heap.objs.size (.lst ys)) {s with heap:=s.heap.push {cls:= .type "list",data:= .seq its.toArray},toks:=t'}:=
 I.laid (fun _ _ q=>Heap.get?_push_of_some _ q) (Nat.le_refl _) ⟨hz,its,0,hv,Heap.get?_push_size _ rfl⟩
theorem Inv.fresh(I:Inv X pins σ H s):H s.heap.objs.size=none:=I.hok.fresh (Nat.le_refl _)
theorem Inv.Yx(I:Inv X pins σ H s)(hH:H l=some (.lst xs)):xs.length≤sizeLine∧∃(its:List Value) (n:Nat),Vals xs its∧xs.length=its.length∧s.heap.get? l=some {cls:= .type "list",data:= .seq its.toArray n}:=by
 obtain⟨z,its,n,r,e⟩:=I.hok l _ hH
 exact⟨z,its,n,r,r.length,e⟩
theorem aaU{n:Nat}(h:n≤sizeLine):Builtin.List.listTooLong n=false:=by
 unfold Builtin.List.listTooLong
 exact decide_eq_false (by omega)
end
section
variable{X:Cx}
def acA:V→List V→Hp→VK→Prop:=fun x vs H Q=>∃l xs y,x= .ref l∧vs=[y]∧H l=some (.lst xs)∧xs.length<sizeLine∧Q .non (upd H l (.lst (xs++[y])))
theorem Yu:MtM X "list.append" acA:=by
 intro pins s σ H x vs v us Q I rx rv h
 obtain⟨l,xs,y,rfl,rfl,hH,hz,q⟩:=h
 cases rx
 obtain⟨u,rfl,ru⟩:=rv.one
 obtain⟨z,its,n,r,hl,e⟩:=I.Yx hH
 refine call_meets F.slot_list_append ⟨_,e,rfl⟩ F.entry_list_append (F.args_list_append_2 _ _) (PySem.list_append l its.toArray n u (by rw[List.size_toArray];omega)) ⟨e,?_⟩
 refine⟨.non,_,I.ajU (its':=its++[u]) hH e (by simp) (r.append (.cons ru .nil)) ?_,rfl,q⟩
 rw[List.length_append,List.length_singleton]
 omega
def acz:V→List V→Hp→VK→Prop:=fun x vs H Q=>∃l b xs zs,x= .ref l∧vs=[.ref b]∧H l=some (.lst xs)∧H b=some (.lst zs)∧xs.length+zs.length≤sizeLine∧Q .non (upd H l (.lst (xs++zs)))
theorem ahN:MtM X "list.extend" acz:=by
 intro pins s σ H x vs v us Q I rx rv h
 obtain⟨l,b,xs,zs,rfl,rfl,hH,hB,hz,q⟩:=h
 cases rx
 obtain⟨u,rfl,ru⟩:=rv.one
 cases ru
 obtain⟨z,its,n,r,hl,e⟩:=I.Yx hH
 obtain⟨z2,its2,n2,r2,hl2,e2⟩:=I.Yx hB
 have hsz:its.toArray.size+its2.toArray.size≤sizeLine:=by rw[List.size_toArray,List.size_toArray];omega
 have akz:¬(!its.toArray.isEmpty&&Builtin.List.listTooLong (its.toArray.size+its2.toArray.size))=true:=by
  rw[aaU hsz,Bool.and_false]
  exact Bool.false_ne_true
 refine call_meets F.slot_list_extend ⟨_,e,rfl⟩ F.entry_list_extend (F.args_list_extend_2 _ _)
  (AutoSeq1.list_extend_list_list_0 l its.toArray n b its2.toArray n2 akz (by rw[List.size_toArray];omega) (by omega)) ⟨e,e2,?_⟩
 refine⟨.non,_,I.ajU (its':=its++its2) hH e (by simp) (r.append r2) ?_,rfl,q⟩
 rw[List.length_append]
 omega
def ap3:R2:=fun x y H Q=>∃l b xs zs,x= .ref l∧y= .ref b∧H l=some (.lst xs)∧H b=some (.lst zs)∧xs.length+zs.length≤sizeLine∧∀p,H p=none→Q (.ref p) (upd H p (.lst (xs++zs)))
theorem af7:Bs X (binaryOp .Add) ap3:=by
 intro pins s σ H x y v u Q I rx ry h
 obtain⟨l,b,xs,zs,rfl,rfl,hH,hB,hz,q⟩:=h
 cases rx
 cases ry
 obtain⟨z,its,n,r,hl,e⟩:=I.Yx hH
 obtain⟨z2,its2,n2,r2,hl2,e2⟩:=I.Yx hB
 refine PySem.P.add_list e e2 ?_ (by rw[List.size_toArray,List.size_toArray];omega)
 have ea:its.toArray++its2.toArray=(its++its2).toArray:=by simp
 rw[ea]
 exact⟨.ref _,_,I.ajV (t':=s.toks) (r.append r2) (by rw[List.length_append];omega),rfl,q _ I.fresh⟩
end
end L2
namespace Att
open PySem PySem.W PySem.Calls PyProof.Rows
theorem Jj{P:Params}{h:Heap}:∀(ns:List Int) (vs:List Value),WellAll P h vs (ns.map WData.int)→IntsAre vs ns:=by
 intro ns
 induction ns with
 | nil=>
  intro vs w
  rw[List.map_nil]at w
  cases w
  exact .nil
 | cons n ns ih=>
  intro vs w
  rw[List.map_cons]at w
  cases w with
  | cons a b=>
   cases a
   exact .cons _ _ (ih _ b)
theorem XX{l:OpenLaw}{n:Nat}(hn:l.most=some n){P:Params}{h:Heap}{args:List WData}{vals:List Value}
  (hpre:l.row.toRowW.claim.pre args=true) (hwl:WellAll P h vals args):
  ∃a vs ns,vals=[Value.ref a]∧args=[WData.list (ns.map WData.int)]∧h.get? a=some {cls:= .type "list",data:= .seq vs.toArray}∧IntsAre vs ns∧ns.length≤n:=by
 have hsh:WShape.hasAll [] args [.list .int]=true:=(pre_splitW hpre).1
 have hc:l.pre.holds [] {args:=args}=true:=(pre_splitW hpre).2
 obtain⟨d,r,rfl,h1,h2⟩:=hasAllW_cons hsh
 obtain rfl:=hasAllW_nil h2
 obtain⟨xs,rfl,h3⟩:=hasW_list h1
 obtain⟨ns,rfl⟩:=items_int h3
 have hlen:ns.length≤n:=by
  unfold OpenLaw.pre at hc
  have h4:(WTm.not (.lt (.lit (.int (n:Int))) (.len (.arg 0)))).holds [] {args:=[.list (ns.map .int)]}=true:=by
   have h4:=(holds_andW hc).1
   rw[hn]at h4
   exact h4
  have h5:=condW_of h4 (w_not (w_lt w_lit (w_len_list (w_arg rfl))))
  rw[List.length_map]at h5
  refine Nat.le_of_not_lt fun q=> ?_
  have q':(n:Int)<((ns.length:Nat):Int):=by omega
  first
   | (rw[decide_eq_true q']at h5;exact absurd h5 (by decide))
   | (simp at h5;omega)
 cases hwl with
 | cons w1 w2=>
  cases w2
  cases w1 with
  | list ho hall=>exact⟨_,_,ns,rfl,rfl,ho,Jj ns _ hall,hlen⟩
theorem Ye(l:OpenLaw)(args:List WData):l.row.toRowW.claim.post args (.bool true) args=true:=
 postW_of (r:=l.row.toRowW) (X:=(true==true))
  (show WShape.has [] (.bool true) .bool=true by first | rfl | decide | simp[WShape.has,WShape.arms,WShape.armsAll])
  (show(WTm.eq .res (.lit (.bool true))).value [] {args:=args,res:=some (.bool true),after:=args}=some (.bool (true==true))from w_eq_bool (w_res rfl) w_lit) rfl
theorem Tt{l:OpenLaw}{n:Nat}{q:Program}{loose:List Str}{XP:(Str→Option Value)→Heap→Prop}{YP:World→Heap→Prop}{d:DefRec}
  (hn:l.most=some n) (hdf:d.params.defaults=[])
  (call:∀(w:World) (s₀ s₁:Shared) (mg mb:Str→Option Value) (fa:Addr) (o:Obj) (pm cd doc:Value) (a:Addr) (vs:List Value) (ns:List Int),
   Ground q loose [] XP w s₀ mg mb s₁.heap→YP w s₁.heap→
   s₁.heap.get? fa=some o→o.data= .func (docDef d.name d.params d.body d.scope pm cd doc)→s₁.heap.CodeRec cd d.name→mg d.name=some (.ref fa)→
   s₁.heap.get? a=some {cls:= .type "list",data:= .seq vs.toArray}→IntsAre vs ns→ns.length≤n→s₁.gens= #[]→
   codeAny (model l.prog w) callerA (.call (.ref fa) ⟨[.ref a],[]⟩) (fun r s'=>r= .ok (.ret (.bool true))∧OldK s₁.heap s'.heap∧s'.os=s₁.os∧AllBare s'.gens) s₁):
  WalkO q loose XP YP l.row.toRowW d [] (fun f vs=>PySem.call f vs):=by
 intro w s₀ s₁ mg mb G Y fa o pm cd doc dV kV ho hd hcd hD hmg hg args vals as hpre hlay hrd hwl hlo
 obtain rfl:dV= .none:=Dflts.none hD hdf
 obtain rfl:kV= .none:=Dflts.noKw hD
 obtain⟨a,vs,ns,rfl,rfl,hobj,hints,hlen⟩:=XX hn hpre hwl
 refine enter_call (codeAny_mono (call w s₀ s₁ mg mb fa o pm cd doc a vs ns G Y ho (fd_plain hd) hcd hmg hobj hints hlen hg) fun r s' hq=> ?_)
 obtain⟨rfl,h2,h3,h4⟩:=hq
 exact⟨.inl ⟨.bool true,.bool true,[],rfl,fun _=>rfl,.bool true,Ye l _,fun _=>⟨List.Pairwise.nil,fun _ hm=>(nomatch hm)⟩⟩,h2,h3,h4⟩
end Att
namespace L2
open PySem PySem.Spec PyProof.Rows
theorem Ms:∀{vs:List Value} {ns:List Int},IntsAre vs ns→Vals (ns.map V.int) vs
 | _,_,.nil=> .nil
 | _,_,.cons n t h=> .cons ⟨t,rfl⟩ (Ms h)
def Only(H:Hp):Prop:=∀b,H b=none∨∃o xs,H b=some (.Dr o (.lst xs))
theorem aa9{P:Program}{w:World}{K:Frag}{mg mb:Str→Option Value}{CX:V2}{k:Nat}{fa a:Addr}{fd:FuncData}{x:Str}{sp:Sp}{s₁:Shared}{vs:List Value}{ns:List Int}
  (KX:K.In s₁.heap) (hns:s₁.heap.Ns mainGlobals mg) (hb:s₁.heap.Ns builtinsNs mb) (hbb:∀x:Str,x≠ "__name__" → mb x=bootBuiltins x) (hlim:s₁.heap.NoLimit) (hg:s₁.gens= #[])
  (ha:s₁.heap.get? a=some {cls:= .type "list",data:= .seq vs.toArray}) (hi:IntsAre vs ns) (hl:ns.length≤sizeLine) (hr:mV k callerA)
  (F:∀base:Heap,K.In base→base.Ns mainGlobals mg→bF P w K mg base CX k fa fd [x] sp) (hbind:∀(s:Shared) (u:Value),BindsTo s fd ⟨[u],[]⟩ [(x,u)])
  (hsp:∀H:Hp,Only H→yV K H a (ns.map V.int)→sp [.ref a] H (fun v _=>v= .bl true) fun _ _ _=>False)
  (hCX:∀H e s',CX [] H s₁ (fun _ _ _=>False) e s'→False):
  codeAny (model P w) callerA (.call (.ref fa) ⟨[.ref a],[]⟩) (fun r s'=>r= .ok (.ret (.bool true))∧OldK s₁.heap s'.heap∧s'.os=s₁.os∧AllBare s'.gens) s₁:=by
 have rv:=Ms hi
 have lenV:=hi.length
 have core:∀H:Hp,Only H→yV K H a (ns.map V.int)→Br P w H s₁.heap→(∀b,H b≠none→b=a)→(H a≠none→K.lookup a=none)→
   codeAny (model P w) callerA (.call (.ref fa) ⟨[.ref a],[]⟩) (fun r s'=>r= .ok (.ret (.bool true))∧OldK s₁.heap s'.heap∧s'.os=s₁.os∧AllBare s'.gens) s₁:=by
  intro H hO hS hok hA hK
  have Xu:∀{b:Addr} {o:Obj},s₁.heap.get? b=some o→H b=none→(Qq s₁.heap H).get? b=some o:=fun e n=>abh e n
  have noA:∀{b:Addr} {o:Obj} {es:Array DictEntry} {ep:Nat},s₁.heap.get? b=some o→o.data= .dict es ep→H b=none:=fun{b o es ep} e d=>by
   cases q:H b with
   | none=>rfl
   | some u=>
    have e':b=a:=hA b (by rw[q];simp)
    subst e'
    rw[ha]at e;cases e
    have d':Data.seq vs.toArray _=Data.dict es ep:=d
    cases d'
  have nsK:∀{b:Addr} {m:Str→Option Value},s₁.heap.Ns b m→(Qq s₁.heap H).Ns b m:=fun{b m} ⟨o,es,ep,e,d,r⟩=>⟨o,es,ep,Xu e (noA e d),d,r⟩
  have hKb:K.In (Qq s₁.heap H):=fun b o e=>Xu (KX b o e) (by
   cases q:H b with
   | none=>rfl
   | some u=>
    have e':b=a:=hA b (by rw[q];simp)
    subst e'
    rw[hK (by rw[q];simp)]at e;cases e)
  have hM:Mod K mg (Qq s₁.heap H):=⟨hKb,nsK hns,⟨mb,nsK hb,hbb⟩,let⟨mc,h1,h2⟩:=hlim;⟨mc,nsK h1,h2⟩⟩
  have e0:Mp P w K mg (Qq s₁.heap H) callerA [] s₁ H:=⟨rfl,hM,fun b o e=>acZ e,Nat.le_of_eq (YL _ _),trivial,fun b hb=>absurd (show b∈([]:List Addr)from hb) (by simp),hok,.of_eq hg⟩
  refine codeAny_mono ((F _ hKb (nsK hns)).run callerA [] s₁ H ⟨[.ref a],[]⟩ [.ref a] [.ref a] _ _ hr e0 (hbind s₁ (.ref a)) (.cons rfl .nil) (hsp H hO hS)) fun r s' h=> ?_
  cases r with
  | error e=>exact(hCX H e s' h).elim
  | ok fl=>
   cases fl with
   | next=>exact False.elim h
   | brk=>exact False.elim h
   | cont=>exact False.elim h
   | ret u=>
    obtain⟨v,H',os,bare,un,hok',r',q⟩:=h
    have q':v= .bl true:=q
    subst q'
    obtain rfl:u=Value.bool true:=r'
    refine⟨rfl,OldK.of_keep fun b o e=> ?_,os,bare⟩
    cases q:H b with
    | none=>exact un.keep b o e q (by intro z;exact absurd (show b∈([]:List Addr)from z) (by simp)) (by simp)
    | some u=>
     rcases hO b with z | ⟨ob,xs,z⟩
     ·rw[q]at z;cases z
     ·have z2:=un.Bp b ob _ z
      obtain⟨e1,_⟩:=hok b _ z
      obtain⟨e2,_⟩:=hok' b _ z2
      rw[e]at e1;cases e1
      exact e2
 cases hk:K.lookup a with
 | some o=>
  have e:=KX a o hk
  rw[ha]at e
  cases e
  refine core (fun _=>none) (fun _=> .inl rfl) (.inr ⟨_,vs.toArray,_,hk,rfl,rfl,rfl,by rw[List.size_toArray,lenV];exact hl,by simpa using rv⟩) (fun b u z=>by have z':(none:Option HO)=some u:=z;cases z') (fun b z=>absurd rfl z) fun z=>absurd rfl z
 | none=>
  refine core (fun b=>if b=a then some (.Dr {cls:= .type "list",data:= .seq vs.toArray} (.lst (ns.map V.int)))else none) (fun b=> ?_) (.inl (.inr ⟨{cls:= .type "list",data:= .seq vs.toArray},if_pos rfl⟩)) (fun b u z=> ?_) (fun b z=> ?_) fun _=>hk
  ·by_cases hb:b=a
   ·exact .inr ⟨_,_,if_pos hb⟩
   ·exact .inl (if_neg hb)
  ·by_cases hb:b=a
   ·have z':=(if_pos hb).symm.trans z
    cases z'
    subst hb
    exact⟨ha,by rw[List.length_map];exact hl,vs,_,rv,ha⟩
   ·have z':=(if_neg hb).symm.trans z
    cases z'
  ·by_cases hb:b=a
   ·exact hb
   ·exact absurd (if_neg hb) z
abbrev KOf{K:Frag}{h:Heap}(_:K.In h):Frag:=K
theorem ab6{l:PySem.W.OpenLaw}{n k:Nat}{q:Program}{loose:List Str}{XP:(Str→Option Value)→Heap→Prop}{YP:World→Heap→Prop}{d:DefRec}{K:Params→Frag}{CX:World→V2}{sp:World→Sp}{x:Str}
  (hn:l.most=some n) (hn2:n≤sizeLine) (hdf:d.params.defaults=[]) (hr:mV k callerA)
  (hY:∀(w:World) (h:Heap),YP w h→(K w.params).In h)
  (F:∀(w:World) (mg:Str→Option Value) (fa:Addr) (h:Heap),(K w.params).In h→h.Ns mainGlobals mg→mg d.name=some (.ref fa)→
   ∃fd:FuncData,(∀(s:Shared) (u:Value),BindsTo s fd ⟨[u],[]⟩ [(x,u)])∧
    ∀base:Heap,(K w.params).In base→base.Ns mainGlobals mg→bF l.prog w (K w.params) mg base (CX w) k fa fd [x] (sp w))
  (hsp:∀(w:World) (H:Hp) (a:Addr) (ns:List Int),ns.length≤n→Only H→yV (K w.params) H a (ns.map V.int)→sp w [.ref a] H (fun v _=>v= .bl true) fun _ _ _=>False)
  (hCX:∀(w:World) (H:Hp) (s:Shared) (e:Value) (s':Shared),CX w [] H s (fun _ _ _=>False) e s'→False):
  PySem.W.WalkO q loose XP YP l.row.toRowW d [] (fun f vs=>PySem.call f vs):=by
 refine Att.Tt hn hdf fun w s₀ s₁ mg mb fa o pm cd doc a vs ns G Y ho hd hcd hmg hobj hints hlen hg=> ?_
 have KX:=hY w _ Y
 obtain⟨fd,hb,hF⟩:=F w mg fa _ KX G.T.g hmg
 exact aa9 KX G.T.g G.T.b G.T.builtins G.T.nolimit hg hobj hints (Nat.le_trans hlen hn2) hr hF hb (fun H hO hS=>hsp w H a ns hlen hO hS) fun H e s'=>hCX w H s₁ e s'
def inClass(s:Stmt)(j:Nat):Stmt:=match s with
 | .ClassDef _ _ _ body _ _ _ _ _ _ _=>body.getD j (.Pass ⟨0,0,0,0⟩)
 | _=> .Pass ⟨0,0,0,0⟩
def aL(s:Stmt):Arguments:=match s with
 | .FunctionDef _ a _ _ _ _ _ _ _ _=>a
 | _=>{posonlyargs:=[],args:=[],vararg:=none,kwonlyargs:=[],kw_defaults:=[],kwarg:=none,defaults:=[]}
def aK(s:Stmt):List Stmt:=match s with
 | .FunctionDef _ _ b _ _ _ _ _ _ _=>b
 | _=>[]
def aA(s:Stmt):Scope:=match s with
 | .FunctionDef _ _ _ _ _ _ sc _ _ _=>sc
 | _=>{kind:= .function,names:=[],isGenerator:=false,isCoroutine:=false}
abbrev V3:V2:=fun _ _ _ _ _ _=>False
abbrev E0:XK:=fun _ _ _=>False
structure Fun(K:Frag)(x qual:Str)(st:Stmt)(f:Addr)(fd:FuncData):Prop where
 ex:∃(oc:Value) (od:Option Addr) (kV doc pm:Value) (an:Option Addr) (cdv ct:Value) (osl:Array (Option Value)),
  fd=fnOf x qual (aL st) (aK st) (aA st) .none kV doc pm an cdv ct∧K.lookup f=some ⟨oc,od,.func fd,osl⟩∧codeIn K cdv qual=true
 kp:keepIn K (.ref f)=true
section
variable{P:Program}{w:World}{K:Frag}{mg:Str→Option Value}{base:Heap}
theorem Fun.ok{x qual:Str}{st:Stmt}{f:Addr}{fd:FuncData}{N ps:List Str}{k:Nat}{sp:Sp}(F:Fun K x qual st f fd)(S:bA N ps (aA st))(len:∀vs H Q E,sp vs H Q E→vs.length=ps.length)
  (hbody:∀(cdv:Value) (A:Around) (outer:List Env) (s:Shared) (H:Hp) (vs:List V) (Q:VK) (E:XK),mV k (A.deeper (envOfC qual (aA st) s.heap.objs.size f cdv))→sp vs H Q E→
   ∃t,Jl (Bq V3 P w K mg base N qual (aA st) f cdv A outer s H E).nox (aK st) t∧t {nx:=fun _ H'=>Q .non H',rt:=Q} (start N vs) H):bF P w K mg base V3 (k+1) f fd ps sp:=by
 obtain⟨oc,od,kV,doc,pm,an,cdv,ct,osl,rfl,lk,hcd⟩:=F.ex
 refine abo lk hcd S len fun A outer s H vs Q E hr hsp=> ?_
 obtain⟨t,h,q⟩:=hbody cdv A outer s H vs Q E hr hsp
 exact⟨t,h.nox,q⟩
end
section
variable{X:Cx}
theorem pv(i:Nat){x:Str}{pos:Pos}(hN:X.N[i]? = some x:=by rfl)(hv:Zm X.env.scope x:=by first | exact Or.inl rfl | exact Or.inr (Or.inl rfl) | exact Or.inr (Or.inr rfl))(hd:(x==("__debug__" : Str))=false:=by decide)
  (hcd:(x==("__classdict__" : Str))=false:=by decide):PE X (.Name x pos) (ab_ i):=aaG hN hv hd hcd
end
def Li(H H':Hp):Prop:=∀b o,H b=some o→H' b=some o
theorem Li.trans{H H1 H2:Hp}(a:Li H H1)(b:Li H1 H2):Li H H2:=fun c o h=>b c o (a c o h)
theorem Li.free{H H':Hp}(e:Li H H'){l:Addr}(h:H' l=Option.none):H l=Option.none:=by
 cases q:H l with
 | none=>rfl
 | some o=>
  rw[e l o q]at h
  cases h
theorem Li.seq{K:Frag}{H H':Hp}{a:Addr}{xs:List V}(e:Li H H')(h:yV K H a xs):yV K H' a xs:=by
 rcases h with(h | ⟨o,h⟩) | h
 ·exact .inl (.inl (e _ _ h))
 ·exact .inl (.inr ⟨o,e _ _ h⟩)
 ·exact .inr h
theorem La{env:Env}{scope:Scope}(h:∀n,(n,NameKind.free)∈scope.names→∃c,env.cells.lookup n=some c):
  ∃cl,closureFor scope env=pure cl∧(∀n c,cl.lookup n=some c→env.cells.lookup n=some c)∧∀n,(n,NameKind.free)∈scope.names→∃c,cl.lookup n=some c:=by
 have go:∀(names:List (Str×NameKind)) (acc:List (Str×Addr)),(∀n,(n,NameKind.free)∈names→∃c,env.cells.lookup n=some c)→(∀n c,acc.lookup n=some c→env.cells.lookup n=some c)→
   ∃cl,(forIn names acc fun(x:Str×NameKind) (r:List (Str×Addr))=>if(x.2==NameKind.free)=true then do let a ←cellOf env x.1;pure (ForInStep.yield ((x.1,a)::r))else pure (ForInStep.yield r):Sem (List (Str×Addr)))=pure cl∧
    (∀n c,cl.lookup n=some c→env.cells.lookup n=some c)∧(∀n,(n,NameKind.free)∈names→∃c,cl.lookup n=some c)∧∀n c,acc.lookup n=some c→∃c,cl.lookup n=some c:=by
  intro names
  induction names with
  | nil=>intro acc _ h2;exact⟨acc,rfl,h2,(fun _ z=>nomatch z),fun n c e=>⟨c,e⟩⟩
  | cons x r ih=>
   intro acc h1 h2
   obtain⟨n,k⟩:=x
   by_cases hk:k=NameKind.free
   ·subst hk
    obtain⟨c,hc⟩:=h1 n List.mem_cons_self
    obtain⟨cl,e1,e2,e3,e4⟩:=ih ((n,c)::acc) (fun m z=>h1 m (List.mem_cons_of_mem _ z)) (fun m d e=>by
     rw[List.lookup_cons]at e
     cases q:m==n with
     | true=>rw[q]at e;cases e;rw[eq_of_beq q];exact hc
     | false=>rw[q]at e;exact h2 m d e)
    refine⟨cl,?_,e2,fun m z=> ?_,fun m d e=> ?_⟩
    ·rw[List.forIn_cons]
     have:cellOf env n=pure c:=by unfold cellOf;rw[hc]
     simp only[this,beq_self_eq_true,if_true]
     exact e1
    ·rcases List.mem_cons.mp z with z | z
     ·cases z
      exact e4 n c (by rw[List.lookup_cons,beq_self_eq_true])
     ·exact e3 m z
    ·cases q:m==n with
     | true=>exact e4 m c (by rw[List.lookup_cons,q])
     | false=>exact e4 m d (by rw[List.lookup_cons,q];exact e)
   ·obtain⟨cl,e1,e2,e3,e4⟩:=ih acc (fun m z=>h1 m (List.mem_cons_of_mem _ z)) h2
    refine⟨cl,?_,e2,fun m z=> ?_,e4⟩
    ·rw[List.forIn_cons]
     have:(k==NameKind.free)=false:=by simpa using hk
     simp only[this,Bool.false_eq_true,if_false]
     exact e1
    ·rcases List.mem_cons.mp z with z | z
     ·cases z;exact absurd rfl hk
     ·exact e3 m z
 obtain⟨cl,e1,e2,e3,_⟩:=go scope.names [] h (fun _ _ e=>nomatch e)
 refine⟨cl,?_,e2,e3⟩
 unfold closureFor
 show(forIn scope.names [] _ >>= fun r=>pure r)=_
 rw[show(forIn scope.names [] fun(x:Str×NameKind) (r:List (Str×Addr))=>_:Sem (List (Str×Addr)))=pure cl from e1]
 rfl
def gU(env:Env)(x:Str×NameKind):Str×NameKind:=if(x.2== .free&&env.scope.kind== .function&&env.kindOf x.1==some .cell)then(x.1,.cell)else(x.1,x.2)
theorem Kl(env:Env)(x:Str×NameKind):(gU env x).1=x.1:=by
 unfold gU;split<;>rfl
theorem Ww{env:Env}{y:Str}:∀{names:List (Str×NameKind)},(∀z∈names,z.2≠ .cell)→((names.map (gU env)).lookup y=some .cell∨(names.map (gU env)).lookup y=some .free)→(y,NameKind.free)∈names
 | [],_,h=>by rcases h with h | h<;>cases h
 | (n,k)::r,hc,h=>by
  rw[List.map_cons]at h
  have e1:(gU env (n,k)).1=n:=Kl env (n,k)
  cases hx:y==n with
  | true=>
   have ey:=eq_of_beq hx
   subst ey
   have hk:k≠ .cell:=hc (y,k) List.mem_cons_self
   have q:(gU env (y,k)).2= .cell∨(gU env (y,k)).2= .free:=by
    have l:∀kk,List.lookup y (gU env (y,k)::List.map (gU env) r)=some kk→(gU env (y,k)).2=kk:=fun kk z=>by
     rw[show gU env (y,k)=(y,(gU env (y,k)).2)from Prod.ext e1 rfl,List.lookup_cons,beq_self_eq_true]at z
     exact Option.some.inj z
    rcases h with h | h
    ·exact .inl (l _ h)
    ·exact .inr (l _ h)
   have hk2:k= .free:=by
    unfold gU at q
    split at q
    ·rename_i z
     rw[Bool.and_eq_true,Bool.and_eq_true]at z
     simpa using z.1.1
    ·rcases q with q | q
     ·exact absurd q hk
     ·exact q
   rw[hk2]
   exact List.mem_cons_self
  | false=>
   have l:List.lookup y (gU env (n,k)::List.map (gU env) r)=List.lookup y (List.map (gU env) r):=by
    rw[show gU env (n,k)=(n,(gU env (n,k)).2)from Prod.ext e1 rfl,List.lookup_cons,hx]
   rw[l]at h
   exact List.mem_cons_of_mem _ (Ww (fun z hz=>hc z (List.mem_cons_of_mem _ hz)) h)
theorem aau{env:Env}{y:Str}:∀{names:List (Str×NameKind)},names.lookup y=some .free→(names.map (gU env)).lookup y=some .cell∨(names.map (gU env)).lookup y=some .free
 | [],h=>by cases h
 | (n,k)::r,h=>by
  rw[List.map_cons]
  have e1:(gU env (n,k)).1=n:=Kl env (n,k)
  rw[show gU env (n,k)=(n,(gU env (n,k)).2)from Prod.ext e1 rfl,List.lookup_cons]
  rw[List.lookup_cons]at h
  cases hx:y==n with
  | true=>
   rw[hx]at h
   have hk:k= .free:=Option.some.inj h
   subst hk
   show some (gU env (n,NameKind.free)).2=some NameKind.cell∨some (gU env (n,NameKind.free)).2=some NameKind.free
   unfold gU
   split
   ·exact .inl rfl
   ·exact .inr rfl
  | false=>
   rw[hx]at h
   exact aau h
def bQ(X:Cx)(scope:Scope)(cl:List (Str×Addr))(C:Addr)(N:List Str)(fp:List Addr)(s:Shared)(H:Hp):Cx where
 prog:=X.prog
 w:=X.w
 K:=X.K
 mg:=X.mg
 base:=X.base
 A:=X.A
 N:=N
 s₀:=s
 H₀:=H
 env:=compEnvC scope cl C X.env
 outer:=X.stack
 stack:=X.stack
 ex:=fp
 fn:=fun _=>false
 calm:=X.calm
 pn:=[]
 xe:=fun _ _=>False
def Bl(X:Cx)(scope:Scope):List Str→List Nat→Prop
 | [],[]=>True
 | y::cs,i::js=>(X.N[i]? = some y∧scope.names.lookup y=some .free∧(X.env.kindOf y=some .cell∨X.env.kindOf y=some .free))∧Bl X scope cs js
 | _,_=>False
theorem Bl.len{X:Cx}{scope:Scope}:∀{cs:List Str} {js:List Nat},Bl X scope cs js→js.length=cs.length
 | [],[],_=>rfl
 | _::_,_::_,h=>by rw[List.length_cons,List.length_cons,Bl.len h.2]
 | [],_::_,h=>h.elim
 | _::_,[],h=>h.elim
theorem Bl.get{X:Cx}{scope:Scope}{y:Str}:∀{cs:List Str} {js:List Nat} {j:Nat},Bl X scope cs js→cs[j]? = some y→
  ∃i,js[j]? = some i∧X.N[i]? = some y∧scope.names.lookup y=some .free∧(X.env.kindOf y=some .cell∨X.env.kindOf y=some .free)
 | [],[],_,_,e=>by simp at e
 | _::_,i::_,0,h,e=>by simp at e;subst e;exact⟨i,rfl,h.1.1,h.1.2⟩
 | _::_,_::_,j+1,h,e=>by
  obtain⟨i,e1,r⟩:=Bl.get (j:=j) h.2 (by simpa using e)
  exact⟨i,by simpa using e1,r⟩
 | [],_::_,_,h,_=>h.elim
 | _::_,[],_,h,_=>h.elim
def caps(js:List Nat)(σ:St):St:=js.map fun i=>(σ[i]?).join
def PTs(X:Cx)(ifs:List Expr)(t:TT):Prop:=
 ∀(pins:List (Addr×Obj)) (s:Shared) (σ:St) (H:Hp) (Q:Bool→Hp→Prop),Inv X pins σ H s→t σ H Q→
  wpAny (model X.prog X.w) X.A (forIn ifs true fun c r=>if r=true then do let ok ←isTrue c X.env (eval c X.env);pure (ForInStep.yield ok)else pure (ForInStep.yield r)) (TP X pins σ Q) X.xe s
def apk:TT:=fun _ H Q=>Q true H
theorem acD{X:Cx}:PTs X [] apk:=fun _ _ _ H _ I h=>wpAny_pure ⟨H,I,h⟩
def ahH(js:List Nat)(tt:TT)(te:TE)(σ:St)(Q:VK)(J:It)(H1:Hp):Prop:=
 ∃W:Nat→Nat→List V→Hp→Prop,(∃m,W 0 m [] H1)∧∀i m ys H,W i m ys H→
  (J.stop i H∧ys.length≤sizeLine∧∀p,H p=none→Q (.ref p) (upd H p (.lst ys)))∨
  (J.go i H∧∃N:List V→Hp→Prop,(∀ys' H',N ys' H'→ys'.length≤sizeLine∧∃m',m'<m∧W (i+1) m' ys' H')∧∀x H',J.yld i H x H'→tt (some x::caps js σ) H' fun b H2=>
   if b=true then te (some x::caps js σ) H2 fun y H3=>N (ys++[y]) H3 else N ys H2)
theorem Br.track{P:Program}{w:World}{H:Hp}{h:Heap}{a:Addr}{o:HO}(x:Br P w H h)(hn:H a=none)(new:jr P w (upd H a o) h a o):Br P w (upd H a o) h:=fun b u e=>by
 by_cases hb:b=a
 ·subst hb;rw[fX]at e;cases e;exact new
 ·rw[bG hb]at e
  exact(x b u e).stay (fun c v _ q=>q) (fun c q=>by rw[bG (dW q hn)];exact q) fun c xs q=>by rw[bG (dW q hn)];exact q
theorem Un.track{fs ex:List Addr}{H H1:Hp}{h h1:Heap}{a:Addr}{o:HO}(u:Un fs ex H H1 h h1)(hn:h.get? a=none)(hH:H a=none):Un fs ex H (upd H1 a o) h h1 where
 keep:=u.keep
 slot:=u.slot
 free:=fun b ob e n hx=>by rw[bG (by rintro rfl;rw[hn]at e;cases e)];exact u.free b ob e n hx
 there:=u.there
 tups:=fun b xs e=>by rw[bG (dW e hH)];exact u.tups b xs e
 Bp:=fun b ob xs e=>by rw[bG (dW e hH)];exact u.Bp b ob xs e
 BW:=fun b ps e=>by rw[bG (dW e hH)];exact u.BW b ps e
section
variable{X:Cx}{x:Str}{px:Pos}{elt iter:Expr}{ifs:List Expr}{scope:Scope}{cs:List Str}{js:List Nat}{tt:TT}{te:TE}{pos:Pos}
theorem Inv.letGo{pins:List (Addr×Obj)}{σ:St}{H:Hp}{s:Shared}{C:Addr}{h':Heap}{s2:Shared}{H2:Hp}{σ2:St}(I2:Inv X pins σ2 H2 s2)(I:Inv X pins σ H s)(hC:s2.heap.objs.size≤C)(hn:H C=none)(sb:Heap.SameBut C s.heap h'):Inv X pins σ H {s with heap:=h'}:=
 I.turned (t':=s.toks) (fun b o hb e=>(sb.2 b hb).trans e) hn (Nat.ne_of_gt (Nat.lt_of_lt_of_le I2.lt hC)) (.inr (Nat.le_trans I2.sz hC))
  (fun y c e z=>by obtain⟨v,q⟩:=I2.cell y c e;exact absurd (Nat.lt_of_lt_of_le q.lt (by rw[z];exact hC)) (Nat.lt_irrefl _))
  (fun p hp z=>absurd (Nat.lt_of_lt_of_le (Heap.lt_size (I2.pin p hp).1) (by rw[z];exact hC)) (Nat.lt_irrefl _))
end
def abp:HO→Bool
 | .dT _=>false
 | .Dr _ (.dT _)=>false
 | .Dr _ (.ins _ _ _)=>false
 | .Dr _ (.Dr _ _)=>false
 | _=>true
def Flat(H:Hp):Prop:=∀a o,H a=some o→abp o=true
def XC(H:Hp):Prop:=∀a C dx fs,H a=some (.ins C dx fs)→H dx=some (.own a)
structure Fgt(H H' T_:Hp):Prop where
 sub:∀a o,T_ a=some o→H' a=some o
 flat:Flat T_
 own:XC H→XC T_
 tup:∀b xs,H b=some (.tup xs)→T_ b=some (.tup xs)
 Dr:∀b o u,H b=some (.Dr o u)→T_ b=some (.Dr o u)
 ZL:∀b ps,H b=some (.ZL ps)→∃more,T_ b=some (.ZL (ps++more))
theorem Fgt.self{H H':Hp}(s:Li H H')(f:Flat H):Fgt H H' H:=
 ⟨s,f,id,fun _ _ e=>e,fun _ _ _ e=>e,fun _ ps e=>⟨#[],by rw[e];simp⟩⟩
theorem Li.upd{H:Hp}{p:Addr}{o:HO}(n:H p=none):Li H (upd H p o):=fun b u e=>by rw[bG (dW e n)];exact e
theorem Flat.upd{H:Hp}{p:Addr}{o:HO}(f:Flat H)(h:abp o=true):Flat (upd H p o):=fun a u e=>by
 by_cases z:a=p
 ·subst z;rw[fX]at e;cases e;exact h
 ·rw[bG z]at e;exact f a u e
theorem jr.less{P:Program}{w:World}{H H':Hp}{h:Heap}{a:Addr}{o:HO}(x:jr P w H' h a o)(f:abp o=true)(hw:∀C dx fs,o= .ins C dx fs→H dx=some (.own a)):jr P w H h a o:=by
 cases o with
 | dT kvs=>exact absurd f Bool.false_ne_true
 | ins C dx fs=>exact⟨hw C dx fs rfl,x.2⟩
 | Dr ob u=>
  cases u with
  | dT _=>exact absurd f Bool.false_ne_true
  | ins _ _ _=>exact absurd f Bool.false_ne_true
  | Dr _ _=>exact absurd f Bool.false_ne_true
  | _=>exact x
 | _=>exact x
theorem Br.less{P:Program}{w:World}{H H':Hp}{h:Heap}(x:Br P w H' h)(s:∀a o,H a=some o→H' a=some o)(f:Flat H)(hw:XC H):Br P w H h:=fun a o e=>
 (x a o (s a o e)).less (f a o e) fun C dx fs z=>hw a C dx fs (by rw[←z];exact e)
theorem Br.own{P:Program}{w:World}{H:Hp}{h:Heap}(x:Br P w H h):XC H:=fun a _ _ _ e=>(x a _ e).1
def gcK(H:Hp)(Q:VK):VK:=fun v H'=>Q v H'∨∃T_,Fgt H H' T_∧Q v T_
theorem bF.gc{P:Program}{w:World}{K:Frag}{mg:Str→Option Value}{base:Heap}{CX:V2}{k:Nat}{f:Addr}{fd:FuncData}{ps:List Str}{sp sp':Sp}(F:bF P w K mg base CX k f fd ps sp)
  (h:∀vs H Q E,sp' vs H Q E→sp vs H (gcK H Q) E):bF P w K mg base CX k f fd ps sp':=by
 refine⟨fun vs H Q E q=>F.len vs H _ E (h _ _ _ _ q),fun A outer s H args us vs Q E hr he hb hv hs=>codeAny_mono (F.run A outer s H args us vs (gcK H Q) E hr he hb hv (h _ _ _ _ hs)) fun r s' hq=> ?_⟩
 cases r with
 | error e=>exact hq
 | ok fl=>
  cases fl with
  | ret u=>
   obtain⟨v,H',os,bare,un,hok,rv,q⟩:=hq
   rcases q with q | ⟨T_,g,q⟩
   ·exact⟨v,H',os,bare,un,hok,rv,q⟩
   refine⟨v,T_,os,bare,⟨un.keep,un.slot,fun b o e n hx=> ?_,un.there,g.tup,g.Dr,g.ZL⟩,hok.less g.sub g.flat (g.own he.hok.own),rv,q⟩
   cases z:T_ b with
   | none=>rfl
   | some o'=>
    have z':=g.sub b o' z
    rw[un.free b o e n hx]at z'
    cases z'
  | next=>exact hq
  | brk=>exact hq
  | cont=>exact hq
structure cF(K:Frag)(x qual:Str)(st:Stmt)(dV:Value)(f:Addr)(fd:FuncData):Prop where
 ex:∃(oc:Value) (od:Option Addr) (kV doc pm:Value) (an:Option Addr) (cdv ct:Value) (osl:Array (Option Value)),
  fd=fnOf x qual (aL st) (aK st) (aA st) dV kV doc pm an cdv ct∧K.lookup f=some ⟨oc,od,.func fd,osl⟩∧codeIn K cdv qual=true
 kp:keepIn K (.ref f)=true
section
variable{P:Program}{w:World}{K:Frag}{mg:Str→Option Value}{base:Heap}
theorem cF.ok{x qual:Str}{st:Stmt}{dV:Value}{f:Addr}{fd:FuncData}{N ps:List Str}{k:Nat}{sp:Sp}(F:cF K x qual st dV f fd)(S:bA N ps (aA st))(len:∀vs H Q E,sp vs H Q E→vs.length=ps.length)
  (hbody:∀(cdv:Value) (A:Around) (outer:List Env) (s:Shared) (H:Hp) (vs:List V) (Q:VK) (E:XK),mV k (A.deeper (envOfC qual (aA st) s.heap.objs.size f cdv))→sp vs H Q E→
   ∃t,Jl (Bq V3 P w K mg base N qual (aA st) f cdv A outer s H E).nox (aK st) t∧t {nx:=fun _ H'=>gcK H Q .non H',rt:=gcK H Q} (start N vs) H):bF P w K mg base V3 (k+1) f fd ps sp:=by
 obtain⟨oc,od,kV,doc,pm,an,cdv,ct,osl,rfl,lk,hcd⟩:=F.ex
 refine bF.gc (sp:=fun vs H Q' E=>∃Q,sp vs H Q E∧Q'=gcK H Q) (abo lk hcd S (fun vs H Q E ⟨Q0,q,_⟩=>len vs H Q0 E q) fun A outer s H vs Q' E hr hsp=> ?_) fun vs H Q E q=>⟨Q,q,rfl⟩
 obtain⟨Q,hsp,rfl⟩:=hsp
 obtain⟨t,h,q⟩:=hbody cdv A outer s H vs Q E hr hsp
 exact⟨t,h.nox,q⟩
theorem cF.binds{x qual:Str}{st:Stmt}{dV:Value}{f:Addr}{fd:FuncData}{ps:List Str}(F:cF K x qual st dV f fd)
  (h:∀(kV doc pm:Value) (an:Option Addr) (cdv ct:Value) (us:List Value),us.length=ps.length→bindArgs (fnOf x qual (aL st) (aK st) (aA st) dV kV doc pm an cdv ct) ⟨us,[]⟩=pure (ps.zip us)):Binds K fd ps []:=by
 obtain⟨oc,od,kV,doc,pm,an,cdv,ct,osl,rfl,lk,hcd⟩:=F.ex
 exact .all (h kV doc pm an cdv ct)
theorem aN{x qual:Str}{st:Stmt}{dV:Value}{f:Addr}{oc:Value}{od an:Option Addr}{osl:Array (Option Value)}{kV doc pm cdv ct:Value}(l:K.lookup f=some ⟨oc,od,.func (fnOf x qual (aL st) (aK st) (aA st) dV kV doc pm an cdv ct),osl⟩)
  (c:codeIn K cdv qual=true) (k:keepIn K (.ref f)=true):cF K x qual st dV f (fnOf x qual (aL st) (aK st) (aA st) dV kV doc pm an cdv ct):=⟨⟨oc,od,kV,doc,pm,an,cdv,ct,osl,rfl,l,c⟩,k⟩
end
theorem gw:bootBuiltins "len" = some (.builtin "len"):=by decide +kernel
theorem j7:bootBuiltins "isinstance" = some (.builtin "isinstance"):=by decide +kernel
theorem ahk:bootBuiltins "min" = some (.builtin "min"):=by decide +kernel
theorem ahm:bootBuiltins "all" = some (.builtin "all"):=by decide +kernel
theorem ahl:bootBuiltins "int" = some (.type "int"):=by decide +kernel
theorem adU:bootBuiltins "bool" = some (.type "bool"):=by decide +kernel
theorem adT:bootBuiltins "list" = some (.type "list"):=by decide +kernel
theorem G6:bootBuiltins "tuple" = some (.type "tuple"):=by decide +kernel
theorem oO:bootBuiltins "str" = some (.type "str"):=by decide +kernel
def ao6:V→Value→Prop
 | .ty n,c=>c= .type n
 | .ref a,c=>c= .ref a
 | _,_=>False
theorem Only.flat{H:Hp}(o:Only H):Flat H:=fun a u e=>by
 rcases o a with z | ⟨ob,xs,z⟩
 ·rw[z]at e;cases e
 ·rw[z]at e;cases e;rfl
def cell(ns:List Int)(k:Nat):Int:=ns.getD k 0
def amr(g:TG)(tb:TS)(D:Ends)(σ:St)(J:It)(H1:Hp):Prop:=
 ∃W:Nat→Nat→St→Hp→Prop,(∃m,W 0 m σ H1)∧∀i m σ H,W i m σ H→
  (J.stop i H∧D.nx σ H)∨(J.go i H∧∃N:St→Hp→Prop,(∀σ' H',N σ' H'→∃m',m'<m∧W (i+1) m' σ' H')∧∀x H',J.yld i H x H'→g x σ H' fun σ2 H2=>tb {D with nx:=N,ct:=N,bk:=D.nx} σ2 H2)
def aik(wi:TI)(g:TG)(tb:TS):TS:=fun D σ H=>wi σ H fun J H1=>amr g tb D σ J H1
theorem acH{X:Cx}{tg iter:Expr}{body:List Stmt}{wi:TI}{g:TG}{tb:TS}{pos:Pos}(hp:PassesOwn (model X.prog X.w) X.A X.env X.xe)(hc:X.calm=true)(hi:PI X tg iter wi)(hg:PG X tg g)(hb:Jl X body tb)
  (hs:∀x,foldedSetIterable iter X.env x=pure x:=by intro _;rfl):PS X (.For tg iter body [] pos) (aik wi g tb):=afC hp hc hi hg hb hs
theorem nF{α:Type}{us:List α}(h:us.length=1):∃a,us=[a]:=match us,h with | [a],_=>⟨a,rfl⟩
theorem kW{α:Type}{us:List α}(h:us.length=2):∃a b,us=[a,b]:=match us,h with | [a,b],_=>⟨a,b,rfl⟩
theorem Gw{α:Type}{us:List α}(h:us.length=3):∃a b c,us=[a,b,c]:=match us,h with | [a,b,c],_=>⟨a,b,c,rfl⟩
theorem adg{α:Type}{us:List α}(h:us.length=4):∃a b c d,us=[a,b,c,d]:=match us,h with | [a,b,c,d],_=>⟨a,b,c,d,rfl⟩
inductive Dt where
 | non | bl (b:Bool) | int (i:Int) | str (x:Str) | tup (ds:List Dt) | lst (ds:List Dt)
mutual
inductive Is (K:Frag) (H:Hp):V→Dt→Prop
 | non:Is K H .non .non
 | bl (b:Bool):Is K H (.bl b) (.bl b)
 | int (i:Int):Is K H (.int i) (.int i)
 | str (x:Str):Is K H (.str x) (.str x)
 | tup {a:Addr} {xs:List V} {ds:List Dt}:xq K H a xs→Jm K H xs ds→Is K H (.ref a) (.tup ds)
 | lst {a:Addr} {xs:List V} {ds:List Dt}:yV K H a xs→Jm K H xs ds→Is K H (.ref a) (.lst ds)
inductive Jm (K:Frag) (H:Hp):List V→List Dt→Prop
 | nil:Jm K H [] []
 | cons {x:V} {d:Dt} {xs:List V} {ds:List Dt}:Is K H x d→Jm K H xs ds→Jm K H (x::xs) (d::ds)
end
mutual
def cT:Dt→Dt→Bool
 | .non,.non=>true
 | .bl a,.bl b=>a==b
 | .bl a,.int b=>(if a then 1 else 0)==b
 | .int a,.bl b=>a==(if b then 1 else 0)
 | .int a,.int b=>a==b
 | .str a,.str b=>a==b
 | .tup ds,.tup es=>CZ ds es
 | .lst ds,.lst es=>CZ ds es
 | _,_=>false
def CZ:List Dt→List Dt→Bool
 | [],[]=>true
 | d::ds,e::es=>cT d e&&CZ ds es
 | _,_=>false
end
mutual
def dep:Dt→Nat
 | .tup ds=>deps ds+1
 | .lst ds=>deps ds+1
 | _=>0
def deps:List Dt→Nat
 | []=>0
 | d::ds=>max (dep d) (deps ds)
end
mutual
theorem GX:∀d:Dt,cT d d=true
 | .non=>by unfold cT;rfl
 | .bl a=>by unfold cT;simp
 | .int a=>by unfold cT;simp
 | .str a=>by unfold cT;simp
 | .tup ds=>by unfold cT;exact HR ds
 | .lst ds=>by unfold cT;exact HR ds
theorem HR:∀ds:List Dt,CZ ds ds=true
 | []=>by unfold CZ;rfl
 | d::ds=>by unfold CZ;rw[GX d,HR ds];rfl
end
theorem uH:∀{ds es:List Dt},ds.length≠es.length→CZ ds es=false
 | [],[],h=>absurd rfl h
 | [],_::_,_=>by unfold CZ;rfl
 | _::_,[],_=>by unfold CZ;rfl
 | d::ds,e::es,h=>by
  unfold CZ
  rw[uH (ds:=ds) (es:=es) fun z=>h (by rw[List.length_cons,List.length_cons,z]),Bool.and_false]
theorem wU:∀{ds es:List Dt},ds.length=es.length→(List.range ds.length).all (fun j=>cT (ds.getD j .non) (es.getD j .non))=CZ ds es
 | [],[],_=>by unfold CZ;rfl
 | [],_::_,h=>by cases h
 | _::_,[],h=>by cases h
 | d::ds,e::es,h=>by
  have ih:=wU (ds:=ds) (es:=es) (Nat.succ.inj h)
  rw[List.length_cons,List.range_succ_eq_map,List.all_cons,List.all_map,CZ,←ih]
  rfl
theorem Jm.length{K:Frag}{H:Hp}:∀{xs:List V} {ds:List Dt},Jm K H xs ds→xs.length=ds.length
 | _,_,.nil=>rfl
 | _,_,.cons _ r=>by rw[List.length_cons,List.length_cons,Jm.length r]
theorem Jm.get{K:Frag}{H:Hp}:∀{xs:List V} {ds:List Dt} {i:Nat} {x:V},Jm K H xs ds→xs[i]? = some x→∃d,ds[i]? = some d∧Is K H x d
 | _,_,_,_,.nil,e=>by simp at e
 | _,_,0,_,.cons r _,e=>by simp at e;subst e;exact⟨_,rfl,r⟩
 | _,_,i+1,x,.cons _ t,e=>by
  obtain⟨d,h1,h2⟩:=Jm.get (i:=i) (x:=x) t (by simpa using e)
  exact⟨d,by simpa using h1,h2⟩
theorem Jm.at{K:Frag}{H:Hp}:∀{xs:List V} {ds:List Dt} {i:Nat} {d:Dt},Jm K H xs ds→ds[i]? = some d→∃x,xs[i]? = some x∧Is K H x d
 | _,_,_,_,.nil,e=>by simp at e
 | _,_,0,_,.cons r _,e=>by simp at e;subst e;exact⟨_,rfl,r⟩
 | _,_,i+1,d,.cons _ t,e=>by
  obtain⟨x,h1,h2⟩:=Jm.at (i:=i) (d:=d) t (by simpa using e)
  exact⟨x,by simpa using h1,h2⟩
mutual
theorem Is.keep{K:Frag}{H H':Hp}(s1:∀a xs,xq K H a xs→xq K H' a xs)(s2:∀a xs,yV K H a xs→yV K H' a xs):∀{v:V} {d:Dt},Is K H v d→Is K H' v d
 | _,_,.non=> .non
 | _,_,.bl b=> .bl b
 | _,_,.int i=> .int i
 | _,_,.str x=> .str x
 | _,_,.tup e r=> .tup (s1 _ _ e) (Jm.keep s1 s2 r)
 | _,_,.lst e r=> .lst (s2 _ _ e) (Jm.keep s1 s2 r)
theorem Jm.keep{K:Frag}{H H':Hp}(s1:∀a xs,xq K H a xs→xq K H' a xs)(s2:∀a xs,yV K H a xs→yV K H' a xs):∀{vs:List V} {ds:List Dt},Jm K H vs ds→Jm K H' vs ds
 | _,_,.nil=> .nil
 | _,_,.cons r t=> .cons (Is.keep s1 s2 r) (Jm.keep s1 s2 t)
end
theorem Qw(ds es:List Dt):cT (.tup ds) (.tup es)=CZ ds es:=by unfold cT;rfl
theorem Du(ds es:List Dt):cT (.lst ds) (.lst es)=CZ ds es:=by unfold cT;rfl
section
variable{X:Cx}{pins:List (Addr×Obj)}{σ:St}{H:Hp}{s:Shared}
theorem Inv.RV(I:Inv X pins σ H s){a:Addr}{xs ys:List V}(h:xq X.K H a xs)(h':yV X.K H a ys):False:=by
 obtain⟨its,_,pt,_⟩:=I.tuple h
 obtain⟨jts,_,pl,_⟩:=I.list h'
 obtain⟨o,e,c,_⟩:=pt
 obtain⟨o',n',e',c',_⟩:=pl
 rw[e]at e';cases e'
 rw[c]at c'
 injection c' with z
 exact absurd z (by decide)
mutual
theorem Inv.abf(I:Inv X pins σ H s):∀{v:V} {d e:Dt},Is X.K H v d→Is X.K H v e→d=e
 | _,_,_,.non,.non=>rfl
 | _,_,_,.bl _,.bl _=>rfl
 | _,_,_,.int _,.int _=>rfl
 | _,_,_,.str _,.str _=>rfl
 | _,_,_,.tup q r,.tup q' r'=>congrArg Dt.tup (Inv.Qm I r (I.Mu q q'▸r'))
 | _,_,_,.lst q r,.lst q' r'=>congrArg Dt.lst (Inv.Qm I r (I.R8 q q'▸r'))
 | _,_,_,.tup q _,.lst q' _=>(I.RV q q').elim
 | _,_,_,.lst q _,.tup q' _=>(I.RV q' q).elim
theorem Inv.Qm(I:Inv X pins σ H s):∀{vs:List V} {ds es:List Dt},Jm X.K H vs ds→Jm X.K H vs es→ds=es
 | _,_,_,.nil,.nil=>rfl
 | _,_,_,.cons r t,.cons r' t'=>by rw[Inv.abf I r r',Inv.Qm I t t']
end
theorem Fe:∀{ds:List Dt} {j:Nat} {d:Dt},ds[j]? = some d→dep d≤deps ds
 | [],_,_,e=>by simp at e
 | d'::ds,0,d,e=>by simp at e;subst e;unfold deps;exact Nat.le_max_left _ _
 | d'::ds,j+1,d,e=>by
  have:=Fe (ds:=ds) (j:=j) (d:=d) (by simpa using e)
  unfold deps
  exact Nat.le_trans this (Nat.le_max_right _ _)
theorem yM{A:Around}{xs ys:List V}{its jts:List Value}{ds es:List Dt}(r1:Vals xs its)(r2:Vals ys jts)(q1:Jm X.K H xs ds)(q2:Jm X.K H ys es)
  (ih:∀(j:Nat) (x y:V) (d e:Dt) (u v:Value),ds[j]? = some d→es[j]? = some e→Is X.K H x d→Is X.K H y e→RelV x u→RelV y v→SeqAt.EqAt A s u v (cT d e)):
  ∀j (h1:j<its.toArray.size) (h2:j<jts.toArray.size),SeqAt.EqAt A s its.toArray[j] jts.toArray[j] (cT (ds.getD j .non) (es.getD j .non)):=fun j h1 h2=>by
 have l1:=r1.length
 have l2:=r2.length
 have j1:j<xs.length:=by simp at h1;omega
 have j2:j<ys.length:=by simp at h2;omega
 obtain⟨w1,g1,p1⟩:=r1.get (i:=j) (x:=xs[j]) (by simp[j1])
 obtain⟨w2,g2,p2⟩:=r2.get (i:=j) (x:=ys[j]) (by simp[j2])
 obtain⟨d,e1,i1⟩:=q1.get (i:=j) (x:=xs[j]) (by simp[j1])
 obtain⟨e,e2,i2⟩:=q2.get (i:=j) (x:=ys[j]) (by simp[j2])
 have d1:ds.getD j .non=d:=by simp[List.getD,e1]
 have d2:es.getD j .non=e:=by simp[List.getD,e2]
 have c1:its.toArray[j]=w1:=by
  have:=List.getElem?_eq_some_iff.mp g1
  simpa using this.2
 have c2:jts.toArray[j]=w2:=by
  have:=List.getElem?_eq_some_iff.mp g2
  simpa using this.2
 rw[d1,d2,c1,c2]
 exact ih j _ _ d e _ _ e1 e2 i1 i2 p1 p2
theorem Ht{n m:Nat}(h:n=m)(p:Nat→Bool):((List.range (min n m)).all p&&n==m)=(List.range n).all p:=by
 subst h
 rw[Nat.min_self]
 simp
theorem HJ(I:Inv X pins σ H s):∀(n:Nat) (A:Around) (x y:V) (d e:Dt) (u v:Value),dep d≤n→A.units+n<cLine→Is X.K H x d→Is X.K H y e→RelV x u→RelV y v→SeqAt.EqAt A s u v (cT d e)
 | n,A,x,y,d,e,u,v,hd,hu,hx,hy,rx,ry=>by
  have same:u=v→SeqAt.EqAt A s u v (cT d e):=fun z=>by
   subst z
   have xy:x=y:=rx.inj ry
   subst xy
   rw[I.abf hx hy,GX]
   exact SeqAt.EqAt.same _
  have hu0:A.units<cLine:=by omega
  have in1:A.in1.units=A.units+1:=rfl
  cases hx with
  | non=>
   cases rx
   cases hy with
   | non=>cases ry;exact same rfl
   | bl b=>cases ry;unfold cT;exact SeqAt.EqAt.none_bool b
   | int b=>obtain⟨t,rfl⟩:=ry;unfold cT;exact SeqAt.EqAt.none_int b t
   | str b=>obtain⟨t,rfl⟩:=ry;unfold cT;exact SeqAt.EqAt.none_str b t
   | tup q r=>cases ry;obtain⟨its,_,p,_⟩:=I.tuple q;unfold cT;exact SeqAt.EqAt.none_tuple p hu0
   | lst q r=>cases ry;obtain⟨its,_,p,_⟩:=I.list q;unfold cT;exact SeqAt.EqAt.none_list p.isList hu0
  | bl a=>
   cases rx
   cases hy with
   | non=>cases ry;unfold cT;exact SeqAt.EqAt.bool_none a
   | bl b=>cases ry;unfold cT;exact SeqAt.EqAt.bool_bool a b
   | int b=>obtain⟨t,rfl⟩:=ry;unfold cT;exact SeqAt.EqAt.bool_int a b t
   | str b=>obtain⟨t,rfl⟩:=ry;unfold cT;exact SeqAt.EqAt.bool_str a b t
   | tup q r=>cases ry;obtain⟨its,_,p,_⟩:=I.tuple q;unfold cT;exact SeqAt.EqAt.bool_tuple a p hu0
   | lst q r=>cases ry;obtain⟨its,_,p,_⟩:=I.list q;unfold cT;exact SeqAt.EqAt.bool_list a p.isList hu0
  | int a=>
   obtain⟨t',rfl⟩:=rx
   cases hy with
   | non=>cases ry;unfold cT;exact SeqAt.EqAt.int_none a t'
   | bl b=>cases ry;unfold cT;exact SeqAt.EqAt.int_bool a t' b
   | int b=>obtain⟨t,rfl⟩:=ry;unfold cT;exact SeqAt.EqAt.int_int a t' b t
   | str b=>obtain⟨t,rfl⟩:=ry;unfold cT;exact SeqAt.EqAt.int_str a t' b t
   | tup q r=>cases ry;obtain⟨its,_,p,_⟩:=I.tuple q;unfold cT;exact SeqAt.EqAt.int_tuple a t' p hu0
   | lst q r=>cases ry;obtain⟨its,_,p,_⟩:=I.list q;unfold cT;exact SeqAt.EqAt.int_list a t' p.isList hu0
  | str a=>
   obtain⟨t',rfl⟩:=rx
   cases hy with
   | non=>cases ry;unfold cT;exact SeqAt.EqAt.str_none a t'
   | bl b=>cases ry;unfold cT;exact SeqAt.EqAt.str_bool a t' b
   | int b=>obtain⟨t,rfl⟩:=ry;unfold cT;exact SeqAt.EqAt.str_int a t' b t
   | str b=>obtain⟨t,rfl⟩:=ry;unfold cT;exact SeqAt.EqAt.str_str a t' b t
   | tup q r=>cases ry;obtain⟨its,_,p,_⟩:=I.tuple q;unfold cT;exact SeqAt.EqAt.str_tuple a t' p hu0
   | lst q r=>cases ry;obtain⟨its,_,p,_⟩:=I.list q;unfold cT;exact SeqAt.EqAt.str_list a t' p.isList hu0
  | @tup a xs ds q r=>
   cases(show u=Value.ref a from rx)
   obtain⟨its,r1,p1,_⟩:=I.tuple q
   cases hy with
   | non=>cases ry;unfold cT;exact SeqAt.EqAt.tuple_none p1 hu0
   | bl b=>cases ry;unfold cT;exact SeqAt.EqAt.tuple_bool b p1 hu0
   | int b=>obtain⟨t,rfl⟩:=ry;unfold cT;exact SeqAt.EqAt.tuple_int b t p1 hu0
   | str b=>obtain⟨t,rfl⟩:=ry;unfold cT;exact SeqAt.EqAt.tuple_str b t p1 hu0
   | lst q' r'=>cases ry;obtain⟨jts,_,p,_⟩:=I.list q';unfold cT;exact SeqAt.EqAt.tuple_list p1 p.isList hu0
   | @tup b ys es q' r'=>
    cases(show v=Value.ref b from ry)
    by_cases hab:a=b
    ·subst hab;exact same rfl
    ·obtain⟨jts,r2,p2,_⟩:=I.tuple q'
     refine SeqAt.EqAt.of_refs hab ?_
     have l1:=r1.length
     have l2:=r2.length
     have l3:=r.length
     have l4:=r'.length
     cases n with
     | zero=>unfold dep at hd;omega
     | succ n=>
      have dl:deps ds≤n:=by unfold dep at hd;omega
      have z:=SeqAt.RcAt.tuples (A:=A) (s:=s) (e:=fun j=>cT (ds.getD j .non) (es.getD j .non)) p1 p2 hu0 (yM r1 r2 r r' fun j x y d e u v h1 h2 ix iy rx ry=>HJ I n A.in1 x y d e u v (Nat.le_trans (Fe h1) dl) (by omega) ix iy rx ry)
      have ez:((List.range (min its.toArray.size jts.toArray.size)).all (fun j=>cT (ds.getD j .non) (es.getD j .non))&&its.toArray.size==jts.toArray.size)=cT (.tup ds) (.tup es):=by
       rw[Qw]
       by_cases hl:ds.length=es.length
       ·rw[Ht (by simp;omega),←wU hl]
        congr 2
        simp;omega
       ·rw[uH hl]
        have:(its.toArray.size==jts.toArray.size)=false:=by simp;omega
        rw[this,Bool.and_false]
      rw[ez]at z
      exact z
  | @lst a xs ds q r=>
   cases(show u=Value.ref a from rx)
   obtain⟨its,r1,p1,_⟩:=I.list q
   cases hy with
   | non=>cases ry;unfold cT;exact SeqAt.EqAt.list_none p1.isList hu0
   | bl b=>cases ry;unfold cT;exact SeqAt.EqAt.list_bool b p1.isList hu0
   | int b=>obtain⟨t,rfl⟩:=ry;unfold cT;exact SeqAt.EqAt.list_int b t p1.isList hu0
   | str b=>obtain⟨t,rfl⟩:=ry;unfold cT;exact SeqAt.EqAt.list_str b t p1.isList hu0
   | tup q' r'=>cases ry;obtain⟨jts,_,p,_⟩:=I.tuple q';unfold cT;exact SeqAt.EqAt.list_tuple p1.isList p hu0
   | @lst b ys es q' r'=>
    cases(show v=Value.ref b from ry)
    by_cases hab:a=b
    ·subst hab;exact same rfl
    ·obtain⟨jts,r2,p2,_⟩:=I.list q'
     refine SeqAt.EqAt.of_refs hab ?_
     have l1:=r1.length
     have l2:=r2.length
     have l3:=r.length
     have l4:=r'.length
     cases n with
     | zero=>unfold dep at hd;omega
     | succ n=>
      have dl:deps ds≤n:=by unfold dep at hd;omega
      by_cases hl:ds.length=es.length
      ·have z:=SeqAt.RcAt.lists (A:=A) (s:=s) (e:=fun j=>cT (ds.getD j .non) (es.getD j .non)) p1.isList p2.isList (by simp;omega) hu0 (yM r1 r2 r r' fun j x y d e u v h1 h2 ix iy rx ry=>HJ I n A.in1 x y d e u v (Nat.le_trans (Fe h1) dl) (by omega) ix iy rx ry)
       have ez:(List.range its.toArray.size).all (fun j=>cT (ds.getD j .non) (es.getD j .non))=cT (.lst ds) (.lst es):=by
        rw[Du]
        rw[←wU hl]
        congr 2
        simp;omega
       rw[ez]at z
       exact z
      ·have z:=SeqAt.RcAt.lists_lengths (A:=A) (s:=s) p1.isList p2.isList (by simp;omega) hu0
       have ez:cT (.lst ds) (.lst es)=false:=by rw[Du];exact uH hl
       rw[ez]
       exact z
theorem aft(I:Inv X pins σ H s)(A:Around){x y:V}{d e:Dt}{u v:Value}{n:Nat}(hd:dep d≤n)(hu:A.units+n<cLine)(hx:Is X.K H x d)(hy:Is X.K H y e)(rx:RelV x u)(ry:RelV y v):SeqAt.RcAt A s u v (cT d e):=by
 have hu0:A.units<cLine:=by omega
 have in1:A.in1.units=A.units+1:=rfl
 cases hx with
 | non=>
  cases rx
  cases hy with
  | non=>
   cases ry
   unfold cT
   exact SeqAt.RcAt.none_none
  | bl b=>
   cases ry
   unfold cT
   exact SeqAt.RcAt.none_bool  b
  | int b=>
   obtain⟨t,rfl⟩:=ry
   unfold cT
   exact SeqAt.RcAt.none_int  b t
  | str b=>
   obtain⟨t,rfl⟩:=ry
   unfold cT
   exact SeqAt.RcAt.none_str  b t
  | @tup b ys es q' r'=>
   cases(show v=Value.ref b from ry)
   obtain⟨jts,r2,p2,_⟩:=I.tuple q'
   unfold cT
   exact SeqAt.RcAt.none_tuple  p2 hu0
  | @lst b ys es q' r'=>
   cases(show v=Value.ref b from ry)
   obtain⟨jts,r2,p2,_⟩:=I.list q'
   unfold cT
   exact SeqAt.RcAt.none_list  p2.isList hu0
 | bl a=>
  cases rx
  cases hy with
  | non=>
   cases ry
   unfold cT
   exact SeqAt.RcAt.bool_none a
  | bl b=>
   cases ry
   unfold cT
   exact SeqAt.RcAt.bool_bool a b
  | int b=>
   obtain⟨t,rfl⟩:=ry
   unfold cT
   exact SeqAt.RcAt.bool_int a b t
  | str b=>
   obtain⟨t,rfl⟩:=ry
   unfold cT
   exact SeqAt.RcAt.bool_str a b t
  | @tup b ys es q' r'=>
   cases(show v=Value.ref b from ry)
   obtain⟨jts,r2,p2,_⟩:=I.tuple q'
   unfold cT
   exact SeqAt.RcAt.bool_tuple a p2 hu0
  | @lst b ys es q' r'=>
   cases(show v=Value.ref b from ry)
   obtain⟨jts,r2,p2,_⟩:=I.list q'
   unfold cT
   exact SeqAt.RcAt.bool_list a p2.isList hu0
 | int a=>
  obtain⟨t',rfl⟩:=rx
  cases hy with
  | non=>
   cases ry
   unfold cT
   exact SeqAt.RcAt.int_none a t'
  | bl b=>
   cases ry
   unfold cT
   exact SeqAt.RcAt.int_bool a t' b
  | int b=>
   obtain⟨t,rfl⟩:=ry
   unfold cT
   exact SeqAt.RcAt.int_int a t' b t
  | str b=>
   obtain⟨t,rfl⟩:=ry
   unfold cT
   exact SeqAt.RcAt.int_str a t' b t
  | @tup b ys es q' r'=>
   cases(show v=Value.ref b from ry)
   obtain⟨jts,r2,p2,_⟩:=I.tuple q'
   unfold cT
   exact SeqAt.RcAt.int_tuple a t' p2 hu0
  | @lst b ys es q' r'=>
   cases(show v=Value.ref b from ry)
   obtain⟨jts,r2,p2,_⟩:=I.list q'
   unfold cT
   exact SeqAt.RcAt.int_list a t' p2.isList hu0
 | str a=>
  obtain⟨t',rfl⟩:=rx
  cases hy with
  | non=>
   cases ry
   unfold cT
   exact SeqAt.RcAt.str_none a t'
  | bl b=>
   cases ry
   unfold cT
   exact SeqAt.RcAt.str_bool a t' b
  | int b=>
   obtain⟨t,rfl⟩:=ry
   unfold cT
   exact SeqAt.RcAt.str_int a t' b t
  | str b=>
   obtain⟨t,rfl⟩:=ry
   unfold cT
   exact SeqAt.RcAt.str_str a t' b t
  | @tup b ys es q' r'=>
   cases(show v=Value.ref b from ry)
   obtain⟨jts,r2,p2,_⟩:=I.tuple q'
   unfold cT
   exact SeqAt.RcAt.str_tuple a t' p2 hu0
  | @lst b ys es q' r'=>
   cases(show v=Value.ref b from ry)
   obtain⟨jts,r2,p2,_⟩:=I.list q'
   unfold cT
   exact SeqAt.RcAt.str_list a t' p2.isList hu0
 | @tup a xs ds q r=>
  cases(show u=Value.ref a from rx)
  obtain⟨its,r1,p1,_⟩:=I.tuple q
  cases hy with
  | non=>
   cases ry
   unfold cT
   exact SeqAt.RcAt.tuple_none  p1 hu0
  | bl b=>
   cases ry
   unfold cT
   exact SeqAt.RcAt.tuple_bool b p1 hu0
  | int b=>
   obtain⟨t,rfl⟩:=ry
   unfold cT
   exact SeqAt.RcAt.tuple_int b t p1 hu0
  | str b=>
   obtain⟨t,rfl⟩:=ry
   unfold cT
   exact SeqAt.RcAt.tuple_str b t p1 hu0
  | @tup b ys es q' r'=>
   cases(show v=Value.ref b from ry)
   obtain⟨jts,r2,p2,_⟩:=I.tuple q'
   have l1:=r1.length
   have l2:=r2.length
   have l3:=r.length
   have l4:=r'.length
   cases n with
   | zero=>unfold dep at hd;omega
   | succ n=>
    have dl:deps ds≤n:=by unfold dep at hd;omega
    have z:=SeqAt.RcAt.tuples (A:=A) (s:=s) (e:=fun j=>cT (ds.getD j .non) (es.getD j .non)) p1 p2 hu0 (yM r1 r2 r r' fun j x y d e u v h1 h2 ix iy rx ry=>HJ I n A.in1 x y d e u v (Nat.le_trans (Fe h1) dl) (by omega) ix iy rx ry)
    have ez:((List.range (min its.toArray.size jts.toArray.size)).all (fun j=>cT (ds.getD j .non) (es.getD j .non))&&its.toArray.size==jts.toArray.size)=cT (.tup ds) (.tup es):=by
     rw[Qw]
     by_cases hl:ds.length=es.length
     ·rw[Ht (by simp;omega),←wU hl]
      congr 2
      simp;omega
     ·rw[uH hl]
      have:(its.toArray.size==jts.toArray.size)=false:=by simp;omega
      rw[this,Bool.and_false]
    rw[ez]at z
    exact z
  | @lst b ys es q' r'=>
   cases(show v=Value.ref b from ry)
   obtain⟨jts,r2,p2,_⟩:=I.list q'
   unfold cT
   exact SeqAt.RcAt.tuple_list p1 p2.isList hu0
 | @lst a xs ds q r=>
  cases(show u=Value.ref a from rx)
  obtain⟨its,r1,p1,_⟩:=I.list q
  cases hy with
  | non=>
   cases ry
   unfold cT
   exact SeqAt.RcAt.list_none  p1.isList hu0
  | bl b=>
   cases ry
   unfold cT
   exact SeqAt.RcAt.list_bool b p1.isList hu0
  | int b=>
   obtain⟨t,rfl⟩:=ry
   unfold cT
   exact SeqAt.RcAt.list_int b t p1.isList hu0
  | str b=>
   obtain⟨t,rfl⟩:=ry
   unfold cT
   exact SeqAt.RcAt.list_str b t p1.isList hu0
  | @tup b ys es q' r'=>
   cases(show v=Value.ref b from ry)
   obtain⟨jts,r2,p2,_⟩:=I.tuple q'
   unfold cT
   exact SeqAt.RcAt.list_tuple p1.isList p2 hu0
  | @lst b ys es q' r'=>
   cases(show v=Value.ref b from ry)
   obtain⟨jts,r2,p2,_⟩:=I.list q'
   have l1:=r1.length
   have l2:=r2.length
   have l3:=r.length
   have l4:=r'.length
   cases n with
   | zero=>unfold dep at hd;omega
   | succ n=>
    have dl:deps ds≤n:=by unfold dep at hd;omega
    by_cases hl:ds.length=es.length
    ·have z:=SeqAt.RcAt.lists (A:=A) (s:=s) (e:=fun j=>cT (ds.getD j .non) (es.getD j .non)) p1.isList p2.isList (by simp;omega) hu0 (yM r1 r2 r r' fun j x y d e u v h1 h2 ix iy rx ry=>HJ I n A.in1 x y d e u v (Nat.le_trans (Fe h1) dl) (by omega) ix iy rx ry)
     have ez:(List.range its.toArray.size).all (fun j=>cT (ds.getD j .non) (es.getD j .non))=cT (.lst ds) (.lst es):=by
      rw[Du,←wU hl]
      congr 2
      simp;omega
     rw[ez]at z
     exact z
    ·have z:=SeqAt.RcAt.lists_lengths (A:=A) (s:=s) p1.isList p2.isList (by simp;omega) hu0
     have ez:cT (.lst ds) (.lst es)=false:=by rw[Du];exact uH hl
     rw[ez]
     exact z
theorem afs(I:Inv X pins σ H s)(A:Around){x y:V}{d e:Dt}{u v:Value}{n:Nat}(hd:dep d≤n)(hu:A.units+n<cLine)(hx:Is X.K H x d)(hy:Is X.K H y e)(rx:RelV x u)(ry:RelV y v):SeqAt.RcNeAt A s u v (!cT d e):=by
 have hu0:A.units<cLine:=by omega
 have in1:A.in1.units=A.units+1:=rfl
 cases hx with
 | non=>
  cases rx
  cases hy with
  | non=>
   cases ry
   unfold cT
   exact SeqAt.RcNeAt.none_none
  | bl b=>
   cases ry
   unfold cT
   exact SeqAt.RcNeAt.none_bool  b
  | int b=>
   obtain⟨t,rfl⟩:=ry
   unfold cT
   exact SeqAt.RcNeAt.none_int  b t
  | str b=>
   obtain⟨t,rfl⟩:=ry
   unfold cT
   exact SeqAt.RcNeAt.none_str  b t
  | @tup b ys es q' r'=>
   cases(show v=Value.ref b from ry)
   obtain⟨jts,r2,p2,_⟩:=I.tuple q'
   unfold cT
   exact SeqAt.RcNeAt.none_tuple  p2 hu0
  | @lst b ys es q' r'=>
   cases(show v=Value.ref b from ry)
   obtain⟨jts,r2,p2,_⟩:=I.list q'
   unfold cT
   exact SeqAt.RcNeAt.none_list  p2.isList hu0
 | bl a=>
  cases rx
  cases hy with
  | non=>
   cases ry
   unfold cT
   exact SeqAt.RcNeAt.bool_none a
  | bl b=>
   cases ry
   unfold cT
   exact SeqAt.RcNeAt.bool_bool a b
  | int b=>
   obtain⟨t,rfl⟩:=ry
   unfold cT
   exact SeqAt.RcNeAt.bool_int a b t
  | str b=>
   obtain⟨t,rfl⟩:=ry
   unfold cT
   exact SeqAt.RcNeAt.bool_str a b t
  | @tup b ys es q' r'=>
   cases(show v=Value.ref b from ry)
   obtain⟨jts,r2,p2,_⟩:=I.tuple q'
   unfold cT
   exact SeqAt.RcNeAt.bool_tuple a p2 hu0
  | @lst b ys es q' r'=>
   cases(show v=Value.ref b from ry)
   obtain⟨jts,r2,p2,_⟩:=I.list q'
   unfold cT
   exact SeqAt.RcNeAt.bool_list a p2.isList hu0
 | int a=>
  obtain⟨t',rfl⟩:=rx
  cases hy with
  | non=>
   cases ry
   unfold cT
   exact SeqAt.RcNeAt.int_none a t'
  | bl b=>
   cases ry
   unfold cT
   exact SeqAt.RcNeAt.int_bool a t' b
  | int b=>
   obtain⟨t,rfl⟩:=ry
   unfold cT
   exact SeqAt.RcNeAt.int_int a t' b t
  | str b=>
   obtain⟨t,rfl⟩:=ry
   unfold cT
   exact SeqAt.RcNeAt.int_str a t' b t
  | @tup b ys es q' r'=>
   cases(show v=Value.ref b from ry)
   obtain⟨jts,r2,p2,_⟩:=I.tuple q'
   unfold cT
   exact SeqAt.RcNeAt.int_tuple a t' p2 hu0
  | @lst b ys es q' r'=>
   cases(show v=Value.ref b from ry)
   obtain⟨jts,r2,p2,_⟩:=I.list q'
   unfold cT
   exact SeqAt.RcNeAt.int_list a t' p2.isList hu0
 | str a=>
  obtain⟨t',rfl⟩:=rx
  cases hy with
  | non=>
   cases ry
   unfold cT
   exact SeqAt.RcNeAt.str_none a t'
  | bl b=>
   cases ry
   unfold cT
   exact SeqAt.RcNeAt.str_bool a t' b
  | int b=>
   obtain⟨t,rfl⟩:=ry
   unfold cT
   exact SeqAt.RcNeAt.str_int a t' b t
  | str b=>
   obtain⟨t,rfl⟩:=ry
   unfold cT
   exact SeqAt.RcNeAt.str_str a t' b t
  | @tup b ys es q' r'=>
   cases(show v=Value.ref b from ry)
   obtain⟨jts,r2,p2,_⟩:=I.tuple q'
   unfold cT
   exact SeqAt.RcNeAt.str_tuple a t' p2 hu0
  | @lst b ys es q' r'=>
   cases(show v=Value.ref b from ry)
   obtain⟨jts,r2,p2,_⟩:=I.list q'
   unfold cT
   exact SeqAt.RcNeAt.str_list a t' p2.isList hu0
 | @tup a xs ds q r=>
  cases(show u=Value.ref a from rx)
  obtain⟨its,r1,p1,_⟩:=I.tuple q
  cases hy with
  | non=>
   cases ry
   unfold cT
   exact SeqAt.RcNeAt.tuple_none  p1 hu0
  | bl b=>
   cases ry
   unfold cT
   exact SeqAt.RcNeAt.tuple_bool b p1 hu0
  | int b=>
   obtain⟨t,rfl⟩:=ry
   unfold cT
   exact SeqAt.RcNeAt.tuple_int b t p1 hu0
  | str b=>
   obtain⟨t,rfl⟩:=ry
   unfold cT
   exact SeqAt.RcNeAt.tuple_str b t p1 hu0
  | @tup b ys es q' r'=>
   cases(show v=Value.ref b from ry)
   obtain⟨jts,r2,p2,_⟩:=I.tuple q'
   have l1:=r1.length
   have l2:=r2.length
   have l3:=r.length
   have l4:=r'.length
   cases n with
   | zero=>unfold dep at hd;omega
   | succ n=>
    have dl:deps ds≤n:=by unfold dep at hd;omega
    have z:=SeqAt.RcNeAt.tuples (A:=A) (s:=s) (e:=fun j=>cT (ds.getD j .non) (es.getD j .non)) p1 p2 hu0 (yM r1 r2 r r' fun j x y d e u v h1 h2 ix iy rx ry=>HJ I n A.in1 x y d e u v (Nat.le_trans (Fe h1) dl) (by omega) ix iy rx ry)
    have ez:((List.range (min its.toArray.size jts.toArray.size)).all (fun j=>cT (ds.getD j .non) (es.getD j .non))&&its.toArray.size==jts.toArray.size)=cT (.tup ds) (.tup es):=by
     rw[Qw]
     by_cases hl:ds.length=es.length
     ·rw[Ht (by simp;omega),←wU hl]
      congr 2
      simp;omega
     ·rw[uH hl]
      have:(its.toArray.size==jts.toArray.size)=false:=by simp;omega
      rw[this,Bool.and_false]
    rw[ez]at z
    exact z
  | @lst b ys es q' r'=>
   cases(show v=Value.ref b from ry)
   obtain⟨jts,r2,p2,_⟩:=I.list q'
   unfold cT
   exact SeqAt.RcNeAt.tuple_list p1 p2.isList hu0
 | @lst a xs ds q r=>
  cases(show u=Value.ref a from rx)
  obtain⟨its,r1,p1,_⟩:=I.list q
  cases hy with
  | non=>
   cases ry
   unfold cT
   exact SeqAt.RcNeAt.list_none  p1.isList hu0
  | bl b=>
   cases ry
   unfold cT
   exact SeqAt.RcNeAt.list_bool b p1.isList hu0
  | int b=>
   obtain⟨t,rfl⟩:=ry
   unfold cT
   exact SeqAt.RcNeAt.list_int b t p1.isList hu0
  | str b=>
   obtain⟨t,rfl⟩:=ry
   unfold cT
   exact SeqAt.RcNeAt.list_str b t p1.isList hu0
  | @tup b ys es q' r'=>
   cases(show v=Value.ref b from ry)
   obtain⟨jts,r2,p2,_⟩:=I.tuple q'
   unfold cT
   exact SeqAt.RcNeAt.list_tuple p1.isList p2 hu0
  | @lst b ys es q' r'=>
   cases(show v=Value.ref b from ry)
   obtain⟨jts,r2,p2,_⟩:=I.list q'
   have l1:=r1.length
   have l2:=r2.length
   have l3:=r.length
   have l4:=r'.length
   cases n with
   | zero=>unfold dep at hd;omega
   | succ n=>
    have dl:deps ds≤n:=by unfold dep at hd;omega
    by_cases hl:ds.length=es.length
    ·have z:=SeqAt.RcNeAt.lists (A:=A) (s:=s) (e:=fun j=>cT (ds.getD j .non) (es.getD j .non)) p1.isList p2.isList (by simp;omega) hu0 (yM r1 r2 r r' fun j x y d e u v h1 h2 ix iy rx ry=>HJ I n A.in1 x y d e u v (Nat.le_trans (Fe h1) dl) (by omega) ix iy rx ry)
     have ez:(List.range its.toArray.size).all (fun j=>cT (ds.getD j .non) (es.getD j .non))=cT (.lst ds) (.lst es):=by
      rw[Du,←wU hl]
      congr 2
      simp;omega
     rw[ez]at z
     exact z
    ·have z:=SeqAt.RcNeAt.lists_lengths (A:=A) (s:=s) p1.isList p2.isList (by simp;omega) hu0
     have ez:cT (.lst ds) (.lst es)=false:=by rw[Du];exact uH hl
     rw[ez]
     exact z
end
def ap2(K:Frag):R2:=fun x y H Q=>∃d e,Is K H x d∧Is K H y e∧dep d≤20∧Q (.bl (cT d e)) H
def ap0(K:Frag):R2:=fun x y H Q=>∃d e,Is K H x d∧Is K H y e∧dep d≤20∧Q (.bl (!cT d e)) H
theorem af6{X:Cx}(hu:X.A.units+64<cLine):Bs X (compareOp .Eq) (ap2 X.K):=by
 intro pins s σ H x y v u Q I rx ry h
 obtain⟨d,e,hx,hy,hd,q⟩:=h
 exact aft I X.A hd (by omega) hx hy rx ry _ _ _ _ ⟨.bl _,H,I,rfl,q⟩
theorem af1{X:Cx}(hu:X.A.units+64<cLine):Bs X (compareOp .NotEq) (ap0 X.K):=by
 intro pins s σ H x y v u Q I rx ry h
 obtain⟨d,e,hx,hy,hd,q⟩:=h
 exact afs I X.A hd (by omega) hx hy rx ry _ _ _ _ ⟨.bl _,H,I,rfl,q⟩
end L2
set_option Elab.async false
set_option linter.all false
set_option maxRecDepth 100000
namespace L2
open PySem PySem.Spec PyProof.Rows
section
variable{κ:Type}[DecidableEq κ]
def Er(kvs:List (κ×V))(k:κ):Option V:=(kvs.find? fun kv=>decide (kv.1=k)).map (·.2)
def putK(kvs:List (κ×V))(k:κ)(v:V):List (κ×V):=
 if(kvs.any fun kv=>decide (kv.1=k))=true then kvs.map (fun kv=>if kv.1=k then(kv.1,v)else kv)else kvs++[(k,v)]
theorem Fy{p:κ×V}{r:List (κ×V)}{k:κ}(e:p.1=k):Er (p::r) k=some p.2:=by simp[Er,List.find?_cons,e]
theorem Fz{p:κ×V}{r:List (κ×V)}{k:κ}(e:¬p.1=k):Er (p::r) k=Er r k:=by simp[Er,List.find?_cons,e]
theorem Rf(k:κ):∀kvs:List (κ×V),(kvs.any fun kv=>decide (kv.1=k))=(Er kvs k).isSome
 | []=>rfl
 | p::r=>by
  rw[List.any_cons]
  by_cases e:p.1=k
  ·simp only[Fy e,decide_eq_true e,Bool.true_or,Option.isSome_some]
  ·rw[Fz e,decide_eq_false e,Bool.false_or];exact Rf k r
theorem DG.YG{o:Option V}{u:Option Value}(r:DG o u):o.isSome=u.isSome:=by
 cases o with
 | none=>cases u with
  | none=>rfl
  | some _=>exact(show False from r).elim
 | some _=>cases u with
  | none=>exact(show False from r).elim
  | some _=>rfl
theorem DG.getD{o:Option V}{u:Option Value}{d:V}{d':Value}(r:DG o u)(rd:RelV d d'):RelV (o.getD d) (u.getD d'):=by
 cases o with
 | none=>cases u with
  | none=>exact rd
  | some _=>exact(show False from r).elim
 | some _=>cases u with
  | none=>exact(show False from r).elim
  | some _=>exact r
theorem KV.val{kvs:List (κ×V)}{vs:List (κ×Value)}(r:KV kvs vs)(k:κ):DG (Er kvs k) (valueAt vs k):=by
 unfold KV at r
 induction r with
 | nil=>exact True.intro
 | @cons p q ps qs h t ih=>
  obtain⟨h1,h2⟩:=h
  by_cases e:p.1=k
  ·have e':q.1=k:=h1.symm.trans e
   have b:valueAt (q::qs) k=some q.2:=by simp[valueAt,List.find?_cons,e']
   rw[Fy e,b];exact h2
  ·have e':¬q.1=k:=fun z=>e (h1.trans z)
   have b:valueAt (q::qs) k=valueAt qs k:=by simp[valueAt,List.find?_cons,e']
   rw[Fz e,b];exact ih
theorem KV.any{kvs:List (κ×V)}{vs:List (κ×Value)}(r:KV kvs vs)(k:κ):(kvs.any fun kv=>decide (kv.1=k))=vs.any fun kv=>decide (kv.1=k):=by
 unfold KV at r
 induction r with
 | nil=>rfl
 | cons h t ih=>rw[List.any_cons,List.any_cons,ih,h.1]
theorem KV.repl{kvs:List (κ×V)}{vs:List (κ×Value)}(r:KV kvs vs)(k:κ){y:V}{u:Value}(ry:RelV y u):
  KV (kvs.map fun kv=>if kv.1=k then(kv.1,y)else kv) (vs.map fun kv=>if kv.1=k then(kv.1,u)else kv):=by
 unfold KV at r ⊢
 induction r with
 | nil=>exact .nil
 | @cons p q ps qs h t ih=>
  rw[List.map_cons,List.map_cons]
  refine .cons ?_ ih
  obtain⟨h1,h2⟩:=h
  by_cases e:p.1=k
  ·rw[if_pos e,if_pos (h1.symm.trans e)];exact⟨h1,ry⟩
  ·rw[if_neg e,if_neg (fun z=>e (h1.trans z))];exact⟨h1,h2⟩
theorem KV.put{kvs:List (κ×V)}{vs:List (κ×Value)}(r:KV kvs vs)(k:κ){y:V}{u:Value}(ry:RelV y u):KV (putK kvs k y) (stored vs k u):=by
 unfold putK stored
 rw[r.any k]
 by_cases e:(vs.any fun kv=>decide (kv.1=k))=true
 ·rw[if_pos e,if_pos e];exact r.repl k ry
 ·rw[if_neg e,if_neg e];exact Paired.snoc r ⟨rfl,ry⟩
theorem KV.length{kvs:List (κ×V)}{vs:List (κ×Value)}(r:KV kvs vs):kvs.length=vs.length:=Paired.length r
end
abbrev KT(H:Hp):List (List Key×V)→List (List Key×Addr×Value)→Prop:=Paired fun p q=>p.1=q.1∧H q.2.1=some (.tup (p.1.map kV))∧RelV p.2 q.2.2
theorem KT.val{H:Hp}{kvs:List (List Key×V)}{xs:List (List Key×Addr×Value)}(r:KT H kvs xs)(k:List Key):DG (Er kvs k) ((atKey xs k).map (·.2)):=by
 induction r with
 | nil=>exact True.intro
 | @cons p q ps qs h t ih=>
  obtain⟨h1,_,h2⟩:=h
  by_cases e:p.1=k
  ·have e':q.1=k:=h1.symm.trans e
   have b:atKey (q::qs) k=some q.2:=by simp[atKey,List.find?_cons,e']
   rw[Fy e,b];exact h2
  ·have e':¬q.1=k:=fun z=>e (h1.trans z)
   have b:atKey (q::qs) k=atKey qs k:=by simp[atKey,List.find?_cons,e']
   rw[Fz e,b];exact ih
theorem KT.repl{H:Hp}{kvs:List (List Key×V)}{xs:List (List Key×Addr×Value)}(r:KT H kvs xs)(k:List Key){y:V}{u:Value}(ry:RelV y u):
  KT H (kvs.map fun kv=>if kv.1=k then(kv.1,y)else kv) (xs.map (putAt k u)):=by
 induction r with
 | nil=>exact .nil
 | @cons p q ps qs h t ih=>
  rw[List.map_cons,List.map_cons]
  refine .cons ?_ ih
  obtain⟨h1,h2,h3⟩:=h
  unfold putAt
  by_cases e:p.1=k
  ·rw[if_pos e,if_pos (h1.symm.trans e)];exact⟨h1,h2,ry⟩
  ·rw[if_neg e,if_neg (fun z=>e (h1.trans z))];exact⟨h1,h2,h3⟩
theorem KT.put{H:Hp}{kvs:List (List Key×V)}{xs:List (List Key×Addr×Value)}(r:KT H kvs xs)(k:List Key){b:Addr}{y:V}{u:Value}(hb:H b=some (.tup (k.map kV)))(ry:RelV y u):
  KT H (putK kvs k y) (storedH xs k b u):=by
 have e:(kvs.any fun kv=>decide (kv.1=k))=(atKey xs k).isSome:=by
  rw[Rf,(r.val k).YG,Option.isSome_map]
 unfold putK storedH
 rw[e]
 by_cases q:(atKey xs k).isSome=true
 ·rw[if_pos q,if_pos q];exact r.repl k ry
 ·rw[if_neg q,if_neg q];exact Paired.snoc r ⟨rfl,hb,ry⟩
theorem KT.keeps{H H':Hp}{kvs:List (List Key×V)}{xs:List (List Key×Addr×Value)}(r:KT H kvs xs)(ht:∀b ys,H b=some (.tup ys)→H' b=some (.tup ys)):KT H' kvs xs:=
 Paired.agg r fun _ _ z=>⟨z.1,ht _ _ z.2.1,z.2.2⟩
def aeb(H:Hp)(a:Addr)(y:V)(r:Option V):Prop:=
 (∃kvs k,Rd H a (.dK kvs)∧y=kV k∧r=Er kvs k)∨∃kvs k b,Rd H a (.dT kvs)∧y= .ref b∧H b=some (.tup (k.map kV))∧r=Er kvs k
def aea(H:Hp)(a:Addr)(y v:V)(H':Hp):Prop:=
 (∃kvs k,H a=some (.dK kvs)∧y=kV k∧kvs.length<sizeLine∧H'=upd H a (.dK (putK kvs k v)))∨
 ∃kvs k b,H a=some (.dT kvs)∧y= .ref b∧H b=some (.tup (k.map kV))∧kvs.length<sizeLine∧H'=upd H a (.dT (putK kvs k v))
theorem aeb.k{H:Hp}{a:Addr}{kvs:List (Key×V)}{k:Key}(e:H a=some (.dK kvs)):aeb H a (kV k) (Er kvs k):= .inl ⟨kvs,k,.inl e,rfl,rfl⟩
theorem aeb.t{H:Hp}{a b:Addr}{kvs:List (List Key×V)}{k:List Key}(e:H a=some (.dT kvs))(eb:H b=some (.tup (k.map kV))):aeb H a (.ref b) (Er kvs k):= .inr ⟨kvs,k,b,.inl e,rfl,eb,rfl⟩
theorem aea.k{H:Hp}{a:Addr}{kvs:List (Key×V)}{k:Key}{v:V}(e:H a=some (.dK kvs))(hl:kvs.length<sizeLine):aea H a (kV k) v (upd H a (.dK (putK kvs k v))):= .inl ⟨kvs,k,e,rfl,hl,rfl⟩
theorem aea.t{H:Hp}{a b:Addr}{kvs:List (List Key×V)}{k:List Key}{v:V}(e:H a=some (.dT kvs))(eb:H b=some (.tup (k.map kV)))(hl:kvs.length<sizeLine):
  aea H a (.ref b) v (upd H a (.dT (putK kvs k v))):= .inr ⟨kvs,k,b,e,rfl,eb,hl,rfl⟩
structure M1(X:Cx)(o:Expr)(m:Str)(apos:Pos)(e:Expr)(cpos:Pos):Prop where
 base:attributeBase o m X.env (eval o X.env)=eval o X.env
 few:((backTo cpos (starEach [e] X.env)).all (fun x=> !x.1)&&(backToKw cpos (keywordEach [] X.env)).all (fun x=>x.1.isSome)
  && decide (([e]:List Expr).length+([]:List Keyword).length+(if([]:List Keyword).isEmpty then 0 else 1)<30))=true
 line:(apos.endLine==cpos.line)=true
 trees:backTo cpos (starEach [e] X.env)=[(false,eval e X.env)]
structure M2(X:Cx)(o:Expr)(m:Str)(apos:Pos)(e f:Expr)(cpos:Pos):Prop where
 base:attributeBase o m X.env (eval o X.env)=eval o X.env
 few:((backTo cpos (starEach [e,f] X.env)).all (fun x=> !x.1)&&(backToKw cpos (keywordEach [] X.env)).all (fun x=>x.1.isSome)
  && decide (([e,f]:List Expr).length+([]:List Keyword).length+(if([]:List Keyword).isEmpty then 0 else 1)<30))=true
 line:(apos.endLine==cpos.line)=true
 trees:backTo cpos (starEach [e,f] X.env)=[(false,eval e X.env),(false,eval f X.env)]
structure yr(K:Frag)(C:Addr)(name:Str):Prop where
 cd:∃cd,PySem.W.clsIn K C=some cd∧cd.hasDict=true∧cd.mro.isEmpty=false∧cd.mro.contains (.type "object")=true∧cd.mro.contains (.type "BaseException")=true∧(∀self,refuseLoop self "__setattr__" cd.mro=pure ())
 sa:findIn K (.ref C) "__setattr__" = some (some (.builtin "object.__setattr__"))
 ga:findIn K (.ref C) "__getattribute__" = some (some (.builtin "BaseException.__getattribute__"))
 no:findIn K (.ref C) name=some none
section
variable{prog:Program}{w:World}{A:Around}{E:Value→Shared→Prop}{s:Shared}{K:Frag}{x C:Addr}{name:Str}{v:Value}
def XAt(h:Heap)(x C:Addr)(vs:Array Value)(dx:Option Addr):Prop:=h.get? x=some {cls:= .ref C,dict:=dx,data:= .fields vs}
theorem ah5{h:Heap}{vs:Array Value}(a:XAt h x C vs none):PySem.W.InstAt h x {cls:= .ref C,dict:=none,data:= .fields vs} C none:=⟨a,rfl,rfl,trivial⟩
theorem ah1{vs:Array Value}{Q:Unit→Shared→Prop}(X:K.In s.heap)(F:yr K C name)(hx:XAt s.heap x C vs none)
  (h:∀h' dx,s.heap.objs.size=dx→XAt h' x C vs (some dx)→h'.Ns1 dx (fun y=>if y=name then some v else none)→(∀b o,b≠x→s.heap.get? b=some o→h'.get? b=some o)→Q () {s with heap:=h',toks:=s.toks+2}):
  wpAny (model prog w) A (setAttr (.ref x) name v) Q E s:=by
 have I:=ah5 hx
 obtain⟨cd,hc,hhd,hne,hob,_,hre⟩:=F.cd
 have SF:=PySem.F.store_object
 refine PySem.W.set_plain X I F.sa ?_
 have sub:PySem.W.Looks (model prog w) s.heap (isInstance (.ref x) (.type "object")) true:=I.type.andThen (PySem.W.looks_mroIn X (by unfold PySem.W.mroIn;rw[hc,Option.bind_some,if_neg (by rw[hne];decide),hob]))
 refine codeAny_call_builtin SF.slot.plain SF.entry (@PySem.W.check_slot (model prog w) _ _ {s with toks:=s.toks+1} "object.__setattr__" "object" "__setattr__" (.ref x) [.str name s.toks,v] [] _ SF.kind SF.split sub (SF.args (.ref x) (.str name s.toks) v) ?_)
 have hm:PySem.W.Looks (model prog w) s.heap (mroOf (.ref C)) cd.mro:=(PySem.W.looks_clsIn X hc).andThen .now
 have L3:PySem.W.Looks (model prog w) s.heap (Builtin.ObjectAttr.storeTaker? none) none:= .now
 rw[PySem.W.osa_eq,refuse_eq]
 refine wpAny_bind (wpAny_bind (PySem.W.Looks.here (s:={s with toks:=s.toks+1}) I.type (wpAny_bind (PySem.W.Looks.here (s:={s with toks:=s.toks+1}) hm ?_))))
 rw[hre]
 refine wpAny_pure (wpAny_bind (PySem.W.Looks.here (s:={s with toks:=s.toks+1}) I.type (wpAny_bind (PySem.W.Looks.here (s:={s with toks:=s.toks+1}) (PySem.W.looks_findIn X F.no) (wpAny_bind (PySem.W.Looks.here (s:={s with toks:=s.toks+1}) L3 ?_))))))
 refine wpAny_bind (wpAny_pure (wpAny_bind (wpAny_bind (wpAny_loadPart (s:={s with toks:=s.toks+1}) hx (wpAny_bind (PySem.W.Looks.here (s:={s with toks:=s.toks+1}) (PySem.W.looks_clsIn X hc) ?_))))))
 rw[hhd]
 rw[if_neg (by decide)]
 dsimp only
 rw[if_neg (by simp[typeHasDict])]
 have hxs:x≠s.heap.objs.size:=Nat.ne_of_lt (Heap.lt_size hx)
 have hx₁:(s.heap.push {cls:= .type "dict",data:= .dict #[]}).get? x=some {cls:= .ref C,dict:=none,data:= .fields vs}:=Heap.get?_push_of_some _ hx
 refine wpAny_bind (wpAny_alloc' (wpAny_bind (wpAny_update' hx₁ (wpAny_pure ?_))))
 have hgd:((s.heap.push {cls:= .type "dict",data:= .dict #[]}).update x fun o=>{cls:=o.cls,dict:=some s.heap.objs.size,data:=o.data,slots:=o.slots}).get? s.heap.objs.size=some {cls:= .type "dict",data:= .dict #[]}:=
  (Heap.get?_update_ne _ _ _ _ hxs.symm).trans (Heap.get?_push_at rfl rfl)
 have hnd:((s.heap.push {cls:= .type "dict",data:= .dict #[]}).update x fun o=>{cls:=o.cls,dict:=some s.heap.objs.size,data:=o.data,slots:=o.slots}).Ns s.heap.objs.size (fun _=>none):=
  ⟨_,#[],_,hgd,rfl,fun e he=>absurd he (by simp),fun _=>rfl⟩
 show wpAny _ _ (Builtin.ObjectAttr.storeInDict s.heap.objs.size (.str name s.toks) name v) _ _ _
 unfold Builtin.ObjectAttr.storeInDict Builtin.ObjectAttr.newKeyGuard
 refine wpAny_bind (wpAny_pure (wpAny_bind (wpAny_nsSet1 (Heap.Ns1.of_empty hnd) fun h' hn' hs=> ?_)))
 obtain⟨oD,esD,epD,hoD,hdD,hcD⟩:=hn'.count (Within.cons name v Within.nil)
 refine wpAny_bind (wpAny_lookBehind hoD (by rw[hdD];exact pastItsLine_dict (Nat.le_trans hcD (by rw[List.length_cons,List.length_nil,sizeLine_eq];omega))) ?_)
 wp_walk
 have hx':h'.get? x=some {cls:= .ref C,dict:=some s.heap.objs.size,data:= .fields vs}:=(hs.2 x hxs).trans (Heap.get?_update_self _ hx₁ rfl)
 refine h h' _ rfl hx' hn' fun b ob hb e=> ?_
 exact(hs.2 b (Nat.ne_of_lt (Heap.lt_size e))).trans ((Heap.get?_update_ne _ _ _ _ hb).trans (Heap.get?_push_of_some _ e))
theorem Xa:builtinKind "BaseException.__getattribute__" = some .slot:=by decide +kernel
theorem SN:splitId "BaseException.__getattribute__" = some ("BaseException","__getattribute__"):=by decide +kernel
theorem Xb(self:Value):bindSpecial (.builtin "BaseException.__getattribute__") self=pure (.builtin "BaseException.__getattribute__",[self]):=by
 have:=(PySem.F.excAttr_ValueError).ga.bind self
 exact this
theorem aoT{vs:Array Value}{dx:Addr}{mA:Str→Option Value}{expr:Bool}{Q:Value→Shared→Prop}(X:K.In s.heap)(F:yr K C name)(hgn:findIn K (.ref C) "__getattr__" = some none)(hx:XAt s.heap x C vs (some dx))(hn:s.heap.Ns1 dx mA)(hv:mA name=some v)(hh:PySem.W.handedIn v=true)
  (h:Q v {s with toks:=s.toks+1}):wpAny (model prog w) A (getAttr (.ref x) name expr) Q E s:=by
 obtain⟨od,hod,hl⟩:=Hy hn
 have I:PySem.W.InstAt s.heap x {cls:= .ref C,dict:=some dx,data:= .fields vs} C (some od):=⟨hx,rfl,rfl,hod⟩
 obtain⟨cd,hc,hhd,hne,_,hbe,_⟩:=F.cd
 have hf:PySem.W.findObj K C (some od) name=some (.value v):=by
  unfold PySem.W.findObj PySem.W.ownOf
  rw[hc,Option.bind_some,F.no]
  simp only[Option.bind_some]
  rw[if_pos hhd,hl,hv]
  rfl
 have L0:=I.type (M:=model prog w)
 have L1:=PySem.W.looks_findIn (M:=model prog w) X F.ga
 have L2:=PySem.W.looks_find (M:=model prog w) X I hf
 have L3:=PySem.W.looks_findIn (M:=model prog w) X hgn
 have sub:PySem.W.Looks (model prog w) s.heap (isInstance (.ref x) (.type "BaseException")) true:=I.type.andThen (PySem.W.looks_mroIn X (by unfold PySem.W.mroIn;rw[hc,Option.bind_some,if_neg (by rw[hne];decide),hbe]))
 obtain⟨hh',g,d,t,os⟩:=s
 unfold getAttr getAttrBy
 refine wpAny_bind (wpAny_mkText (wpAny_holding (wpAny_bind (L0.at (wpAny_bind (L1.at ?_))))))
 dsimp only
 rw[if_neg (by rw[show(Value.builtin "BaseException.__getattribute__" == Value.builtin "object.__getattribute__")=false from by decide +kernel,Bool.and_false];decide)]
 unfold getAttrByItsOwn hookBefore
 rw[if_pos (show onTheHeap (Value.ref C)=true from rfl)]
 refine wpAny_bind (L3.at (wpAny_bind ?_))
 have f3:=Xb (.ref x)
 have hx0:(expr&&onTheHeap (Value.builtin "BaseException.__getattribute__"))=false:=by cases expr<;>rfl
 repeat (any_goals (first | assumption | wp_step))
 refine codeAny_call_builtin PySem.F.excAttr_ValueError.ga.plain PySem.F.entry_bexc_ga (@PySem.W.check_slot (model prog w) _ _ ⟨hh',g,d,t+1,os⟩ "BaseException.__getattribute__" "BaseException" "__getattribute__" (.ref x) [.str name t] [] _ Xa SN sub (PySem.F.args_bexc_ga _ _) ?_)
 unfold Builtin.«object.__getattribute__»
 refine wpAny_bind (wpAny_pure (wpAny_bind (wpAny_pure (wpAny_bind (L0.at (wpAny_bind (L2.at ?_)))))))
 refine wpAny_pure ?_
 dsimp only
 rw[PySem.W.handedOut_of hh]
 exact wpAny_pure h
end
end L2
namespace L2
open PySem
section
variable{prog:Program}{w:World}{A:Around}{E:Value→Shared→Prop}{h:Heap}{g:Array GenState}{d:Drawn}{t:Nat}{os:OsState}
variable{nm q:Str}{C N:Addr}{bs bm bmB:List Value}{hdct:Bool}{sn:List Str}{sub:List Value}{ab:Bool}{col:Option Bool}{dd:Option Addr}{k0 k1 k2 k3 k5:Option Value}{B newId initId:String}
structure Tz(B:String)(bm:List Value):Prop where
 has:bm.contains (.type B)=true
 noA:bm.contains (.type "AttributeError")=false
 noN:bm.contains (.type "NameError")=false
theorem Q_{M:Model}(F:ExcBaseFacts B newId initId bmB)(T:Tz B bm){rest:List Value}{Q:Unit→Shared→Prop}(hC:h.get? C=some (excClassObj nm q C N bs bm hdct sn sub ab col dd k0 k1 k2 k3 k5 newId))
  (hq:Q () ⟨h,g,d,t,os⟩):wpAny M A (checkBuiltinCall newId ⟨.ref C::rest,[]⟩) Q E ⟨h,g,d,t,os⟩:=by
 have hcont:(Value.ref C::bm).contains (.type B)=true:=by rw[List.contains_cons,T.has,Bool.or_true]
 have hstar:=F.noStar
 simp only[checkBuiltinCall,F.newKind,F.newSplit,F.newRow]
 repeat (first | refine wpAny_loadPart_at hC ?_ | (refine wpAny_isSubtype_exc hC ?_;rw[hcont]) | refine wpAny_staticBase_exc hC ?_ | refine wpAny_madeBy_exc hC ?_ | simp only[bne_self_eq_false,Bool.false_eq_true,if_false] | wp_step)
 exact hq
theorem ah4{R:Result→Shared→Prop}(F:ExcBaseFacts B newId initId bmB)(T:Tz B bm){rest:List Value}(hC:h.get? C=some (excClassObj nm q C N bs bm hdct sn sub ab col dd k0 k1 k2 k3 k5 newId))
  (hq:R (.ok (.ret (.ref (h.objs.size+1)))) ⟨(h.push {cls:= .type "tuple",data:= .seq rest.toArray}).push
   {cls:= .ref C,data:= .fields #[.ref h.objs.size,.none,.none,.none,.bool false,.none]},g,d,t,os⟩) (hrest:rest.length≤sizeLine):
  codeAny (model prog w) A (.builtin newId ⟨.ref C::rest,[]⟩) R ⟨h,g,d,t,os⟩:=by
 have hends:=F.ends
 have hcB:(Value.ref C::bm).contains (.type B)=true:=by rw[List.contains_cons,T.has,Bool.or_true]
 have hcA:(Value.ref C::bm).contains (.type "AttributeError")=false:=by rw[List.contains_cons,T.noA];rfl
 have hcN:(Value.ref C::bm).contains (.type "NameError")=false:=by rw[List.contains_cons,T.noN];rfl
 refine codeAny_builtinAt F.entry ?_
 unfold Builtin.«BaseException.__new__»
 refine wpAt_bind ?_
 show wpAt _ _ _ (stack >>= _) _ _ _
 refine wpAt_bind (wpAt_stack fun p below=>wpAt_of_wpAny ?_)
 wp_walk
 refine wpAt_of_wpAny ?_
 rw[F.owner]
 repeat (first | with_reducible refine wpAny_madeHere_exc F.canon hC ?_ | with_reducible refine wpAny_loadPart_at hC ?_ | (with_reducible refine wpAny_isSubtype_exc hC ?_;first | rw[hcB] | rw[hcA] | rw[hcN]) | wp_step)
 show R _ _
 rw[Heap.size_push]
 exact hq
theorem Q8(F:ExcBaseFacts B newId initId bmB)(T:Tz B bm){rest:List Value}{fI:Addr}{oI:Obj}{Q:Fin→Shared→Prop}
  (hC:h.get? C=some (excClassObj nm q C N bs bm hdct sn sub ab col dd k0 k1 k2 k3 k5 newId)) (hi:PySem.W.Looks (model prog w) h (typeLookup (.ref C) "__init__") (some (.ref fI)))
  (hfI:h.get? fI=some oI) (hfc:oI.cls= .type "function")
  (hq:∀h' e,h.objs.size≤e→Heap.MadeExcOf h h' e (.ref C) rest→
   wpAny (model prog w) A (call (.ref fI) (.ref e::rest)) (fun r s'=>r= .none∧Q (.done (.ret (.ref e))) s') E ⟨h',g,d,t,os⟩) (hrest:rest.length≤sizeLine):
  wpAny (model prog w) A (Builtin.«type.__call__» ⟨.ref C::rest,[]⟩) Q E ⟨h,g,d,t,os⟩:=by
 repeat (first | with_reducible refine wpAny_loadPart_at hC ?_ | with_reducible refine wpAny_madeBy_exc hC ?_ | wp_step)
 refine codeAny_call_builtin_code (Code.quiet_builtin _ F.quiet) (Q_ F T hC ?_)
 refine ah4 F T hC ?_ hrest
 show wpAny _ _ _ _ _ _
 have hC₁:=Heap.get?_push_of_some {cls:= .ref C,data:= .fields #[.ref h.objs.size,.none,.none,.none,.bool false,.none]}
  (Heap.get?_push_of_some {cls:= .type "tuple",data:= .seq rest.toArray} hC)
 have hfI₁:=Heap.get?_push_of_some {cls:= .ref C,data:= .fields #[.ref h.objs.size,.none,.none,.none,.bool false,.none]}
  (Heap.get?_push_of_some {cls:= .type "tuple",data:= .seq rest.toArray} hfI)
 have hget:((h.push {cls:= .type "tuple",data:= .seq rest.toArray}).push
   {cls:= .ref C,data:= .fields #[.ref h.objs.size,.none,.none,.none,.bool false,.none]}).get? (h.objs.size+1)=some
   {cls:= .ref C,data:= .fields #[.ref h.objs.size,.none,.none,.none,.bool false,.none]}:=by heap_get
 have hcC:(Value.ref C::bm).contains (.ref C)=true:=by simp
 unfold isInstance
 repeat (first | with_reducible refine wpAny_loadPart_at hget ?_ | (with_reducible refine wpAny_isSubtype_exc hC₁ ?_;rw[hcC]) | wp_step)
 show wpAny _ _ (typeLookup (.ref C) _) _ _ _
 refine hi _ _ _ _ (fun b o hb=>Heap.get?_push_of_some _ (Heap.get?_push_of_some _ hb)) ?_
 refine wpAny_holding (wpAny_bind ?_)
 unfold bindSpecial
 refine wpAny_bind (wpAny_typeOf (T:= "function") ⟨_,hfI₁,hfc⟩ ?_)
 rw[if_pos (by decide)]
 refine wpAny_pure (wpAny_bind (wpAny_mono (hq _ (h.objs.size+1) (Nat.le_succ _) ⟨fun b o hb=>Heap.get?_push_of_some _ (Heap.get?_push_of_some _ hb),Heap.get?_none_of_le (Nat.le_succ _),h.objs.size,hget,Heap.get?_none_of_le (Nat.le_refl _),?_⟩) (fun r s' hr=> ?_) fun _ _ x=>x))
 ·exact Heap.get?_push_of_some _ (Heap.get?_push_at rfl rfl)
 ·obtain⟨rfl,hQ⟩:=hr
  wp_walk
  exact hQ
theorem x_call(F:ExcBaseFacts B newId initId bmB)(T:Tz B bm){rest:List Value}{fI:Addr}{oI:Obj}{Q:Value→Shared→Prop}
  (hC:h.get? C=some (excClassObj nm q C N bs bm hdct sn sub ab col dd k0 k1 k2 k3 k5 newId)) (hi:PySem.W.Looks (model prog w) h (typeLookup (.ref C) "__init__") (some (.ref fI)))
  (hfI:h.get? fI=some oI) (hfc:oI.cls= .type "function")
  (hq:∀h' e,h.objs.size≤e→Heap.MadeExcOf h h' e (.ref C) rest→
   wpAny (model prog w) (A.under (.builtin "type.__call__" ⟨.ref C::rest,[]⟩)) (call (.ref fI) (.ref e::rest)) (fun r s'=>r= .none∧Q (.ref e) s') E ⟨h',g,d,t,os⟩) (hrest:rest.length≤sizeLine):
  wpAny (model prog w) A (call (.ref C) rest) Q E ⟨h,g,d,t,os⟩:=by
 have f1:=tc_lookup
 have f2:=tc_bind (.ref C)
 have hT:(⟨h,g,d,t,os⟩:Shared).TypeIs (.ref C) "type" := ⟨_,hC,rfl⟩
 refine wpAny_call (codeAny_of_tree ?_)
 show wpAny _ _ (callAny (.ref C) _) _ _ _
 repeat (any_goals (first | assumption | with_reducible refine wpAny_loadPart_at hC ?_ | wp_step))
 refine⟨rfl,?_⟩
 refine codeAny_call_builtin_at (Code.quiet_builtin _ (by decide +kernel)) entry_typeCall (wpAny_check_type_call_sub hC (Q8 (hrest:=hrest) F T hC hi hfI hfc fun h' e hs hm=> ?_))
 exact hq h' e hs hm
end
structure Exc(h:Heap)(e C:Addr)(dx T:Option Addr)(fl:Value):Prop where
 at_:∃vs,h.get? e=some {cls:= .ref C,dict:=dx,data:= .fields vs}∧(match T with
  | none=>vs[1]? = some .none
  | some T=>vs[1]? = some (.ref T)∧T≠e∧∃oT ts,h.get? T=some oT∧oT.data= .fields ts∧ts[3]? = some fl)
def tu(fs:List Addr)(e:Addr)(T:Option Addr)(h h':Heap):Prop:=
 (h.objs.size≤h'.objs.size∧∀b o,h.get? b=some o→∃o',h'.get? b=some o')∧(∀b o,b≠e→some b≠T→b∉fs→h.get? b=some o→h'.get? b=some o)∧(∀b o,b≠e→some b≠T→h.get? b=some o→∃sl,h'.get? b=some {o with slots:=sl})
theorem tu.refl{fs:List Addr}{e:Addr}{T:Option Addr}{h:Heap}:tu fs e T h h:=⟨⟨Nat.le_refl _,fun b o q=>⟨o,q⟩⟩,fun _ _ _ _ _ x=>x,fun _ o _ _ x=>⟨o.slots,x⟩⟩
theorem tu.trans{fs:List Addr}{e:Addr}{T T':Option Addr}{h h1 h2:Heap}(x:tu fs e T h h1)(y:tu fs e T' h1 h2)(hT:T'=T∨∃t,T'=some t∧h.objs.size≤t):tu fs e T h h2:=by
 have ne:∀b o,some b≠T→h.get? b=some o→some b≠T':=fun b o n q z=>by
  rcases hT with r | ⟨t,r,q2⟩
  ·exact n (z.trans r)
  ·rw[r]at z;cases z
   exact absurd (Nat.lt_of_lt_of_le (Heap.lt_size q) q2) (Nat.lt_irrefl _)
 refine⟨⟨Nat.le_trans x.1.1 y.1.1,fun b o q=>let⟨o1,q1⟩:=x.1.2 b o q;y.1.2 b o1 q1⟩,fun b o n1 n2 n3 q=>y.2.1 b o n1 (ne b o n2 q) n3 (x.2.1 b o n1 n2 n3 q),fun b o n1 n2 q=> ?_⟩
 obtain⟨sl,e1⟩:=x.2.2 b o n1 n2 q
 obtain⟨sl2,e2⟩:=y.2.2 b _ n1 (ne b o n2 q) e1
 exact⟨sl2,e2⟩
section
variable{M:Model}{A:Around}{E:Value→Shared→Prop}{s:Shared}
theorem V4{base:Heap}{env:Env}{outer:List Env}{L e C:Addr}{dx:Option Addr}{vs:Array Value}{head:Value}{hadNext:Bool}{Q:Unit→Shared→Prop}
  (hfr:A.frames=some (env::outer)) (hl:s.heap.FunFrames base (env::outer)) (hf:env.frame=some L)
  (he:s.heap.get? e=some {cls:= .ref C,dict:=dx,data:= .fields vs}) (hsz:1<vs.size)
  (h:∀h' T,s.heap.objs.size≤T→tu ((env::outer).filterMap (·.frame)) e (some T) s.heap h'→Exc h' e C dx (some T) (rawInt L)→Q () {s with heap:=h'}):
  wpAny M A (do let a ←frameOf env;let pl ←entryPlaceOf L hadNext;let b ←EntryCells.newEntry head a .none (rawInt L) .none pl;setField (.ref e) 1 b) Q E s:=by
 have hene:e∉(env::outer).filterMap (·.frame):=fun hm=>by
  obtain⟨_,o,ho,hnf⟩:=hl.mem hm
  rw[he]at ho;injection ho with ho;subst ho;exact hnf vs rfl
 refine wpAny_bind (wpAny_frameOf_fun hfr hl hf fun h₁ hs₁=> ?_)
 refine wpAny_bind (wpAny_entryPlaceOf fun pl hpl=> ?_)
 unfold EntryCells.newEntry newFields
 refine wpAny_bind (wpAny_newObj_type ?_ (hpl.sizeOk5 _ _ _ _ _))
 have he₁:h₁.get? e=some {cls:= .ref C,dict:=dx,data:= .fields vs}:=(hs₁.2.1 e hene).trans he
 have he₂:=Heap.get?_push_of_some (h:=h₁) {cls:= .type "traceback",dict:=none,data:= .fields ([head,.ref L,.none,rawInt L,.none]++(if pl.isEmpty then List.replicate 6 Value.none else pl)).toArray} he₁
 refine wpAny_setField he₂ rfl hsz (h _ h₁.objs.size (by rw[hs₁.1];exact Nat.le_refl _) ?_ ?_)
 ·refine⟨⟨?_,fun b o q=> ?_⟩,fun b o n1 n2 n3 q=> ?_,fun b o n1 n2 q=> ?_⟩
  ·rw[Heap.size_after_update,Heap.size_push,hs₁.1];omega
  ·by_cases n1:b=e
   ·subst n1
    exact⟨_,Heap.get?_update_self _ he₂ (Obj.isFreed_of_fields (Obj.data_mapFields rfl _))⟩
   ·obtain⟨sl,q1⟩:=hs₁.2.2 b o q
    exact⟨_,(Heap.get?_update_other _ _ (Ne.symm n1)).trans (Heap.get?_push_of_some _ q1)⟩
  ·rw[Heap.get?_update_other _ _ (Ne.symm n1)]
   exact Heap.get?_push_of_some _ ((hs₁.2.1 b n3).trans q)
  ·obtain⟨sl,q1⟩:=hs₁.2.2 b o q
   refine⟨sl,?_⟩
   rw[Heap.get?_update_other _ _ (Ne.symm n1)]
   exact Heap.get?_push_of_some _ q1
 ·have hTe:h₁.objs.size≠e:=Nat.ne_of_gt (Heap.lt_size he₁)
  have hd₃:=Obj.data_mapFields (o:={cls:= .ref C,dict:=dx,data:= .fields vs}) rfl (·.setIfInBounds 1 (Value.ref h₁.objs.size))
  have he₃:=Heap.get?_update_self (Obj.mapFields (·.setIfInBounds 1 (Value.ref h₁.objs.size))) he₂ (Obj.isFreed_of_fields hd₃)
  have hT₃:=(Heap.get?_update_other (h₁.push {cls:= .type "traceback",dict:=none,data:= .fields ([head,.ref L,.none,rawInt L,.none]++(if pl.isEmpty then List.replicate 6 Value.none else pl)).toArray})
   (Obj.mapFields (·.setIfInBounds 1 (Value.ref h₁.objs.size))) (Ne.symm hTe)).trans (Heap.get?_push_size h₁ rfl)
  refine⟨⟨_,he₃,by simp[hsz],hTe,_,_,hT₃,rfl,by first | (simp;done) | (rcases hpl with rfl | ⟨_,_,_,_,_,_,_,rfl⟩<;>simp)⟩⟩
theorem tu.upd{fs:List Addr}{e T:Addr}{h:Heap}{f:Obj→Obj}{oT:Obj}(ho:h.get? T=some oT)(hfr:(f oT).isFreed=false):tu fs e (some T) h (h.update T f):=by
 have k:∀b o,some b≠some T→h.get? b=some o→(h.update T f).get? b=some o:=fun b o n q=>by
  rw[Heap.get?_update_other _ _ (fun z=>n (by rw[z]))];exact q
 refine⟨⟨by rw[Heap.size_after_update];exact Nat.le_refl _,fun b o q=> ?_⟩,fun b o _ n2 _ q=>k b o n2 q,fun b o _ n2 q=>⟨o.slots,k b o n2 q⟩⟩
 by_cases z:b=T
 ·subst z;exact⟨_,Heap.get?_update_self _ ho hfr⟩
 ·exact⟨o,k b o (fun y=>z (Option.some.inj y)) q⟩
theorem yw{e C:Addr}{dx T:Option Addr}{fl:Value}{fr:Option Addr}{Q:Unit→Shared→Prop}(x:Exc s.heap e C dx T fl)
  (h:∀h',tu [] e T s.heap h'→Exc h' e C dx T (fr.elim .none fun f=>rawInt f)→Q () {s with heap:=h'}):wpAny M A (setFlight (.ref e) fr) Q E s:=by
 obtain⟨vs,he,hT⟩:=x.at_
 unfold setFlight
 cases T with
 | none=>
  refine wpAny_bind (wpAny_field he rfl hT ?_)
  rw[if_neg (by decide)]
  exact wpAny_pure (h s.heap .refl ⟨vs,he,hT⟩)
 | some T=>
  obtain⟨h1,hne,oT,ts,hoT,hd,h3⟩:=hT
  refine wpAny_bind (wpAny_field he rfl h1 ?_)
  rw[if_pos (show(Value.ref T != Value.none)=true from by simp)]
  have hsz3:3<ts.size:=(Array.getElem?_eq_some_iff.mp h3).1
  refine wpAny_setField hoT hd hsz3 (h _ (.upd hoT (Obj.isFreed_of_fields (Obj.data_mapFields hd _))) ⟨vs,?_,h1,hne,_,_,Heap.get?_update_self _ hoT (Obj.isFreed_of_fields (Obj.data_mapFields hd _)),Obj.data_mapFields hd _,by simp[hsz3]⟩)
  rw[Heap.get?_update_other _ _ hne];exact he
theorem Oq{base:Heap}{env:Env}{outer:List Env}{L e C:Addr}{dx T:Option Addr}{fl:Value}{Q:Unit→Shared→Prop}
  (hfr:A.frames=some (env::outer)) (hl:s.heap.FunFrames base (env::outer)) (hf:env.frame=some L) (x:Exc s.heap e C dx T fl) (hfl:fl=fl∨fl=rawInt L)
  (h:∀h' T',(T=some T'∨s.heap.objs.size≤T')→tu ((env::outer).filterMap (·.frame)) e T s.heap h'→Exc h' e C dx (some T') (rawInt L)→Q () {s with heap:=h'}):wpAny M A (noteFrame (.ref e) env) Q E s:=by
 obtain⟨vs,he,hT⟩:=x.at_
 unfold noteFrame
 simp only[hf]
 cases T with
 | none=>
  refine wpAny_bind (wpAny_field he rfl hT ?_)
  rw[if_neg (by decide)]
  refine V4 hfr hl hf he (Array.getElem?_eq_some_iff.mp hT).1 fun h' T hs k x'=>h h' T (.inr hs) ?_ x'
  exact⟨k.1,fun b o n1 _ n3 q=>k.2.1 b o n1 (fun z=>by cases z;exact absurd (Nat.lt_of_lt_of_le (Heap.lt_size q) hs) (Nat.lt_irrefl _)) n3 q,fun b o n1 _ q=>k.2.2 b o n1 (fun z=>by cases z;exact absurd (Nat.lt_of_lt_of_le (Heap.lt_size q) hs) (Nat.lt_irrefl _)) q⟩
 | some T=>
  obtain⟨h1,hne,oT,ts,hoT,hd,h3⟩:=hT
  refine wpAny_bind (wpAny_field he rfl h1 ?_)
  rw[if_pos (show(Value.ref T != Value.none)=true from by simp)]
  refine wpAny_bind (wpAny_field hoT hd h3 ?_)
  by_cases hq:fl=rawInt L
  ·subst hq
   rw[if_pos (show(rawInt L==rawInt L)=true from by simp)]
   exact wpAny_pure (h s.heap T (.inl rfl) .refl x)
  ·rw[if_neg (show ¬((fl==rawInt L)=true)from by simpa using hq)]
   have hsz3:3<ts.size:=(Array.getElem?_eq_some_iff.mp h3).1
   refine wpAny_bind (wpAny_setField hoT hd hsz3 ?_)
   have other:∀b,b≠T→(s.heap.update T (Obj.mapFields (·.setIfInBounds 3 Value.none))).get? b=s.heap.get? b:=fun b hb=>Heap.get?_update_other _ _ (Ne.symm hb)
   have noRecord:∀b o,s.heap.get? b=some o→(∀vs,o.data≠ .fields vs)→b≠T:=fun b o hb hnf q=>by
    rw[q,hoT]at hb;injection hb with hb;subst hb;exact hnf ts hd
   refine V4 hfr (hl.of_keeps fun b o hb hnf=>⟨o,(other b (noRecord b o hb hnf)).trans hb,rfl⟩) hf ((other e (Ne.symm hne)).trans he) (Array.getElem?_eq_some_iff.mp h1).1 fun h' T' hs k x'=> ?_
   rw[Heap.size_after_update]at hs
   exact h h' T' (.inr hs) ((tu.upd hoT (Obj.isFreed_of_fields (Obj.data_mapFields hd _))).trans k (.inr ⟨T',rfl,hs⟩)) x'
theorem ab2{base:Heap}{env:Env}{outer:List Env}{L e C:Addr}{dx T:Option Addr}{fl:Value}{Q:Unit→Shared→Prop}
  (hfr:A.frames=some (env::outer)) (hl:s.heap.FunFrames base (env::outer)) (hf:env.frame=some L) (x:Exc s.heap e C dx T fl) (hfl:fl=fl∨fl=rawInt L)
  (h:∀h' T',(T=some T'∨s.heap.objs.size≤T')→tu ((env::outer).filterMap (·.frame)) e T s.heap h'→Exc h' e C dx (some T') .none→Q () {s with heap:=h'}):wpAny M A (leaving env (.ref e)) Q E s:=by
 unfold leaving
 refine wpAny_bind (Oq hfr hl hf x hfl fun h' T' hT k x'=> ?_)
 refine yw (fr:=none) (s:={s with heap:=h'}) x' fun h2 k2 x2=>h h2 T' hT (k.trans (T':=some T') ⟨k2.1,fun b o n1 n2 _ q=>k2.2.1 b o n1 n2 (by simp) q,k2.2.2⟩ ?_) x2
 rcases hT with r | r
 ·exact .inl r.symm
 ·exact .inr ⟨T',rfl,r⟩
end
end L2
namespace L2
open PySem PySem.Spec PyProof.Rows
abbrev xO(a C:Addr)(dx:Option Addr):HO:= .ext fun h=>Exc h a C dx none .none
theorem aec{P:Program}{w:World}{H:Hp}{h:Heap}{a C:Addr}{dx:Option Addr}(x:Exc h a C dx none .none):jr P w H h a (xO a C dx):=by
 refine⟨x,?_,fun h1 h2 y k=> ?_⟩
 ·obtain⟨vs,e,_⟩:=x.at_;exact⟨_,e⟩
 ·obtain⟨vs,e,q⟩:=y.at_;exact⟨vs,k _ e,q⟩
theorem aed{P:Program}{w:World}{H:Hp}{h:Heap}{a C:Addr}{dx:Option Addr}(x:jr P w H h a (xO a C dx)):Exc h a C dx none .none:=x.1
section
variable{X:Cx}{pins:List (Addr×Obj)}{σ:St}{H:Hp}{s:Shared}{a C:Addr}{f:Str}{A:Around}{E:Value→Shared→Prop}
theorem Q5{y:V}{u:Value}{Q:Unit→Shared→Prop}(I:Inv X pins σ H s)(e:H a=some (xO a C none))(F:yr X.K C f)(ry:RelV y u)
  (h:∀dx s',H dx=none→dx≠a→Inv X pins σ (upd (upd H dx (.xd [(f,y)])) a (xO a C (some dx))) s'→Q () s'):wpAny (model X.prog X.w) A (setAttr (.ref a) f u) Q E s:=by
 obtain⟨vs,hx,h1⟩:=(aed (I.hok a _ e)).at_
 refine ah1 I.yX F hx fun h' dx ed hx' hn kp=> ?_
 subst ed
 have hd0:H s.heap.objs.size=none:=I.hok.fresh (Nat.le_refl _)
 have nea:s.heap.objs.size≠a:=Nat.ne_of_gt (I.hok.lt e)
 refine h _ _ hd0 nea (I.un ⟨fun b o q n _ _=>kp b o (fun z=>by subst z;rw[e]at n;cases n) q,fun b o q n _ _=>⟨o.slots,kp b o (fun z=>by subst z;rw[e]at n;cases n) q⟩,fun b o q n _=> ?_,fun b o q _=> ?_,fun b xs q=> ?_,fun b o xs q=> ?_,fun b ps q=>⟨#[],?_⟩⟩ fun b o q=> ?_)
 ·have n1:b≠a:=fun z=>by subst z;rw[e]at n;cases n
  rw[bG n1,bG (Nat.ne_of_lt (Heap.lt_size q))];exact n
 ·by_cases z:b=a
  ·subst z;exact⟨_,hx'⟩
  ·exact⟨o,kp b o z q⟩
 ·have n1:b≠a:=fun z=>by subst z;rw[e]at q;cases q
  have n2:b≠s.heap.objs.size:=fun z=>by subst z;rw[hd0]at q;cases q
  rw[bG n1,bG n2];exact q
 ·have n1:b≠a:=fun z=>by subst z;rw[e]at q;cases q
  have n2:b≠s.heap.objs.size:=fun z=>by subst z;rw[hd0]at q;cases q
  rw[bG n1,bG n2];exact q
 ·have n1:b≠a:=fun z=>by subst z;rw[e]at q;cases q
  have n2:b≠s.heap.objs.size:=fun z=>by subst z;rw[hd0]at q;cases q
  rw[bG n1,bG n2,q];simp
 ·by_cases z:b=a
  ·subst z
   rw[fX]at q;cases q
   exact aec ⟨vs,hx',h1⟩
  ·rw[bG z]at q
   by_cases z2:b=s.heap.objs.size
   ·subst z2
    rw[fX]at q;cases q
    refine⟨_,hn,fun g=> ?_⟩
    by_cases zg:g=f
    ·subst zg;simp[List.lookup];exact ry
    ·have:(g==f)=false:=by simpa using zg
     simp[List.lookup,this,zg];exact True.intro
   ·rw[bG z2]at q
    refine(I.hok b o q).stay (fun b' u' hb q'=> ?_) (fun b' q'=> ?_) fun b' xs q'=> ?_
    ·refine kp b' u' (fun z'=> ?_) q'
     rcases hb with r | r
     ·exact z (r▸z')
     ·rw[z',e]at r;cases r
    ·have n1:b'≠a:=fun z=>by subst z;rw[e]at q';cases q'
     have n2:b'≠s.heap.objs.size:=fun z=>by subst z;rw[hd0]at q';cases q'
     rw[bG n1,bG n2];exact q'
    ·have n1:b'≠a:=fun z=>by subst z;rw[e]at q';cases q'
     have n2:b'≠s.heap.objs.size:=fun z=>by subst z;rw[hd0]at q';cases q'
     rw[bG n1,bG n2];exact q'
end
section
variable{X:Cx}{o value:Expr}{ta tv:TE}{f:Str}{pos pos':Pos}
def aej(K:Frag)(ta tv:TE)(f:Str):TS:=fun D σ H=>tv σ H fun y H1=>ta σ H1 fun x H2=>∃a C,x= .ref a∧H2 a=some (xO a C none)∧yr K C f∧
 ∀dx,H2 dx=none→dx≠a→D.nx σ (upd (upd H2 dx (.xd [(f,y)])) a (xO a C (some dx)))
theorem acG(ha:PE X o ta)(hv:PE X value tv)(hs:swapsWith value (some (.Attribute o f pos')) pos.line X.env=pure false):PS X (.Assign [.Attribute o f pos'] value pos) (aej X.K ta tv f):=by
 intro pins s σ H D I h
 refine plainObj_wpAny_Assign_Attribute (mz (hv pins s σ H _ I h) fun u s1 ⟨y,H1,I1,ry,q⟩=>mz (ha pins s1 σ H1 _ I1 q) fun ov s2 ⟨x,H2,I2,rx,a,C,ex,ea,F,q2⟩=> ?_) hs
 subst ex
 obtain rfl:ov=Value.ref a:=rx
 exact Q5 I2 ea F ry fun dx s3 hd ne I3=>⟨σ,_,I3,q2 dx hd ne⟩
end
def Dj(K:Frag)(f:Str):Sp:=fun vs H Q _=>∃a C y,vs=[.ref a,y]∧H a=some (xO a C none)∧yr K C f∧∀dx,H dx=none→dx≠a→Q .non (upd (upd H dx (.xd [(f,y)])) a (xO a C (some dx)))
section
variable{P:Program}{w:World}{K:Frag}{mg:Str→Option Value}{base:Heap}
theorem abn{x qual g:Str}{st:Stmt}{dV:Value}{f:Addr}{fd:FuncData}{N ps:List Str}{k:Nat}(F:cF K x qual st dV f fd)(S:bA N ps (aA st))(hps:ps.length=2)
  (hbody:∀(cdv:Value) (A:Around) (outer:List Env) (s:Shared) (H:Hp) (E:XK),Jl (Bq V3 P w K mg base N qual (aA st) f cdv A outer s H E).nox (aK st) (aej K (ab_ 0) (ab_ 1) g)):
  bF P w K mg base V3 (k+1) f fd ps (Dj K g):=by
 refine F.ok S (fun vs H Q E ⟨a,C,y,e,_⟩=>by rw[e,hps];rfl) fun cdv A outer s H vs Q E hr ⟨a,C,y,e,hH,hF,q⟩=> ?_
 subst e
 refine⟨_,hbody cdv A outer s H E,y,rfl,.ref a,rfl,a,C,rfl,hH,hF,fun dx hd ne=> .inl (q dx hd ne)⟩
end
structure XMk(K:Frag)(C f:Addr):Prop where
 obj:∃(nm q:Str) (N:Addr) (bs bm:List Value) (hdct:Bool) (sn:List Str) (sub:List Value) (ab:Bool) (col:Option Bool) (dd:Option Addr) (k0 k1 k2 k3 k5:Option Value),
  K.lookup C=some (excClassObj nm q C N bs bm hdct sn sub ab col dd k0 k1 k2 k3 k5 "ValueError.__new__")∧Tz "ValueError" bm∧bm.contains (.type "BaseException")=true
 init:findIn K (.ref C) "__init__" = some (some (.ref f))
 fn:isFn K (.ref f)=true
 kp:keepIn K (.ref C)=true
section
variable{X:Cx}{k:Nat}{f C:Addr}{fd:FuncData}{ps:List Str}{g:Str}
theorem Inv.ah2{pins:List (Addr×Obj)}{σ:St}{H:Hp}{s:Shared}{h':Heap}{e:Addr}{us:List Value}(I:Inv X pins σ H s)(hs:s.heap.objs.size≤e)(m:Heap.MadeExcOf s.heap h' e (.ref C) us):
  Inv X pins σ (upd H e (xO e C none)) {s with heap:=h'}:=by
 obtain⟨t,he,_,_⟩:=m.there
 exact I.laid (t':=s.toks) (fun b u q=>m.keeps b u q) hs (aec ⟨_,he,rfl⟩)
theorem X8{pins:List (Addr×Obj)}{σ:St}{H:Hp}{s:Shared}{Q:VK}{u:Value}{y:V}(M:XMk X.K C f)(hX:yr X.K C g)(F:bF X.prog X.w X.K X.mg X.base V3 k f fd ps (Dj X.K g))(hr:mV (k+1) X.A)(hb:Binds X.K fd ps [])
  (I:Inv X pins σ H s) (r:RelV y u)
  (h:∀x dx,H x=none→H dx=none→dx≠x→s.heap.objs.size≤x→Q (.ref x) (upd (upd (upd H x (xO x C none)) dx (.xd [(g,y)])) x (xO x C (some dx)))):
  wpAny (model X.prog X.w) X.A (call (.ref C) [u]) (EP X pins σ Q) X.xe s:=by
 obtain⟨nm,q,N,bs,bm,hdct,sn,sub,ab,col,dd,k0,k1,k2,k3,k5,hC,hT,hB⟩:=M.obj
 have hfn:=beq_iff_eq.mp M.fn
 have lk:∃oI,X.K.lookup f=some oI∧oI.cls= .type "function" := by
  obtain⟨o,ho,hc⟩:=Option.map_eq_some_iff.mp hfn
  exact⟨o,ho,hc⟩
 obtain⟨oI,hoI,hcI⟩:=lk
 obtain⟨hp,gg,d,t,os⟩:=s
 refine x_call PySem.F.excBase_ValueError hT (I.yX _ _ hC) (PySem.W.looks_findIn I.yX M.init) (I.yX _ _ hoI) hcI (fun h' e hs m=> ?_) (by show 1≤sizeLine;decide)
 have I2:=I.ah2 hs m
 have r2:Vals [V.ref e,y] [Value.ref e,u]:= .cons rfl (.cons r .nil)
 have n0:H e=none:=I.hok.fresh hs
 have hq:Dj X.K g [V.ref e,y] (upd H e (xO e C none)) (fun v H2=>v= .non∧Q (.ref e) H2) E0:=by
  refine⟨e,C,y,rfl,fX,hX,fun dx hd ne=>⟨rfl,h e dx n0 ?_ ne hs⟩⟩
  rw[bG ne]at hd;exact hd
 have hl:([Value.ref e,u]++[]).length=ps.length:=by rw[List.append_nil,←r2.length];exact F.len _ _ _ _ hq
 refine wpAny_call (codeAny_mono (F.run _ X.stack _ _ ⟨[Value.ref e,u],[]⟩ [Value.ref e,u] _ _ E0 (hr.make C [u] []) (I2.env0.make C [u] []) (by simpa using hb _ [Value.ref e,u] I2.yX hl) r2 hq) fun r s' hq'=> ?_)
 cases r with
 | error e=>exact hq'.elim
 | ok fl=>
  cases fl with
  | ret u=>
   obtain⟨v,H',I3,rv,ev,q3⟩:=I2.after hq'
   subst ev
   exact⟨rv,⟨V.ref e,H',I3,rfl,q3⟩⟩
  | next=>exact False.elim hq'
  | brk=>exact False.elim hq'
  | cont=>exact False.elim hq'
end
def drop(H:Hp)(a:Addr):Hp:=fun b=>if b=a then none else H b
theorem Xl{H:Hp}{a b:Addr}(h:b≠a):drop H a b=H b:=by unfold drop;rw[if_neg h]
theorem Ny{H:Hp}{a:Addr}:drop H a a=none:=by unfold drop;rw[if_pos rfl]
section
variable{X:Cx}{pins:List (Addr×Obj)}{σ:St}{H:Hp}{s:Shared}{a:Addr}{φ:Heap→Prop}
theorem Inv.akU(I:Inv X pins σ H s)(e:H a=some (.ext φ)):Inv X pins σ (drop H a) s:=by
 have nn:∀b,H b=none→drop H a b=none:=fun b q=>by unfold drop;split<;>first | rfl | exact q
 have kk:∀b u,H b=some u→(∀ψ,u≠ .ext ψ)→drop H a b=some u:=fun b u q n=>by
  have:b≠a:=fun z=>by subst z;rw[e]at q;cases q;exact n _ rfl
  rw[Xl this];exact q
 refine⟨I.ok,I.os,I.bare,⟨I.base.keep,I.base.slot,fun b o q n x=>nn b (I.base.free b o q n x),I.base.there,fun b xs q=>kk b _ (I.base.tups b xs q) (by simp),fun b o u q=>kk b _ (I.base.Bp b o u q) (by simp),fun b ps q=> ?_⟩,I.loc,I.cell,nn _ I.free,fun x c q=>nn _ (I.rR x c q),fun p hp=> ?_,fun b o q=> ?_,I.len⟩
 ·obtain⟨m,z⟩:=I.base.BW b ps q;exact⟨m,kk b _ z (by simp)⟩
 ·obtain⟨z1,z2,z3⟩:=I.pin p hp;exact⟨z1,nn _ z2,z3⟩
 ·have nb:b≠a:=fun z=>by subst z;rw[Ny]at q;cases q
  rw[Xl nb]at q
  exact(I.hok b o q).stay (fun _ _ _ z=>z) (fun b' z=>kk b' _ z (by simp)) fun b' xs z=>kk b' _ z (by simp)
end
def jm(P:Program)(w:World):V2:=fun outer H s E ev s'=>∃e C dx T H',ev=Value.ref e∧s'.os=s.os∧AllBare s'.gens∧Un (frs outer) [] H H' s.heap s'.heap∧Br P w H' s'.heap∧Exc s'.heap e C (some dx) (some T) .none∧
 s.heap.objs.size≤e∧s.heap.objs.size≤T∧H' e=none∧H' T=none∧E (.ref C) (some dx) H'
abbrev bK:=Addr→Addr→St→Hp→Prop
structure qj(X:Cx)(pins:List (Addr×Obj))(H:Hp)(a:Addr):Prop where
 no:H a=none
 new:X.s₀.heap.objs.size≤a
 pin:∀p∈X.pn++pins,p.1≠a
def gb(X:Cx)(W:bK):Value→Shared→Prop:=fun ev s=>∃e C dx T fl pins σ H,ev=Value.ref e∧Inv X pins σ H s∧Exc s.heap e C (some dx) T fl∧(fl=fl∨fl=rawInt X.env.locals)∧qj X pins H e∧(∀t,T=some t→qj X pins H t)∧W C dx σ H
section
variable{X:Cx}{pins:List (Addr×Obj)}{σ:St}{H:Hp}{s:Shared}
theorem gb.Wz{W:bK}{E:XK}{ev:Value}{s':Shared}(I:Inv X pins σ H s)(h:jm X.prog X.w X.stack H s E ev s')(hE:∀C dx H',E (.ref C) (some dx) H'→W C dx σ H'):gb X W ev s':=by
 obtain⟨e,C,dx,T,H',rfl,os,bare,un,hok,x,ne,nT,fe,fT,hq⟩:=h
 have old:∀a,s.heap.objs.size≤a→∀p∈X.pn++pins,p.1≠a:=fun a ha p hp z=>by
  have:=Heap.lt_size (I.pin p hp).1
  rw[z]at this
  exact absurd (Nat.lt_of_lt_of_le this ha) (Nat.lt_irrefl _)
 exact⟨e,C,dx,some T,.none,pins,σ,H',rfl,I.call' os un hok bare (fun b z=>absurd z (by simp)),x,.inl rfl,⟨fe,Nat.le_trans I.sz ne,old e ne⟩,fun t z=>by cases z;exact⟨fT,Nat.le_trans I.sz nT,old T nT⟩,hE C dx H' hq⟩
theorem Nm{P:Program}{w:World}{fs:List Addr}{e:Addr}{T:Option Addr}{h h':Heap}(ok:Br P w H h)(k:tu fs e T h h')(he:H e=none)(hT:∀t,T=some t→H t=none)(hf:∀b∈fs,H b=none):Br P w H h':=by
 have kp:∀b u o,H b=some o→h.get? b=some u→h'.get? b=some u:=fun b u o q z=>
  k.2.1 b u (fun y=>by subst y;rw[he]at q;cases q) (fun y=>by rw[hT b y.symm]at q;cases q) (fun y=>by rw[hf b y]at q;cases q) z
 intro b o q
 refine(ok b o q).stay (fun b' u hb z=> ?_) (fun _ z=>z) fun _ _ z=>z
 rcases hb with rfl | hb
 ·exact kp _ u o q z
 ·exact kp _ u _ hb z
end
theorem gb.leave{P:Program}{w:World}{K:Frag}{mg:Str→Option Value}{base:Heap}{N:List Str}{qual:Str}{scope:Scope}{f:Addr}{cd:Value}{A:Around}{outer:List Env}{s:Shared}{H:Hp}{E:XK}{W:bK}{ev:Value}{s':Shared}
  (h:gb (Bq (jm P w) P w K mg base N qual scope f cd A outer s H E) W ev s') (hE:∀C dx σ H',W C dx σ H'→E (.ref C) (some dx) H'):
  (Bq (jm P w) P w K mg base N qual scope f cd A outer s H E).xe ev s':=by
 obtain⟨e,C,dx,T,fl,pins,σ,H',rfl,I,x,hfl,fe,fT,hW⟩:=h
 show wpAny _ _ (leaving _ (.ref e)) _ _ s'
 refine ab2 I.ok.frames I.stack rfl x hfl fun h2 T' hT k x'=> ?_
 have hTn:∀t,T=some t→H' t=none:=fun t z=>(fT t z).no
 have nT:s.heap.objs.size≤T':=by
  rcases hT with r | r
  ·exact(fT T' r).new
  ·exact Nat.le_trans I.sz r
 have fT':H' T'=none:=by
  rcases hT with r | r
  ·exact hTn T' r
  ·exact I.hok.fresh r
 have ok2:=Nm I.hok k fe.no hTn I.Ju
 have ne:∀b o,s.heap.get? b=some o→b≠e∧some b≠T:=fun b o q=>⟨fun z=>absurd (Nat.lt_of_lt_of_le (Heap.lt_size q) (z▸fe.new)) (Nat.lt_irrefl _),fun z=>absurd (Nat.lt_of_lt_of_le (Heap.lt_size q) (fT b z.symm).new) (Nat.lt_irrefl _)⟩
 have nL:∀b o,s.heap.get? b=some o→b≠s.heap.objs.size:=fun b o q=>Nat.ne_of_lt (Heap.lt_size q)
 refine⟨e,C,dx,T',H',rfl,I.os,I.bare,⟨fun b o q n hb _=> ?_,fun b o q n hb _=> ?_,fun b o q n _=>I.base.free b o q n (by simp[Bq]),fun b o q _=> ?_,I.base.tups,I.base.Bp,I.base.BW⟩,ok2,x',fe.new,nT,fe.no,fT',hE C dx σ H' hW⟩
 ·obtain⟨n1,n2⟩:=ne b o q
  refine k.2.1 b o n1 n2 (fun z=> ?_) (I.base.keep b o q n hb (by simp[Bq]))
  rcases List.mem_cons.mp (I.O1 b z)with y | y
  ·exact nL b o q y
  ·exact hb y
 ·obtain⟨n1,n2⟩:=ne b o q
  obtain⟨sl,q1⟩:=I.base.slot b o q n hb (by simp[Bq])
  obtain⟨sl2,q2⟩:=k.2.2 b _ n1 n2 q1
  exact⟨sl2,q2⟩
 ·obtain⟨n1,n2⟩:=ne b o q
  obtain⟨o1,q1⟩:=I.base.there b o q (by simp[Bq])
  obtain⟨sl2,q2⟩:=k.2.2 b _ n1 n2 q1
  exact⟨_,q2⟩
end L2
namespace L2
section
open PySem
variable{M:Model}{A:Around}{E:Value→Shared→Prop}{env:Env}
variable{nm q:Str}{C N:Addr}{bs bm:List Value}{hdct:Bool}{sn:List Str}{sub:List Value}{ab:Bool}{col:Option Bool}{dd:Option Addr}{k0 k1 k2 k3 k5:Option Value}{newId:String}
theorem Q9{s:Shared}{x:Sem Value}{Q:Flow→Shared→Prop}(hbase:bm.contains (.type "BaseException")=true)(hh:A.handled=none)
  (h:wpAny M A x (fun v s₁=>∃e dx vs,v= .ref e∧s₁.heap.get? C=some (excClassObj nm q C N bs bm hdct sn sub ab col dd k0 k1 k2 k3 k5 newId)∧
   s₁.heap.get? e=some {cls:= .ref C,dict:=dx,data:= .fields vs}∧vs[1]? = some .none∧E (.ref e) s₁) E s):
  wpAny M A (raiseStmt env (some x) none) Q E s:=by
 have hcB:(Value.ref C::bm).contains (.type "BaseException")=true:=by rw[List.contains_cons,hbase,Bool.or_true]
 unfold raiseStmt
 refine wpAny_bind (wpAny_mono h (fun v s₁ h₁=> ?_) fun _ _ x=>x)
 obtain⟨e,dx,vs,rfl,hC,he,h1,hE⟩:=h₁
 obtain⟨hp,g,d,tk,os⟩:=s₁
 have hfl:∀{Q:Unit→Shared→Prop},Q () ⟨hp,g,d,tk,os⟩→wpAny M A (setFlight (.ref e) none) Q E ⟨hp,g,d,tk,os⟩:=fun hQ=>by
  unfold setFlight
  refine wpAny_bind (wpAny_field he rfl h1 ?_)
  rw[if_neg (by decide)]
  exact wpAny_pure hQ
 repeat (first | with_reducible refine wpAny_loadPart_at he ?_ | with_reducible refine wpAny_loadPart_at hC ?_ | (with_reducible refine wpAny_isSubtype_exc hC ?_;rw[hcB]) | with_reducible refine hfl ?_ | wp_step)
 exact wpAny_raiseNew_none hh hE
end
section
open PySem PySem.Spec PyProof.Rows
variable{X:Cx}{k:Nat}{f C:Addr}{fd:FuncData}{ps:List Str}{g:Str}{x:Str}{np cpos pos:Pos}{arg:Expr}{ta:TA}{W:bK}
theorem YW{H:Hp}{x dx:Addr}{o1 o2 o3:HO}(hx:H x=none)(ne:dx≠x):drop (upd (upd (upd H x o1) dx o2) x o3) x=upd H dx o2:=by
 funext b
 unfold drop upd
 by_cases z:b=x
 ·subst z;rw[if_pos rfl,if_neg (Ne.symm ne),hx]
 ·rw[if_neg z,if_neg z]
  by_cases z2:b=dx
  ·rw[if_pos z2,if_pos z2]
  ·rw[if_neg z2,if_neg z2,if_neg z]
def afd(C:Addr)(g:Str)(W:bK)(ta:TA):TS:=fun _ σ H=>ta σ H fun vs H1=>∃y,vs=[y]∧∀dx,H1 dx=none→W C dx σ (upd H1 dx (.xd [(g,y)]))
theorem aaB(M:XMk X.K C f)(hX:yr X.K C g)(F:bF X.prog X.w X.K X.mg X.base V3 k f fd ps (Dj X.K g))(hr:mV (k+1) X.A)(hb:Binds X.K fd ps [])(hg:Gl X x)(hm:X.mg x=some (.ref C))(hc:X.calm=true)
  (hW:∀ev s,gb X W ev s→X.xe ev s) (ha:PA X [arg] ta) (hdb:(x==("__debug__" : Str))=false:=by decide) (he:starEach [arg] X.env=[(false,eval arg X.env)]:=by rfl):
  PS X (.Raise (some (.Call (.Name x np) [arg] [] cpos)) none pos) (afd C g W ta):=by
 intro pins s σ H D I h
 obtain⟨nm,q,N,bs,bm,hdct,sn,sub,ab,col,dd,k0,k1,k2,k3,k5,hC,hT,hB⟩:=M.obj
 rw[arm_exec_Raise]
 refine wpAny_bind (wpAny_standAt (Q9 (C:=C) (nm:=nm) (q:=q) (N:=N) (bs:=bs) (bm:=bm) (hdct:=hdct) (sn:=sn) (sub:=sub) (ab:=ab) (col:=col) (dd:=dd) (k0:=k0) (k1:=k1) (k2:=k2) (k3:=k3) (k5:=k5) (newId:= "ValueError.__new__") hB (I.ok.hd hc) ?_))
 have main:wpAny (model X.prog X.w) X.A (eval (.Call (.Name x np) [arg] [] cpos) X.env) (EP X pins σ fun v H3=>∃e dx y H1,v= .ref e∧H1 e=none∧H1 dx=none∧dx≠e∧X.s₀.heap.objs.size≤e∧(∀p∈X.pn++pins,p.1≠e)∧H3=upd (upd (upd H1 e (xO e C none)) dx (.xd [(g,y)])) e (xO e C (some dx))∧W C dx σ (upd H1 dx (.xd [(g,y)]))) X.xe s:=by
  refine wpAny_Call_Name_kw (JC I hg hm ?_ hdb)
  refine PySem.W.callWith_K (h₀:=X.base) I.ok.mod.kin M.kp (mz (ha cpos pins s σ H _ I h) fun us s1 ⟨vs,H1,I1,r,y,ev,q⟩=>⟨I1.yX,?_⟩) he rfl
  subst ev
  cases r with
  | cons r1 r2=>
   cases r2
   refine X8 M hX F hr hb I1 r1 fun e dx n1 n2 ne hs=>⟨e,dx,y,H1,rfl,n1,n2,ne,Nat.le_trans I1.sz hs,fun p hp z=> ?_,rfl,q dx n2⟩
   have:=Heap.lt_size (I1.pin p hp).1
   rw[z]at this
   exact absurd (Nat.lt_of_lt_of_le this hs) (Nat.lt_irrefl _)
 refine wpAny_bind (mz main fun v s1 ⟨vv,H3,I3,rv,e,dx,y,H1,ev,n1,n2,ne,sz,pn,eH,hw⟩=>wpAny_bind (wpAny_standAt (wpAny_pure ?_)))
 subst ev eH
 obtain rfl:v=Value.ref e:=rv
 have x0:Exc s1.heap e C (some dx) none .none:=aed (I3.hok e _ fX)
 obtain⟨vs,hat,h1⟩:=x0.at_
 refine⟨e,some dx,vs,rfl,I3.yX _ _ hC,hat,h1,hW _ _ ⟨e,C,dx,none,.none,pins,σ,_,rfl,I3.akU fX,x0,.inl rfl,⟨Ny,sz,pn⟩,(fun t z=>by cases z),?_⟩⟩
 rw[YW n1 ne]
 exact hw
end
end L2
namespace L2
open PySem PySem.Spec PyProof.Rows
section
variable{X:Cx}{pins:List (Addr×Obj)}{σ:St}{H:Hp}{s:Shared}{e C:Addr}{dx T:Option Addr}{fl:Value}{h':Heap}{W:bK}
theorem Inv.ye{a:Addr}{o:Obj}{vs:Array Value}(I:Inv X pins σ H s)(h:s.heap.get? a=some o)(d:o.data= .fields vs):a≠X.env.locals∧∀x c,X.env.cells.lookup x=some c→c≠a:=by
 refine⟨fun z=> ?_,fun x c hc z=> ?_⟩
 ·obtain⟨m,⟨o',es,ep,ho,hd,_⟩,_⟩:=I.loc
  subst z
  rw[ho]at h;cases h;rw[hd]at d;cases d
 ·obtain⟨v,o',ho,hd⟩:=I.cell x c hc
  subst z
  rw[ho]at h;cases h;rw[hd]at d;cases d
theorem Inv.Ia(I:Inv X pins σ H s)(x:Exc s.heap e C dx T fl)(fe:qj X pins H e)(fT:∀t,T=some t→qj X pins H t)(k:tu (frs X.stack) e T s.heap h')(hE:∃o,h'.get? e=some o)(hTt:∀t,T=some t→∃o,h'.get? t=some o):
  Inv X pins σ H {s with heap:=h'}:=by
 obtain⟨vs,he,hT⟩:=x.at_
 have ok2:=Nm I.hok k fe.no (fun t z=>(fT t z).no) I.Ju
 refine I.call (t':=s.toks) (g':=s.gens) (d':=s.drawn) (ch:=e::T.toList) ⟨fun b o q n hb hc=> ?_,fun b o q n hb hc=> ?_,fun b o q n _=>n,fun b o q hc=> ?_,fun _ _ q=>q,fun _ _ _ q=>q,fun b ps q=>⟨#[],by rw[q];simp⟩⟩ ok2 I.bare fun b hb=> ?_
 ·simp at hc
  exact k.2.1 b o hc.1 (fun z=>hc.2 z.symm) hb q
 ·simp at hc
  exact k.2.2 b o hc.1 (fun z=>hc.2 z.symm) q
 ·simp at hc
  obtain⟨sl,z⟩:=k.2.2 b o hc.1 (fun z=>hc.2 z.symm) q
  exact⟨_,z⟩
 ·simp at hb
  rcases hb with rfl | hb
  ·exact⟨.inr fe.new,(I.ye he rfl).1,(I.ye he rfl).2,fe.pin⟩
  ·subst hb
   obtain⟨_,_,oT,ts,hoT,hd,_⟩:=hT
   exact⟨.inr (fT b rfl).new,(I.ye hoT hd).1,(I.ye hoT hd).2,(fT b rfl).pin⟩
theorem tu.mono{fs fs':List Addr}{h:Heap}(k:tu fs e T h h')(hs:∀b∈fs,b∈fs'):tu fs' e T h h':=⟨k.1,fun b o n1 n2 n3 q=>k.2.1 b o n1 n2 (fun z=>n3 (hs b z)) q,k.2.2⟩
theorem Exc.here(x:Exc h' e C dx T fl):(∃o,h'.get? e=some o)∧∀t,T=some t→∃o,h'.get? t=some o:=by
 obtain⟨vs,he,hT⟩:=x.at_
 refine⟨⟨_,he⟩,fun t z=> ?_⟩
 subst z
 obtain⟨_,_,oT,_,hoT,_⟩:=hT
 exact⟨oT,hoT⟩
theorem gb.Yj(hst:X.stack=X.env::X.outer)(hf:X.env.frame=some X.env.locals){A:Around}(hA:A.frames=some X.stack):∀ev s',gb X W ev s'→wpAny (model X.prog X.w) A (noteFrame ev X.env) (fun _ s2=>cameBackBy (model X.prog X.w) X.A X.env (gb X W) ev s2) (cameBackBy (model X.prog X.w) X.A X.env (gb X W)) s':=by
 rintro ev s' ⟨e,C,dx,T,fl,pins,σ,H,rfl,I,x,hfl,fe,fT,hW⟩
 have Qp:=I.stack
 rw[hst]at Qp
 refine Oq (by rw[hA,hst]) Qp hf x hfl fun h1 T1 hT1 k1 x1=> ?_
 have Zj:qj X pins H T1:=by
  rcases hT1 with r | r
  ·exact fT T1 r
  ·refine⟨I.hok.fresh r,Nat.le_trans I.sz r,fun p hp z=> ?_⟩
   have:=Heap.lt_size (I.pin p hp).1
   rw[z]at this
   exact absurd (Nat.lt_of_lt_of_le this r) (Nat.lt_irrefl _)
 have hTt:∀t,T=some t→∃o,h1.get? t=some o:=fun t z=>by
  obtain⟨o,q⟩:=x.here.2 t z
  exact k1.1.2 t o q
 have I1:=I.Ia x fe fT (k1.mono (by rw[hst];exact fun b z=>z)) x1.here.1 hTt
 unfold cameBackBy
 obtain⟨vs,he,h2,_⟩:=x1.at_
 refine wpAny_bind (wpAny_field he rfl h2 ?_)
 rw[if_neg (by simp)]
 refine yw (s:={s' with heap:=h1}) x1 fun h2 k2 x2=>⟨e,C,dx,some T1,_,pins,σ,H,rfl,I1.Ia x1 fe (fun t z=>by cases z;exact Zj) (k2.mono (by simp)) x2.here.1 x2.here.2,x2,.inr (by rw[hf];rfl),fe,fun t z=>by cases z;exact Zj,hW⟩
end
def Tk(X:Cx)(W:bK):Prop:=∀ev s,gb X W ev s→X.xe ev s
def EW(W:bK)(σ:St):XK:=fun cv dxo H'=>∃C dx,cv=Value.ref C∧dxo=some dx∧W C dx σ H'
theorem gb.nP{X:Cx}{W W':bK}{ev:Value}{s:Shared}(h:gb (X.wish (gb X W)) W' ev s):gb X W' ev s:=by
 obtain⟨e,C,dx,T,fl,pins,σ,H,ee,I,x,hfl,fe,fT,hW⟩:=h
 exact⟨e,C,dx,T,fl,pins,σ,H,ee,I.nP,x,hfl,⟨fe.no,fe.new,fe.pin⟩,fun t z=>⟨(fT t z).no,(fT t z).new,(fT t z).pin⟩,hW⟩
theorem Tk.wish{X:Cx}{W:bK}:Tk (X.wish (gb X W)) W:=fun _ _ h=>h.nP
section
variable{X:Cx}{k:Nat}{f C:Addr}{fd:FuncData}{ps:List Str}{sp:Sp}{Ds:List V}{ds:List Value}{W:bK}{x m:Str}{p pos apos:Pos}{e o:Expr}{es:List Expr}{ta:TE}{t:TA}
theorem Pj{pins:List (Addr×Obj)}{σ:St}{H:Hp}{s:Shared}{Q:VK}{us:List Value}{vs:List V}(F:bF X.prog X.w X.K X.mg X.base (jm X.prog X.w) k f fd ps sp)(hr:mV k X.A)(hb:Binds X.K fd ps ds)(hd:Vals Ds ds)(hx:Tk X W)
  (I:Inv X pins σ H s) (r:Vals vs us) (h:sp (vs++Ds) H Q (EW W σ)):wpAny (model X.prog X.w) X.A (call (.ref f) us) (EP X pins σ Q) X.xe s:=by
 have r2:=r.append hd
 have hl:(us++ds).length=ps.length:=by rw[←r2.length];exact F.len _ _ _ _ h
 refine wpAny_call (codeAny_mono (F.run X.A X.stack s H ⟨us,[]⟩ (us++ds) (vs++Ds) Q _ hr I.env0 (hb s us I.yX hl) r2 h) fun r s' hq=> ?_)
 match r,hq with
 | .error e,hq=>exact hx _ _ (gb.Wz I hq fun C dx H' ⟨C',dx',e1,e2,w⟩=>by cases e1;cases e2;exact w)
 | .ok (.ret u),hq=>exact I.after hq
def ZS(sp:Sp)(Ds:List V)(W:bK)(t:TA):TE:=fun σ H Q=>t σ H fun vs H1=>sp (vs++Ds) H1 Q (EW W σ)
theorem aaL(F:bF X.prog X.w X.K X.mg X.base (jm X.prog X.w) k f fd ps sp)(hr:mV k X.A)(hg:Gl X x)(hm:X.mg x=some (.ref f))(hk:keepIn X.K (.ref f)=true)(hb:Binds X.K fd ps ds)(hd:Vals Ds ds)(hx:Tk X W)
  (ha:PA X (e::es) t) (hdb:(x==("__debug__" : Str))=false:=by decide) (he:starEach (e::es) X.env=(false,eval e X.env)::starEach es X.env:=by rfl) (hpl:(backTo pos (starEach es X.env)).any (·.1)=false:=by rfl):
  PE X (.Call (.Name x p) (e::es) [] pos) (ZS sp Ds W t):=by
 intro pins s σ H Q I h
 exact wpAny_Call_Name_kw (JC I hg hm (PySem.W.callWith_K (h₀:=X.base) I.ok.mod.kin hk (mz (ha pos pins s σ H _ I h) fun us s1 ⟨vs,H1,I1,r,q⟩=>⟨I1.yX,Pj F hr hb hd hx I1 r q⟩) he hpl) hdb)
def Ul(C:Addr)(m:Str)(sp:Sp)(Ds:List V)(W:bK)(ta:TE)(t:TA):TE:=fun σ H Q=>ta σ H fun x H1=>∃a dx fs,x= .ref a∧H1 a=some (.ins C dx fs)∧fs.lookup m=none∧t σ H1 fun vs H2=>sp (x::(vs++Ds)) H2 Q (EW W σ)
theorem aaI{pl:Sem Bool}(he:PE X o ta)(c:T7 X.K C)(hm:Meth X.K C m f)(F:bF X.prog X.w X.K X.mg X.base (jm X.prog X.w) k f fd ps sp)(hr:mV k X.A)(hb:Binds X.K fd ps ds)(hd:Vals Ds ds)(hx:Tk X W)(ha:PA X (e::es) t)
  (hst:starEach (e::es) X.env=(false,eval e X.env)::starEach es X.env:=by rfl) (hpl:(backTo pos (starEach es X.env)).any (·.1)=false:=by rfl)
  (ht:eval (.Call (.Attribute o m apos) (e::es) [] pos) X.env=(do
   let ov ←eval o X.env
   standAt apos.atName
   let(f,first) ←holding [ov] (getMethod ov m pl)
   callWith pos f first (backTo pos (starEach (e::es) X.env)) (backToKw pos (keywordEach [] X.env))):=by rfl):
  PE X (.Call (.Attribute o m apos) (e::es) [] pos) (Ul C m sp Ds W ta t):=by
 intro pins s σ H Q I h
 refine PySem.W.methodCall_KW (pl:=pl) (mz (he pins s σ H _ I h) fun u s1 ⟨x,H1,I1,rx,a,dx,fs,ex,ea,l,q⟩=> ?_) ht
 subst ex
 obtain rfl:u=Value.ref a:=rx
 refine K3 I1 ea c hm l ?_
 exact PySem.W.callWith_K (h₀:=X.base) (first:=[.ref a]) I1.ok.mod.kin hm.kp (mz (ha pos pins s1 σ H1 _ I1 q) fun us s2 ⟨vs,H2,I2,r,q2⟩=>⟨I2.yX,Pj (us:= .ref a::us) (vs:= .ref a::vs) F hr hb hd hx I2 (.cons rfl r) q2⟩) hst hpl
theorem Yh{pl:Sem Bool}(he:PE X o ta)(c:T7 X.K C)(hm:Meth X.K C m f)(F:bF X.prog X.w X.K X.mg X.base (jm X.prog X.w) k f fd ps sp)(hr:mV k X.A)(hb:Binds X.K fd ps ds)(hd:Vals Ds ds)(hx:Tk X W)
  (ht:eval (.Call (.Attribute o m apos) [] [] pos) X.env=(do
   let ov ←eval o X.env
   standAt apos.atName
   let(f,first) ←holding [ov] (getMethod ov m pl)
   callWith pos f first (backTo pos (starEach [] X.env)) (backToKw pos (keywordEach [] X.env))):=by rfl):
  PE X (.Call (.Attribute o m apos) [] [] pos) (Ul C m sp Ds W ta aii):=by
 intro pins s σ H Q I h
 refine PySem.W.methodCall_KW (pl:=pl) (mz (he pins s σ H _ I h) fun u s1 ⟨x,H1,I1,rx,a,dx,fs,ex,ea,l,q⟩=> ?_) ht
 subst ex
 obtain rfl:u=Value.ref a:=rx
 exact K3 I1 ea c hm l (PySem.W.callWith_K0 (first:=[.ref a]) I1.yX hm.kp (Pj (us:=[.ref a]) (vs:=[.ref a]) F hr hb hd hx I1 (.cons rfl .nil) q))
end
theorem cF.okX{P:Program}{w:World}{K:Frag}{mg:Str→Option Value}{base:Heap}{x qual:Str}{st:Stmt}{dV:Value}{f:Addr}{fd:FuncData}{N ps:List Str}{k:Nat}{sp:Sp}(F:cF K x qual st dV f fd)(S:bA N ps (aA st))(len:∀vs H Q E,sp vs H Q E→vs.length=ps.length)
  (hbody:∀(cdv:Value) (A:Around) (outer:List Env) (s:Shared) (H:Hp) (vs:List V) (Q:VK) (E:XK),mV k (A.deeper (envOfC qual (aA st) s.heap.objs.size f cdv))→sp vs H Q E→
   ∃t W,(∀C dx σ H',W C dx σ H'→E (.ref C) (some dx) H')∧Jl ((Bq (jm P w) P w K mg base N qual (aA st) f cdv A outer s H E).wish (gb (Bq (jm P w) P w K mg base N qual (aA st) f cdv A outer s H E) W)) (aK st) t∧t {nx:=fun _ H'=>gcK H Q .non H',rt:=gcK H Q} (start N vs) H):
  bF P w K mg base (jm P w) (k+1) f fd ps sp:=by
 obtain⟨oc,od,kV,doc,pm,an,cdv,ct,osl,rfl,lk,hcd⟩:=F.ex
 refine bF.gc (sp:=fun vs H Q' E=>∃Q,sp vs H Q E∧Q'=gcK H Q) (abo lk hcd S (fun vs H Q E ⟨Q0,q,_⟩=>len vs H Q0 E q) fun A outer s H vs Q' E hr hsp=> ?_) fun vs H Q E q=>⟨Q,q,rfl⟩
 obtain⟨Q,hsp,rfl⟩:=hsp
 obtain⟨t,W,hE,h,q⟩:=hbody cdv A outer s H vs Q E hr hsp
 refine⟨t,fun pins s1 σ H1 D I h1=> ?_,q⟩
 exact wpAny_mono (h pins s1 σ H1 D (I.wish _) h1) (fun _ _ z=>z.nP) fun _ _ z=>z.leave hE
abbrev Cx.pp(X:Cx)(pins:List (Addr×Obj)):Cx:={X with pn:=X.pn++pins}
abbrev Cx.held(X:Cx)(e:Addr):Cx:={X with A:=X.A.mark (some (.ref e)),calm:=false,xe:=fun _ _=>False}
section
variable{X:Cx}{pins yF:List (Addr×Obj)}{σ:St}{H:Hp}{s:Shared}{e:Addr}
theorem Inv.pp(I:Inv X (pins++yF) σ H s):Inv (X.pp pins) yF σ H s:=
 ⟨⟨I.ok.mod,I.ok.kind,I.ok.glob,I.ok.blt,I.ok.above,I.ok.inj,I.ok.has,I.ok.cab,I.ok.hd,I.ok.frames,I.ok.stk,I.ok.exf,I.ok.bs,I.ok.Xq,I.ok.RW,I.ok.SX,I.ok.CG,I.ok.frf⟩,I.os,I.bare,I.base,I.loc,I.cell,I.free,I.rR,fun p hp=>I.pin p (by rw[←List.append_assoc];exact hp),I.hok,I.len⟩
theorem Inv.aib(I:Inv (X.pp pins) yF σ H s):Inv X (pins++yF) σ H s:=
 ⟨⟨I.ok.mod,I.ok.kind,I.ok.glob,I.ok.blt,I.ok.above,I.ok.inj,I.ok.has,I.ok.cab,I.ok.hd,I.ok.frames,I.ok.stk,I.ok.exf,I.ok.bs,I.ok.Xq,I.ok.RW,I.ok.SX,I.ok.CG,I.ok.frf⟩,I.os,I.bare,I.base,I.loc,I.cell,I.free,I.rR,fun p hp=>I.pin p (by rw[←List.append_assoc]at hp;exact hp),I.hok,I.len⟩
theorem Inv.fewer(I:Inv X (pins++yF) σ H s):Inv X pins σ H s:=⟨I.ok,I.os,I.bare,I.base,I.loc,I.cell,I.free,I.rR,fun p hp=>I.pin p (by rw[←List.append_assoc];exact List.mem_append_left _ hp),I.hok,I.len⟩
theorem Inv.held(I:Inv X pins σ H s)(e:Addr):Inv (X.held e) pins σ H s:=
 ⟨⟨I.ok.mod,I.ok.kind,I.ok.glob,I.ok.blt,I.ok.above,I.ok.inj,I.ok.has,I.ok.cab,(fun z=>by cases z),I.ok.frames,I.ok.stk,I.ok.exf,I.ok.bs,I.ok.Xq,I.ok.RW,I.ok.SX,I.ok.CG,I.ok.frf⟩,I.os,I.bare,I.base,I.loc,I.cell,I.free,I.rR,I.pin,I.hok,I.len⟩
theorem Inv.Ug(ok:X.Ok)(I:Inv (X.held e) pins σ H s):Inv X pins σ H s:=⟨ok,I.os,I.bare,I.base,I.loc,I.cell,I.free,I.rR,I.pin,I.hok,I.len⟩
theorem SP.map{X':Cx}{yF:List (Addr×Obj)}{D:Ends}{f:Flow}{s':Shared}(g:∀σ H,Inv X' yF σ H s'→Inv X pins σ H s')(h:SP X' yF D f s'):SP X pins D f s':=by
 cases f with
 | next=>obtain⟨σ',H',I,q⟩:=h;exact⟨σ',H',g _ _ I,q⟩
 | brk=>obtain⟨σ',H',I,q⟩:=h;exact⟨σ',H',g _ _ I,q⟩
 | cont=>obtain⟨σ',H',I,q⟩:=h;exact⟨σ',H',g _ _ I,q⟩
 | ret u=>obtain⟨v,σ',H',I,r,q⟩:=h;exact⟨v,σ',H',g _ _ I,r,q⟩
end
section
variable{X:Cx}{W:bK}{c:Str}{cp hpos pos:Pos}{b₀:Stmt}{suite body:List Stmt}{tb:bK→TS}{ts:TS}{cv:Value}{v:V}
theorem Exc.typ{M:Model}{h:Heap}{e C:Addr}{dx T:Option Addr}{fl:Value}(x:Exc h e C dx T fl):PySem.W.Looks M h (typeOf (.ref e)) (.ref C):=by
 obtain⟨vs,he,_⟩:=x.at_
 intro A Q E s k q
 exact wpAny_bind (wpAny_loadPart (k _ _ he) (wpAny_pure q))
end
abbrev xC(a C dx:Addr):HO:= .ext fun h=>∃vs,h.get? a=some {cls:= .ref C,dict:=some dx,data:= .fields vs}
section
variable{X:Cx}{pins:List (Addr×Obj)}{σ:St}{H:Hp}{s:Shared}{h':Heap}{t':Nat}
theorem Inv.locals(I:Inv X pins σ H s)(hsb:Heap.SameBut X.env.locals s.heap h')(loc:∃m,h'.Ns X.env.locals m∧∀(i:Nat) (x:Str) (v:V),X.N[i]? = some x→σ[i]? = some (some v)→Zm X.env.scope x→∃u,RelV v u∧Look X.env h' m x u):
  Inv X pins σ H {s with heap:=h',toks:=t'}:=by
 have nL:∀b o,X.s₀.heap.get? b=some o→b≠X.env.locals:=fun b o q=>Nat.ne_of_lt (Nat.lt_of_lt_of_le (Heap.lt_size q) I.ok.above)
 refine⟨I.ok,I.os,I.bare,⟨fun b o q n hb hx=>(hsb.2 b (nL b o q)).trans (I.base.keep b o q n hb hx),fun b o q n hb hx=> ?_,I.base.free,fun b o q hx=> ?_,I.base.tups,I.base.Bp,I.base.BW⟩,loc,fun x c q=> ?_,I.free,I.rR,fun p hp=> ?_,fun b o q=> ?_,I.len⟩
 ·obtain⟨sl,z⟩:=I.base.slot b o q n hb hx
  exact⟨sl,(hsb.2 b (nL b o q)).trans z⟩
 ·obtain⟨o',z⟩:=I.base.there b o q hx
  exact⟨o',(hsb.2 b (nL b o q)).trans z⟩
 ·obtain⟨v,o,ho,hd⟩:=I.cell x c q
  exact⟨v,o,(hsb.2 c (I.cne x c q)).trans ho,hd⟩
 ·obtain⟨z1,z2,z3,z4⟩:=I.pin p hp
  exact⟨(hsb.2 p.1 z3).trans z1,z2,z3,z4⟩
 ·have nl:∀b u,H b=some u→b≠X.env.locals:=fun b u z y=>by rw[y,I.free]at z;cases z
  refine(I.hok b o q).stay (fun b' u hb z=> ?_) (fun _ z=>z) fun _ _ z=>z
  rcases hb with rfl | hb
  ·exact(hsb.2 _ (nl _ _ q)).trans z
  ·exact(hsb.2 _ (nl _ _ hb)).trans z
theorem Yy{env:Env}{h h':Heap}{m m':Str→Option Value}{x:Str}{u:Value}(l:Look env h m x u)(hm:m' x=m x)(hc:∀c,env.cells.lookup x=some c→h'.get? c=h.get? c):Look env h' m' x u:=by
 rcases l with⟨k,e⟩ | ⟨k,c,e,o,ho,hd⟩
 ·exact .inl ⟨k,hm.trans e⟩
 ·exact .inr ⟨k,c,e,o,(hc c e).trans ho,hd⟩
theorem name_goes{M:Model}{A:Around}{E:Value→Shared→Prop}{i:Nat}{n:Str}{pos:Pos}{Q:Unit→Shared→Prop}(I:Inv X pins σ H s)(nd:X.N.Nodup)(hi:X.N[i]? = some n)(hl:X.env.scope.names.lookup n=some .local)(hk:X.env.kindOf n=some .local)
  (hp:(X.env.scope.kind== .class||(X.env.scope.kind== .module&&X.env.locals != X.env.globals))=false)
  (h:∀s',Inv X pins (σ.set i none) H s'→Q () s'):wpAny M A (do bindName X.env n .none;unbindBehindTheSuite X.env n pos) Q E s:=by
 refine wpAny_bind (wpAny_bindName (yz (v:= .non) I nd hi (.inl hl) rfl (fun s1 I1=> ?_) (.inr hl)))
 unfold unbindBehindTheSuite
 refine wpAny_onRaise ?_
 unfold unbindName
 refine wpAny_bind (wpAny_point (wpAny_bind ?_))
 unfold deleteName
 simp only[hk,hp]
 rw[if_neg (by decide)]
 obtain⟨m,hn,hlk⟩:=I1.loc
 have il:i<σ.length:=by rw[I.len];exact(List.getElem?_eq_some_iff.mp hi).1
 have there:(m n).isSome=true:=by
  obtain⟨u,ru,l⟩:=hlk i n .non hi (by rw[List.getElem?_set_self il]) (.inl hl)
  rcases l with⟨_,z⟩ | ⟨z,_⟩
  ·rw[z];rfl
  ·rw[hk]at z;rcases z with z | z<;>cases z
 refine wpAny_bind (wpAny_nsDel_keeps hn fun h2 v hn2 hs2=> ?_)
 rw[there]
 simp only[if_true,Bool.not_true,Bool.false_eq_true,if_false]
 refine wpAny_pure (wpAny_point (h _ ?_))
 have I2:Inv X pins (σ.set i none) H s1:=I1.weak (by simp) fun j w hj=>by
  by_cases z:i=j
  ·subst z;rw[List.getElem?_set_self il]at hj;cases hj
  ·rw[List.getElem?_set_ne z]at hj ⊢;exact hj
 refine I2.locals (t':=s1.toks) hs2 ⟨_,hn2,fun j x w hj hw hv=> ?_⟩
 have ne:x≠n:=fun z=>by
  subst z
  have:j=i:=Kw nd hj hi
  subst this
  rw[List.getElem?_set_self il]at hw;cases hw
 have hw':(σ.set i (some .non))[j]? = some (some w):=by
  by_cases z:i=j
  ·subst z;rw[List.getElem?_set_self il]at hw;cases hw
  ·rw[List.getElem?_set_ne z]at hw ⊢;exact hw
 obtain⟨u,ru,l⟩:=hlk j x w hj hw' hv
 exact⟨u,ru,Yy l (by rw[if_neg ne]) fun c hc=>hs2.2 c (I1.cne x c hc)⟩
end
section
variable{X:Cx}{W:bK}{c n:Str}{cp hpos pos:Pos}{b₀:Stmt}{suite body:List Stmt}{tb:bK→TS}{ts:TS}{cv:Value}{v:V}{i:Nat}
def Ends.less(D:Ends)(i:Nat):Ends:={nx:=fun σ H=>D.nx (σ.set i none) H,bk:=fun σ H=>D.bk (σ.set i none) H,ct:=fun σ H=>D.ct (σ.set i none) H,rt:=D.rt}
def xmA(K:Frag)(cv:Value)(W:bK)(th:Addr→Addr→Addr→St→Hp→Prop):bK:=fun C dx σ H=>∃b,exmOne K (.ref C) cv=some b∧(if b=true then(∀e,H e=none→th e C dx σ H)else W C dx σ H)
theorem Inv.caught{pins:List (Addr×Obj)}{σ:St}{H:Hp}{s:Shared}{e C dx:Addr}{vs:Array Value}(I:Inv X pins σ H s)(h:s.heap.get? e=some {cls:= .ref C,dict:=some dx,data:= .fields vs})(f:qj X pins H e):Inv X pins σ (upd H e (xC e C dx)) s:=by
 have hk:∀b u,H b=some u→upd H e (xC e C dx) b=some u:=fun b u q=>by rw[bG (dW q f.no)];exact q
 have hn:∀b,b≠e→H b=none→upd H e (xC e C dx) b=none:=fun b z q=>by rw[bG z];exact q
 refine⟨I.ok,I.os,I.bare,⟨I.base.keep,I.base.slot,fun b o q n x=>hn b (fun z=>absurd (Nat.lt_of_lt_of_le (Heap.lt_size q) (z▸f.new)) (Nat.lt_irrefl _)) (I.base.free b o q n x),I.base.there,fun b xs q=>hk _ _ (I.base.tups b xs q),fun b o u q=>hk _ _ (I.base.Bp b o u q),fun b ps q=> ?_⟩,I.loc,I.cell,hn _ (Ne.symm (I.ye h rfl).1) I.free,fun x c q=>hn _ ((I.ye h rfl).2 x c q) (I.rR x c q),fun p hp=> ?_,fun b o q=> ?_,I.len⟩
 ·obtain⟨m,z⟩:=I.base.BW b ps q;exact⟨m,hk _ _ z⟩
 ·obtain⟨z1,z2,z3⟩:=I.pin p hp;exact⟨z1,hn _ (f.pin p hp) z2,z3⟩
 ·by_cases z:b=e
  ·subst z
   rw[fX]at q;cases q
   exact⟨⟨vs,h⟩,⟨_,h⟩,fun h1 h2 ⟨vs1,y⟩ k=>⟨vs1,k _ y⟩⟩
  ·rw[bG z]at q
   exact(I.hok b o q).stay (fun _ _ _ y=>y) (fun b' y=>hk _ _ y) fun b' xs y=>hk _ _ y
theorem aaA(hst:X.stack=X.env::X.outer)(hf:X.env.frame=some X.env.locals)(hx:Tk X W)(hv:∀u,RelV v u→u=cv)(hn:∀e,PE (X.held e) (.Name c cp) (tC v))
  (nd:X.N.Nodup) (hi:X.N[i]? = some n) (hl:X.env.scope.names.lookup n=some .local) (hk:X.env.kindOf n=some .local)
  (hb:∀pins W1,Jl ((X.pp pins).wish (gb (X.pp pins) W1)) body (tb W1)) (hs:∀e,Jl (X.held e) (b₀::suite) ts):
  PS X (.Try body [.ExceptHandler (some (.Name c cp)) (some n) (b₀::suite) hpos] [] [] pos)
   (fun D σ H=>tb (xmA X.K cv W fun e C dx σ' H'=>ts (Ends.less D i) (σ'.set i (some (.ref e))) (upd H' e (xC e C dx))) D σ H):=by
 intro pins s σ H D I h
 have ok:=I.ok
 have hcls:(X.env.scope.kind== .class||(X.env.scope.kind== .module&&X.env.locals != X.env.globals))=false:=by rw[ok.kind];rfl
 refine wpAny_Try_except (wpAny_mono (hb pins (xmA X.K cv W fun e C dx σ' H'=>ts (Ends.less D i) (σ'.set i (some (.ref e))) (upd H' e (xC e C dx))) [] s σ H D (Inv.wish (Inv.pp (yF:=[]) (by rw[List.append_nil];exact I)) _) h) (fun f s1 h1=> ?_) fun ev s1 h1=> ?_)
 ·have h2:SP X pins D f s1:=SP.map (fun σ H z=>z.nP.aib.fewer) h1
  cases f with
  | next=>exact wpAny_execs_nil h2
  | brk=>exact h2
  | cont=>exact h2
  | ret u=>exact h2
 ·obtain⟨e,C,dx,T,fl,RJ,σ',H',rfl,I1,x,hfl,fe,fT,hW⟩:=h1
  have J1:=I1.aib
  have Qp:=J1.stack
  rw[hst]at Qp
  have cv1:∀{a},qj (X.pp pins) RJ H' a→qj X (pins++RJ) H' a:=fun z=>⟨z.no,z.new,fun p hp=>z.pin p (by rw[←List.append_assoc]at hp;exact hp)⟩
  have fe':=cv1 fe
  have fT':∀t,T=some t→qj X (pins++RJ) H' t:=fun t z=>cv1 (fT t z)
  refine Oq (by rw[J1.ok.frames,hst]) Qp hf x hfl fun h1 T1 hT1 k1 x1=> ?_
  have Zj:qj X (pins++RJ) H' T1:=by
   rcases hT1 with r | r
   ·exact fT' T1 r
   ·refine⟨J1.hok.fresh r,Nat.le_trans J1.sz r,fun p hp z=> ?_⟩
    have:=Heap.lt_size (J1.pin p hp).1
    rw[z]at this
    exact absurd (Nat.lt_of_lt_of_le this r) (Nat.lt_irrefl _)
  have I2:=J1.Ia x fe' fT' (k1.mono (by rw[hst];exact fun b z=>z)) x1.here.1 fun t z=>let⟨o,q⟩:=x.here.2 t z;k1.1.2 t o q
  refine yw (fr:=none) (s:={s1 with heap:=h1}) x1 fun h2 k2 x2=> ?_
  have I3:=I2.Ia x1 fe' (fun t z=>by cases z;exact Zj) (k2.mono (by simp)) x2.here.1 x2.here.2
  obtain⟨vs2,he2,h12,arE,oT,ts2,hoT,hdT,h32⟩:=x2.at_
  have nfs:∀{a:Addr} {o:Obj} {vs:Array Value},h2.get? a=some o→o.data= .fields vs→a∉X.fs:=fun q d hm=>by
   obtain⟨_,o',ho',hd'⟩:=I3.CG.mem hm
   have q':h2.get? _=some o':=ho'
   rw[q]at q';cases q';exact hd' _ d
  have I4:Inv X (pins++[(e,{cls:= .ref C,dict:=some dx,data:= .fields vs2}),(T1,oT)]) σ' H' {s1 with heap:=h2}:=I3.Gg fun p hp=>by
   rcases List.mem_append.mp hp with z | z
   ·exact I3.pin p (List.mem_append_right _ (List.mem_append_left _ z))
   ·simp at z
    rcases z with rfl | rfl
    ·exact⟨he2,fe'.no,(I3.ye he2 rfl).1,nfs he2 rfl,fun v z=>by cases z⟩
    ·exact⟨hoT,Zj.no,(I3.ye hoT hdT).1,nfs hoT hdT,fun v z=>by rw[hdT]at z;cases z⟩
  obtain⟨b,hm,hif⟩:=hW
  have fw:∀{a},qj X (pins++RJ) H' a→qj (X.held e) pins H' a:=fun z=>⟨z.no,z.new,fun p hp=>z.pin p (by rw[←List.append_assoc];exact List.mem_append_left _ hp)⟩
  refine wpAny_handleBy_cons (codeAny_handlers_test (wpAny_mono (hn e _ _ σ' H' (fun v' T_=>v'=v∧T_=H') (I4.held e) ⟨rfl,rfl⟩) (fun c' s3 ⟨v',T_,I5,rv,e1,e2⟩=> ?_) fun _ _ z=>z.elim)) (by intro q;cases q)
  subst e1 e2
  obtain rfl:=hv c' rv
  have x5:Exc s3.heap e C (some dx) (some T1) .none:=⟨vs2,(I5.pin (e,_) (by simp)).1,h12,arE,oT,ts2,(I5.pin (T1,oT) (by simp)).1,hdT,h32⟩
  refine PySem.W.Looks.here (s:=s3) (PySem.W.exm_one I5.yX x5.typ hm) ?_
  cases b with
  | true=>
   refine codeAny_handlers_suite_as (yw (fr:=none) x5 fun h6 k6 x6=> ?_)
   have I6:=(I5.fewer).Ia x5 (fw fe') (fun t z=>by cases z;exact fw Zj) (k6.mono (by simp)) x6.here.1 x6.here.2
   obtain⟨vs6,he6,_⟩:=x6.at_
   have I7:=I6.caught he6 (fw fe')
   refine yz (v:= .ref e) (I7.Ug ok) nd hi (.inl hl) rfl (fun s8 I8=> ?_) (.inr hl)
   refine wpAny_mono (hs e pins s8 _ _ (Ends.less D i) (I8.held e) (hif e fe'.no)) (fun f s9 z=> ?_) fun _ _ z=>z.elim
   show wpAny _ _ (do bindName X.env n .none;unbindBehindTheSuite X.env n hpos) _ _ _
   have z':SP X pins (Ends.less D i) f s9:=SP.map (fun _ _ y=>y.Ug ok) z
   cases f with
   | next=>obtain⟨σ9,H9,I9,q9⟩:=z';exact name_goes I9 nd hi hl hk hcls fun s' I'=>⟨_,_,I',q9⟩
   | brk=>obtain⟨σ9,H9,I9,q9⟩:=z';exact name_goes I9 nd hi hl hk hcls fun s' I'=>⟨_,_,I',q9⟩
   | cont=>obtain⟨σ9,H9,I9,q9⟩:=z';exact name_goes I9 nd hi hl hk hcls fun s' I'=>⟨_,_,I',q9⟩
   | ret u=>obtain⟨v9,σ9,H9,I9,r9,q9⟩:=z';exact name_goes I9 nd hi hl hk hcls fun s' I'=>⟨v9,_,_,I',r9,q9⟩
  | false=>
   refine wpAny_handleBy_nil ?_
   unfold PySem.passOn
   obtain⟨vs5,he5,h15,_⟩:=x5.at_
   refine wpAny_bind (wpAny_field he5 rfl h15 ?_)
   rw[if_neg (by simp)]
   refine wpAny_bind (yw x5 fun h6 k6 x6=>wpAny_throw (hx _ _ ⟨e,C,dx,some T1,_,pins,σ',T_,rfl,?_,x6,.inr (by rw[hf];rfl),⟨fe'.no,fe'.new,(fw fe').pin⟩,fun t z=>by cases z;exact⟨Zj.no,Zj.new,(fw Zj).pin⟩,hif⟩))
   exact((I5.fewer).Ia x5 (fw fe') (fun t z=>by cases z;exact fw Zj) (k6.mono (by simp)) x6.here.1 x6.here.2).Ug ok
end
section
variable{X:Cx}{e:Expr}{ta:TE}{f:Str}{pos:Pos}
def ao9(K:Frag)(ta:TE)(f:Str):TE:=fun σ H Q=>ta σ H fun x H1=>∃a C dx fs v,x= .ref a∧H1 a=some (xC a C dx)∧H1 dx=some (.xd fs)∧yr K C f∧findIn K (.ref C) "__getattr__" = some none∧fs.lookup f=some v∧Q v H1
theorem afI(he:PE X e ta)(hb:attributeBase e f X.env (eval e X.env)=eval e X.env):PE X (.Attribute e f pos) (ao9 X.K ta f):=by
 intro pins s σ H Q I h
 refine Xw hb (mz (he pins s σ H _ I h) fun u s1 ⟨x,H1,I1,rx,a,C,dx,fs,v,ex,ea,ed,F,hg,l,q⟩=> ?_)
 subst ex
 obtain rfl:u=Value.ref a:=rx
 obtain⟨⟨vs,hx⟩,_⟩:=(show jr X.prog X.w H1 s1.heap a (xC a C dx)from I1.hok a _ ea)
 obtain⟨mA,hn,hr⟩:=(show jr X.prog X.w H1 s1.heap dx (.xd fs)from I1.hok dx _ ed)
 have r0:=hr f
 rw[l]at r0
 cases hm:mA f with
 | none=>rw[hm]at r0;exact r0.elim
 | some u=>
  rw[hm]at r0
  exact aoT I1.yX F hg hx hn hm (Np r0) ⟨v,H1,I1.tok _,r0,q⟩
end
structure Zk(K:Frag)(C:Addr):Prop where
 gn:findIn K (.ref C) "__getattr__" = some none
 ca:findIn K (.ref C) "__class__" = some (some (.builtin "object.__class__"))
 hn:PySem.W.specialIn K (.builtin "object.__class__") "__get__" = some (some (.builtin "getset_descriptor.__get__"))
 tk:PySem.W.takesIn K (.builtin "object.__class__")=some true
 mr:PySem.W.mroIn K C (.type "object")=some true
section
variable{prog:Program}{w:World}{A:Around}{E:Value→Shared→Prop}{s:Shared}{K:Frag}{x C:Addr}{name:Str}{ox od:Obj}
theorem ab3{Q:Option Value→Shared→Prop}(X:K.In s.heap)(F:yr K C name)(S:Zk K C)(I:PySem.W.InstAt s.heap x ox C (some od))(h:Q (some (.ref C)) {s with toks:=s.toks+1}):
  wpAny (model prog w) A (getAttr? (.ref x) "__class__") Q E s:=by
 obtain⟨cd,hc,hhd,hne,_,hbe,_⟩:=F.cd
 have hf:PySem.W.findObj K C (some od) "__class__" = some (.bind (.builtin "getset_descriptor.__get__") (.builtin "object.__class__")):=PySem.W.findObj_data (by rw[hc];rfl) S.ca S.hn S.tk
 have L0:=I.type (M:=model prog w)
 have L1:=PySem.W.looks_findIn (M:=model prog w) X F.ga
 have L2:=PySem.W.looks_find (M:=model prog w) X I hf
 have L3:=PySem.W.looks_findIn (M:=model prog w) X S.gn
 have sub:PySem.W.Looks (model prog w) s.heap (isInstance (.ref x) (.type "BaseException")) true:=I.type.andThen (PySem.W.looks_mroIn X (by unfold PySem.W.mroIn;rw[hc,Option.bind_some,if_neg (by rw[hne];decide),hbe]))
 obtain⟨hh',g,d,t,os⟩:=s
 unfold getAttr? getAttrBy? getAttrBy
 refine wpAny_bind (wpAny_mkText (wpAny_bind (wpAny_attempt (wpAny_holding (wpAny_bind (L0.at (wpAny_bind (L1.at ?_))))))))
 dsimp only
 rw[if_neg (by rw[show(Value.builtin "BaseException.__getattribute__" == Value.builtin "object.__getattribute__")=false from by decide +kernel,Bool.and_false];decide)]
 unfold getAttrByItsOwn hookBefore
 rw[if_pos (show onTheHeap (Value.ref C)=true from rfl)]
 refine wpAny_bind (L3.at (wpAny_bind ?_))
 have f3:=Xb (.ref x)
 have hx0:(false&&onTheHeap (Value.builtin "BaseException.__getattribute__"))=false:=rfl
 repeat (any_goals (first | assumption | wp_step))
 refine codeAny_call_builtin PySem.F.excAttr_ValueError.ga.plain PySem.F.entry_bexc_ga (@PySem.W.check_slot (model prog w) _ _ ⟨hh',g,d,t+1,os⟩ "BaseException.__getattribute__" "BaseException" "__getattribute__" (.ref x) [.str "__class__" t] [] _ Xa SN sub (PySem.F.args_bexc_ga _ _) ?_)
 unfold Builtin.«object.__getattribute__»
 refine wpAny_bind (wpAny_pure (wpAny_bind (wpAny_pure (wpAny_bind (L0.at (wpAny_bind (L2.at ?_)))))))
 show wpAny _ _ (holding [_] (call (.builtin "getset_descriptor.__get__") [.builtin "object.__class__",.ref x,.ref C]) >>= ret) _ _ _
 refine wpAny_bind (wpAny_holding (wpAny_call (PySem.W.class_get (s:=⟨hh',g,d,t+1,os⟩) (ox:=ox) (od:=some od) X I S.mr ?_)))
 refine wpAny_pure ?_
 dsimp only
 exact PySem.W.handed_on rfl (wpAny_pure h)
end
theorem aa_{K:Frag}{x C dx:Addr}{name:Str}(F:yr K C name)(S:Zk K C):
  PySem.W.KitX K (.ref x) (.ref C) (fun h=>∃ox od,PySem.W.InstAt h x ox C (some od)) where
 ty:=fun _ _ _ ⟨_,_,I⟩=>I.type
 it:=fun _ _ X _=>by
  obtain⟨cdD,hcD,_⟩:=F.cd
  unfold PySem.W.clsIn at hcD
  split at hcD
  ·rename_i c' d' cd' sl' ho
   intro A' Q' E' s' k q
   unfold isType loadHead
   exact wpAny_bind (wpAny_loadPart (k _ _ (X _ _ ho)) (wpAny_pure q))
  ·cases hcD
 ne:=fun h tp dd its n sl X htp=>by
  obtain⟨cdD,hcD,_⟩:=F.cd
  refine Bool.eq_false_iff.mpr fun q=> ?_
  have e:C=tp:=Value.ref.inj (beq_iff_eq.mp q)
  subst e
  unfold PySem.W.clsIn at hcD
  split at hcD
  ·rename_i c' d' cd' sl' ho
   have z:=(X _ _ ho).symm.trans htp
   cases z
  ·cases hcD
 ca:=fun X ⟨_,_,I⟩ k=>ab3 X F S I k
def apV(K:Frag)(f:Str):List V→Hp→VK→Prop:=fun xs H Q=>∃a C dx fs cv c b,xs=[.ref a,cv]∧ao6 cv c∧H a=some (xC a C dx)∧H dx=some (.xd fs)∧yr K C f∧Zk K C∧kitOne K (.ref C) c=some b∧Q (.bl b) H
theorem Tn{X:Cx}{f:Str}:sJ X (.builtin "isinstance") (apV X.K f):=by
 intro pins s σ H xs us Q I r h
 obtain⟨a,C,dx,fs,cv,c,b,rfl,hc,ha,hd,F,S,e,q⟩:=h
 obtain⟨u,v,rfl,rx,rc⟩:=vals2 r
 have ec:v=c:=by
  cases cv with
  | ty n=>exact(show v=Value.type n from rc).trans (show c=Value.type n from hc).symm
  | ref a=>exact(show v=Value.ref a from rc).trans (show c=Value.ref a from hc).symm
  | _=>exact hc.elim
 subst ec
 obtain rfl:u=Value.ref a:=rx
 obtain⟨⟨vs,hx⟩,_⟩:=(show jr X.prog X.w H s.heap a (xC a C dx)from I.hok a _ ha)
 obtain⟨mA,hn,hr⟩:=(show jr X.prog X.w H s.heap dx (.xd fs)from I.hok dx _ hd)
 obtain⟨od,hod,_⟩:=Hy hn
 exact PySem.W.kia_one (aa_ (dx:=dx) F S) I.yX ⟨_,od,hx,rfl,rfl,hod⟩ e (fun z=>nomatch z) fun tk=>⟨.bl b,H,I.tok tk,rfl,q⟩
section
variable{X:Cx}{k:Nat}{f C:Addr}{fd:FuncData}{ps:List Str}{sp:Sp}{Ds:List V}{ds:List Value}{W:bK}{x:Str}{p pos:Pos}{e:Expr}{es:List Expr}{t:TA}
def ZQ(C:Addr)(sp:Sp)(Ds:List V)(W:bK)(t:TA):TE:=fun σ H Q=>t σ H fun vs H1=>∀x dx,H1 x=none→H1 dx=none→dx≠x→
 sp (.ref x::(vs++Ds)) (upd (upd H1 dx (.own x)) x (.ins C dx [])) (fun v H2=>v= .non∧Q (.ref x) H2) (EW W σ)
theorem X_{pins:List (Addr×Obj)}{σ:St}{H:Hp}{s:Shared}{Q:VK}{us:List Value}{vs:List V}(M:Mk X.K C f)(F:bF X.prog X.w X.K X.mg X.base (jm X.prog X.w) k f fd ps sp)(hr:mV (k+1) X.A)(hb:Binds X.K fd ps ds)(hd:Vals Ds ds)
  (hx:Tk X W) (I:Inv X pins σ H s) (r:Vals vs us)
  (h:∀x dx,H x=none→H dx=none→dx≠x→sp (.ref x::(vs++Ds)) (upd (upd H dx (.own x)) x (.ins C dx [])) (fun v H2=>v= .non∧Q (.ref x) H2) (EW W σ)):
  wpAny (model X.prog X.w) X.A (call (.ref C) us) (EP X pins σ Q) X.xe s:=by
 have hq:=h (s.heap.objs.size+1) s.heap.objs.size (I.hok.fresh (Nat.le_succ _)) (I.hok.fresh (Nat.le_refl _)) (Nat.ne_of_lt (Nat.lt_succ_self _))
 have I2:=Inv.made (C:=C) I
 have r2:Vals (V.ref (s.heap.objs.size+1)::(vs++Ds)) (Value.ref (s.heap.objs.size+1)::(us++ds)):= .cons rfl (r.append hd)
 have hl:(Value.ref (s.heap.objs.size+1)::us++ds).length=ps.length:=by
  have e:=r2.length
  rw[F.len _ _ _ _ hq]at e
  exact e.symm
 refine wpAny_call (aa0 (f:=f) I.yX M.makes M.init (beq_iff_eq.mp M.fn) (codeAny_mono (F.run _ X.stack _ _ ⟨Value.ref (s.heap.objs.size+1)::us,[]⟩ (Value.ref (s.heap.objs.size+1)::(us++ds)) _ _ _ (hr.make C us [])
  (I2.env0.make C us []) (hb _ (Value.ref (s.heap.objs.size+1)::us) I2.yX hl) r2 hq) fun r s' hq'=> ?_))
 match r,hq' with
 | .error e,hq'=>exact hx _ _ (gb.Wz I2 hq' fun C dx H' ⟨C',dx',e1,e2,w⟩=>by cases e1;cases e2;exact w)
 | .ok (.ret u),hq'=>
  obtain⟨v,H',I3,rv,ev,q3⟩:=I2.after hq'
  subst ev
  exact⟨rv,⟨V.ref (s.heap.objs.size+1),H',I3,rfl,q3⟩⟩
theorem aaJ(M:Mk X.K C f)(F:bF X.prog X.w X.K X.mg X.base (jm X.prog X.w) k f fd ps sp)(hr:mV (k+1) X.A)(hg:Gl X x)(hm:X.mg x=some (.ref C))(hb:Binds X.K fd ps ds)(hd:Vals Ds ds)(hx:Tk X W)
  (ha:PA X (e::es) t) (hdb:(x==("__debug__" : Str))=false:=by decide) (he:starEach (e::es) X.env=(false,eval e X.env)::starEach es X.env:=by rfl) (hpl:(backTo pos (starEach es X.env)).any (·.1)=false:=by rfl):
  PE X (.Call (.Name x p) (e::es) [] pos) (ZQ C sp Ds W t):=fun pins s σ H Q I h=>
 wpAny_Call_Name_kw (JC I hg hm (PySem.W.callWith_K (h₀:=X.base) I.ok.mod.kin M.kp (mz (ha pos pins s σ H _ I h) fun us s1 ⟨vs,H1,I1,r,q⟩=>⟨I1.yX,X_ M F hr hb hd hx I1 r q⟩) he hpl) hdb)
end
section
variable{K:Frag}{nm q:Str}{C N:Addr}{bs bm:List Value}{sn:List Str}{sub:List Value}{ab:Bool}{col:Option Bool}{dd:Option Addr}{k0 k1 k2 k3 k5:Option Value}{newId:String}{name:Str}
theorem Jr(lo:K.lookup C=some (excClassObj nm q C N bs bm true sn sub ab col dd k0 k1 k2 k3 k5 newId))(h1:bm.contains (.type "object")=true)(h2:bm.contains (.type "BaseException")=true)(h3:∀self,refuseLoop self "__setattr__" bm=pure ())
  (sa:findIn K (.ref C) "__setattr__" = some (some (.builtin "object.__setattr__"))) (ga:findIn K (.ref C) "__getattribute__" = some (some (.builtin "BaseException.__getattribute__"))) (no:findIn K (.ref C) name=some none):yr K C name:=
 ⟨⟨_,by unfold PySem.W.clsIn;rw[lo],rfl,rfl,by rw[List.contains_cons,h1,Bool.or_true],by rw[List.contains_cons,h2,Bool.or_true],fun self=>(refuseLoop_ref self _ C bm).trans (h3 self)⟩,sa,ga,no⟩
theorem Oi(lo:K.lookup C=some (excClassObj nm q C N bs bm true sn sub ab col dd k0 k1 k2 k3 k5 newId))(h1:bm.contains (.type "object")=true)(gn:findIn K (.ref C) "__getattr__" = some none)(ca:findIn K (.ref C) "__class__" = some (some (.builtin "object.__class__")))
  (hn:PySem.W.specialIn K (.builtin "object.__class__") "__get__" = some (some (.builtin "getset_descriptor.__get__"))) (tk:PySem.W.takesIn K (.builtin "object.__class__")=some true):Zk K C:=
 ⟨gn,ca,hn,tk,by unfold PySem.W.mroIn PySem.W.clsIn;rw[lo];simp only[Option.bind_some];rw[if_neg (by simp),List.contains_cons,h1,Bool.or_true]⟩
theorem Oe{f:Addr}(lo:K.lookup C=some (excClassObj nm q C N bs bm true sn sub ab col dd k0 k1 k2 k3 k5 "ValueError.__new__"))(h0:bm.contains (.type "ValueError")=true)(hA:bm.contains (.type "AttributeError")=false)(hN:bm.contains (.type "NameError")=false)(h2:bm.contains (.type "BaseException")=true)
  (init:findIn K (.ref C) "__init__" = some (some (.ref f))) (fn:isFn K (.ref f)=true) (kp:keepIn K (.ref C)=true):XMk K C f:=
 ⟨⟨nm,q,N,bs,bm,true,sn,sub,ab,col,dd,k0,k1,k2,k3,k5,lo,⟨h0,hA,hN⟩,h2⟩,init,fn,kp⟩
theorem W5{t:Value}{b:Bool}(lo:K.lookup C=some (excClassObj nm q C N bs bm true sn sub ab col dd k0 k1 k2 k3 k5 newId))(h:subIn K t (.ref C)=some b):PySem.W.kitCls K t (.ref C)=some b:=by
 unfold PySem.W.kitCls
 dsimp only
 rw[if_pos,h]
 unfold PySem.W.clsIn PySem.W.typeIn
 rw[lo]
 simp[lo]
theorem sub_self(lo:K.lookup C=some (excClassObj nm q C N bs bm true sn sub ab col dd k0 k1 k2 k3 k5 newId)):subIn K (.ref C) (.ref C)=some true:=by
 show PySem.W.mroIn K C (.ref C)=some true
 unfold PySem.W.mroIn PySem.W.clsIn
 rw[lo]
 simp
theorem u_{t:Value}{b:Bool}(lo:K.lookup C=some (excClassObj nm q C N bs bm true sn sub ab col dd k0 k1 k2 k3 k5 newId))(h2:bm.contains (.type "BaseException")=true)(h:subIn K t (.ref C)=some b):exmOne K t (.ref C)=some b:=by
 unfold exmOne
 have e:subIn K (.ref C) (.type "BaseException")=some true:=by
  show PySem.W.mroIn K C _=some true
  unfold PySem.W.mroIn PySem.W.clsIn
  rw[lo]
  simp only[Option.bind_some]
  rw[if_neg (by simp),List.contains_cons,h2,Bool.or_true]
 rw[if_pos (by rw[e];simp)]
 exact W5 lo h
theorem vg{t:Value}{b:Bool}(lo:K.lookup C=some (excClassObj nm q C N bs bm true sn sub ab col dd k0 k1 k2 k3 k5 newId))(h:subIn K t (.ref C)=some b):kitOne K t (.ref C)=some b:=by
 unfold kitOne
 split
 ·rename_i z
  have z':t= .ref C:=beq_iff_eq.mp z
  subst z'
  rw[sub_self lo]at h
  exact h
 ·exact W5 lo h
theorem W2{n:String}{b:Bool}(hm:PySem.W.kitMeta n=true)(h:subIn K (.ref C) (.type n)=some b):kitOne K (.ref C) (.type n)=some b:=by
 unfold kitOne PySem.W.kitCls
 rw[if_neg (by simp)]
 dsimp only
 rw[if_pos hm,h]
end
theorem Ec:bootBuiltins "ValueError" = some (.type "ValueError"):=by decide +kernel
theorem l_:PySem.W.kitMeta "ValueError" = true:=by decide +kernel
end L2
namespace L2
open PySem
theorem xP{bm:List Value}{cs:List Addr}(e:bm=cs.map Value.ref++[.type "ValueError",.type "Exception",.type "BaseException",.type "object"]):∀self,refuseLoop self "__setattr__" bm=pure ():=by
 subst e
 intro self
 induction cs with
 | nil=>rfl
 | cons c r ih=>simp only[List.map_cons,List.cons_append,refuseLoop_ref];exact ih
end L2
namespace L2
open PySem PySem.Spec PyProof.Rows
section
variable{prog:Program}{w:World}{A:Around}{R:Result→Shared→Prop}
theorem XH{elt tg iter:Expr}{ifs:List Expr}{scope:Scope}{pos:Pos}{it acc:Value}{env:Env}{E:Value→Shared→Prop}(W:Nat→Shared→Prop){s:Shared}
  (turn:∀n s,W n s→wpAny (model prog w) A (pyNext it) (fun r s1=>match r with
   | none=>R (.ok .next) s1
   | some v=>wpAny (model prog w) A (letOwnedTupleGo tg it v) (fun _ s2=>wpAny (model prog w) A (assign tg env v) (fun _ s3=>
     wpAny (model prog w) A (forIn ifs true fun c r=>if r=true then do let ok ←isTrue c env (eval c env);pure (ForInStep.yield ok)else pure (ForInStep.yield r)) (fun ok s4=>
      if ok=true then wpAny (model prog w) A (eval elt env) (fun x s5=>wpAny (model prog w) A (call (.builtin "list.append") [acc,x]) (fun _ s6=>∃m,m<n∧W m s6) (fun _ _=>False) s5) E s4
      else ∃m,m<n∧W m s4) E s3) (fun _ _=>False) s2) (fun _ _=>False) s1) (fun _ _=>False) s)
  (hE:∀ev s,E ev s→notedBy (model prog w) A env (fun x s'=>R (.error x) s') ev s)
  (n:Nat) (h:W n s):codeAny (model prog w) A (.compLoop (.ListComp elt [⟨tg,iter,ifs,0⟩] scope pos) 0 it acc env) R s:=by
 have ex:∀{α:Type} {t:Sem α} {Q Q':α→Shared→Prop} {E:Value→Shared→Prop} {s:Shared},wpAny (model prog w) A t Q (fun _ _=>False) s→(∀a s,Q a s→Q' a s)→wpAny (model prog w) A t Q' E s:=
  fun h f=>wpAny_mono h f fun _ _ z=>z.elim
 have ey:∀{α:Type} {t:Sem α} {Q Q':α→Shared→Prop} {s:Shared},wpAny (model prog w) A t Q E s→(∀a s,Q a s→Q' a s)→wpAny (model prog w) A t Q' (notedBy (model prog w) A env fun x s'=>R (.error x) s') s:=
  fun h f=>wpAny_mono h f hE
 refine codeAny_loop rfl W (fun n s hI=> ?_) n h
 show wpAny _ A ((compTurn (.ListComp elt [⟨tg,iter,ifs,0⟩] scope pos) 0 it acc env).onRaise (fun x=>do noteFrame x env;theTreesLotGoes x)) _ _ s
 refine wpAny_noted ?_
 rw[compTurn_list]
 refine wpAny_bind (wpAny_standAt (wpAny_bind (ex (turn n s hI) fun r s1 h1=> ?_)))
 cases r with
 | none=>exact wpAny_pure h1
 | some v=>
  refine wpAny_bind (ex h1 fun _ s2 h2=>wpAny_bind (ex h2 fun _ s3 h3=>wpAny_bind (ey h3 fun ok s4 h4=> ?_)))
  cases ok with
  | false=>exact wpAny_pure ⟨rfl,h4⟩
  | true=>exact wpAny_bind (wpAny_bind (ey h4 fun x s5 h5=>wpAny_bind (ex h5 fun _ s6 h6=>wpAny_pure (wpAny_pure ⟨rfl,h6⟩))))
end
section
variable{X:Cx}{scope:Scope}{cl:List (Str×Addr)}{C:Addr}{N:List Str}{fp:List Addr}{s2:Shared}{H2:Hp}{W:bK}{ev:Value}{s:Shared}
theorem gb.aga{E:Value→Shared→Prop}(h:gb (bQ X scope cl C N fp s2 H2) W ev s)(hst:X.stack=X.env::X.outer)(hf:X.env.frame=some X.env.locals)
  (hE:∀(e Ce dx T:Addr) (fl:Value) (pn:List (Addr×Obj)) (σ:St) (H:Hp) (s':Shared),Inv (bQ X scope cl C N fp s2 H2) pn σ H s'→Exc s'.heap e Ce (some dx) (some T) fl→qj (bQ X scope cl C N fp s2 H2) pn H e→qj (bQ X scope cl C N fp s2 H2) pn H T→W Ce dx σ H→E (.ref e) s'):
  notedBy (model X.prog X.w) X.A (compEnvC scope cl C X.env) E ev s:=by
 obtain⟨e,Ce,dx,T,fl,pins,σ,H,rfl,I,x,hfl,fe,fT,hW⟩:=h
 have Qp:=I.stack
 change Heap.FunFrames s.heap _ X.stack at Qp
 rw[hst]at Qp
 show wpAny (model X.prog X.w) X.A (noteFrame (.ref e) X.env) (fun _ s''=>E (.ref e) s'') E s
 refine Oq (I.ok.frames.trans (congrArg some hst)) Qp hf x (.inl rfl) fun h1 T1 hT1 k1 x1=> ?_
 have Zj:qj (bQ X scope cl C N fp s2 H2) pins H T1:=by
  rcases hT1 with r | r
  ·exact fT T1 r
  ·refine⟨I.hok.fresh r,Nat.le_trans I.sz r,fun p hp z=> ?_⟩
   have:=Heap.lt_size (I.pin p hp).1
   rw[z]at this
   exact absurd (Nat.lt_of_lt_of_le this r) (Nat.lt_irrefl _)
 have hTt:∀t,T=some t→∃o,h1.get? t=some o:=fun t z=>by
  obtain⟨o,q⟩:=x.here.2 t z
  exact k1.1.2 t o q
 have I1:=I.Ia x fe fT (k1.mono (fs':=frs X.stack) (by rw[hst];exact fun b z=>z)) x1.here.1 hTt
 exact hE e Ce dx T1 _ pins σ H _ I1 x1 fe Zj hW
theorem K_{pins pn:List (Addr×Obj)}{σ σ':St}{H':Hp}{s':Shared}{e Ce dx T:Addr}{fl:Value}{use:Option (Value→Sem Unit)}{Q:Value→Shared→Prop}{acc:Value}(I2:Inv X pins σ H2 s2)(hC:s2.heap.objs.size≤C)(f2:∀b∈fp,QZ X pins H2 b)(hx:Tk X W)
  (Ic:Inv (bQ X scope cl C N fp s2 H2) pn σ' H' s') (x:Exc s'.heap e Ce (some dx) (some T) fl) (fe:qj (bQ X scope cl C N fp s2 H2) pn H' e) (fT:qj (bQ X scope cl C N fp s2 H2) pn H' T) (hW:W Ce dx σ H'):
  compPost (model X.prog X.w) X.A X.xe use Q acc C (.error (.ref e)) s':=by
 obtain⟨m,hn,_⟩:=id Ic.loc
 have I5:Inv X pins σ H' s':=I2.call' (ch:=fp) Ic.os Ic.base Ic.hok Ic.bare fun b hb=>⟨(f2 b hb).2.2.2.1,(f2 b hb).2.1,(f2 b hb).2.2.2.2.1,(f2 b hb).2.2.2.2.2⟩
 have fr:∀a,qj (bQ X scope cl C N fp s2 H2) pn H' a→qj X pins H' a:=fun a f=>⟨f.no,Nat.le_trans I2.sz f.new,fun p hp z=>absurd (Nat.lt_of_lt_of_le (Heap.lt_size (I2.pin p hp).1) (z▸f.new)) (Nat.lt_irrefl _)⟩
 have main:∀h',Heap.SameBut C s'.heap h'→∀cenv:Env,cenv.locals=C→wpAny (model X.prog X.w) X.A (PySem.passOn "comprehension.variables-let-go" (.ref e) cenv:Sem Value) (fun _ _=>False) X.xe {s' with heap:=h'}:=by
  intro h' sb cenv _
  have I6:Inv X pins σ H' {s' with heap:=h'}:=I2.letGo I5 hC Ic.free sb
  obtain⟨vs,he,h1,hne,oT,ts,hoT,hd,h3⟩:=x.at_
  have neC:e≠C:=(Ic.ye he rfl).1
  have nTC:T≠C:=(Ic.ye hoT hd).1
  have x6:Exc h' e Ce (some dx) (some T) fl:=⟨⟨vs,(sb.2 e neC).trans he,h1,hne,oT,ts,(sb.2 T nTC).trans hoT,hd,h3⟩⟩
  unfold PySem.passOn
  refine wpAny_bind (wpAny_field ((sb.2 e neC).trans he) rfl h1 ?_)
  rw[if_neg (by simp)]
  refine wpAny_bind (yw (s:={s' with heap:=h'}) x6 fun h2 k2 x2=>wpAny_throw (hx _ _ ?_))
  exact⟨e,Ce,dx,some T,_,pins,σ,H',rfl,I6.Ia x6 (fr e fe) (fun t z=>by cases z;exact fr T fT) (k2.mono (by simp)) x2.here.1 x2.here.2,x2,.inl rfl,fr e fe,fun t z=>by cases z;exact fr T fT,hW⟩
 cases use with
 | none=>exact⟨m,hn,main⟩
 | some u=>exact⟨m,hn,main⟩
end
section
variable{X:Cx}{x:Str}{px:Pos}{elt iter:Expr}{ifs:List Expr}{scope:Scope}{cs:List Str}{js:List Nat}{tt:TT}{te:TE}{pos:Pos}
theorem IK{W':bK}{cl:List (Str×Addr)}{pins:List (Addr×Obj)}{σ:St}{H2:Hp}{s2:Shared}{it:Addr}{fp:List Addr}{tn:Nat→Heap→Prop}{J:It}{Q:VK}{RR:Value→Addr→Result→Shared→Prop}
  (hc:X.calm=true) (hcap:Bl X scope cs js) (hst:X.stack=X.env::X.outer) (hf:X.env.frame=some X.env.locals)
  (ht:∀cl C fp s H,PTs ((bQ X scope cl C (x::cs) fp s H).wish (gb (bQ X scope cl C (x::cs) fp s H) W')) ifs tt) (he:∀cl C fp s H,PE ((bQ X scope cl C (x::cs) fp s H).wish (gb (bQ X scope cl C (x::cs) fp s H) W')) elt te)
  (hcell:∀y∈scope.names,y.2≠ .cell) (hkind:scope.kind= .function) (hx:scope.names.lookup x=some .local) (hnd:(x::cs).Nodup)
  (KZ:∀n c,cl.lookup n=some c→X.env.cells.lookup n=some c) (YM:∀n,(n,NameKind.free)∈scope.names→∃c,cl.lookup n=some c)
  (I2:Inv X pins σ H2 s2) (T:Turn X.prog X.w X.K (.Name x px) J fp it tn) (st2:tn 0 s2.heap) (f2:∀b∈fp,QZ X pins H2 b)
  (W:Nat→Nat→List V→Hp→Prop) (w0:∃m,W 0 m [] H2)
  (step:∀i m ys H,W i m ys H→
   (J.stop i H∧ys.length≤sizeLine∧∀p,H p=none→Q (.ref p) (upd H p (.lst ys)))∨
   (J.go i H∧∃N:List V→Hp→Prop,(∀ys' H',N ys' H'→ys'.length≤sizeLine∧∃m',m'<m∧W (i+1) m' ys' H')∧∀x H',J.yld i H x H'→tt (some x::caps js σ) H' fun b H2=>
    if b=true then te (some x::caps js σ) H2 fun y H3=>N (ys++[y]) H3 else N ys H2))
  (fin:∀(D C:Addr) (H3:Hp) (s4:Shared) (m':Str→Option Value),Inv X pins σ H3 s4→s4.heap.Ns C m'→s2.heap.objs.size≤C→H3 C=none→Q (.ref D) H3→RR (.ref D) C (.ok .next) s4)
  (arS:∀(D C e Ce dx T':Addr) (fl:Value) (pn:List (Addr×Obj)) (σ':St) (H':Hp) (s':Shared),s2.heap.objs.size≤C→Inv (bQ X scope cl C (x::cs) fp s2 H2) pn σ' H' s'→Exc s'.heap e Ce (some dx) (some T') fl→qj (bQ X scope cl C (x::cs) fp s2 H2) pn H' e→qj (bQ X scope cl C (x::cs) fp s2 H2) pn H' T'→W' Ce dx σ' H'→RR (.ref D) C (.error (.ref e)) s'):
  wpAny (model X.prog X.w) X.A (newList []) (fun acc s3=>wpAny (model X.prog X.w) X.A (newFunctionEnv scope X.env.globals cl [] X.env.qual none .none (some X.env)) (fun cenv s4=>
   codeAny (model X.prog X.w) X.A (.compStart (.ListComp elt [⟨.Name x px,iter,ifs,0⟩] scope pos) 0 (.ref it) acc {cenv with scope:=relabel scope X.env}) (RR acc cenv.locals) s4) X.xe s3) X.xe s2:=by
 refine wpAny_newObj_type (wpAny_newFunctionEnv hcell (by intro y hy;simp at hy) (fun h1 hns hsb=> ?_) hkind)
 dsimp only at hns hsb ⊢
 generalize hP:s2.heap.push {cls:= .type "list",dict:=none,data:= .seq ([]:List Value).toArray}=hq at hns hsb ⊢
 have eC:hq.objs.size=s2.heap.objs.size+1:=by rw[←hP,Heap.size_push]
 generalize eD:s2.heap.objs.size=D at eC ⊢
 generalize eCC:hq.objs.size=C at hns hsb eC ⊢
 have DC:D≠C:=by omega
 have old:∀b o,s2.heap.get? b=some o→h1.get? b=some o:=fun b o e=>by
  have lt: @LT.lt Nat _ b s2.heap.objs.size:=Heap.lt_size e
  exact hsb.extBut b o (fun z=>by subst z;omega) (Heap.get?_push_of_some _ (hP▸Heap.get?_push_of_some _ e))
 have ar8:h1.get? D=some {cls:= .type "list",dict:=none,data:= .seq ([]:List Value).toArray}:=hsb.extBut _ _ DC (Heap.get?_push_of_some _ (hP▸eD▸Heap.get?_push_size _ rfl))
 have noD:s2.heap.get? D=none:=Heap.get?_none_of_le (by omega)
 have HD:H2 D=none:=I2.hok.fresh (by omega)
 have HC:H2 C=none:=I2.hok.fresh (by omega)
 have akH:∀b∈fp,@LT.lt Nat _ b D:=fun b hb=>by
  obtain⟨o,e,_⟩:=T.obj _ _ st2 b hb
  have q: @LT.lt Nat _ b s2.heap.objs.size:=Heap.lt_size e
  omega
 have Dfp:D∉fp:=fun z=>Nat.lt_irrefl _ (akH D z)
 have arQ:∀b∈frs X.stack,@LT.lt Nat _ b D:=fun b hb=>by
  obtain⟨_,o,ho,_⟩:=I2.stack.mem hb
  have q: @LT.lt Nat _ b s2.heap.objs.size:=Heap.lt_size ho
  omega
 have arT:∀y c,cl.lookup y=some c→ @LT.lt Nat _ c D:=fun y c e=>by
  obtain⟨v,z⟩:=I2.cell y c (KZ y c e)
  have q: @LT.lt Nat _ c s2.heap.objs.size:=z.lt
  omega
 have ok:(bQ X scope cl C (x::cs) fp s2 H2).Ok:=by
  refine⟨I2.ok.mod,hkind,I2.ok.glob,I2.ok.blt,(by show s2.heap.objs.size≤C;omega),fun y z c e1 e2=>I2.ok.inj y z c (KZ y c e1) (KZ z c e2),fun y hy=>YM y (Ww hcell hy),fun y c e=>(by cases e),I2.ok.hd,I2.ok.frames,.inl rfl,
   fun b hb=>⟨?_,fun y c e=>(f2 b hb).2.2.2.2.1 y c (KZ y c e)⟩,I2.bs,Nat.le_trans I2.ok.Xq I2.sz,fun b o e hb=> ?_,fun b hb z=> ?_,I2.stack,I2.Ju⟩
  ·have q:=akH b hb
   show b≠C
   intro z
   subst z
   omega
  ·rcases(f2 b hb).2.2.2.1 with z | z
   ·exact I2.ok.RW b o e z
   ·have l: @LT.lt Nat _ b X.base.objs.size:=Heap.lt_size e
    have l2:=I2.ok.Xq
    have l3: @LE.le Nat _ X.s₀.heap.objs.size b:=z
    omega
  ·rcases List.mem_cons.mp (I2.O1 b z)with e | e
   ·exact(f2 b hb).2.1 e
   ·exact(f2 b hb).2.2.1 e
 have I0:Inv (bQ X scope cl C (x::cs) fp s2 H2) [(D,{cls:= .type "list",dict:=none,data:= .seq ([]:List Value).toArray})] (none::caps js σ) H2 {s2 with heap:=h1,toks:=s2.toks+([]:List (Str×Value)).length}:=by
  refine⟨ok,rfl,I2.bare,Un.kept old,⟨_,hns,fun i y v e1 e2 e3=> ?_⟩,fun y c e=> ?_,HC,fun y c e=>I2.rR y c (KZ y c e),fun p hp=> ?_,I2.hok.kept old,?_⟩
  ·cases i with
   | zero=>simp at e2
   | succ j=>
    have e1':cs[j]? = some y:=by simpa[bQ]using e1
    obtain⟨i0,q1,q2,q3,q4⟩:=hcap.get e1'
    have e2':σ[i0]? = some (some v):=by
     have z:(caps js σ)[j]? = some (some v):=by simpa using e2
     unfold caps at z
     rw[List.getElem?_map,q1]at z
     have z':(σ[i0]?).join=some v:=by simpa using z
     cases r:σ[i0]? with
     | none=>rw[r]at z';cases z'
     | some r'=>rw[r]at z';exact congrArg some z'
    obtain⟨m,_,hl⟩:=I2.loc
    obtain⟨u,r,l⟩:=hl i0 y v q2 e2' (by rcases q4 with q | q;exact .inr (.inl q);exact .inr (.inr q))
    obtain⟨c,hcy⟩:=YM y (PySem.mem_of_lookup q3)
    refine⟨u,r,.inr ⟨aau q3,c,hcy,?_⟩⟩
    rcases l with⟨k,_⟩ | ⟨_,c',ec,o,ho,hd⟩
    ·rcases q4 with q | q<;>rw[q]at k<;>cases k
    ·rw[KZ y c hcy]at ec
     cases ec
     exact⟨o,old _ _ ho,hd⟩
  ·obtain⟨v,o,ho,hd⟩:=I2.cell y c (KZ y c e)
   exact⟨v,o,old _ _ ho,hd⟩
  ·have ep:p=(D,{cls:= .type "list",dict:=none,data:= .seq ([]:List Value).toArray}):=by simpa[bQ]using hp
   subst ep
   exact⟨ar8,HD,(by show D≠C;omega),(fun z=>Nat.lt_irrefl _ (arQ D z)),fun v z=>by cases z⟩
  ·show(none::caps js σ).length=(x::cs).length
   unfold caps
   rw[List.length_cons,List.length_cons,List.length_map,hcap.len]
 have stat:∀{pn:List (Addr×Obj)} {H':Hp},(∀b∈fp,H' b=none)→(∀p∈pn,p.1∉fp)→∀b∈fp,QZ (bQ X scope cl C (x::cs) fp s2 H2) pn H' b:=fun hn hpn b hb=>
  ⟨hn b hb,(ok.exf b hb).1,ok.SX b hb,.inl hb,fun y c e=>(ok.exf b hb).2 y c e,fun p hp z=>hpn p (by simpa[bQ]using hp) (z▸hb)⟩
 have loop:∀s3:Shared,s3={s2 with heap:=h1,toks:=s2.toks+([]:List (Str×Value)).length}→
   codeAny (model X.prog X.w) X.A (.compLoop (.ListComp elt [⟨.Name x px,iter,ifs,0⟩] scope pos) 0 (.ref it) (.ref D) (compEnvC scope cl C X.env)) (RR (.ref D) C) s3:=by
  rintro s3 rfl
  obtain⟨m0,w0⟩:=w0
  refine XH (E:=gb (bQ X scope cl C (x::cs) fp s2 H2) W') (fun n s=>∃(i:Nat) (ys:List V) (its:List Value) (c:Nat) (H:Hp),Inv (bQ X scope cl C (x::cs) fp s2 H2) [(D,{cls:= .type "list",data:= .seq its.toArray c})] (none::caps js σ) H s∧
   tn i s.heap∧(∀b∈fp,H b=none)∧Vals ys its∧W i n ys H) ?_ (fun ev s5 z=>z.aga hst hf fun e Ce dx T' fl pn σ' H' s' i1 i2 i3 i4 i5=>arS D C e Ce dx T' fl pn σ' H' s' (by omega) i1 i2 i3 i4 i5) m0 ⟨0,[],[],0,H2,I0,T.keep _ _ _ st2 fun b _ o e=>old b o e,fun b hb=>(f2 b hb).1,.nil,w0⟩
  rintro n s3 ⟨i,ys,its,c,H3,I3,st3,fr3,rv,w3⟩
  have pD:∀p∈[((D,{cls:= .type "list",data:= .seq its.toArray c}):Addr×Obj)],p.1∉fp:=fun p hp=>by
   have:p=(D,{cls:= .type "list",data:= .seq its.toArray c}):=by simpa using hp
   subst this
   exact Dfp
  rcases step i n ys H3 w3 with⟨stop,hlen,qn⟩ | ⟨go,N,hN,step⟩
  ·refine mz (T.done (bQ X scope cl C (x::cs) fp s2 H2) rfl rfl rfl hc i _ s3 _ H3 (fun _ _=>False) I3 (stat fr3 pD) st3 stop) fun r s4 ⟨hr,I4⟩=> ?_
   subst hr
   obtain⟨gD,nD,_⟩:=I4.pin _ (List.mem_append_right _ List.mem_cons_self)
   obtain⟨m',hn',_⟩:=id I4.loc
   have u4:Un (frs X.stack) fp H2 H3 s2.heap s4.heap:=I4.base
   have k4:Br X.prog X.w (upd H3 D (.lst ys)) s4.heap:=Br.track I4.hok nD ⟨hlen,its,c,rv,gD⟩
   have I5:Inv X pins σ (upd H3 D (.lst ys)) s4:=I2.call' (ch:=fp) I4.os (u4.track noD HD) k4 I4.bare fun b hb=>⟨(f2 b hb).2.2.2.1,(f2 b hb).2.1,(f2 b hb).2.2.2.2.1,(f2 b hb).2.2.2.2.2⟩
   exact fin D C _ s4 m' I5 hn' (by omega) (by rw[bG (Ne.symm DC)];exact I4.free) (qn D nD)
  ·refine mz (T.item (bQ X scope cl C (x::cs) fp s2 H2) rfl rfl rfl hc i _ s3 _ H3 (fun _ _=>False) I3 (stat fr3 pD) st3 go) fun r s4 ⟨u,hr,h4⟩=> ?_
   subst hr
   refine mz h4 fun _ s5 ⟨v,H5,I5,r5,y5,st5,fr5⟩=> ?_
   have I5':=I5.pinned (stat fr5 pD) (T.obj _ _ st5)
   have hxl:(compEnvC scope cl C X.env).scope.names.lookup x=some .local:=lookup_relabel_local hx
   refine wpAny_assign_Name (yz (X:=bQ X scope cl C (x::cs) fp s2 H2) (i:=0) I5' hnd rfl (.inl hxl) r5 (fun s6 I6=> ?_) (.inr hxl))
   have weak:∀{pn:List (Addr×Obj)} {H':Hp} {s':Shared},Inv (bQ X scope cl C (x::cs) fp s2 H2) pn (some v::caps js σ) H' s'→Inv (bQ X scope cl C (x::cs) fp s2 H2) pn (none::caps js σ) H' s':=fun I'=>
    I'.weak rfl fun j z e=>by
     cases j with
     | zero=>simp at e
     | succ j=>simpa using e
   have tnK:∀{σ':St} {H':Hp} {s':Shared},Inv (bQ X scope cl C (x::cs) fp s2 H2) ([(D,{cls:= .type "list",data:= .seq its.toArray c})]++Km fp s5.heap) σ' H' s'→(∀b∈fp,∀o,s5.heap.get? b=some o→s'.heap.get? b=some o)∧∀b∈fp,H' b=none:=fun I'=>
    ⟨fun b hb o e=>(I'.pin (b,o) (List.mem_append_right _ (List.mem_append_right _ (zP hb e)))).1,fun b hb=>by
     obtain⟨o,e,_⟩:=T.obj _ _ st5 b hb
     exact(I'.pin (b,o) (List.mem_append_right _ (List.mem_append_right _ (zP hb e)))).2.1⟩
   refine mz (ht cl C fp s2 H2 _ s6 (some v::caps js σ) H5 _ (I6.wish _) (step v H5 y5)) fun b s7 ⟨H7,I7',q7⟩=> ?_
   have I7:=I7'.nP
   cases b with
   | false=>
    rw[if_neg Bool.false_ne_true]at q7 ⊢
    obtain⟨_,m',hm,w7⟩:=hN _ _ q7
    exact⟨m',hm,i+1,ys,its,c,H7,weak I7.FJ,T.keep _ _ _ st5 (tnK I7).1,(tnK I7).2,rv,w7⟩
   | true=>
    rw[if_pos rfl]at q7 ⊢
    refine mz (he cl C fp s2 H2 _ s7 (some v::caps js σ) H7 _ (I7.wish _) q7) fun yv s8 ⟨y,H8,I8',r8,q8⟩=> ?_
    have I8:=I8'.nP
    obtain⟨hl8,m',hm,w8⟩:=hN _ _ q8
    rw[List.length_append,List.length_singleton]at hl8
    obtain⟨gD,nD,dC,dF,_⟩:=I8.pin (D,{cls:= .type "list",data:= .seq its.toArray c}) (List.mem_append_right _ (List.mem_append_left _ List.mem_cons_self))
    have el:=rv.length
    refine wpAny_list_append_plain (hsz:=by rw[List.size_toArray];omega) ⟨c,gD⟩ fun h9 p9 sb9=> ?_
    obtain⟨c9,g9⟩:=p9
    have g9':h9.get? D=some {cls:= .type "list",data:= .seq (its++[yv]).toArray c9}:=by simpa using g9
    have I9:Inv (bQ X scope cl C (x::cs) fp s2 H2) [] (none::caps js σ) H8 {s8 with heap:=h9}:=
     (weak (I8.Gg (yF:=[]) (fun p hp=>nomatch hp))).turned (t':=s8.toks) (it:=D) (fun b o hb e=>(sb9.2 b hb).trans e) nD dC (.inr (by show s2.heap.objs.size≤D;omega)) (fun y c e z=>by have q:=arT y c e;subst z;omega) (fun p hp=>nomatch hp)
    refine⟨m',hm,i+1,ys++[y],its++[yv],c9,H8,I9.Gg fun p hp=> ?_,?_,(tnK I8).2,rv.append (.cons r8 .nil),w8⟩
    ·have:p=(D,{cls:= .type "list",data:= .seq (its++[yv]).toArray c9}):=by simpa using hp
     subst this
     exact⟨g9',nD,dC,dF,fun v z=>by cases z⟩
    ·exact T.keep _ _ _ st5 fun b hb o e=>(sb9.2 b (fun z=>Dfp (z▸hb))).trans ((tnK I8).1 b hb o e)
 exact codeAny_compStart_list (loop _ rfl) (T.self _ 0 _ _ _ (T.keep _ _ _ st2 fun b _ o e=>old b o e) (loop _ rfl))
end
def Um(js:List Nat)(wi:TI)(tt:bK→TT)(te:bK→TE)(W:bK):TE:=fun σ H Q=>wi σ H fun J H1=>ahH js (tt fun C dx _ H=>W C dx σ H) (te fun C dx _ H=>W C dx σ H) σ Q J H1
section
variable{X:Cx}{x:Str}{px:Pos}{elt iter:Expr}{ifs:List Expr}{scope:Scope}{cs:List Str}{js:List Nat}{pos:Pos}
theorem aaK{wi:TI}{W:bK}{tt:bK→TT}{te:bK→TE}(hW:Tk X W)(hst:X.stack=X.env::X.outer)(hf:X.env.frame=some X.env.locals)(hc:X.calm=true)(cs:List Str)(js:List Nat)(hi:PI X (.Name x px) iter wi)(hcap:Bl X scope cs js)(ht:∀cl C fp s H W',PTs ((bQ X scope cl C (x::cs) fp s H).wish (gb (bQ X scope cl C (x::cs) fp s H) W')) ifs (tt W'))(he:∀cl C fp s H W',PE ((bQ X scope cl C (x::cs) fp s H).wish (gb (bQ X scope cl C (x::cs) fp s H) W')) elt (te W'))
  (hall:∀y∈scope.names,y.2= .free→y.1∈cs) (hcell:∀y∈scope.names,y.2≠ .cell) (hnames:∀y∈scope.names,y.2= .local→scope.names.lookup y.1=some .local) (hnd:(x::cs).Nodup)
  (hkind:scope.kind= .function:=by rfl) (hx:scope.names.lookup x=some .local:=by rfl) (hs:∀v,foldedSetIterable iter X.env v=pure v:=by intro _;rfl):
  PE X (.ListComp elt [⟨.Name x px,iter,ifs,0⟩] scope pos) (Um js wi tt te W):=by
 intro pins s σ H Q I h
 obtain⟨cl,agy,KZ,YM⟩:=La (env:=X.env) (scope:=scope) fun n hn=>by
  obtain⟨j,hj⟩:=List.getElem?_of_mem (hall _ hn rfl)
  obtain⟨_,_,_,_,k⟩:=hcap.get hj
  exact I.ok.has n k
 rw[eval_ListComp]
 refine wpAny_comprehension_free (use:=none) rfl hs agy hkind hnames (mz (hi pins s σ H _ I h) fun v s1 h1=>mz h1 fun itv s2 h2=> ?_)
 obtain⟨it,fp,tn,J,H2,e,I2,T,st2,f2,Wi,w0,step⟩:=h2
 subst e
 refine IK (W':=fun C dx _ H=>W C dx σ H) (Q:=Q) (RR:=fun acc C=>compPost (model X.prog X.w) X.A X.xe none (EP X pins σ Q) acc C) hc hcap hst hf (fun cl C fp s H=>ht cl C fp s H _) (fun cl C fp s H=>he cl C fp s H _) hcell hkind hx hnd KZ YM I2 T st2 f2 Wi w0 step (fun D C H3 s4 m' I4 hn hC hH q=> ?_) fun D C e Ce dx T' fl pn σ' H' s' hC Ic x fe fT w=>K_ I2 hC f2 hW Ic x fe fT w
 exact⟨m',hn,fun h' sb=>⟨.ref D,H3,I2.letGo I4 hC hH sb,rfl,q⟩⟩
theorem aaD{wi:TI}{W:bK}{tt:bK→TT}{te:bK→TE}{y:Str}{py spos:Pos}{k:Nat}(hW:Tk X W)(hst:X.stack=X.env::X.outer)(hf:X.env.frame=some X.env.locals)(hc:X.calm=true)(cs:List Str)(js:List Nat)(hN:X.N.Nodup)(hk:X.N[k]? = some y)(hy:X.env.scope.names.lookup y=some .local)(hi:PI X (.Name x px) iter wi)(hcap:Bl X scope cs js)
  (ht:∀cl C fp s H W',PTs ((bQ X scope cl C (x::cs) fp s H).wish (gb (bQ X scope cl C (x::cs) fp s H) W')) ifs (tt W')) (he:∀cl C fp s H W',PE ((bQ X scope cl C (x::cs) fp s H).wish (gb (bQ X scope cl C (x::cs) fp s H) W')) elt (te W'))
  (hall:∀y∈scope.names,y.2= .free→y.1∈cs) (hcell:∀y∈scope.names,y.2≠ .cell) (hnames:∀y∈scope.names,y.2= .local→scope.names.lookup y.1=some .local) (hnd:(x::cs).Nodup)
  (hsw:swapsWith (.ListComp elt [⟨.Name x px,iter,ifs,0⟩] scope pos) (some (.Name y py)) spos.line X.env=pure true:=by rfl)
  (hkind:scope.kind= .function:=by rfl) (hx:scope.names.lookup x=some .local:=by rfl) (hs:∀v,foldedSetIterable iter X.env v=pure v:=by intro _;rfl):
  PS X (.Assign [.Name y py] (.ListComp elt [⟨.Name x px,iter,ifs,0⟩] scope pos) spos) (ace (Um js wi tt te W) (Xd k)):=by
 intro pins s σ H D I h
 obtain⟨cl,agy,KZ,YM⟩:=La (env:=X.env) (scope:=scope) fun n hn=>by
  obtain⟨j,hj⟩:=List.getElem?_of_mem (hall _ hn rfl)
  obtain⟨_,_,_,_,k⟩:=hcap.get hj
  exact I.ok.has n k
 rw[exec_Assign_Name_used _ _ _ _ hsw]
 refine wpAny_bind (wpAny_standAt (wpAny_bind ?_))
 show wpAny _ X.A (do let _ ←comprehension (.ListComp elt [⟨.Name x px,iter,ifs,0⟩] scope pos) scope X.env _ (newList []) false (eval iter X.env) (some (assign (.Name y py) X.env))) _ _ s
 refine wpAny_bind (mz (wpAny_comprehension_free (use:=some (assign (.Name y py) X.env)) (Q:=fun _ s'=>SP X pins D .next s') rfl hs agy hkind hnames (mz (hi pins s σ H _ I h) fun v s1 h1=>mz h1 fun itv s2 h2=> ?_)) (fun _ s' q=>wpAny_pure (wpAny_pure q)))
 obtain⟨it,fp,tn,J,H2,e,I2,T,st2,f2,Wi,w0,step⟩:=h2
 subst e
 refine IK (W':=fun C dx _ H=>W C dx σ H) (Q:=fun x H1=>Xd k x σ H1 D.nx) (RR:=fun acc C=>compPost (model X.prog X.w) X.A X.xe (some (assign (.Name y py) X.env)) (fun _ s'=>SP X pins D .next s') acc C) hc hcap hst hf (fun cl C fp s H=>ht cl C fp s H _) (fun cl C fp s H=>he cl C fp s H _) hcell hkind hx hnd KZ YM I2 T st2 f2 Wi w0 step (fun D' C H3 s4 m' I4 hn hC hH q=> ?_) fun D C e Ce dx T' fl pn σ' H' s' hC Ic x fe fT w=>K_ I2 hC f2 hW Ic x fe fT w
 show wpAny _ X.A (assign (.Name y py) X.env (.ref D')) _ _ _
 refine wpAny_assign_Name (MF (v:= .ref D') I4 hN hk (.inl hy) rfl (fun s5 I5 ⟨a,sb,ha⟩=> ?_) (.inr hy))
 have neC:C≠a:=by
  rcases ha with e | e
  ·rw[e];exact Nat.ne_of_gt (Nat.lt_of_lt_of_le I2.lt hC)
  ·intro z
   obtain⟨v,q⟩:=I2.cell y a e
   exact absurd (Nat.lt_of_lt_of_le q.lt (by rw[←z];exact hC)) (Nat.lt_irrefl _)
 exact⟨m',hn.sameBut sb neC,fun h' sb'=>⟨_,H3,I2.letGo I5 hC hH sb',q⟩⟩
end
def apY:V→Option Int→Option Int→Hp→VK→Prop:=fun x lo hi H Q=>∃u,x= .str u∧u.length≤sizeLine∧Q (.str (Txt.slice u lo hi)) H
theorem ae8{X:Cx}:SlR X apY:=by
 intro pins s σ H x v vl vu lo hi sl Q I rx hs pl pu h
 obtain⟨u,rfl,hz,q⟩:=h
 obtain⟨t,rfl⟩:=rx
 have fin:∀(t':Tok) (k:Nat),EP X pins σ Q (.str (Txt.slice u lo hi) t') {s with toks:=k}:=fun t' k=>⟨.str _,H,I.tok k,⟨t',rfl⟩,q⟩
 refine⟨"str",_,F.slot_str_getitem.lookup,typeIs_str _ _ _,?_⟩
 cases pl with
 | none=>
  cases pu with
  | none=>exact wpAny_getItem_str_slice (l:=none) (u:=none) (st:=none) hs rfl (post_val_or_str ⟨Nat.le_trans (Txt.slice_le u _ _) hz,fin⟩)
  | int j uj=>exact wpAny_getItem_str_slice (l:=none) (u:=some (j,uj)) (st:=none) hs rfl (post_val_or_str ⟨Nat.le_trans (Txt.slice_le u _ _) hz,fin⟩)
 | int i ui=>
  cases pu with
  | none=>exact wpAny_getItem_str_slice (l:=some (i,ui)) (u:=none) (st:=none) hs rfl (post_val_or_str ⟨Nat.le_trans (Txt.slice_le u _ _) hz,fin⟩)
  | int j uj=>exact wpAny_getItem_str_slice (l:=some (i,ui)) (u:=some (j,uj)) (st:=none) hs rfl (post_val_or_str ⟨Nat.le_trans (Txt.slice_le u _ _) hz,fin⟩)
theorem Uj{n:Nat}(h:n≤1000000):Builtin.Str.tooLong n=false:=by
 unfold Builtin.Str.tooLong
 exact decide_eq_false (by have:(1000000:Nat)≤sizeLine:=by decide
                           omega)
theorem mulOk_of{x:Str}{n:Int}(hx:x.length≤1000)(h0: -(2 ^ 62)<n)(h1:n≤1000):MulOk x n:=by
 refine⟨?_,?_,?_⟩
 ·rw[decide_eq_false (by omega),decide_eq_false (by omega)];rfl
 ·intro a b
  have:(1000:Int)≤(2 ^ 63 - 1) / n:=by
   rw[Int.le_ediv_iff_mul_le (by omega)]
   omega
  omega
 ·intro a b
  refine Uj ?_
  have:n.toNat≤1000:=by omega
  calc x.length*n.toNat≤1000*1000:=Nat.mul_le_mul hx this
   _≤1000000:=by decide
theorem UW{X:Cx}:Bs X (binaryOp .Mult) (fun x y H Q=>∃i j,x= .str i∧y= .int j∧MulOk i j∧Q (.str (PySem.Txt.mul i j)) H):=by
 intro pins s σ H x y v u Q I rx ry h
 obtain⟨i,j,rfl,rfl,hz,q⟩:=h
 obtain⟨t,rfl⟩:=rx
 obtain⟨t',rfl⟩:=ry
 exact SB.mul hz (fun t' tk=>⟨.str (PySem.Txt.mul i j),H,I.tok _,⟨_,rfl⟩,q⟩)
end L2
namespace L2
open PySem PySem.W PyProof.Rows
def Way(n:Nat)(lt:Nat→Nat→Bool){α:Type}:KasT α→(α→Prop)→Prop
 | .ret a,Q=>Q a
 | .ask i j k,Q=>i<n∧j<n∧Way n lt (k (lt i j)) Q
theorem Way.bind{n:Nat}{lt:Nat→Nat→Bool}{α β:Type}{f:α→KasT β}{Q:β→Prop}:∀{t:KasT α},Way n lt t (fun a=>Way n lt (f a) Q)→Way n lt (t.bind f) Q
 | .ret _,h=>h
 | .ask _ _ _,h=>⟨h.1,h.2.1,Way.bind h.2.2⟩
structure Pm(n:Nat)(p:Array Nat):Prop where
 sz:p.size=n
 pm:p.Perm (List.range n).toArray
section
variable{n:Nat}{O:KeyOrd}{k:Nat→O.α}
theorem Pm.lt{p:Array Nat}(h:Pm n p){i:Nat}(hi:i<n):p.getD i 0<n:=by
 have hs:i<p.size:=by rw[h.sz];exact hi
 have e:p.getD i 0=p[i]:=by simp[Array.getD,hs]
 rw[e]
 have:=(Array.perm_iff_toList_perm.mp h.pm).mem_iff (a:=p[i])
 simpa using this.mp (by simp)
def kk(k:Nat→O.α)(p:Array Nat)(i:Nat):O.α:=k (p.getD i 0)
end
end L2
namespace L2
open PySem PySem.Spec PySem.W PyProof.Rows
def aic(s:Str):List Int:=s.cps.toList.map Int.ofNat++[-1]
def Kin(c d:List Int):Prop:=∀r r':List Int,HT.lexLt (c++r) (d++r')=if c=d then HT.lexLt r r' else HT.lexLt c d
theorem JD:∀{c d:List Int},c.length=d.length→Kin c d
 | [],[],_=>fun r r'=>by rw[if_pos rfl];rfl
 | [],_::_,h=>by cases h
 | _::_,[],h=>by cases h
 | x::c,y::d,h=>fun r r'=>by
  have ih:=JD (c:=c) (d:=d) (by simpa using h) r r'
  rw[List.cons_append,List.cons_append,HT.e_,HT.e_]
  by_cases e:x=y
  ·subst e
   rw[if_pos rfl,if_pos rfl,ih]
   by_cases q:c=d
   ·rw[if_pos q,if_pos (by rw[q])]
   ·rw[if_neg q,if_neg (fun z=>q (by injection z))]
  ·rw[if_neg e,if_neg e,if_neg (fun z=>e (by injection z))]
theorem W3:∀(a b:List Nat),Kin (a.map Int.ofNat++[-1]) (b.map Int.ofNat++[-1])∧HT.lexLt (a.map Int.ofNat++[-1]) (b.map Int.ofNat++[-1])=decide (a<b)∧(a.map Int.ofNat++[-1]=b.map Int.ofNat++[-1]→a=b)
 | [],[]=>⟨JD rfl,by simp[HT.lexLt],fun _=>rfl⟩
 | [],y::b=>by
  have e:(-1:Int)≠Int.ofNat y:=by simp
  have l:(-1:Int)<Int.ofNat y:=by simp;omega
  refine⟨fun r r'=> ?_,?_,fun h=> ?_⟩
  ·simp only[List.map_nil,List.nil_append,List.map_cons,List.cons_append]
   rw[HT.e_,HT.e_,if_neg e,if_neg e,if_neg (fun z=>e (by injection z))]
  ·simp only[List.map_nil,List.nil_append,List.map_cons,List.cons_append]
   rw[HT.e_,if_neg e,decide_eq_true l]
   simp
  ·simp only[List.map_nil,List.nil_append,List.map_cons,List.cons_append]at h
   exact absurd (by injection h) e
 | x::a,[]=>by
  have e:Int.ofNat x≠(-1:Int):=by simp
  have l:¬Int.ofNat x<(-1:Int):=by simp
  refine⟨fun r r'=> ?_,?_,fun h=> ?_⟩
  ·simp only[List.map_nil,List.nil_append,List.map_cons,List.cons_append]
   rw[HT.e_,HT.e_,if_neg e,if_neg e,if_neg (fun z=>e (by injection z))]
  ·simp only[List.map_nil,List.nil_append,List.map_cons,List.cons_append]
   rw[HT.e_,if_neg e,decide_eq_false l]
   simp
  ·simp only[List.map_nil,List.nil_append,List.map_cons,List.cons_append]at h
   exact absurd (by injection h) e
 | x::a,y::b=>by
  obtain⟨k,l,i⟩:=W3 a b
  by_cases e:x=y
  ·subst e
   refine⟨fun r r'=> ?_,?_,fun h=> ?_⟩
   ·simp only[List.map_cons,List.cons_append]
    rw[HT.e_,HT.e_,if_pos rfl,if_pos rfl,k]
    by_cases q:a.map Int.ofNat++[-1]=b.map Int.ofNat++[-1]
    ·rw[if_pos q,if_pos (by rw[q])]
    ·rw[if_neg q,if_neg (fun z=>q (by injection z))]
   ·simp only[List.map_cons,List.cons_append]
    rw[HT.e_,if_pos rfl,l]
    simp
   ·simp only[List.map_cons,List.cons_append]at h
    rw[i (by injection h)]
  ·have e':Int.ofNat x≠Int.ofNat y:=fun z=>e (Int.ofNat.inj z)
   refine⟨fun r r'=> ?_,?_,fun h=> ?_⟩
   ·simp only[List.map_cons,List.cons_append]
    rw[HT.e_,HT.e_,if_neg e',if_neg e',if_neg (fun z=>e' (by injection z))]
   ·simp only[List.map_cons,List.cons_append]
    rw[HT.e_,if_neg e']
    have:(Int.ofNat x<Int.ofNat y)↔x<y:=by simp
    simp[List.cons_lt_cons_iff,e]
   ·simp only[List.map_cons,List.cons_append]at h
    exact absurd (by injection h) e'
inductive Part (K:Frag) (H:Hp):V→List Int→Nat→Prop
 | int (i:Int):Part K H (.int i) [i] 0
 | str (x:Str):Part K H (.str x) (aic x) 1
 | tup {a:Addr} {ns:List Int}:H a=some (.tup (ns.map V.int))→Part K H (.ref a) ns (ns.length+2)
theorem Part.kin{K:Frag}{H:Hp}{x y:V}{c d:List Int}{k:Nat}(h:Part K H x c k)(h':Part K H y d k):Kin c d:=by
 cases h with
 | int i=>cases h' with
  | int j=>exact JD rfl
 | str a=>cases h' with
  | str b=>exact(W3 _ _).1
 | tup e=>
  generalize hk:_+2=k' at h'
  cases h' with
  | int j=>omega
  | str b=>omega
  | tup e'=>exact JD (by omega)
section
variable{X:Cx}{pins:List (Addr×Obj)}{σ:St}{H:Hp}{s:Shared}{A:Around}{E:Value→Shared→Prop}
inductive Parts (K:Frag) (H:Hp):List V→List Int→List Nat→Prop
 | nil:Parts K H [] [] []
 | cons {x:V} {xs:List V} {c cs:List Int} {k:Nat} {ks:List Nat}:Part K H x c k→Parts K H xs cs ks→Parts K H (x::xs) (c++cs) (k::ks)
end
inductive ad9 (K:Frag) (H:Hp):List V→List (List Int)→Prop
 | flat {ys:List V} {cs:List (List Int)} (k:Nat) (hk:k<2) (hl:cs.length=ys.length) (h:∀(i:Nat) (y:V) (c:List Int),ys[i]? = some y→cs[i]? = some c→Part K H y c k):ad9 K H ys cs
 | rows {ys:List V} {cs:List (List Int)} (k:Nat) (ks:List Nat) (hl:cs.length=ys.length) (h:∀(i:Nat) (y:V) (c:List Int),ys[i]? = some y→cs[i]? = some c→∃a xs,y=V.ref a∧H a=some (.tup xs)∧Parts K H xs c (k::ks)):ad9 K H ys cs
theorem ad9.len{K:Frag}{H:Hp}{ys:List V}{cs:List (List Int)}(h:ad9 K H ys cs):cs.length=ys.length:=by cases h<;>assumption
section
variable{X:Cx}{pins:List (Addr×Obj)}{σ:St}{H:Hp}{s:Shared}{A:Around}{E:Value→Shared→Prop}
structure Order(n:Nat)(cs:List (List Int))(q:List Nat):Prop where
 pm:q.Perm (List.range n)
 up:∀i j,i≤j→j<n→HT.lexLt (cs.getD (q.getD j 0) []) (cs.getD (q.getD i 0) [])=false
end
end L2
namespace L2
open PySem PySem.Spec PySem.W PySem.Calls PyProof.Rows
def ahE(h:Heap)(d:Addr)(es:Array DictEntry)(ep:Nat):Prop:=∃o,h.get? d=some o∧o.ExactDict∧o.data= .dict es ep
theorem ahE.keep{h h':Heap}{d:Addr}{es:Array DictEntry}{ep:Nat}(x:ahE h d es ep)(k:∀o,h.get? d=some o→h'.get? d=some o):ahE h' d es ep:=
 let⟨o,a,b⟩:=x;⟨o,k o a,b⟩
def itO(f0 f1:Value)(d:Addr)(i n ep:Nat)(ok ov:Value):Obj:=
 {cls:= .type "dict_itemiterator",dict:=none,data:= .fields #[f0,f1,.ref d,.int i 0,.int n 0,.int ep 0,ok,ov],slots:= #[]}
def ahD(h:Heap)(it d S:Addr)(i n ep:Nat):Prop:=∃f0 f1 ok ov,h.get? it=some (itO f0 f1 d i n ep ok ov)∧(f0= .none∨∃(a:Addr) (b:Bool) (oa:Obj),f0=rawInt a∧f1= .bool b∧h.get? a=some oa∧a≠it∧a≠S)
theorem ahD.keep{h h':Heap}{it d S:Addr}{i n ep:Nat}(x:ahD h it d S i n ep)(k:∀b o,b≠S→h.get? b=some o→h'.get? b=some o)(hS:it≠S):ahD h' it d S i n ep:=by
 obtain⟨f0,f1,ok,ov,e,z⟩:=x
 exact⟨f0,f1,ok,ov,k _ _ hS e,z.imp id fun⟨a,b,oa,q1,q2,q3,q4,q5⟩=>⟨a,b,oa,q1,q2,k _ _ q5 q3,q4,q5⟩⟩
section
variable{X:Cx}{pins:List (Addr×Obj)}{σ:St}{H:Hp}{s:Shared}{A:Around}{E:Value→Shared→Prop}
theorem Order.lt{n:Nat}{cs:List (List Int)}{q:List Nat}(h:Order n cs q):∀i∈q,i<n:=fun i hi=>by
 have:=(h.pm.mem_iff (a:=i)).mp hi
 simpa using this
theorem Parts.keep{K:Frag}{H H':Hp}(k:∀a xs,H a=some (.tup xs)→H' a=some (.tup xs)):∀{xs:List V} {c:List Int} {ks:List Nat},Parts K H xs c ks→Parts K H' xs c ks
 | _,_,_,.nil=> .nil
 | _,_,_,.cons p ps=> .cons (by
   cases p with
   | int i=>exact .int i
   | str x=>exact .str x
   | tup e=>exact .tup (k _ _ e)) (ps.keep k)
end
end L2
namespace S
open PySem PySem.Spec PyProof.Rows L2
inductive D where
 | non | bl (b:Bool) | int (i:Int) | str (x:Str) | tup (ds:List D) | ref (n:Nat) | cl (ds:List D) | ty (n:String) | cls (c:Nat) | exc (c:Nat) (d:D)
inductive MO where
 | lst (ds:List D) | ins (c:Nat) (fs:List (Str×D)) | dk (kvs:List (Key×D)) | dt (kvs:List (List Key×D))
abbrev St:=L2.St
abbrev Mem:=List MO
abbrev Sl:=List (Option D)
inductive Out (α:Type) where
 | ok (a:α) (M:Mem)
 | exc (c:Nat) (d:D) (M:Mem)
 | bad
def Out.bind{α β:Type}(o:Out α)(f:α→Mem→Out β):Out β:=match o with
 | .ok a M=>f a M
 | .exc c d M=> .exc c d M
 | .bad=> .bad
@[simp] theorem Out.qi{α β:Type}(c:Nat)(d:D)(M:Mem)(f:α→Mem→Out β):(Out.exc c d M:Out α).bind f= .exc c d M:=id rfl
@[simp] theorem Out.nH{α β:Type}(a:α)(M:Mem)(f:α→Mem→Out β):(Out.ok a M).bind f=f a M:=id rfl
@[simp] theorem Out.sE{α β:Type}(f:α→Mem→Out β):(Out.bad:Out α).bind f= .bad:=id rfl
def FrL(K:Frag)(H:Hp)(a:Addr)(xs:List V):Prop:=(∃o,H a=some (.Dr o (.lst xs)))∨
 ∃(o:Obj) (its:Array Value) (n:Nat),K.lookup a=some o∧o.cls= .type "list" ∧ o.dict=none∧o.data= .seq its n∧its.size≤sizeLine∧Vals xs its.toList
theorem FrL.sq{K:Frag}{H:Hp}{a:Addr}{xs:List V}(h:FrL K H a xs):yV K H a xs:=h.elim (fun z=> .inl (.inr z)) .inr
mutual
inductive DV (K:Frag) (ct ι:Nat→Addr) (n:Nat) (H:Hp):D→V→Prop
 | non:DV K ct ι n H .non .non
 | bl (b:Bool):DV K ct ι n H (.bl b) (.bl b)
 | int (i:Int):DV K ct ι n H (.int i) (.int i)
 | str (x:Str):DV K ct ι n H (.str x) (.str x)
 | tup {a:Addr} {xs:List V} {ds:List D}:H a=some (.tup xs)→sH K ct ι n H ds xs→DV K ct ι n H (.tup ds) (.ref a)
 | ref {i:Nat}:i<n→DV K ct ι n H (.ref i) (.ref (ι i))
 | cl {a:Addr} {xs:List V} {ds:List D}:FrL K H a xs→sH K ct ι n H ds xs→DV K ct ι n H (.cl ds) (.ref a)
 | ty (s:String):DV K ct ι n H (.ty s) (.ty s)
 | cls (c:Nat):DV K ct ι n H (.cls c) (.ref (ct c))
 | exc {a dx:Addr} {c:Nat} {d:D} {v:V}:H a=some (xC a (ct c) dx)→H dx=some (.xd [("at",v)])→DV K ct ι n H d v→DV K ct ι n H (.exc c d) (.ref a)
inductive sH (K:Frag) (ct ι:Nat→Addr) (n:Nat) (H:Hp):List D→List V→Prop
 | nil:sH K ct ι n H [] []
 | cons {d:D} {x:V} {ds:List D} {xs:List V}:DV K ct ι n H d x→sH K ct ι n H ds xs→sH K ct ι n H (d::ds) (x::xs)
end
structure Ext(K:Frag)(ι:Nat→Addr)(n:Nat)(H:Hp)(ι':Nat→Addr)(n':Nat)(H':Hp):Prop where
 tup:∀a xs,H a=some (.tup xs)→H' a=some (.tup xs)
 Dr:∀a xs,FrL K H a xs→FrL K H' a xs
 ex:∀a φ,H a=some (.ext φ)→H' a=some (.ext φ)
 xd:∀a fs,H a=some (.xd fs)→H' a=some (.xd fs)
 le:n≤n'
 same:∀i,i<n→ι' i=ι i
theorem Ext.refl{K:Frag}{ι:Nat→Addr}{n:Nat}{H:Hp}:Ext K ι n H ι n H:=⟨fun _ _ h=>h,fun _ _ h=>h,fun _ _ h=>h,fun _ _ h=>h,Nat.le_refl _,fun _ _=>rfl⟩
theorem Ext.trans{K:Frag}{ι i_ rz:Nat→Addr}{n n1 n2:Nat}{H H1 H2:Hp}(a:Ext K ι n H i_ n1 H1)(b:Ext K i_ n1 H1 rz n2 H2):Ext K ι n H rz n2 H2:=
 ⟨fun x xs h=>b.tup x xs (a.tup x xs h),fun x xs h=>b.Dr x xs (a.Dr x xs h),fun x xs h=>b.ex x xs (a.ex x xs h),fun x xs h=>b.xd x xs (a.xd x xs h),Nat.le_trans a.le b.le,fun i hi=>(b.same i (Nat.lt_of_lt_of_le hi a.le)).trans (a.same i hi)⟩
mutual
theorem DV.mono{K:Frag}{ct ι ι':Nat→Addr}{n n':Nat}{H H':Hp}(e:Ext K ι n H ι' n' H'):∀{d:D} {v:V},DV K ct ι n H d v→DV K ct ι' n' H' d v
 | _,_,.non=> .non
 | _,_,.bl b=> .bl b
 | _,_,.int i=> .int i
 | _,_,.str x=> .str x
 | _,_,.tup h hs=> .tup (e.tup _ _ h) (sH.mono e hs)
 | _,_,.ref (i:=i) h=>by rw[←e.same i h];exact .ref (Nat.lt_of_lt_of_le h e.le)
 | _,_,.cl h hs=> .cl (e.Dr _ _ h) (sH.mono e hs)
 | _,_,.ty s=> .ty s
 | _,_,.cls c=> .cls c
 | _,_,.exc h1 h2 h3=> .exc (e.ex _ _ h1) (e.xd _ _ h2) (DV.mono e h3)
theorem sH.mono{K:Frag}{ct ι ι':Nat→Addr}{n n':Nat}{H H':Hp}(e:Ext K ι n H ι' n' H'):∀{ds:List D} {vs:List V},sH K ct ι n H ds vs→sH K ct ι' n' H' ds vs
 | _,_,.nil=> .nil
 | _,_,.cons h hs=> .cons (DV.mono e h) (sH.mono e hs)
end
section
variable{K:Frag}{ct ι:Nat→Addr}{n:Nat}{H:Hp}
theorem sH.length:∀{ds:List D} {vs:List V},sH K ct ι n H ds vs→vs.length=ds.length
 | _,_,.nil=>rfl
 | _,_,.cons _ h=>congrArg (· + 1) h.length
theorem sH.at:∀{ds:List D} {vs:List V} {i:Nat} {d:D},sH K ct ι n H ds vs→ds[i]? = some d→∃v,vs[i]? = some v∧DV K ct ι n H d v
 | _,_,_,_,.nil,e=>by simp at e
 | _,_,0,_,.cons h _,e=>by simp at e;subst e;exact⟨_,rfl,h⟩
 | _,_,i+1,_,.cons _ hs,e=>by simpa using hs.at (i:=i) (by simpa using e)
theorem sH.append:∀{ds es:List D} {vs ws:List V},sH K ct ι n H ds vs→sH K ct ι n H es ws→sH K ct ι n H (ds++es) (vs++ws)
 | _,_,_,_,.nil,h=>h
 | _,_,_,_,.cons h hs,h'=> .cons h (hs.append h')
theorem sH.take:∀{ds:List D} {vs:List V} (k:Nat),sH K ct ι n H ds vs→sH K ct ι n H (ds.take k) (vs.take k)
 | _,_,0,_=>by simp;exact .nil
 | _,_,_+1,.nil=>by simp;exact .nil
 | _,_,k+1,.cons h hs=>by simp;exact .cons h (hs.take k)
theorem sH.drop:∀{ds:List D} {vs:List V} (k:Nat),sH K ct ι n H ds vs→sH K ct ι n H (ds.drop k) (vs.drop k)
 | _,_,0,h=>by simpa using h
 | _,_,_+1,.nil=>by simp;exact .nil
 | _,_,k+1,.cons _ hs=>by simp;exact hs.drop k
end
inductive Ua (K:Frag) (ct ι:Nat→Addr) (n:Nat) (H:Hp):List (Str×D)→List (Str×V)→Prop
 | nil:Ua K ct ι n H [] []
 | cons {x:Str} {d:D} {v:V} {fs:List (Str×D)} {vs:List (Str×V)}:DV K ct ι n H d v→Ua K ct ι n H fs vs→Ua K ct ι n H ((x,d)::fs) ((x,v)::vs)
theorem Ua.mono{K:Frag}{ct ι ι':Nat→Addr}{n n':Nat}{H H':Hp}(e:Ext K ι n H ι' n' H'):∀{fs:List (Str×D)} {vs:List (Str×V)},Ua K ct ι n H fs vs→Ua K ct ι' n' H' fs vs
 | _,_,.nil=> .nil
 | _,_,.cons h hs=> .cons (h.mono e) (hs.mono e)
def putD(f:Str)(d:D):List (Str×D)→List (Str×D)
 | []=>[(f,d)]
 | (x,e)::r=>if x=f then(x,d)::r else(x,e)::putD f d r
section
variable{K:Frag}{ct ι:Nat→Addr}{n:Nat}{H:Hp}
theorem Ua.length:∀{fs:List (Str×D)} {vs:List (Str×V)},Ua K ct ι n H fs vs→vs.length=fs.length
 | _,_,.nil=>rfl
 | _,_,.cons _ h=>congrArg (· + 1) h.length
theorem Ua.look{x:Str}:∀{fs:List (Str×D)} {vs:List (Str×V)} {d:D},Ua K ct ι n H fs vs→fs.lookup x=some d→∃v,vs.lookup x=some v∧DV K ct ι n H d v
 | _,_,_,.nil,e=>by simp at e
 | _,_,d,.cons (x:=y) h hs,e=>by
  rw[List.lookup_cons]at e ⊢
  cases z:x==y with
  | true=>rw[z]at e;exact⟨_,rfl,by cases e;exact h⟩
  | false=>rw[z]at e;exact hs.look e
theorem Ua.aet{x:Str}:∀{fs:List (Str×D)} {vs:List (Str×V)},Ua K ct ι n H fs vs→fs.lookup x=none→vs.lookup x=none
 | _,_,.nil,_=>rfl
 | _,_,.cons (x:=y) h hs,e=>by
  rw[List.lookup_cons]at e ⊢
  cases z:x==y with
  | true=>rw[z]at e;cases e
  | false=>rw[z]at e;exact hs.aet e
end
inductive Lj (K:Frag) (ct ι:Nat→Addr) (n:Nat) (H:Hp) {κ:Type}:List (κ×D)→List (κ×V)→Prop
 | nil:Lj K ct ι n H [] []
 | cons {x:κ} {d:D} {v:V} {fs:List (κ×D)} {vs:List (κ×V)}:DV K ct ι n H d v→Lj K ct ι n H fs vs→Lj K ct ι n H ((x,d)::fs) ((x,v)::vs)
theorem Lj.mono{K:Frag}{ct ι ι':Nat→Addr}{n n':Nat}{H H':Hp}(e:Ext K ι n H ι' n' H'){κ:Type}:∀{fs:List (κ×D)} {vs:List (κ×V)},Lj K ct ι n H fs vs→Lj K ct ι' n' H' fs vs
 | _,_,.nil=> .nil
 | _,_,.cons h hs=> .cons (h.mono e) (hs.mono e)
theorem Lj.length{K:Frag}{ct ι:Nat→Addr}{n:Nat}{H:Hp}{κ:Type}:∀{fs:List (κ×D)} {vs:List (κ×V)},Lj K ct ι n H fs vs→vs.length=fs.length
 | _,_,.nil=>rfl
 | _,_,.cons _ h=>congrArg (· + 1) h.length
def OR(K:Frag)(ct ι:Nat→Addr)(n:Nat)(H:Hp)(a:Addr):MO→Prop
 | .lst ds=>∃vs,H a=some (.lst vs)∧sH K ct ι n H ds vs
 | .ins c fs=>∃dx vs,H a=some (.ins (ct c) dx vs)∧Ua K ct ι n H fs vs
 | .dk kvs=>∃vs,H a=some (.dK vs)∧Lj K ct ι n H kvs vs
 | .dt kvs=>∃vs,H a=some (.dT vs)∧Lj K ct ι n H kvs vs
structure Rl(K:Frag)(ct ι:Nat→Addr)(M:Mem)(H:Hp):Prop where
 inj:∀i j,i<M.length→j<M.length→ι i=ι j→i=j
 obj:∀(i:Nat) (o:MO),M[i]? = some o→OR K ct ι M.length H (ι i) o
structure Ws(K:Frag)(ct ι:Nat→Addr)(e:Sl)(M:Mem)(σ:St)(H:Hp):Prop where
 rl:Rl K ct ι M H
 len:σ.length=e.length
 env:∀(i:Nat) (d:D),e[i]? = some (some d)→∃v,σ[i]? = some (some v)∧DV K ct ι M.length H d v
section
variable{K:Frag}{ct ι:Nat→Addr}{M:Mem}{H:Hp}
theorem OR.some{a:Addr}{n:Nat}{o:MO}(h:OR K ct ι n H a o):∃u,H a=some u:=by
 cases o with
 | lst ds=>obtain⟨vs,e,_⟩:=h;exact⟨_,e⟩
 | ins c fs=>obtain⟨dx,vs,e,_⟩:=h;exact⟨_,e⟩
 | dk kvs=>obtain⟨vs,e,_⟩:=h;exact⟨_,e⟩
 | dt kvs=>obtain⟨vs,e,_⟩:=h;exact⟨_,e⟩
theorem Qt{p:Addr}{o:HO}(hp:∀b u,H p≠some (.Dr b u)){a:Addr}{xs:List V}(h:FrL K H a xs):FrL K (upd H p o) a xs:=by
 rcases h with⟨b,h⟩ | h
 ·have ne:a≠p:=fun e=>by subst e;exact hp _ _ h
  exact .inl ⟨b,by rw[bG ne];exact h⟩
 ·exact .inr h
theorem aaW{p:Addr}(hp:H p=none):∀b u,H p≠some (.Dr b u):=fun b u h=>by rw[hp]at h;cases h
theorem OR.keep{ι':Nat→Addr}{n n':Nat}{H':Hp}{a a':Addr}{o:MO}(e:Ext K ι n H ι' n' H')(ea:a'=a)(hh:H' a=H a)(h:OR K ct ι n H a o):OR K ct ι' n' H' a' o:=by
 subst ea
 cases o with
 | lst ds=>obtain⟨vs,q,r⟩:=h;exact⟨vs,by rw[hh];exact q,r.mono e⟩
 | ins c fs=>obtain⟨dx,vs,q,r⟩:=h;exact⟨dx,vs,by rw[hh];exact q,r.mono e⟩
 | dk kvs=>obtain⟨vs,q,r⟩:=h;exact⟨vs,by rw[hh];exact q,r.mono e⟩
 | dt kvs=>obtain⟨vs,q,r⟩:=h;exact⟨vs,by rw[hh];exact q,r.mono e⟩
def ym(ι:Nat→Addr)(n:Nat)(p:Addr):Nat→Addr:=fun i=>if i=n then p else ι i
theorem yL{p a:Addr}{o u:HO}(hp:H p=none)(h:H a=some u):upd H p o a=some u:=by rw[bG (dW h hp)];exact h
theorem Ext.fresh{n:Nat}{p:Addr}{o:HO}(hp:H p=none):Ext K ι n H ι n (upd H p o):=⟨fun _ _ h=>yL hp h,fun _ _ h=>Qt (aaW hp) h,fun _ _ h=>yL hp h,fun _ _ h=>yL hp h,Nat.le_refl _,fun _ _=>rfl⟩
theorem Rl.lt(R:Rl K ct ι M H){i:Nat}{o:MO}(h:M[i]? = some o):∃u,H (ι i)=some u:=(R.obj i o h).some
theorem Rl.fresh(R:Rl K ct ι M H){p:Addr}{o:HO}(hp:H p=none):Rl K ct ι M (upd H p o):=by
 refine⟨R.inj,fun i x h=> ?_⟩
 obtain⟨u,hu⟩:=R.lt h
 exact(R.obj i x h).keep (Ext.fresh hp) rfl (bG (dW hu hp))
theorem Ext.new{p:Addr}{o:HO}(hp:H p=none):Ext K ι M.length H (ym ι M.length p) (M.length+1) (upd H p o):=
 ⟨fun _ _ h=>yL hp h,fun _ _ h=>Qt (aaW hp) h,fun _ _ h=>yL hp h,fun _ _ h=>yL hp h,Nat.le_succ _,fun i hi=>by unfold ym;rw[if_neg (Nat.ne_of_lt hi)]⟩
theorem Rl.new(R:Rl K ct ι M H){p:Addr}{o:HO}{x:MO}(hp:H p=none)(h:OR K ct (ym ι M.length p) (M.length+1) (upd H p o) p x):Rl K ct (ym ι M.length p) (M++[x]) (upd H p o):=by
 have ne:∀i,i<M.length→ι i≠p:=fun i hi=>by
  obtain⟨u,hu⟩:=R.lt (List.getElem?_eq_getElem hi)
  exact dW hu hp
 have el:(M++[x]).length=M.length+1:=by simp
 refine⟨fun i j hi hj e=> ?_,fun i y hy=> ?_⟩
 ·rw[el]at hi hj
  unfold ym at e
  by_cases a:i=M.length
  ·by_cases b:j=M.length
   ·rw[a,b]
   ·rw[if_pos a,if_neg b]at e
    exact absurd e.symm (ne j (by omega))
  ·by_cases b:j=M.length
   ·rw[if_neg a,if_pos b]at e
    exact absurd e (ne i (by omega))
   ·rw[if_neg a,if_neg b]at e
    exact R.inj i j (by omega) (by omega) e
 ·rw[el]
  by_cases a:i<M.length
  ·rw[List.getElem?_append_left a]at hy
   obtain⟨u,hu⟩:=R.lt hy
   refine(R.obj i y hy).keep (Ext.new hp) ?_ (bG (dW hu hp))
   unfold ym
   rw[if_neg (Nat.ne_of_lt a)]
  ·have hi:i<(M++[x]).length:=(List.getElem?_eq_some_iff.mp hy).1
   have e:i=M.length:=by rw[el]at hi;omega
   subst e
   rw[List.getElem?_append_right (Nat.le_refl _)]at hy
   simp at hy
   subst hy
   have:ym ι M.length p M.length=p:=by unfold ym;rw[if_pos rfl]
   rw[this]
   exact h
theorem Ext.chg{n:Nat}{a:Addr}{o u:HO}(h:H a=some u)(hu:∀xs,u≠ .tup xs)(hz:∀b x,u≠ .Dr b x)(hx:∀φ,u≠ .ext φ:=by exact fun _ z=>nomatch z)(hd:∀fs,u≠ .xd fs:=by exact fun _ z=>nomatch z):Ext K ι n H ι n (upd H a o):=
 ⟨fun b xs q=>by
  rw[bG (fun e=>by subst e;rw[h]at q;exact hu xs (Option.some.inj q))];exact q,fun _ _ q=>Qt (fun b x r=>by rw[h]at r;exact hz b x (Option.some.inj r)) q,fun b φ q=>by
  rw[bG (fun e=>by subst e;rw[h]at q;exact hx φ (Option.some.inj q))];exact q,fun b fs q=>by
  rw[bG (fun e=>by subst e;rw[h]at q;exact hd fs (Option.some.inj q))];exact q,Nat.le_refl _,fun _ _=>rfl⟩
theorem Rl.chg(R:Rl K ct ι M H){i:Nat}{o u:HO}{x:MO}(hi:i<M.length)(h:H (ι i)=some u)(hu:∀xs,u≠ .tup xs)(hz:∀b x,u≠ .Dr b x)(hx:OR K ct ι M.length (upd H (ι i) o) (ι i) x)(hex:∀φ,u≠ .ext φ:=by exact fun _ z=>nomatch z)(hxd:∀fs,u≠ .xd fs:=by exact fun _ z=>nomatch z):Rl K ct ι (M.set i x) (upd H (ι i) o):=by
 refine⟨fun j k hj hk e=>R.inj j k (by simpa using hj) (by simpa using hk) e,fun j y hy=> ?_⟩
 rw[List.length_set]
 by_cases e:i=j
 ·subst e
  rw[List.getElem?_set_self hi]at hy
  cases hy
  exact hx
 ·rw[List.getElem?_set_ne e]at hy
  have hj:j<M.length:=(List.getElem?_eq_some_iff.mp hy).1
  exact(R.obj j y hy).keep (Ext.chg h hu hz hex hxd) rfl (bG fun z=>e (R.inj i j hi hj z.symm))
theorem Ws.ext{ι':Nat→Addr}{e:Sl}{M':Mem}{σ:St}{H':Hp}(w:Ws K ct ι e M σ H)(x:Ext K ι M.length H ι' M'.length H')(r:Rl K ct ι' M' H'):Ws K ct ι' e M' σ H':=
 ⟨r,w.len,fun i d h=>let⟨v,a,b⟩:=w.env i d h;⟨v,a,b.mono x⟩⟩
theorem Ws.set{e:Sl}{σ:St}{d:D}{v:V}(w:Ws K ct ι e M σ H)(i:Nat)(h:DV K ct ι M.length H d v):Ws K ct ι (e.set i (some d)) M (σ.set i (some v)) H:=by
 refine⟨w.rl,by simp[w.len],fun j d' hj=> ?_⟩
 by_cases z:i=j
 ·subst z
  have hi:i<e.length:=by have:=(List.getElem?_eq_some_iff.mp hj).1;simpa using this
  rw[List.getElem?_set_self hi]at hj
  cases hj
  exact⟨v,List.getElem?_set_self (by rw[w.len];exact hi),h⟩
 ·rw[List.getElem?_set_ne z]at hj
  obtain⟨v',a,b⟩:=w.env j d' hj
  exact⟨v',by rw[List.getElem?_set_ne z];exact a,b⟩
end
theorem Ws.clear{K:Frag}{ct ι:Nat→Addr}{M:Mem}{H:Hp}{e:Sl}{σ:St}(w:Ws K ct ι e M σ H)(i:Nat):Ws K ct ι (e.set i none) M (σ.set i none) H:=by
 refine⟨w.rl,by simp[w.len],fun j d' hj=> ?_⟩
 by_cases z:i=j
 ·subst z
  have hi:i<e.length:=by have:=(List.getElem?_eq_some_iff.mp hj).1;simpa using this
  rw[List.getElem?_set_self hi]at hj
  cases hj
 ·rw[List.getElem?_set_ne z]at hj
  obtain⟨v',a,b⟩:=w.env j d' hj
  exact⟨v',by rw[List.getElem?_set_ne z];exact a,b⟩
abbrev XW:=Addr→Addr→Hp→Prop
def wAt(W:bK)(σ:St):XW:=fun C dx H=>W C dx σ H
def W0:bK:=fun _ _ _ _=>False
def nJ{α β:Type}(rel:(Nat→Addr)→Mem→Hp→α→β→Prop)(K:Frag)(ct:Nat→Addr)(w:XW)(ι:Nat→Addr)(n:Nat)(H:Hp)(o:Out α)(Q:β→Hp→Prop):Prop:=match o with
 | .ok a M'=>∀ι' b H',Ext K ι n H ι' M'.length H'→Rl K ct ι' M' H'→rel ι' M' H' a b→Q b H'
 | .exc c d M'=>∀ι' dx v H',Ext K ι n H ι' M'.length H'→Rl K ct ι' M' H'→H' dx=some (.xd [("at",v)])→DV K ct ι' M'.length H' d v→w (ct c) dx H'
 | .bad=>False
def tG{α β:Type}(rel:(Nat→Addr)→Mem→Hp→α→β→Prop)(K:Frag)(ct:Nat→Addr)(W:bK)(m:Sl→Mem→Out α)(σ:St)(H:Hp)(Q:β→Hp→Prop):Prop:=
 ∃ι e M,Ws K ct ι e M σ H∧nJ rel K ct (wAt W σ) ι M.length H (m e M) Q
abbrev jb(K:Frag)(ct:Nat→Addr):(Nat→Addr)→Mem→Hp→D→V→Prop:=fun ι M H d v=>DV K ct ι M.length H d v
abbrev Jf(K:Frag)(ct:Nat→Addr):(Nat→Addr)→Mem→Hp→List D→List V→Prop:=fun ι M H d v=>sH K ct ι M.length H d v
abbrev Kh:(Nat→Addr)→Mem→Hp→Bool→Bool→Prop:=fun _ _ _ a b=>a=b
abbrev ME:=Sl→Mem→Out D
abbrev MT:=Sl→Mem→Out Bool
abbrev MA:=Sl→Mem→Out (List D)
def SE(X:Cx)(ct:Nat→Addr)(W:bK)(e:Expr)(m:ME):Prop:=PE X e (tG (jb X.K ct) X.K ct W m)
def STt(X:Cx)(ct:Nat→Addr)(W:bK)(e:Expr)(m:MT):Prop:=PT X e (tG Kh X.K ct W m)
def SW(X:Cx)(ct:Nat→Addr)(W:bK)(e:Expr)(m:MT):Prop:=PW X e (tG Kh X.K ct W m)
def SA(X:Cx)(ct:Nat→Addr)(W:bK)(es:List Expr)(m:MA):Prop:=PA X es (tG (Jf X.K ct) X.K ct W m)
theorem SW.pt{X:Cx}{ct:Nat→Addr}{W:bK}{e:Expr}{m:MT}(h:SW X ct W e m):STt X ct W e m:=PW.pt h
section
variable{X:Cx}{ct:Nat→Addr}
theorem PE.imp{e:Expr}{t t':TE}(h:PE X e t)(hi:∀σ H Q,t' σ H Q→t σ H Q):PE X e t':=fun pins s σ H Q I q=>h pins s σ H Q I (hi σ H Q q)
theorem PT.imp{e:Expr}{t t':TT}(h:PT X e t)(hi:∀σ H Q,t' σ H Q→t σ H Q):PT X e t':=fun pins s σ H Q I q=>h pins s σ H Q I (hi σ H Q q)
theorem PW.imp{e:Expr}{t t':TT}(h:PW X e t)(hi:∀σ H Q,t' σ H Q→t σ H Q):PW X e t':=fun wh pins s σ H Q I q=>h wh pins s σ H Q I (hi σ H Q q)
theorem PA.imp{es:List Expr}{t t':TA}(h:PA X es t)(hi:∀σ H Q,t' σ H Q→t σ H Q):PA X es t':=fun pos pins s σ H Q I q=>h pos pins s σ H Q I (hi σ H Q q)
end
theorem nJ.ext{α β:Type}{rel:(Nat→Addr)→Mem→Hp→α→β→Prop}{K:Frag}{ct ι ι':Nat→Addr}{w:XW}{n n':Nat}{H H':Hp}{o:Out α}{Q:β→Hp→Prop}(h:nJ rel K ct w ι n H o Q)(x:Ext K ι n H ι' n' H'):nJ rel K ct w ι' n' H' o Q:=by
 cases o with
 | ok a M=>exact fun rz b H2 x2 r q=>h rz b H2 (x.trans x2) r q
 | exc c d M=>exact fun rz dx v H2 x2 r q1 q2=>h rz dx v H2 (x.trans x2) r q1 q2
 | bad=>exact h
theorem nJ.mono{α β:Type}{rel:(Nat→Addr)→Mem→Hp→α→β→Prop}{K:Frag}{ct ι:Nat→Addr}{w:XW}{n:Nat}{H:Hp}{o:Out α}{Q Q':β→Hp→Prop}(h:nJ rel K ct w ι n H o Q)(x:∀b H,Q b H→Q' b H):nJ rel K ct w ι n H o Q':=by
 cases o with
 | ok a M=>exact fun rz b H2 x2 r q=>x b H2 (h rz b H2 x2 r q)
 | exc c d M=>exact h
 | bad=>exact h
def ar_{α β γ δ:Type}(jq:(Nat→Addr)→Mem→Hp→α→β→Prop)(Wv:(Nat→Addr)→Mem→Hp→γ→δ→Prop)(K:Frag)(ct:Nat→Addr)(W:bK)(f:α→Sl→Mem→Out γ)(σ:St)(Q:δ→Hp→Prop)(b:β)(H1:Hp):Prop:=
 ∃ι e M a,Ws K ct ι e M σ H1∧jq ι M H1 a b∧nJ Wv K ct (wAt W σ) ι M.length H1 (f a e M) Q
theorem dY{α β γ δ:Type}{jq:(Nat→Addr)→Mem→Hp→α→β→Prop}{Wv:(Nat→Addr)→Mem→Hp→γ→δ→Prop}{K:Frag}{ct:Nat→Addr}{W:bK}{ma:Sl→Mem→Out α}{f:α→Sl→Mem→Out γ}{σ:St}{H:Hp}{Q:δ→Hp→Prop}
  (h:tG Wv K ct W (fun e M=>(ma e M).bind fun a M1=>f a e M1) σ H Q):tG jq K ct W ma σ H (ar_ jq Wv K ct W f σ Q):=by
 obtain⟨ι,e,M,w,p⟩:=h
 refine⟨ι,e,M,w,?_⟩
 cases z:ma e M with
 | bad=>simp only[z,Out.sE]at p;exact p
 | exc xc xd xM=>simp only[z,Out.qi]at p;exact p
 | ok a M1=>
  simp only[z,Out.nH]at p
  exact fun i_ b H1 x r q=>⟨i_,e,M1,a,w.ext x r,q,p.ext x⟩
section
variable{X:Cx}{ct:Nat→Addr}{W:bK}{a b c:Expr}{ma mb mc:ME}{pos:Pos}
@[irreducible] def az(i:Nat):ME:=fun e M=>match e[i]? with
 | some (some d)=> .ok d M
 | _=> .bad
theorem ac8{i:Nat}{e:Sl}{M:Mem}{d:D}(h:e[i]? = some (some d)):az i e M= .ok d M:=by unfold az;rw[h]
def mC(d:D):ME:=fun _ M=> .ok d M
theorem jo{e:Expr}{t:TE}{m:ME}(h:PE X e t)(hi:∀σ H Q,tG (jb X.K ct) X.K ct W m σ H Q→t σ H Q):SE X ct W e m:=PE.imp h hi
theorem ak(i:Nat){x:Str}{pos:Pos}(hN:X.N[i]? = some x:=by rfl)(hv:Zm X.env.scope x:=by first | exact Or.inl rfl | exact Or.inr (Or.inl rfl) | exact Or.inr (Or.inr rfl))(hd:(x==("__debug__" : Str))=false:=by decide)
  (hcd:(x==("__classdict__" : Str))=false:=by decide):SE X ct W (.Name x pos) (az i):=jo (aaG hN hv hd hcd) fun σ H Q ⟨ι,e,M,w,p⟩=>by
 unfold az at p
 cases z:e[i]? with
 | none=>rw[z]at p;exact p.elim
 | some o=>
  cases o with
  | none=>rw[z]at p;exact p.elim
  | some d=>
   rw[z]at p
   obtain⟨v,hv,dv⟩:=w.env i d z
   exact⟨v,hv,p ι v H .refl w.rl dv⟩
theorem Ie{d:D}{v:V}{σ:St}{H:Hp}{Q:VK}(dv:∀ι n,DV X.K ct ι n H d v)(h:tG (jb X.K ct) X.K ct W (mC d) σ H Q):tC v σ H Q:=by
 obtain⟨ι,e,M,w,p⟩:=h
 exact p ι v H .refl w.rl (dv _ _)
theorem aB{i j pos}:SE X ct W (.Constant (.int i) j pos) (mC (.int i)):=jo afP fun _ _ _ h=>Ie (fun _ _=> .int i) h
theorem J5{b j pos}:SE X ct W (.Constant (.bool b) j pos) (mC (.bl b)):=jo ajs fun _ _ _ h=>Ie (fun _ _=> .bl b) h
theorem aad{j pos}:SE X ct W (.Constant .none j pos) (mC .non):=jo afN fun _ _ _ h=>Ie (fun _ _=> .non) h
theorem aW{x j pos}:SE X ct W (.Constant (.str x) j pos) (mC (.str x)):=jo afK fun _ _ _ h=>Ie (fun _ _=> .str x) h
theorem aab{x:Str}{n:String}{pos:Pos}(hg:Gl X x)(hm:X.mg x=none)(hv:bootBuiltins x=some (.type n))(hn:x≠ "__name__" := by decide)(hd:(x==("__debug__" : Str))=false:=by decide):SE X ct W (.Name x pos) (mC (.ty n)):=
 jo (acP (v:= .ty n) hg hm hv rfl hn hd) fun _ _ _ h=>Ie (fun _ _=> .ty n) h
theorem O5{x:Str}{k:Nat}{pos:Pos}(hg:Gl X x)(hm:X.mg x=some (.ref (ct k)))(hd:(x==("__debug__" : Str))=false:=by decide):SE X ct W (.Name x pos) (mC (.cls k)):=
 jo (Dm (v:= .ref (ct k)) hg hm rfl hd) fun _ _ _ h=>Ie (fun _ _=> .cls k) h
abbrev vN:=D→D→Mem→Out D
def aD(op:vN)(ma mb:ME):ME:=fun e M=>(ma e M).bind fun d M1=>(mb e M1).bind fun d' M2=>op d d' M2
def Q4(K:Frag)(ct:Nat→Addr)(op:vN)(r:R2):Prop:=
 ∀{w:XW} ι M H d d' v v' Q,Rl K ct ι M H→DV K ct ι M.length H d v→DV K ct ι M.length H d' v'→nJ (jb K ct) K ct w ι M.length H (op d d' M) Q→r v v' H Q
def m_(X:Cx)(ct:Nat→Addr)(f:Value→Value→Sem Value)(op:vN):Prop:=∃r,Bs X f r∧Q4 X.K ct op r
theorem Oz{r:R2}{op:vN}(hs:Q4 X.K ct op r){σ:St}{H:Hp}{Q:VK}(h:tG (jb X.K ct) X.K ct W (aD op ma mb) σ H Q):
  tOp r (tG (jb X.K ct) X.K ct W ma) (tG (jb X.K ct) X.K ct W mb) σ H Q:=by
 obtain⟨ι,e,M,w,p⟩:=dY (jq:=jb X.K ct) h
 refine⟨ι,e,M,w,p.mono fun x H1 ⟨i_,e1,M1,d1,w1,q1,p1⟩=> ?_⟩
 refine⟨i_,e1,M1,w1,?_⟩
 cases z:mb e1 M1 with
 | bad=>simp only[z,Out.sE]at p1;exact p1
 | exc xc xd xM=>simp only[z,Out.qi]at p1;exact p1
 | ok d2 M2=>
  simp only[z,Out.nH]at p1
  exact fun rz y H2 x2 r2 q2=>hs rz M2 H2 d1 d2 x y Q r2 (q1.mono x2) q2 (p1.ext x2)
theorem aC{op:Operator}{Zg:vN}(h:m_ X ct (binaryOp op) Zg)(ha:SE X ct W a ma)(hb:SE X ct W b mb):SE X ct W (.BinOp a op b pos) (aD Zg ma mb):=by
 obtain⟨r,ho,hs⟩:=h
 exact jo (ajp ho ha hb) fun σ H Q q=>Oz hs q
theorem Hl{op:CmpOp}{Zg:vN}(h:m_ X ct (compareOp op) Zg)(ha:SE X ct W a ma)(hb:SE X ct W b mb)(hm:behindInMarks op b=false):SE X ct W (.Compare a [op] [b] pos) (aD Zg ma mb):=by
 obtain⟨r,ho,hs⟩:=h
 exact jo (acO ho ha hb hm) fun σ H Q q=>Oz hs q
def VD(d:D)(M:Mem):Out Bool:=match d with
 | .bl b=> .ok b M
 | _=> .bad
def cA(m:ME):MT:=fun e M=>(m e M).bind VD
theorem Rj{t:TE}{m:ME}{σ:St}{H:Hp}{Q:Bool→Hp→Prop}(hi:∀Q,tG (jb X.K ct) X.K ct W m σ H Q→t σ H Q)(h:tG Kh X.K ct W (cA m) σ H Q):aeg t σ H Q:=by
 refine hi _ ?_
 obtain⟨ι,e,M,w,p⟩:=dY (jq:=jb X.K ct) (f:=fun d _ M=>VD d M) h
 refine⟨ι,e,M,w,p.mono fun x H1 ⟨i_,e1,M1,d1,w1,q1,p1⟩=> ?_⟩
 cases q1 with
 | bl b=>exact⟨b,rfl,p1 i_ b H1 .refl w1.rl rfl⟩
 | _=>exact False.elim p1
theorem cj{op:CmpOp}{Zg:vN}(h:m_ X ct (compareOp op) Zg)(ha:SE X ct W a ma)(hb:SE X ct W b mb)(hm:behindInMarks op b=false):STt X ct W (.Compare a [op] [b] pos) (cA (aD Zg ma mb)):=by
 obtain⟨r,ho,hs⟩:=h
 exact PT.imp (acE ho ha hb hm) fun σ H Q q=>Rj (fun Q q=>Oz hs q) q
theorem zB{m:ME}(h:SE X ct W a m)(he:∀whole,isTrue a X.env whole=(do let v ←whole;standAt a.pos;holding [v] (truthy v)):=by intro _;rfl):STt X ct W a (cA m):=
 PT.imp (afy h he) fun σ H Q q=>Rj (fun Q q=>q) q
def mUn(op:D→Mem→Out D)(ma:ME):ME:=fun e M=>(ma e M).bind op
def UnS(X:Cx)(ct:Nat→Addr)(f:Value→Sem Value)(op:D→Mem→Out D):Prop:=∃r,UnR X f r∧∀{w:XW} ι M H d v Q,Rl X.K ct ι M H→DV X.K ct ι M.length H d v→nJ (jb X.K ct) X.K ct w ι M.length H (op d M) Q→r v H Q
theorem J3{op:UnaryOp}{Zg:D→Mem→Out D}(h:UnS X ct (unaryOp op) Zg)(ha:SE X ct W a ma):SE X ct W (.UnaryOp op a pos) (mUn Zg ma):=by
 obtain⟨r,ho,hs⟩:=h
 refine jo (ajn ho ha) fun σ H Q q=> ?_
 obtain⟨ι,e,M,w,p⟩:=dY (jq:=jb X.K ct) (f:=fun d _ M=>Zg d M) q
 exact⟨ι,e,M,w,p.mono fun x H1 ⟨i_,e1,M1,d1,w1,q1,p1⟩=>hs i_ M1 H1 d1 x Q w1.rl q1 p1⟩
variable{t u:MT}{rest:List Expr}
def Yv(t u:MT):MT:=fun e M=>(t e M).bind fun k M1=>if k=true then u e M1 else .ok false M1
def mOr(t u:MT):MT:=fun e M=>(t e M).bind fun k M1=>if k=true then .ok true M1 else u e M1
def aa5(t:MT):MT:=fun e M=>(t e M).bind fun k M1=> .ok (!k) M1
theorem Js(ha:STt X ct W a t):SW X ct W (.BoolOp .And [a] pos) t:=acC ha
theorem Et(ha:STt X ct W a t):SW X ct W (.BoolOp .Or [a] pos) t:=afw ha
theorem OJ(ha:STt X ct W a t)(hb:SW X ct W (.BoolOp .And (b::rest) pos) u):SW X ct W (.BoolOp .And (a::b::rest) pos) (Yv t u):=PW.imp (afx ha hb) fun σ H Q q=>by
 obtain⟨ι,e,M,w,p⟩:=dY (jq:=Kh) (f:=fun k e M1=>if k=true then u e M1 else .ok false M1) q
 refine⟨ι,e,M,w,p.mono fun k H1 ⟨i_,e1,M1,d1,w1,q1,p1⟩=> ?_⟩
 have Vl:d1=k:=q1;subst Vl
 cases d1 with
 | true=>exact⟨i_,e1,M1,w1,p1⟩
 | false=>exact p1 i_ false H1 .refl w1.rl rfl
theorem JQ(ha:STt X ct W a t)(hb:SW X ct W (.BoolOp .Or (b::rest) pos) u):SW X ct W (.BoolOp .Or (a::b::rest) pos) (mOr t u):=PW.imp (aiU ha hb) fun σ H Q q=>by
 obtain⟨ι,e,M,w,p⟩:=dY (jq:=Kh) (f:=fun k e M1=>if k=true then .ok true M1 else u e M1) q
 refine⟨ι,e,M,w,p.mono fun k H1 ⟨i_,e1,M1,d1,w1,q1,p1⟩=> ?_⟩
 have Vl:d1=k:=q1;subst Vl
 cases d1 with
 | false=>exact⟨i_,e1,M1,w1,p1⟩
 | true=>exact p1 i_ true H1 .refl w1.rl rfl
theorem Uo(ha:STt X ct W a t):STt X ct W (.UnaryOp .Not a pos) (aa5 t):=PT.imp (afz ha) fun σ H Q q=>by
 obtain⟨ι,e,M,w,p⟩:=dY (jq:=Kh) (f:=fun k e M1=> .ok (!k) M1) q
 refine⟨ι,e,M,w,p.mono fun k H1 ⟨i_,e1,M1,d1,w1,q1,p1⟩=> ?_⟩
 have Vl:d1=k:=q1;subst Vl
 exact p1 i_ _ H1 .refl w1.rl rfl
def WW(ma mb:ME):ME:=fun e M=>(ma e M).bind fun d M1=>(VD d M1).bind fun k M2=>if k=true then mb e M2 else .ok (.bl false) M2
def agh(ma mb:ME):ME:=fun e M=>(ma e M).bind fun d M1=>(VD d M1).bind fun k M2=>if k=true then .ok (.bl true) M2 else mb e M2
def aa4(ma:ME):ME:=fun e M=>(ma e M).bind fun d M1=>(VD d M1).bind fun k M2=> .ok (.bl (!k)) M2
theorem aac{op}{m:ME}(h:SE X ct W a m):SE X ct W (.BoolOp op [a] pos) m:=afL h
theorem aae(ha:SE X ct W a ma)(hb:SE X ct W (.BoolOp .And (b::rest) pos) mb):SE X ct W (.BoolOp .And (a::b::rest) pos) (WW ma mb):=jo (afR ha hb) fun σ H Q q=>by
 obtain⟨ι,e,M,w,p⟩:=dY (jq:=jb X.K ct) (f:=fun d e M1=>(VD d M1).bind fun k M2=>if k=true then mb e M2 else .ok (.bl false) M2) q
 refine⟨ι,e,M,w,p.mono fun x H1 ⟨i_,e1,M1,d1,w1,q1,p1⟩=> ?_⟩
 cases q1 with
 | bl k=>
  refine⟨k,rfl,?_⟩
  simp only[VD,Out.nH]at p1
  cases k with
  | true=>exact⟨i_,e1,M1,w1,p1⟩
  | false=>exact p1 i_ _ H1 .refl w1.rl (.bl false)
 | _=>exact False.elim p1
theorem ait(ha:SE X ct W a ma)(hb:SE X ct W (.BoolOp .Or (b::rest) pos) mb):SE X ct W (.BoolOp .Or (a::b::rest) pos) (agh ma mb):=jo (ajo ha hb) fun σ H Q q=>by
 obtain⟨ι,e,M,w,p⟩:=dY (jq:=jb X.K ct) (f:=fun d e M1=>(VD d M1).bind fun k M2=>if k=true then .ok (.bl true) M2 else mb e M2) q
 refine⟨ι,e,M,w,p.mono fun x H1 ⟨i_,e1,M1,d1,w1,q1,p1⟩=> ?_⟩
 cases q1 with
 | bl k=>
  refine⟨k,rfl,?_⟩
  simp only[VD,Out.nH]at p1
  cases k with
  | false=>exact⟨i_,e1,M1,w1,p1⟩
  | true=>exact p1 i_ _ H1 .refl w1.rl (.bl true)
 | _=>exact False.elim p1
theorem afa(ha:SE X ct W a ma):SE X ct W (.UnaryOp .Not a pos) (aa4 ma):=jo (afM ha) fun σ H Q q=>by
 obtain⟨ι,e,M,w,p⟩:=dY (jq:=jb X.K ct) (f:=fun d _ M1=>(VD d M1).bind fun k M2=>(Out.ok (D.bl (!k)) M2:Out D)) q
 refine⟨ι,e,M,w,p.mono fun x H1 ⟨i_,e1,M1,d1,w1,q1,p1⟩=> ?_⟩
 cases q1 with
 | bl k=>exact⟨k,rfl,p1 i_ _ H1 .refl w1.rl (.bl _)⟩
 | _=>exact False.elim p1
variable{es:List Expr}{ms:MA}
def aG:MA:=fun _ M=> .ok [] M
def aq(m:ME)(ms:MA):MA:=fun e M=>(m e M).bind fun d M1=>(ms e M1).bind fun ds M2=> .ok (d::ds) M2
theorem au:SA X ct W [] aG:=PA.imp afS fun σ H Q ⟨ι,e,M,w,p⟩=>p ι [] H .refl w.rl .nil
theorem aj(ha:SE X ct W a ma)(hr:SA X ct W es ms)(hs:starEach (a::es) X.env=(false,eval a X.env)::starEach es X.env:=by rfl):SA X ct W (a::es) (aq ma ms):=PA.imp (acQ ha hr hs) fun σ H Q q=>by
 obtain⟨ι,e,M,w,p⟩:=dY (jq:=jb X.K ct) (f:=fun d e M1=>(ms e M1).bind fun ds M2=> .ok (d::ds) M2) q
 refine⟨ι,e,M,w,p.mono fun x H1 ⟨i_,e1,M1,d1,w1,q1,p1⟩=>⟨i_,e1,M1,w1,?_⟩⟩
 cases z:ms e1 M1 with
 | bad=>simp only[z,Out.sE]at p1;exact p1
 | exc xc xd xM=>simp only[z,Out.qi]at p1;exact p1
 | ok ds M2=>
  simp only[z,Out.nH]at p1
  exact fun rz xs H2 x2 r2 q2=>p1 rz (x::xs) H2 x2 r2 (.cons (q1.mono x2) q2)
def rA(ms:MA):ME:=fun e M=>(ms e M).bind fun ds M1=>if ds.length≤sizeLine then .ok (.tup ds) M1 else .bad
def rM(ms:MA):ME:=fun e M=>(ms e M).bind fun ds M1=>if ds.length≤sizeLine then .ok (.ref M1.length) (M1++[.lst ds])else .bad
theorem Cg{w:XW}{K:Frag}{ι:Nat→Addr}{M:Mem}{H:Hp}{ds:List D}{xs:List V}{Q:VK}{p:Addr}(R:Rl K ct ι M H)(h:sH K ct ι M.length H ds xs)(hp:H p=none)(q:nJ (jb K ct) K ct w ι M.length H (.ok (.tup ds) M) Q):Q (.ref p) (upd H p (.tup xs)):=
 q ι (.ref p) _ (Ext.fresh hp) (R.fresh hp) (.tup fX (h.mono (Ext.fresh hp)))
theorem yE{w:XW}{K:Frag}{ι:Nat→Addr}{M:Mem}{H:Hp}{ds:List D}{xs:List V}{Q:VK}{p:Addr}(R:Rl K ct ι M H)(h:sH K ct ι M.length H ds xs)(hp:H p=none)(q:nJ (jb K ct) K ct w ι M.length H (.ok (.ref M.length) (M++[.lst ds])) Q):Q (.ref p) (upd H p (.lst xs)):=by
 have el:(M++[MO.lst ds]).length=M.length+1:=by simp
 have x:Ext K ι M.length H (ym ι M.length p) (M.length+1) (upd H p (.lst xs)):=Ext.new hp
 have e:(ym ι M.length p) M.length=p:=by unfold ym;rw[if_pos rfl]
 have dv:DV K ct (ym ι M.length p) (M++[MO.lst ds]).length (upd H p (.lst xs)) (.ref M.length) (.ref p):=by
  have:=DV.ref (K:=K) (ct:=ct) (ι:=ym ι M.length p) (n:=(M++[MO.lst ds]).length) (H:=upd H p (.lst xs)) (i:=M.length) (by rw[el];omega)
  rw[e]at this
  exact this
 exact q (ym ι M.length p) (.ref p) _ (by rw[el];exact x) (R.new hp ⟨xs,fX,h.mono x⟩) dv
theorem iz{x1}(h:SA X ct W es ms):SE X ct W (.Tuple es x1 pos) (rA ms):=jo (afJ h) fun σ H Q q=>by
 obtain⟨ι,e,M,w,p⟩:=dY (jq:=Jf X.K ct) (f:=fun ds _ M1=>if ds.length≤sizeLine then .ok (D.tup ds) M1 else .bad) q
 refine⟨ι,e,M,w,p.mono fun xs H1 ⟨i_,e1,M1,ds,w1,q1,p1⟩=> ?_⟩
 by_cases z:ds.length≤sizeLine
 ·simp only[z,if_true]at p1
  exact⟨by rw[q1.length];exact z,fun pp hp=>Cg w1.rl q1 hp p1⟩
 ·simp only[z,if_false]at p1
  exact p1.elim
theorem gQ(h:SA X ct W es ms):SE X ct W (.List es pos) (rM ms):=jo (afO h) fun σ H Q q=>by
 obtain⟨ι,e,M,w,p⟩:=dY (jq:=Jf X.K ct) (f:=fun ds _ M1=>if ds.length≤sizeLine then .ok (D.ref M1.length) (M1++[.lst ds])else .bad) q
 refine⟨ι,e,M,w,p.mono fun xs H1 ⟨i_,e1,M1,ds,w1,q1,p1⟩=> ?_⟩
 by_cases z:ds.length≤sizeLine
 ·simp only[z,if_true]at p1
  exact⟨by rw[q1.length];exact z,fun pp hp=>yE w1.rl q1 hp p1⟩
 ·simp only[z,if_false]at p1
  exact p1.elim
def GC(cs:List Nat)(f:Str)(d:D)(M:Mem):Out D:=match d with
 | .ref n=>match M[n]? with
  | some (.ins c fs)=>if c∈cs then(match fs.lookup f with
   | some v=> .ok v M
   | none=> .bad)else .bad
  | _=> .bad
 | _=> .bad
def sO(cs:List Nat)(m:ME)(f:Str):ME:=fun e M=>(m e M).bind (GC cs f)
def Lp(K:Frag)(ct:Nat→Addr)(f:Str):List Nat→Prop
 | []=>True
 | c::cs=>(T7 K (ct c)∧m9 K (ct c) f)∧Lp K ct f cs
theorem Lp.get{K:Frag}{ct:Nat→Addr}{f:Str}:∀{cs:List Nat} {c:Nat},Lp K ct f cs→c∈cs→T7 K (ct c)∧m9 K (ct c) f
 | [],_,_,h=>by simp at h
 | c::cs,d,⟨a,r⟩,h=>by
  rcases List.mem_cons.mp h with e | e
  ·subst e;exact a
  ·exact r.get e
theorem HN{K:Frag}{ι:Nat→Addr}{n:Nat}{H:Hp}{i:Nat}{v:V}(h:DV K ct ι n H (.ref i) v):i<n∧v= .ref (ι i):=by cases h with | ref h=>exact⟨h,rfl⟩
theorem gR{cs:List Nat}{f:Str}(hc:Lp X.K ct f cs)(he:SE X ct W a ma)(hb:attributeBase a f X.env (eval a X.env)=eval a X.env:=by rfl):SE X ct W (.Attribute a f pos) (sO cs ma f):=jo (afQ he hb) fun σ H Q q=>by
 obtain⟨ι,e,M,w,p⟩:=dY (jq:=jb X.K ct) (f:=fun d _ M1=>GC cs f d M1) q
 refine⟨ι,e,M,w,p.mono fun x H1 ⟨i_,e1,M1,d1,w1,q1,p1⟩=> ?_⟩
 cases d1 with
 | ref n=>
  obtain⟨hn,rfl⟩:=HN q1
  simp only[GC]at p1
  cases z:M1[n]? with
  | none=>simp only[z]at p1;exact p1.elim
  | some o=>
   cases o with
   | ins c fs=>
    simp only[z]at p1
    by_cases hcs:c∈cs
    ·simp only[hcs,if_true]at p1
     cases z2:fs.lookup f with
     | none=>simp only[z2]at p1;exact p1.elim
     | some d=>
      simp only[z2]at p1
      obtain⟨dx,vs,hH,fv⟩:=w1.rl.obj n _ z
      obtain⟨v,hv,dv⟩:=fv.look z2
      exact⟨_,_,dx,vs,v,rfl,hH,(hc.get hcs).1,(hc.get hcs).2,hv,p1 i_ v H1 .refl w1.rl dv⟩
    ·simp only[hcs,if_false]at p1
     exact p1.elim
   | _=>simp only[z]at p1;exact p1.elim
 | _=>exact p1.elim
abbrev Fn:=List D→Mem→Out D
def wE(E:XK):XW:=fun C dx H=>E (.ref C) (some dx) H
theorem nJ.wish{α β:Type}{rel:(Nat→Addr)→Mem→Hp→α→β→Prop}{K:Frag}{ct ι:Nat→Addr}{w w':XW}{n:Nat}{H:Hp}{o:Out α}{Q:β→Hp→Prop}(h:nJ rel K ct w ι n H o Q)(x:∀C dx H,w C dx H→w' C dx H):nJ rel K ct w' ι n H o Q:=by
 cases o with
 | ok a M=>exact h
 | exc c d M=>exact fun rz dx v H2 x2 r q1 q2=>x _ _ _ (h rz dx v H2 x2 r q1 q2)
 | bad=>exact h
theorem nJ.toE{α β:Type}{rel:(Nat→Addr)→Mem→Hp→α→β→Prop}{K:Frag}{ct ι:Nat→Addr}{W:bK}{σ:St}{n:Nat}{H:Hp}{o:Out α}{Q:β→Hp→Prop}(h:nJ rel K ct (wAt W σ) ι n H o Q):nJ rel K ct (wE (EW W σ)) ι n H o Q:=
 h.wish fun C dx _ q=>⟨C,dx,rfl,rfl,q⟩
def spS(K:Frag)(ct:Nat→Addr)(fn:Fn)(ar:Nat):Sp:=fun vs H Q E=>∃ι ds M,ds.length=ar∧Rl K ct ι M H∧sH K ct ι M.length H ds vs∧nJ (jb K ct) K ct (wE E) ι M.length H (fn ds M) Q
inductive Cst:D→V→Value→Prop
 | bl (b:Bool):Cst (.bl b) (.bl b) (.bool b)
 | non:Cst .non .non .none
inductive G9:List D→List V→List Value→Prop
 | nil:G9 [] [] []
 | cons {d:D} {v:V} {u:Value} {ds:List D} {vs:List V} {us:List Value}:Cst d v u→G9 ds vs us→G9 (d::ds) (v::vs) (u::us)
theorem Cst.dv{K:Frag}{ι:Nat→Addr}{n:Nat}{H:Hp}{d:D}{v:V}{u:Value}(h:Cst d v u):DV K ct ι n H d v:=by
 cases h with
 | bl b=>exact .bl b
 | non=>exact .non
theorem Cst.val{d:D}{v:V}{u:Value}(h:Cst d v u):RelV v u:=by
 cases h with
 | bl b=>exact rfl
 | non=>exact rfl
theorem G9.dv{K:Frag}{ι:Nat→Addr}{n:Nat}{H:Hp}{ds:List D}{vs:List V}{us:List Value}(h:G9 ds vs us):sH K ct ι n H ds vs:=by
 induction h with
 | nil=>exact .nil
 | cons c _ ih=>exact .cons c.dv ih
theorem G9.vals{ds:List D}{vs:List V}{us:List Value}(h:G9 ds vs us):Vals vs us:=by
 induction h with
 | nil=>exact .nil
 | cons c _ ih=>exact .cons c.val ih
def iD(fn:Fn)(ar:Nat)(dv:List D)(ms:MA):ME:=fun e M=>(ms e M).bind fun ds M1=>if(ds++dv).length=ar then fn (ds++dv) M1 else .bad
variable{k:Nat}{f:Addr}{fd:FuncData}{ps:List Str}{fn:Fn}{dv:List D}{Ds:List V}{dus:List Value}{x:Str}{p:Pos}
theorem ZR{σ:St}{H:Hp}{Q:VK}(hd:G9 dv Ds dus)(h:tG (jb X.K ct) X.K ct W (iD fn ps.length dv ms) σ H Q):ZS (spS X.K ct fn ps.length) Ds W (tG (Jf X.K ct) X.K ct W ms) σ H Q:=by
 obtain⟨ι,e,M,w,p⟩:=dY (jq:=Jf X.K ct) (f:=fun ds _ M1=>if(ds++dv).length=ps.length then fn (ds++dv) M1 else .bad) h
 refine⟨ι,e,M,w,p.mono fun vs H1 ⟨i_,e1,M1,ds,w1,q1,p1⟩=> ?_⟩
 by_cases z:(ds++dv).length=ps.length
 ·simp only[z,if_true]at p1
  exact⟨i_,ds++dv,M1,z,w1.rl,q1.append hd.dv,p1.toE⟩
 ·simp only[z,if_false]at p1
  exact p1.elim
theorem eO{ar:Nat}(F:bF X.prog X.w X.K X.mg X.base (jm X.prog X.w) k f fd ps (spS X.K ct fn ar))(hx:Tk X W)(hr:mV k X.A)(hg:Gl X x)(hm:X.mg x=some (.ref f))(hk:keepIn X.K (.ref f)=true)(hb:Binds X.K fd ps dus)(hd:G9 dv Ds dus)
  (ha:SA X ct W (a::es) ms) (hdb:(x==("__debug__" : Str))=false:=by decide) (he:starEach (a::es) X.env=(false,eval a X.env)::starEach es X.env:=by rfl) (hpl:(backTo pos (starEach es X.env)).any (·.1)=false:=by rfl) (har:ps.length=ar:=by rfl):SE X ct W (.Call (.Name x p) (a::es) [] pos) (iD fn ar dv ms):=by
 subst har
 exact jo (aaL F hr hg hm hk hb hd.vals hx ha hdb he hpl) fun σ H Q q=>ZR hd q
def DY(k:Nat)(m:Str)(d:D)(M:Mem):Bool:=match d with
 | .ref n=>match M[n]? with
  | some (.ins c fs)=>c==k&&(fs.lookup m).isNone
  | _=>false
 | _=>false
def cV(k:Nat)(m:Str)(fn:Fn)(ar:Nat)(dv:List D)(mo:ME)(ms:MA):ME:=fun e M=>(mo e M).bind fun d M1=>if DY k m d M1=true then(ms e M1).bind fun ds M2=>if(d::(ds++dv)).length=ar then fn (d::(ds++dv)) M2 else .bad else .bad
theorem abg{K:Frag}{ι:Nat→Addr}{M:Mem}{H:Hp}{k:Nat}{m:Str}{d:D}{v:V}(R:Rl K ct ι M H)(h:DY k m d M=true)(q:DV K ct ι M.length H d v):∃a dx fs,v= .ref a∧H a=some (.ins (ct k) dx fs)∧fs.lookup m=none:=by
 cases d with
 | ref n=>
  obtain⟨hn,rfl⟩:=HN q
  unfold DY at h
  cases z:M[n]? with
  | none=>simp only[z]at h;cases h
  | some o=>
   cases o with
   | ins c fs=>
    simp only[z,Bool.and_eq_true,beq_iff_eq,Option.isNone_iff_eq_none]at h
    obtain⟨rfl,hl⟩:=h
    obtain⟨dx,vs,hH,fv⟩:=R.obj n _ z
    exact⟨_,dx,vs,rfl,hH,fv.aet hl⟩
   | _=>simp only[z]at h;cases h
 | _=>exact absurd h Bool.false_ne_true
theorem Rk{kc:Nat}{m:Str}{mo:ME}{σ:St}{H:Hp}{Q:VK}(hd:G9 dv Ds dus)(h:tG (jb X.K ct) X.K ct W (cV kc m fn ps.length dv mo ms) σ H Q):
  Ul (ct kc) m (spS X.K ct fn ps.length) Ds W (tG (jb X.K ct) X.K ct W mo) (tG (Jf X.K ct) X.K ct W ms) σ H Q:=by
 obtain⟨ι,e,M,w,p⟩:=dY (jq:=jb X.K ct) (f:=fun d e M1=>if DY kc m d M1=true then(ms e M1).bind fun ds M2=>if(d::(ds++dv)).length=ps.length then fn (d::(ds++dv)) M2 else .bad else .bad) h
 refine⟨ι,e,M,w,p.mono fun v H1 ⟨i_,e1,M1,d,w1,q1,p1⟩=> ?_⟩
 cases z:DY kc m d M1 with
 | false=>simp only[z,Bool.false_eq_true,if_false]at p1;exact p1.elim
 | true=>
  simp only[z,if_true]at p1
  obtain⟨a,dx,fs,rfl,hH,hl⟩:=abg w1.rl z q1
  refine⟨a,dx,fs,rfl,hH,hl,i_,e1,M1,w1,?_⟩
  cases z2:ms e1 M1 with
  | bad=>simp only[z2,Out.sE]at p1;exact p1
  | exc xc xd xM=>simp only[z2,Out.qi]at p1;exact p1
  | ok ds M2=>
   simp only[z2,Out.nH]at p1
   intro rz vs H2 x2 r2 q2
   by_cases z3:(d::(ds++dv)).length=ps.length
   ·rw[if_pos z3]at p1
    exact⟨rz,_,M2,z3,r2,.cons (q1.mono x2) (q2.append hd.dv),(p1.ext x2).toE⟩
   ·rw[if_neg z3]at p1
    exact p1.elim
variable{o:Expr}{mo:ME}{kc:Nat}{m:Str}{apos:Pos}
theorem dh{ar:Nat}{pl:Sem Bool}(he:SE X ct W o mo)(c:T7 X.K (ct kc))(hm:Meth X.K (ct kc) m f)(F:bF X.prog X.w X.K X.mg X.base (jm X.prog X.w) k f fd ps (spS X.K ct fn ar))(hx:Tk X W)(hr:mV k X.A)(hb:Binds X.K fd ps dus)(hd:G9 dv Ds dus)(ha:SA X ct W (a::es) ms)
  (hst:starEach (a::es) X.env=(false,eval a X.env)::starEach es X.env:=by rfl) (hpl:(backTo pos (starEach es X.env)).any (·.1)=false:=by rfl)
  (ht:eval (.Call (.Attribute o m apos) (a::es) [] pos) X.env=(do
   let ov ←eval o X.env
   standAt apos.atName
   let(f,first) ←holding [ov] (getMethod ov m pl)
   callWith pos f first (backTo pos (starEach (a::es) X.env)) (backToKw pos (keywordEach [] X.env))):=by rfl) (har:ps.length=ar:=by rfl):SE X ct W (.Call (.Attribute o m apos) (a::es) [] pos) (cV kc m fn ar dv mo ms):=by
 subst har
 exact jo (aaI he c hm F hr hb hd.vals hx ha hst hpl ht) fun σ H Q q=>Rk hd q
theorem pK{ar:Nat}{pl:Sem Bool}(he:SE X ct W o mo)(c:T7 X.K (ct kc))(hm:Meth X.K (ct kc) m f)(F:bF X.prog X.w X.K X.mg X.base (jm X.prog X.w) k f fd ps (spS X.K ct fn ar))(hx:Tk X W)(hr:mV k X.A)(hb:Binds X.K fd ps dus)(hd:G9 dv Ds dus)
  (ht:eval (.Call (.Attribute o m apos) [] [] pos) X.env=(do
   let ov ←eval o X.env
   standAt apos.atName
   let(f,first) ←holding [ov] (getMethod ov m pl)
   callWith pos f first (backTo pos (starEach [] X.env)) (backToKw pos (keywordEach [] X.env))):=by rfl) (har:ps.length=ar:=by rfl):SE X ct W (.Call (.Attribute o m apos) [] [] pos) (cV kc m fn ar dv mo aG):=by
 subst har
 exact jo (Yh he c hm F hr hb hd.vals hx ht) fun σ H Q q=>by
  obtain⟨ι,e,M,w,p⟩:=Rk hd q
  refine⟨ι,e,M,w,p.mono fun v H1 ⟨a,dx,fs,e1,e2,e3,i_,e4,M1,w1,p1⟩=>⟨a,dx,fs,e1,e2,e3,p1 i_ [] H1 .refl w1.rl .nil⟩⟩
def Sy(d:D):Bool:=match d with
 | .non=>true
 | _=>false
def Gv(kc:Nat)(fn:Fn)(ar:Nat)(dv:List D)(ms:MA):ME:=fun e M=>(ms e M).bind fun ds M1=>if(D.ref M1.length::(ds++dv)).length=ar then(fn (.ref M1.length::(ds++dv)) (M1++[.ins kc []])).bind fun r M2=>if Sy r=true then .ok (.ref M1.length) M2 else .bad else .bad
theorem ZP{σ:St}{H:Hp}{Q:VK}(hd:G9 dv Ds dus)(h:tG (jb X.K ct) X.K ct W (Gv kc fn ps.length dv ms) σ H Q):ZQ (ct kc) (spS X.K ct fn ps.length) Ds W (tG (Jf X.K ct) X.K ct W ms) σ H Q:=by
 obtain⟨ι,e,M,w,p⟩:=dY (jq:=Jf X.K ct) (f:=fun ds _ M1=>if(D.ref M1.length::(ds++dv)).length=ps.length then(fn (D.ref M1.length::(ds++dv)) (M1++[.ins kc []])).bind fun r M2=>if Sy r=true then .ok (D.ref M1.length) M2 else .bad else .bad) h
 refine⟨ι,e,M,w,p.mono fun vs H1 ⟨i_,e1,M1,ds,w1,q1,p1⟩=> ?_⟩
 intro a dx ha hdx ne
 dsimp only at p1
 by_cases z:(D.ref M1.length::(ds++dv)).length=ps.length
 ·rw[if_pos z]at p1
  have ha':upd H1 dx (.own a) a=none:=by rw[bG (Ne.symm ne)];exact ha
  have el:(M1++[MO.ins kc []]).length=M1.length+1:=by simp
  have x1:Ext X.K i_ M1.length H1 i_ M1.length (upd H1 dx (.own a)):=Ext.fresh hdx
  have r1:Rl X.K ct i_ M1 (upd H1 dx (.own a)):=w1.rl.fresh hdx
  have x2:Ext X.K i_ M1.length (upd H1 dx (.own a)) (ym i_ M1.length a) (M1.length+1) (upd (upd H1 dx (.own a)) a (.ins (ct kc) dx [])):=Ext.new ha'
  have r2:Rl X.K ct (ym i_ M1.length a) (M1++[MO.ins kc []]) (upd (upd H1 dx (.own a)) a (.ins (ct kc) dx [])):=r1.new ha' ⟨dx,[],fX,.nil⟩
  have e0:(ym i_ M1.length a) M1.length=a:=by unfold ym;rw[if_pos rfl]
  have dv0:DV X.K ct (ym i_ M1.length a) (M1++[MO.ins kc []]).length (upd (upd H1 dx (.own a)) a (.ins (ct kc) dx [])) (.ref M1.length) (.ref a):=by
   have:=DV.ref (K:=X.K) (ct:=ct) (ι:=ym i_ M1.length a) (n:=(M1++[MO.ins kc []]).length) (H:=upd (upd H1 dx (.own a)) a (.ins (ct kc) dx [])) (i:=M1.length) (by rw[el];omega)
   rw[e0]at this
   exact this
  refine⟨ym i_ M1.length a,_,M1++[.ins kc []],z,r2,.cons dv0 ?_,?_⟩
  ·rw[el];exact(q1.append hd.dv).mono (x1.trans x2)
  ·cases z2:fn (.ref M1.length::(ds++dv)) (M1++[.ins kc []])with
   | bad=>rw[z2]at p1;exact p1
   | exc xc xd xM=>
    rw[z2]at p1
    simp only[Out.qi]at p1
    have p2:=(p1.ext (x1.trans x2)).toE
    rw[el]
    exact fun Zo dx3 v3 H3 x3 r3 q3 q4=>p2 Zo dx3 v3 H3 x3 r3 q3 q4
   | ok r M2=>
    rw[z2]at p1
    simp only[Out.nH]at p1
    intro Zo v3 H3 x3 r3 q3
    cases q3 with
    | non=>
     refine⟨rfl,?_⟩
     simp only[Sy,if_true]at p1
     refine p1 Zo (.ref a) H3 ((x1.trans x2).trans (by rw[el]at x3;exact x3)) r3 (dv0.mono x3)
    | _=>exact False.elim p1
 ·rw[if_neg z]at p1
  exact p1.elim
theorem Jv{ar:Nat}(Mk0:Mk X.K (ct kc) f)(F:bF X.prog X.w X.K X.mg X.base (jm X.prog X.w) k f fd ps (spS X.K ct fn ar))(hx:Tk X W)(hr:mV (k+1) X.A)(hg:Gl X x)(hm:X.mg x=some (.ref (ct kc)))(hb:Binds X.K fd ps dus)(hd:G9 dv Ds dus)
  (ha:SA X ct W (a::es) ms) (hdb:(x==("__debug__" : Str))=false:=by decide) (he:starEach (a::es) X.env=(false,eval a X.env)::starEach es X.env:=by rfl) (hpl:(backTo pos (starEach es X.env)).any (·.1)=false:=by rfl) (har:ps.length=ar:=by rfl):SE X ct W (.Call (.Name x p) (a::es) [] pos) (Gv kc fn ar dv ms):=by
 subst har
 exact jo (aaJ Mk0 F hr hg hm hb hd.vals hx ha hdb he hpl) fun σ H Q q=>ZP hd q
abbrev Lq:=List D→Mem→Out D
def pN(op:Lq)(ms:MA):ME:=fun e M=>(ms e M).bind op
def sI(X:Cx)(ct:Nat→Addr)(f:Value)(op:Lq):Prop:=∃r,sJ X f r∧∀{w:XW} ι M H ds vs Q,Rl X.K ct ι M H→sH X.K ct ι M.length H ds vs→nJ (jb X.K ct) X.K ct w ι M.length H (op ds M) Q→r vs H Q
variable{id T:String}{op:Lq}
theorem ZV{r:List V→Hp→VK→Prop}{σ:St}{H:Hp}{Q:VK}(hs:∀{w:XW} ι M H ds vs Q,Rl X.K ct ι M H→sH X.K ct ι M.length H ds vs→nJ (jb X.K ct) X.K ct w ι M.length H (op ds M) Q→r vs H Q)
  (h:tG (jb X.K ct) X.K ct W (pN op ms) σ H Q):tCB r (tG (Jf X.K ct) X.K ct W ms) σ H Q:=by
 obtain⟨ι,e,M,w,p⟩:=dY (jq:=Jf X.K ct) (f:=fun ds _ M1=>op ds M1) h
 exact⟨ι,e,M,w,p.mono fun vs H1 ⟨i_,e1,M1,ds,w1,q1,p1⟩=>hs i_ M1 H1 ds vs Q w1.rl q1 p1⟩
theorem bD(h:sI X ct (.builtin id) op)(hg:Gl X x)(hm:X.mg x=none)(hv:bootBuiltins x=some (.builtin id))(ha:SA X ct W (a::es) ms)(hn:x≠ "__name__" := by decide)(hdb:(x==("__debug__" : Str))=false:=by decide)
  (he:starEach (a::es) X.env=(false,eval a X.env)::starEach es X.env:=by rfl) (hpl:(backTo pos (starEach es X.env)).any (·.1)=false:=by rfl):SE X ct W (.Call (.Name x p) (a::es) [] pos) (pN op ms):=by
 obtain⟨r,hr,hs⟩:=h
 exact jo (aaM hr hg hm hv ha hn hdb he hpl) fun σ H Q q=>ZV hs q
theorem dj(h:sI X ct (.type T) op)(hg:Gl X x)(hm:X.mg x=none)(hv:bootBuiltins x=some (.type T))(ha:SA X ct W (a::es) ms)(hn:x≠ "__name__" := by decide)(hdb:(x==("__debug__" : Str))=false:=by decide)
  (he:starEach (a::es) X.env=(false,eval a X.env)::starEach es X.env:=by rfl) (hpl:(backTo pos (starEach es X.env)).any (·.1)=false:=by rfl):SE X ct W (.Call (.Name x p) (a::es) [] pos) (pN op ms):=by
 obtain⟨r,hr,hs⟩:=h
 exact jo (Yi hr hg hm hv ha hn hdb he hpl) fun σ H Q q=>ZV hs q
end
section
variable{X:Cx}{ct:Nat→Addr}{W:bK}
theorem wO{K:Frag}{ι:Nat→Addr}{n:Nat}{H:Hp}{i:Int}{v:V}(h:DV K ct ι n H (.int i) v):v= .int i:=by cases h;rfl
theorem mj{K:Frag}{ι:Nat→Addr}{n:Nat}{H:Hp}{i:Str}{v:V}(h:DV K ct ι n H (.str i) v):v= .str i:=by cases h;rfl
theorem Vt{K:Frag}{ι:Nat→Addr}{n:Nat}{H:Hp}{ds:List D}{v:V}(h:DV K ct ι n H (.tup ds) v):∃a xs,v= .ref a∧xq K H a xs∧sH K ct ι n H ds xs:=by cases h with | tup a b=>exact⟨_,_,rfl,xq.of a,b⟩
theorem Ah{K:Frag}{ι:Nat→Addr}{n:Nat}{H:Hp}{ds:List D}{v:V}(h:DV K ct ι n H (.tup ds) v):∃a xs,v= .ref a∧H a=some (.tup xs)∧sH K ct ι n H ds xs:=by cases h with | tup a b=>exact⟨_,_,rfl,a,b⟩
def uq(M:Mem)(n:Nat):Option (List D):=match M[n]? with
 | some (.lst ds)=>some ds
 | _=>none
theorem eF{M:Mem}{n:Nat}{ds:List D}(h:M[n]? = some (.lst ds)):uq M n=some ds:=by unfold uq;rw[h]
theorem vR{M:Mem}{n:Nat}{ds:List D}:uq M n=some ds↔M[n]? = some (.lst ds):=by
 refine⟨fun h=> ?_,eF⟩
 unfold uq at h
 split at h
 ·rename_i e;cases h;exact e
 ·cases h
def B_(M:Mem)(d:D):Option (List D):=match d with
 | .ref n=>uq M n
 | .cl ds=>some ds
 | _=>none
theorem Rl.seq{K:Frag}{ι:Nat→Addr}{M:Mem}{H:Hp}(R:Rl K ct ι M H){d:D}{v:V}{ds:List D}(h:B_ M d=some ds)(q:DV K ct ι M.length H d v):∃a xs,v= .ref a∧yV K H a xs∧sH K ct ι M.length H ds xs:=by
 cases q with
 | @ref i hi=>obtain⟨vs,q,r⟩:=R.obj i _ (vR.mp h);exact⟨_,vs,rfl,yV.of q,r⟩
 | cl h1 h2=>cases h;exact⟨_,_,rfl,h1.sq,h2⟩
 | _=>cases h
def T8(C:Int→Int→Bool)(g:Int→Int→D):vN:=fun d e M=>match d,e with
 | .int i,.int j=>if C i j=true then .ok (g i j) M else .bad
 | _,_=> .bad
theorem Wy{C:Int→Int→Bool}{P:Int→Int→Prop}{g:Int→Int→D}{gv:Int→Int→V}(hP:∀i j,C i j=true→P i j)(hg:∀(K:Frag) ι n H i j,DV K ct ι n H (g i j) (gv i j)):Q4 X.K ct (T8 C g) (rI P gv):=by
 intro w ι M H d d' v v' Q R h h' p
 cases d with
 | int i=>
  cases d' with
  | int j=>
   cases wO h
   cases wO h'
   simp only[T8]at p
   cases z:C i j with
   | false=>simp only[z,Bool.false_eq_true,if_false]at p;exact p.elim
   | true=>
    simp only[z,if_true]at p
    exact⟨i,j,rfl,rfl,hP i j z,p ι _ H .refl R (hg _ _ _ _ _ _)⟩
  | _=>exact p.elim
 | _=>cases d'<;>exact p.elim
def C1:Int→Int→Bool:=fun _ _=>true
theorem afv{g:Int→Int→V}{x y:V}{H:Hp}{Q:VK}(h:rI (fun _ _=>True) g x y H Q):rI0 g x y H Q:=let⟨i,j,a,b,_,q⟩:=h;⟨i,j,a,b,q⟩
theorem Q4.imp{K:Frag}{op:vN}{r r':R2}(h:Q4 K ct op r)(i:∀x y H Q,r x y H Q→r' x y H Q):Q4 K ct op r':=fun ι M H d d' v v' Q R a b p=>i _ _ _ _ (h ι M H d d' v v' Q R a b p)
theorem yU{f:Value→Value→Sem Value}{g:Int→Int→D}{gv:Int→Int→V}(h:Bs X f (rI0 gv))(hg:∀(K:Frag) ι n H i j,DV K ct ι n H (g i j) (gv i j)):m_ X ct f (T8 C1 g):=
 ⟨_,h,Q4.imp (Wy (P:=fun _ _=>True) (fun _ _ _=>trivial) hg) fun _ _ _ _ q=>afv q⟩
theorem G7{f:Value→Value→Sem Value}{C:Int→Int→Bool}{P:Int→Int→Prop}{g:Int→Int→D}{gv:Int→Int→V}(h:Bs X f (rI P gv))(hP:∀i j,C i j=true→P i j)(hg:∀(K:Frag) ι n H i j,DV K ct ι n H (g i j) (gv i j)):m_ X ct f (T8 C g):=
 ⟨_,h,Wy hP hg⟩
def zM(a b:vN):vN:=fun d e M=>match a d e M with
 | .bad=>b d e M
 | o=>o
theorem Q4.or{K:Frag}{a b:vN}{r r':R2}(ha:Q4 K ct a r)(hb:Q4 K ct b r'):Q4 K ct (zM a b) (fun x y H Q=>r x y H Q∨r' x y H Q):=by
 intro w ι M H d d' v v' Q R q q' p
 unfold zM at p
 cases z:a d d' M with
 | ok x M1=>rw[z]at p;exact .inl (ha ι M H d d' v v' Q R q q' (by rw[z];exact p))
 | exc xc xd xM=>rw[z]at p;exact .inl (ha ι M H d d' v v' Q R q q' (by rw[z];exact p))
 | bad=>rw[z]at p;exact .inr (hb ι M H d d' v v' Q R q q' p)
theorem nC{a b:vN}{d e x:D}{M M':Mem}(h:a d e M= .ok x M'):zM a b d e M= .ok x M':=by unfold zM;rw[h]
theorem uh{a b:vN}{d e:D}{M:Mem}(h:a d e M= .bad):zM a b d e M=b d e M:=by unfold zM;rw[h]
theorem m_.or{f:Value→Value→Sem Value}{a b:vN}(ha:m_ X ct f a)(hb:m_ X ct f b):m_ X ct f (zM a b):=by
 obtain⟨r,h,hs⟩:=ha
 obtain⟨r',h',hs'⟩:=hb
 refine⟨_,h.or h',fun ι M H d d' v v' Q R q q' p=> ?_⟩
 unfold zM at p
 cases z:a d d' M with
 | ok x M1=>rw[z]at p;exact .inl (hs ι M H d d' v v' Q R q q' (by rw[z];exact p))
 | exc xc xd xM=>rw[z]at p;exact .inl (hs ι M H d d' v v' Q R q q' (by rw[z];exact p))
 | bad=>rw[z]at p;exact .inr (hs' ι M H d d' v v' Q R q q' p)
def ahy(i j:Int):Bool:=decide ((-(2 ^ 64)<i∧i<2 ^ 64)∨(-(2 ^ 64)<j∧j<2 ^ 64))
def ahz(_ j:Int):Bool:=decide (0<j∧j<1073741824)
def alT(_ j:Int):Bool:=decide (0<j)
def abN(i j:Int):Bool:=decide (0≤j∧j≤1000000∧i.natAbs<2 ^ 64)
def ael:vN:=T8 C1 fun i j=> .int (i+j)
def Jd:vN:=T8 C1 fun i j=> .int (i - j)
def aaj:vN:=T8 ahy fun i j=> .int (i*j)
def Je:vN:=T8 ahz fun i j=> .int (i / j)
def j_:vN:=T8 alT fun i j=> .int (i % j)
def Lz:vN:=T8 abN fun i j=> .int (i ^ j.toNat)
def acp:vN:=T8 abN fun i j=> .int (i*2 ^ j.toNat)
def aiy:vN:=T8 C1 fun i j=> .bl (decide (i<j))
def aak:vN:=T8 C1 fun i j=> .bl (decide (i≤j))
def X7:vN:=T8 C1 fun i j=> .bl (decide (j<i))
def afq:vN:=T8 C1 fun i j=> .bl (decide (j≤i))
theorem adZ:m_ X ct (binaryOp .Add) ael:=yU af8 fun _ _ _ _ _ _=> .int _
theorem C_:m_ X ct (binaryOp .Sub) Jd:=yU afY fun _ _ _ _ _ _=> .int _
theorem adW:m_ X ct (binaryOp .Mult) aaj:=G7 af2 (fun i j h=>by unfold ahy at h;exact(decide_eq_true_eq.mp h :)) fun _ _ _ _ _ _=> .int _
theorem HW:m_ X ct (binaryOp .FloorDiv) Je:=G7 acT (fun i j h=>by unfold ahz at h;exact(decide_eq_true_eq.mp h :)) fun _ _ _ _ _ _=> .int _
theorem dX:m_ X ct (binaryOp .Mod) j_:=G7 af3 (fun _ _ h=>of_decide_eq_true h) fun _ _ _ _ _ _=> .int _
theorem Vx:m_ X ct (binaryOp .Pow) Lz:=G7 af0 (fun i j h=>by unfold abN at h;exact(decide_eq_true_eq.mp h :)) fun _ _ _ _ _ _=> .int _
theorem abH:m_ X ct (binaryOp .LShift) acp:=G7 afZ (fun i j h=>by unfold abN at h;exact(decide_eq_true_eq.mp h :)) fun _ _ _ _ _ _=> .int _
theorem alQ:m_ X ct (compareOp .Lt) aiy:=yU ajt fun _ _ _ _ _ _=> .bl _
theorem abJ:m_ X ct (compareOp .LtE) aak:=yU aju fun _ _ _ _ _ _=> .bl _
theorem Xr:m_ X ct (compareOp .Gt) X7:=yU ajv fun _ _ _ _ _ _=> .bl _
theorem alS:m_ X ct (compareOp .GtE) afq:=yU ajw fun _ _ _ _ _ _=> .bl _
def acr:vN:=fun d e M=>match d,e with
 | .ref n,.ref m=>match M[n]?,M[m]? with
  | some (.lst xs),some (.lst ys)=>if xs.length+ys.length≤sizeLine then .ok (.ref M.length) (M++[.lst (xs++ys)])else .bad
  | _,_=> .bad
 | _,_=> .bad
theorem ahu:m_ X ct (binaryOp .Add) acr:=by
 refine⟨_,af7,fun ι M H d d' v v' Q R h h' p=> ?_⟩
 cases d with
 | ref n=>
  cases d' with
  | ref m=>
   obtain⟨_,rfl⟩:=HN h
   obtain⟨_,rfl⟩:=HN h'
   simp only[acr]at p
   split at p
   ·rename_i xs ys e1 e2
    split at p
    ·rename_i hz
     obtain⟨vs,q,r⟩:=R.obj n _ e1
     obtain⟨vs',q',r'⟩:=R.obj m _ e2
     exact⟨_,_,vs,vs',rfl,rfl,q,q',by rw[r.length,r'.length];exact hz,fun pp hp=>yE R (r.append r') hp p⟩
    ·exact p.elim
   ·exact p.elim
  | _=>exact p.elim
 | _=>cases d'<;>exact p.elim
def Wq:vN:=fun d e M=>match d,e with
 | .str a,.str b=>if a.length+b.length≤sizeLine then .ok (.str (a++b)) M else .bad
 | _,_=> .bad
theorem adY:m_ X ct (binaryOp .Add) Wq:=by
 refine⟨_,U0,fun ι M H d d' v v' Q R h h' p=> ?_⟩
 unfold Wq at p
 split at p
 ·cases mj h
  cases mj h'
  split at p
  ·rename_i hz
   exact⟨_,_,rfl,rfl,hz,p ι _ H .refl R (.str _)⟩
  ·exact p.elim
 ·exact p.elim
def Wj:vN:=fun d e M=>match d,e with
 | .str a,.int n=>if a.length≤1000∧ -(2 ^ 62)<n∧n≤1000 then .ok (.str (PySem.Txt.mul a n)) M else .bad
 | _,_=> .bad
theorem adV:m_ X ct (binaryOp .Mult) Wj:=by
 refine⟨_,UW,fun ι M H d d' v v' Q R h h' p=> ?_⟩
 unfold Wj at p
 split at p
 ·cases mj h
  cases wO h'
  split at p
  ·rename_i hz
   exact⟨_,_,rfl,rfl,mulOk_of hz.1 hz.2.1 hz.2.2,p ι _ H .refl R (.str _)⟩
  ·exact p.elim
 ·exact p.elim
def LC:vN:=zM aaj Wj
theorem Vy:m_ X ct (binaryOp .Mult) LC:=adW.or adV
def Wo:vN:=fun d e M=>match d,e with
 | .tup xs,.tup ys=>if xs.isEmpty=false∧xs.length+ys.length≤sizeLine then .ok (.tup (xs++ys)) M else .bad
 | _,_=> .bad
theorem adX:m_ X ct (binaryOp .Add) Wo:=by
 refine⟨_,acU,fun ι M H d d' v v' Q R h h' p=> ?_⟩
 unfold Wo at p
 split at p
 ·rename_i xs ys
  obtain⟨a,vs,rfl,ha,hd⟩:=Ah h
  obtain⟨b,us,rfl,hb,hd'⟩:=Ah h'
  split at p
  ·rename_i hz
   have l1:=hd.length
   have l2:=hd'.length
   refine⟨a,b,vs,us,rfl,rfl,xq.of ha,xq.of hb,fun z=> ?_,by omega,fun z=> ?_,fun _ pp hp=>Cg R (hd.append hd') hp p⟩
   ·rw[z]at l1
    have:=hz.1
    cases xs with
    | nil=>cases this
    | cons _ _=>simp at l1
   ·subst z
    have e:ys=[]:=List.length_eq_zero_iff.mp l2.symm
    subst e
    rw[List.append_nil]at p
    exact p ι _ H .refl R (.tup ha hd)
  ·exact p.elim
 ·exact p.elim
def aX:vN:=zM (zM ael acr) (zM Wq Wo)
theorem aU:m_ X ct (binaryOp .Add) aX:=(adZ.or ahu).or (adY.or adX)
def afg:vN:=fun d e M=>match d,e with
 | .str a,.str b=> .ok (.bl (decide (a.cps.toList<b.cps.toList))) M
 | _,_=> .bad
theorem ahp:m_ X ct (compareOp .Lt) afg:=by
 refine⟨_,Yk,fun ι M H d d' v v' Q R h h' p=> ?_⟩
 unfold afg at p
 split at p
 ·cases mj h
  cases mj h'
  exact⟨_,_,rfl,rfl,p ι _ H .refl R (.bl _)⟩
 ·exact p.elim
def rE:List D→Option (List Int)
 | []=>some []
 | .int i::r=>(rE r).map (i:: ·)
 | _=>none
theorem yx{K:Frag}{ι:Nat→Addr}{n:Nat}{H:Hp}:∀{ds:List D} {is:List Int} {vs:List V},rE ds=some is→sH K ct ι n H ds vs→vs=is.map V.int
 | [],_,_,h,.nil=>by cases h;rfl
 | d::r,is,_,h,.cons q qs=>by
  cases q with
  | int i=>
   simp only[rE]at h
   obtain⟨js,h1,rfl⟩:=Option.map_eq_some_iff.mp h
   rw[yx h1 qs]
   rfl
  | _=>simp only[rE]at h;cases h
def afe:vN:=fun d e M=>match d,e with
 | .tup xs,.tup ys=>match rE xs,rE ys with
  | some is,some js=> .ok (.bl (HT.lexLt is js)) M
  | _,_=> .bad
 | _,_=> .bad
theorem aho(hu:X.A.units+64<cLine):m_ X ct (compareOp .Lt) afe:=by
 refine⟨_,af4 (by omega),fun ι M H d d' v v' Q R h h' p=> ?_⟩
 unfold afe at p
 split at p
 ·obtain⟨a,vs,rfl,ha,hd⟩:=Ah h
  obtain⟨b,us,rfl,hb,hd'⟩:=Ah h'
  split at p
  ·rename_i is js e1 e2
   have x1:=yx e1 hd
   have x2:=yx e2 hd'
   subst x1 x2
   exact⟨a,b,is,js,rfl,rfl,xq.of ha,xq.of hb,p ι _ H .refl R (.bl _)⟩
  ·exact p.elim
 ·exact p.elim
def sLt:vN:=zM (zM aiy afg) afe
theorem Ld(hu:X.A.units+64<cLine):m_ X ct (compareOp .Lt) sLt:=(alQ.or ahp).or (aho hu)
def Pa:D→Mem→Out D:=fun d M=>match d with
 | .int i=> .ok (.int (-i)) M
 | _=> .bad
theorem Es:UnS X ct (unaryOp .USub) Pa:=⟨_,aeR,fun ι M H d v Q R h p=>by
 cases d with
 | int i=>cases wO h;exact⟨i,rfl,p ι _ H .refl R (.int _)⟩
 | _=>exact p.elim⟩
def yI(f:D→Option Dt):List D→Option (List Dt)
 | []=>some []
 | d::ds=>match f d,yI f ds with
  | some t,some ts=>some (t::ts)
  | _,_=>none
def m5(M:Mem):Nat→D→Option Dt
 | 0,_=>none
 | k+1,d=>match d with
  | .non=>some .non
  | .bl b=>some (.bl b)
  | .int i=>some (.int i)
  | .str x=>some (.str x)
  | .tup ds=>(yI (m5 M k) ds).map .tup
  | .ref n=>match uq M n with
   | some ds=>(yI (m5 M k) ds).map .lst
   | none=>none
  | .cl ds=>(yI (m5 M k) ds).map .lst
  | .ty _=>none
  | .cls _=>none
  | .exc _ _=>none
theorem JB{K:Frag}{ι:Nat→Addr}{n:Nat}{H:Hp}{k:Nat}{f:D→Option Dt}(hf:∀d t v,f d=some t→DV K ct ι n H d v→Is K H v t∧dep t≤k):
  ∀{ds:List D} {ts:List Dt} {vs:List V},yI f ds=some ts→sH K ct ι n H ds vs→Jm K H vs ts∧deps ts≤k
 | [],ts,_,h,.nil=>by cases h;exact⟨.nil,by unfold deps;exact Nat.zero_le _⟩
 | d::ds,ts,_,h,.cons q qs=>by
  simp only[yI]at h
  cases z:f d with
  | none=>rw[z]at h;cases h
  | some t=>
   cases z2:yI f ds with
   | none=>rw[z,z2]at h;cases h
   | some ts'=>
    rw[z,z2]at h
    cases h
    obtain⟨a,b⟩:=hf d t _ z q
    obtain⟨a',b'⟩:=JB hf z2 qs
    exact⟨.cons a a',by unfold deps;exact Nat.max_le.mpr ⟨b,b'⟩⟩
theorem FN{K:Frag}{ι:Nat→Addr}{M:Mem}{H:Hp}(R:Rl K ct ι M H):∀(k:Nat) (d:D) (t:Dt) (v:V),m5 M k d=some t→DV K ct ι M.length H d v→Is K H v t∧dep t≤k
 | 0,d,t,v,h,_=>by simp only[m5]at h;cases h
 | k+1,d,t,v,h,q=>by
  cases q with
  | non=>simp only[m5]at h;cases h;exact⟨.non,by unfold dep;exact Nat.zero_le _⟩
  | bl b=>simp only[m5]at h;cases h;exact⟨.bl b,by unfold dep;exact Nat.zero_le _⟩
  | int b=>simp only[m5]at h;cases h;exact⟨.int b,by unfold dep;exact Nat.zero_le _⟩
  | str b=>simp only[m5]at h;cases h;exact⟨.str b,by unfold dep;exact Nat.zero_le _⟩
  | ty b=>simp only[m5]at h;cases h
  | cls b=>simp only[m5]at h;cases h
  | exc _ _ _=>simp only[m5]at h;cases h
  | @tup a xs ds hs hd=>
   simp only[m5]at h
   cases z:yI (m5 M k) ds with
   | none=>rw[z]at h;cases h
   | some ts=>
    rw[z]at h
    cases h
    obtain⟨a,b⟩:=JB (fun d t v=>FN R k d t v) z hd
    exact⟨.tup (xq.of hs) a,by unfold dep;omega⟩
  | @ref i hi=>
   simp only[m5]at h
   cases z0:uq M i with
   | none=>rw[z0]at h;cases h
   | some ds=>
    rw[z0]at h
    obtain⟨xs,hs,hd⟩:=R.obj i _ (vR.mp z0)
    cases z:yI (m5 M k) ds with
    | none=>simp only[z]at h;cases h
    | some ts=>
     simp only[z]at h
     cases h
     obtain⟨a,b⟩:=JB (fun d t v=>FN R k d t v) z hd
     exact⟨.lst (yV.of hs) a,by unfold dep;omega⟩
  | @cl a xs ds hs hd=>
   simp only[m5]at h
   cases z:yI (m5 M k) ds with
   | none=>rw[z]at h;cases h
   | some ts=>
    rw[z]at h
    cases h
    obtain⟨a,b⟩:=JB (fun d t v=>FN R k d t v) z hd
    exact⟨.lst hs.sq a,by unfold dep;omega⟩
def Vq(M:Mem)(d e:D):Option Bool:=match m5 M 12 d,m5 M 12 e with
 | some a,some b=>some (cT a b)
 | _,_=>none
def sEq:vN:=fun d e M=>match Vq M d e with
 | some b=> .ok (.bl b) M
 | none=> .bad
def sNe:vN:=fun d e M=>match Vq M d e with
 | some b=> .ok (.bl (!b)) M
 | none=> .bad
theorem abu{K:Frag}{ι:Nat→Addr}{M:Mem}{H:Hp}{d e:D}{v u:V}{b:Bool}(R:Rl K ct ι M H)(h:Vq M d e=some b)(q:DV K ct ι M.length H d v)(q':DV K ct ι M.length H e u):∃x y,Is K H v x∧Is K H u y∧dep x≤20∧b=cT x y:=by
 unfold Vq at h
 cases z:m5 M 12 d with
 | none=>rw[z]at h;cases h
 | some x=>
  cases z2:m5 M 12 e with
  | none=>rw[z,z2]at h;cases h
  | some y=>
   rw[z,z2]at h
   cases h
   obtain⟨a,c⟩:=FN R 12 d x v z q
   obtain⟨a',_⟩:=FN R 12 e y u z2 q'
   exact⟨x,y,a,a',by omega,rfl⟩
theorem mR(hu:X.A.units+64<cLine):m_ X ct (compareOp .Eq) sEq:=by
 refine⟨_,af6 hu,fun ι M H d d' v v' Q R h h' p=> ?_⟩
 unfold sEq at p
 cases z:Vq M d d' with
 | none=>rw[z]at p;exact p.elim
 | some b=>
  rw[z]at p
  obtain⟨x,y,a,a',hd,rfl⟩:=abu R z h h'
  exact⟨x,y,a,a',hd,p ι _ H .refl R (.bl _)⟩
theorem Lb(hu:X.A.units+64<cLine):m_ X ct (compareOp .NotEq) sNe:=by
 refine⟨_,af1 hu,fun ι M H d d' v v' Q R h h' p=> ?_⟩
 unfold sNe at p
 cases z:Vq M d d' with
 | none=>rw[z]at p;exact p.elim
 | some b=>
  rw[z]at p
  obtain⟨x,y,a,a',hd,rfl⟩:=abu R z h h'
  exact⟨x,y,a,a',hd,p ι _ H .refl R (.bl _)⟩
theorem sH.Le{K:Frag}{ι:Nat→Addr}{n:Nat}{H:Hp}{ds:List D}{vs:List V}{i:Int}{d:D}(h:sH K ct ι n H ds vs)(e:L2.Le ds i=some d):∃v,L2.Le vs i=some v∧DV K ct ι n H d v:=by
 unfold L2.Le at*
 rw[h.length]
 cases z:ixN ds.length i with
 | none=>rw[z]at e;cases e
 | some j=>rw[z]at e;exact h.at e
variable{a b:Expr}{ma mb:ME}{pos:Pos}
section
variable{κ:Type}[DecidableEq κ]
def Ls(kvs:List (κ×D))(k:κ):Option D:=(kvs.find? fun kv=>decide (kv.1=k)).map (·.2)
def aiV(kvs:List (κ×D))(k:κ)(d:D):List (κ×D):=if(kvs.any fun kv=>decide (kv.1=k))=true then kvs.map (fun kv=>if kv.1=k then(kv.1,d)else kv)else kvs++[(k,d)]
variable{K:Frag}{ι:Nat→Addr}{n:Nat}{H:Hp}
theorem Lj.val:∀{kvs:List (κ×D)} {vs:List (κ×V)},Lj K ct ι n H kvs vs→∀k,(∀d,Ls kvs k=some d→∃v,Er vs k=some v∧DV K ct ι n H d v)∧(Ls kvs k=none→Er vs k=none)
 | _,_,.nil,k=>⟨fun d h=>by simp[Ls]at h,fun _=>rfl⟩
 | _,_,.cons (x:=x) (d:=d) (v:=v) (fs:=fs) h hs,k=>by
  by_cases e:x=k
  ·have e1:Ls ((x,d)::fs) k=some d:=by simp[Ls,e]
   rw[e1,Fy (p:=(x,v)) e]
   exact⟨fun d' q=>by cases q;exact⟨_,rfl,h⟩,fun q=>by cases q⟩
  ·have e1:Ls ((x,d)::fs) k=Ls fs k:=by simp[Ls,e]
   rw[e1,Fz (p:=(x,v)) e]
   exact hs.val k
theorem Lj.any:∀{kvs:List (κ×D)} {vs:List (κ×V)},Lj K ct ι n H kvs vs→∀k,(vs.any fun kv=>decide (kv.1=k))=(kvs.any fun kv=>decide (kv.1=k))
 | _,_,.nil,_=>rfl
 | _,_,.cons _ hs,k=>by simp only[List.any_cons,hs.any k]
theorem Lj.repl{d:D}{v:V}(hd:DV K ct ι n H d v)(k:κ):∀{kvs:List (κ×D)} {vs:List (κ×V)},Lj K ct ι n H kvs vs→Lj K ct ι n H (kvs.map fun kv=>if kv.1=k then(kv.1,d)else kv) (vs.map fun kv=>if kv.1=k then(kv.1,v)else kv)
 | _,_,.nil=> .nil
 | _,_,.cons (x:=x) h hs=>by
  simp only[List.map_cons]
  by_cases e:x=k
  ·rw[if_pos e,if_pos e];exact .cons hd (hs.repl hd k)
  ·rw[if_neg e,if_neg e];exact .cons h (hs.repl hd k)
theorem Lj.snoc{d:D}{v:V}(hd:DV K ct ι n H d v)(k:κ):∀{kvs:List (κ×D)} {vs:List (κ×V)},Lj K ct ι n H kvs vs→Lj K ct ι n H (kvs++[(k,d)]) (vs++[(k,v)])
 | _,_,.nil=> .cons hd .nil
 | _,_,.cons h hs=> .cons h (hs.snoc hd k)
theorem Lj.put{d:D}{v:V}{kvs:List (κ×D)}{vs:List (κ×V)}(h:Lj K ct ι n H kvs vs)(hd:DV K ct ι n H d v)(k:κ):Lj K ct ι n H (aiV kvs k d) (putK vs k v):=by
 unfold aiV putK
 rw[h.any k]
 split
 ·exact h.repl hd k
 ·exact h.snoc hd k
end
def toKey:D→Option Key
 | .int i=>some (.inl i)
 | .str s=>some (.inr s)
 | _=>none
def toKeys:List D→Option (List Key)
 | []=>some []
 | d::r=>match toKey d,toKeys r with
  | some k,some ks=>some (k::ks)
  | _,_=>none
def au8(M:Mem)(n:Nat)(y:D):Option (Option D×Mem):=match M[n]? with
 | some (.dk kvs)=>match toKey y with
  | some k=>some (Ls kvs k,M)
  | none=>match y with
   | .tup ds=>match toKeys ds with
    | some _=>if kvs.isEmpty=true then some (none,M.set n (.dt []))else none
    | none=>none
   | _=>none
 | some (.dt kvs)=>match y with
  | .tup ds=>match toKeys ds with
   | some k=>some (Ls kvs k,M)
   | none=>none
  | _=>none
 | _=>none
def aiF:vN:=fun _ _ _=> .bad
theorem afV{K:Frag}{r:R2}:Q4 K ct aiF r:=by
 intro w ι M H d d' v v' Q R h h' p
 exact p.elim
def Ph:vN:=fun d e M=>match e with
 | .int i=>match d with
  | .tup ds=>match L2.Le ds i with
   | some x=> .ok x M
   | none=> .bad
  | d=>match B_ M d with
   | some ds=>match L2.Le ds i with
    | some x=> .ok x M
    | none=> .bad
   | none=> .bad
 | _=> .bad
theorem afU:Q4 X.K ct Ph (fun x y H Q=>aiR X.K x y H Q∨aiP X.K x y H Q):=by
 intro w ι M H d d' v v' Q R h h' p
 cases d' with
 | int i=>
  cases wO h'
  cases d with
  | tup ds=>
   obtain⟨aa,xs,rfl,hs,hd⟩:=Vt h
   simp only[Ph]at p
   cases z:L2.Le ds i with
   | none=>rw[z]at p;exact p.elim
   | some x=>
    rw[z]at p
    obtain⟨v,e,dv⟩:=hd.Le z
    exact .inr ⟨_,_,_,_,rfl,rfl,hs,e,p ι v H .refl R dv⟩
  | _=>
   simp only[Ph]at p
   split at p
   ·rename_i ds z0
    obtain⟨aa,xs,rfl,hs,hd⟩:=R.seq z0 h
    cases z:L2.Le ds i with
    | none=>rw[z]at p;exact p.elim
    | some x=>
     rw[z]at p
     obtain⟨v,e,dv⟩:=hd.Le z
     exact .inl ⟨_,_,_,_,rfl,rfl,hs,e,p ι v H .refl R dv⟩
   ·exact p.elim
 | _=>exact p.elim
def afm:vN:=fun d e M=>match d,e with
 | .str z,.int i=>match L2.Le z.cps.toList i with
  | some c=>if z.length≤sizeLine then .ok (.str ⟨#[c]⟩) M else .bad
  | none=> .bad
 | _,_=> .bad
theorem afT{K:Frag}:Q4 K ct afm aiQ:=by
 intro w ι M H d d' v v' Q R h h' p
 unfold afm at p
 split at p
 ·rename_i z i
  cases mj h
  cases wO h'
  cases e:L2.Le z.cps.toList i with
  | none=>rw[e]at p;exact p.elim
  | some c=>
   rw[e]at p
   dsimp only at p
   split at p
   ·rename_i hz
    exact⟨z,i,c,rfl,rfl,hz,e,p ι _ H .refl R (.str _)⟩
   ·exact p.elim
 ·exact p.elim
def bJ:vN:=zM (zM Ph aiF) afm
theorem bC(hu:X.A.units+64<cLine)(ha:SE X ct W a ma)(hb:SE X ct W b mb)(hs:Xz b:=by exact fun _ _=>rfl):SE X ct W (.Subscript a b pos) (aD bJ ma mb):=
 jo (ajq (((adp.or abb).or abb).or agr) ha hb hs) fun σ H Q q=>Oz (Q4.or (Q4.or afU afV) afT) q
def afp(_:Bool):vN:=fun _ _ _=> .bad
theorem afX{K:Frag}{neg:Bool}{r:R2}:Q4 K ct (afp neg) r:=by
 intro w ι M H d d' v v' Q R h h' p
 exact p.elim
def ZK:D→Option V
 | .non=>some .non
 | .bl b=>some (.bl b)
 | .int i=>some (.int i)
 | .str s=>some (.str s)
 | _=>none
def XM:List D→Option (List V)
 | []=>some []
 | d::r=>match ZK d,XM r with
  | some v,some vs=>some (v::vs)
  | _,_=>none
theorem V8{K:Frag}{ι:Nat→Addr}{n:Nat}{H:Hp}{d:D}{u v:V}(h:ZK d=some u)(q:DV K ct ι n H d v):v=u∧Ea u=true:=by
 cases q<;>simp only[ZK]at h<;>cases h<;>exact⟨rfl,rfl⟩
theorem V7{K:Frag}{ι:Nat→Addr}{n:Nat}{H:Hp}:∀{ds:List D} {us vs:List V},XM ds=some us→sH K ct ι n H ds vs→vs=us∧us.all Ea=true
 | [],_,_,h,.nil=>by cases h;exact⟨rfl,rfl⟩
 | d::r,us,_,h,.cons q qs=>by
  simp only[XM]at h
  cases z:ZK d with
  | none=>rw[z]at h;cases h
  | some u=>
   cases z2:XM r with
   | none=>rw[z,z2]at h;cases h
   | some ur=>
    rw[z,z2]at h
    cases h
    obtain⟨rfl,f1⟩:=V8 z q
    obtain⟨rfl,f2⟩:=V7 z2 qs
    exact⟨rfl,by simp[f1,f2]⟩
theorem aht(hu:X.A.units+64<cLine):m_ X ct (compareOp .In) (afp false):=⟨_,Nb,afX⟩
def cut{α:Type}(xs:List α)(lo hi:Option Int):List α:=(xs.drop (HT.bJ xs.length 0 lo)).take (HT.bJ xs.length xs.length hi - HT.bJ xs.length 0 lo)
theorem sH.cut{K:Frag}{ι:Nat→Addr}{n:Nat}{H:Hp}{ds:List D}{vs:List V}(h:sH K ct ι n H ds vs)(lo hi:Option Int):sH K ct ι n H (S.cut ds lo hi) (Td vs lo hi):=by
 unfold S.cut Td
 rw[h.length]
 exact(h.drop _).take _
abbrev MO':=Sl→Mem→Out (Option Int)
def apU:(Nat→Addr)→Mem→Hp→Option Int→Option Int→Prop:=fun _ _ _ a b=>a=b
def SO(X:Cx)(ct:Nat→Addr)(W:bK)(e:Option Expr)(m:MO'):Prop:=PO X e (tG apU X.K ct W m)
def asI(d:D)(M:Mem):Out (Option Int):=match d with
 | .int i=> .ok (some i) M
 | _=> .bad
def cP:MO':=fun _ M=> .ok none M
def iU(m:ME):MO':=fun e M=>(m e M).bind asI
theorem dg:SO X ct W none cP:=fun pins s σ H Q I ⟨ι,e,M,w,p⟩=>acK pins s σ H Q I (p ι none H .refl w.rl rfl)
theorem cO(h:SE X ct W a ma):SO X ct W (some a) (iU ma):=fun pins s σ H Q I q=>acJ h pins s σ H Q I (by
 obtain⟨ι,e,M,w,p⟩:=dY (jq:=jb X.K ct) (f:=fun d _ M1=>asI d M1) q
 refine⟨ι,e,M,w,p.mono fun v H1 ⟨i_,e1,M1,d,w1,q1,p1⟩=> ?_⟩
 cases q1 with
 | int i=>exact⟨i,rfl,p1 i_ _ H1 .refl w1.rl rfl⟩
 | _=>exact p1.elim)
def Fp(d:D)(lo hi:Option Int)(M:Mem):Out D:=match d with
 | .tup ds=>if HT.bJ ds.length 0 lo=0∧HT.bJ ds.length ds.length hi=ds.length then .bad else .ok (.tup (cut ds lo hi)) M
 | .str u=>if u.length≤sizeLine then .ok (.str (Txt.slice u lo hi)) M else .bad
 | d=>match B_ M d with
  | some ds=> .ok (.ref M.length) (M++[.lst (cut ds lo hi)])
  | none=> .bad
def EY(m:ME)(lo hi:MO'):ME:=fun e M=>(m e M).bind fun d M1=>(lo e M1).bind fun l M2=>(hi e M2).bind fun h M3=>Fp d l h M3
theorem jD{lo hi:Option Expr}{ml mh:MO'}{p2:Pos}(ha:SE X ct W a ma)(hl:SO X ct W lo ml)(hh:SO X ct W hi mh):SE X ct W (.Subscript a (.Slice lo hi none p2) pos) (EY ma ml mh):=by
 refine jo (aaH ((aci.or ae7).or ae8) ha hl hh) fun σ H Q q=> ?_
 obtain⟨ι,e,M,w,p⟩:=dY (jq:=jb X.K ct) (f:=fun d e M1=>(ml e M1).bind fun l M2=>(mh e M2).bind fun h M3=>Fp d l h M3) q
 refine⟨ι,e,M,w,p.mono fun v H1 ⟨i_,e1,M1,d,w1,q1,p1⟩=> ?_⟩
 refine⟨i_,e1,M1,w1,?_⟩
 cases z:ml e1 M1 with
 | bad=>simp only[z,Out.sE]at p1;exact p1
 | exc xc xd xM=>simp only[z,Out.qi]at p1;exact p1
 | ok l M2=>
  simp only[z,Out.nH]at p1
  intro rz l' H2 x2 r2 el
  have Vl:l=l':=el;subst Vl
  refine⟨rz,e1,M2,w1.ext x2 r2,?_⟩
  have p2:=p1.ext x2
  cases z2:mh e1 M2 with
  | bad=>simp only[z2,Out.sE]at p2;exact p2
  | exc xc xd xM=>simp only[z2,Out.qi]at p2;exact p2
  | ok h M3=>
   simp only[z2,Out.nH]at p2
   intro Zo h' H3 x3 r3 eh
   have Vl:h=h':=eh;subst Vl
   have p3:=p2.ext x3
   have q3:=(q1.mono x2).mono x3
   cases d with
   | tup ds=>
    obtain⟨aa,xs,rfl,hs,hd⟩:=Vt q3
    simp only[Fp]at p3
    split at p3
    ·exact p3.elim
    ·rename_i hw
     exact .inl (.inr ⟨_,_,rfl,hs,by rw[hd.length];exact hw,fun pp hp=>Cg r3 (hd.cut l h) hp p3⟩)
   | str u=>
    cases mj q3
    simp only[Fp]at p3
    split at p3
    ·rename_i hz
     exact .inr ⟨u,rfl,hz,p3 Zo _ H3 .refl r3 (.str _)⟩
    ·exact p3.elim
   | _=>
    simp only[Fp]at p3
    split at p3
    ·rename_i ds z0
     obtain⟨aa,xs,rfl,hs,hd⟩:=r3.seq z0 q3
     exact .inl (.inl ⟨_,_,rfl,hs,fun pp hp=>yE r3 (hd.cut l h) hp p3⟩)
    ·exact p3.elim
theorem Ag{K:Frag}{ι:Nat→Addr}{n:Nat}{H:Hp}{d:D}{vs:List V}(h:sH K ct ι n H [d] vs):∃v,vs=[v]∧DV K ct ι n H d v:=by
 cases h with | cons a b=>cases b;exact⟨_,rfl,a⟩
theorem adG{K:Frag}{ι:Nat→Addr}{n:Nat}{H:Hp}{d d':D}{vs:List V}(h:sH K ct ι n H [d,d'] vs):∃v v',vs=[v,v']∧DV K ct ι n H d v∧DV K ct ι n H d' v':=by
 cases h with | cons a b=>obtain⟨v,rfl,q⟩:=Ag b;exact⟨_,_,rfl,a,q⟩
def Ar(M:Mem)(d:D):Option (List D):=match d with
 | .tup ds=>some ds
 | d=>B_ M d
theorem Rl.seqs{K:Frag}{ι:Nat→Addr}{M:Mem}{H:Hp}(R:Rl K ct ι M H){d:D}{v:V}{ds:List D}(h:Ar M d=some ds)(q:DV K ct ι M.length H d v):∃a xs,v= .ref a∧(yV K H a xs∨xq K H a xs)∧sH K ct ι M.length H ds xs:=by
 cases d with
 | tup es=>cases h;obtain⟨a,xs,e,hs,hd⟩:=Vt q;exact⟨a,xs,e,.inr hs,hd⟩
 | _=>simp only[Ar]at h;obtain⟨a,xs,e,hs,hd⟩:=R.seq h q;exact⟨a,xs,e,.inl hs,hd⟩
def Wm:Lq:=fun ds M=>match ds with
 | [d]=>match Ar M d with
  | some es=> .ok (.int es.length) M
  | none=> .bad
 | _=> .bad
theorem adN:sI X ct (.builtin "len") Wm:=by
 refine⟨_,QG,fun ι M H ds vs Q R h p=> ?_⟩
 unfold Wm at p
 split at p
 ·rename_i d
  obtain⟨v,rfl,q⟩:=Ag h
  cases z:Ar M d with
  | none=>rw[z]at p;exact p.elim
  | some es=>
   rw[z]at p
   obtain⟨a,xs,rfl,hs,hd⟩:=R.seqs z q
   exact⟨_,xs,rfl,hs,p ι _ H .refl R (by rw[hd.length];exact .int _)⟩
 ·exact p.elim
def orN(a b:Lq):Lq:=fun ds M=>match a ds M with
 | .bad=>b ds M
 | o=>o
theorem sI.or{f:Value}{a b:Lq}(ha:sI X ct f a)(hb:sI X ct f b):sI X ct f (orN a b):=by
 obtain⟨r,h,hs⟩:=ha
 obtain⟨r',h',hs'⟩:=hb
 refine⟨_,h.or h',fun ι M H ds vs Q R q p=> ?_⟩
 unfold orN at p
 cases z:a ds M with
 | ok x M1=>rw[z]at p;exact .inl (hs ι M H ds vs Q R q (by rw[z];exact p))
 | exc xc xd xM=>rw[z]at p;exact .inl (hs ι M H ds vs Q R q (by rw[z];exact p))
 | bad=>rw[z]at p;exact .inr (hs' ι M H ds vs Q R q p)
theorem aaP{a b:Lq}{ds:List D}{x:D}{M M':Mem}(h:a ds M= .ok x M'):orN a b ds M= .ok x M':=by unfold orN;rw[h]
theorem acS{a b:Lq}{ds:List D}{M:Mem}(h:a ds M= .bad):orN a b ds M=b ds M:=by unfold orN;rw[h]
def aek:Lq:=fun _ _=> .bad
theorem adO:sI X ct (.builtin "len") aek:=⟨_,G5,fun ι M H ds vs Q R h p=>p.elim⟩
def afo(neg:Bool):vN:=fun y x M=>match ZK y,Ar M x with
 | some v,some ds=>match XM ds with
  | some vs=> .ok (.bl (if neg=true then !inV v vs else inV v vs)) M
  | none=> .bad
 | _,_=> .bad
theorem afW{K:Frag}{neg:Bool}:Q4 K ct (afo neg) (rIn K neg):=by
 intro w ι M H d d' v v' Q R h h' p
 unfold afo at p
 split at p
 ·rename_i u ds e1 e2
  obtain⟨rfl,f1⟩:=V8 e1 h
  obtain⟨a,xs,rfl,hs,hd⟩:=R.seqs e2 h'
  cases e3:XM ds with
  | none=>rw[e3]at p;exact p.elim
  | some us=>
   rw[e3]at p
   obtain⟨rfl,f2⟩:=V7 e3 hd
   exact⟨a,_,rfl,hs,f1,f2,p ι _ H .refl R (.bl _)⟩
 ·exact p.elim
def sIn:vN:=zM (afp false) (afo false)
theorem alR(hu:X.A.units+64<cLine):m_ X ct (compareOp .In) sIn:=(aht hu).or ⟨_,Nb,afW⟩
def Wl:Lq:=fun ds M=>match ds with
 | [.str z]=>if z.length≤sizeLine then .ok (.int z.length) M else .bad
 | _=> .bad
theorem adM:sI X ct (.builtin "len") Wl:=by
 refine⟨_,G5,fun ι M H ds vs Q R h p=> ?_⟩
 unfold Wl at p
 split at p
 ·obtain⟨v,rfl,q⟩:=Ag h
  cases mj q
  split at p
  ·rename_i hz
   exact⟨_,rfl,hz,p ι _ H .refl R (.int _)⟩
  ·exact p.elim
 ·exact p.elim
def j0:Lq:=orN (orN Wm aek) Wl
theorem gq:sI X ct (.builtin "len") j0:=(adN.or adO).or adM
def asn:Lq:=fun ds M=>match ds with
 | [.int i,.int j]=> .ok (.int (if j > i then j else i)) M
 | _=> .bad
def Wk:Lq:=fun ds M=>match ds with
 | [.int i,.int j]=> .ok (.int (if j<i then j else i)) M
 | _=> .bad
theorem adK(hc:X.calm=true):sI X ct (.builtin "min") Wk:=by
 refine⟨_,Y4 hc,fun ι M H ds vs Q R h p=> ?_⟩
 unfold Wk at p
 split at p
 ·obtain⟨v,v',rfl,q,q'⟩:=adG h
  cases wO q
  cases wO q'
  exact⟨_,_,rfl,p ι _ H .refl R (.int _)⟩
 ·exact p.elim
def MP:Lq:=fun ds M=>match ds with
 | [d]=>match Ar M d with
  | some es=> .ok (.ref M.length) (M++[.lst es])
  | none=> .bad
 | _=> .bad
def yc:Lq:=fun ds M=>match ds with
 | [d]=>match Ar M d with
  | some es=> .ok (.tup es) M
  | none=> .bad
 | _=> .bad
theorem adL:sI X ct (.type "list") MP:=by
 refine⟨_,QF,fun ι M H ds vs Q R h p=> ?_⟩
 unfold MP at p
 split at p
 ·rename_i d
  obtain⟨v,rfl,q⟩:=Ag h
  cases z:Ar M d with
  | none=>rw[z]at p;exact p.elim
  | some es=>
   rw[z]at p
   obtain⟨a,xs,rfl,hs,hd⟩:=R.seqs z q
   exact⟨_,xs,rfl,hs,fun pp hp=>yE R hd hp p⟩
 ·exact p.elim
theorem G4:sI X ct (.type "tuple") yc:=by
 refine⟨_,Mg,fun ι M H ds vs Q R h p=> ?_⟩
 unfold yc at p
 split at p
 ·rename_i d
  obtain⟨v,rfl,q⟩:=Ag h
  cases d with
  | tup es=>
   obtain⟨aa,xs,rfl,hs,hd⟩:=Ah q
   exact⟨_,xs,rfl,.inr ⟨xq.of hs,p ι _ H .refl R (.tup hs hd)⟩⟩
  | _=>
   split at p
   ·rename_i es z
    simp only[Ar]at z
    obtain⟨a,xs,rfl,hs,hd⟩:=R.seq z q
    exact⟨_,xs,rfl,.inl ⟨hs,fun pp hp=>Cg R hd hp p⟩⟩
   ·exact p.elim
 ·exact p.elim
def tyN(M:Mem)(d:D):Option String:=match d with
 | .non=>some "NoneType"
 | .bl _=>some "bool"
 | .int _=>some "int"
 | .str _=>some "str"
 | .tup _=>some "tuple"
 | .ref n=>(uq M n).map fun _=> "list"
 | .cl _=>some "list"
 | _=>none
def aeW(a b:String):Bool:=a==b||(a== "bool" && b== "int")
def zy:List String:=["NoneType","bool","int","str","tuple","list"]
theorem adh{K:Frag}:∀a∈zy,∀b∈zy,kitOne K (.type a) (.type b)=some (aeW a b):=by
 intro a ha b hb
 simp only[zy,List.mem_cons,List.not_mem_nil,or_false]at ha hb
 rcases ha with rfl | rfl | rfl | rfl | rfl | rfl<;>rcases hb with rfl | rfl | rfl | rfl | rfl | rfl<;>with_unfolding_all rfl
def aal:Lq:=fun ds M=>match ds with
 | [d,.ty b]=>match tyN M d with
  | some a=>if b∈zy then .ok (.bl (aeW a b)) M else .bad
  | none=> .bad
 | _=> .bad
@[irreducible] def aax(K:Frag):List V→Hp→VK→Prop:=fun xs H Q=>∃x n b,xs=[x,.ty n]∧Q (.bl b) H∧
 ((∃t,H_ K H x t∧kitOne K t (.type n)=some b)∨(∃a ys,x= .ref a∧xq K H a ys∧kitOne K (.type "tuple") (.type n)=some b)∨(∃a ys,x= .ref a∧yV K H a ys∧kitOne K (.type "list") (.type n)=some b))
theorem Y5:sJ X (.builtin "isinstance") (aax X.K):=by
 intro pins s σ H xs us Q I r h
 unfold aax at h
 obtain⟨x,n,b,rfl,q,h⟩:=h
 obtain⟨u,v,rfl,rx,rc⟩:=vals2 r
 obtain rfl:v= .type n:=rc
 rcases h with⟨t,ty,e⟩ | ⟨a,ys,rfl,hs,e⟩ | ⟨a,ys,rfl,hs,e⟩
 ·exact YF I rx ty e fun tk=>⟨.bl b,H,I.tok tk,rfl,q⟩
 ·cases(show u=Value.ref a from rx)
  obtain⟨its,_,⟨o,h1,h2,_⟩,_⟩:=I.tuple hs
  exact PySem.W.kia_one PySem.W.kitx_tuple I.yX ⟨o,h1,h2⟩ e (fun z=>nomatch z) fun tk=>⟨.bl b,H,I.tok tk,rfl,q⟩
 ·cases(show u=Value.ref a from rx)
  obtain⟨its,_,⟨o,n',h1,h2,_⟩,_⟩:=I.list hs
  exact PySem.W.kia_one PySem.W.kitx_list I.yX ⟨o,h1,h2⟩ e (fun z=>nomatch z) fun tk=>⟨.bl b,H,I.tok tk,rfl,q⟩
theorem agO:sI X ct (.builtin "isinstance") aal:=by
 refine⟨_,Y5,fun ι M H ds vs Q R h p=> ?_⟩
 unfold aal at p
 split at p
 ·rename_i d n
  obtain⟨v,v',rfl,q,q'⟩:=adG h
  cases q'
  unfold aax
  cases z:tyN M d with
  | none=>rw[z]at p;exact p.elim
  | some a=>
   rw[z]at p
   by_cases hn:n∈zy
   ·simp only[hn,if_true]at p
    have ha:a∈zy:=by
     unfold tyN at z
     cases d with
     | ref m=>
      cases z1:uq M m with
      | none=>simp only[z1]at z;cases z
      | some es=>simp only[z1]at z;cases z;show "list" ∈ zy;decide
     | ty _=>cases z
     | cls _=>cases z
     | exc _ _=>cases z
     | _=>cases z;decide
    have e:=adh (K:=X.K) a ha n hn
    refine⟨v,n,aeW a n,rfl,p ι _ H .refl R (.bl _),?_⟩
    cases q with
    | non=>cases z;exact .inl ⟨_,.non,e⟩
    | bl b=>cases z;exact .inl ⟨_,.bl b,e⟩
    | int b=>cases z;exact .inl ⟨_,.int b,e⟩
    | str b=>cases z;exact .inl ⟨_,.str b,e⟩
    | tup hs hd=>cases z;exact .inr (.inl ⟨_,_,rfl,xq.of hs,e⟩)
    | @ref i hi=>
     simp only[tyN]at z
     cases z1:uq M i with
     | none=>rw[z1]at z;cases z
     | some es=>
      rw[z1]at z
      cases z
      obtain⟨xs,hs,hd⟩:=R.obj i _ (vR.mp z1)
      exact .inr (.inr ⟨_,_,rfl,yV.of hs,e⟩)
    | cl hs hd=>cases z;exact .inr (.inr ⟨_,_,rfl,hs.sq,e⟩)
    | ty b=>cases z
    | cls b=>cases z
    | exc _ _ _=>cases z
   ·simp only[hn,if_false]at p
    exact p.elim
 ·exact p.elim
def MtS(X:Cx)(ct:Nat→Addr)(T id:String)(op:D→List D→Mem→Out D):Prop:=∃r,MtR X id r∧∀{w:XW} ι M H d ds v vs Q,Rl X.K ct ι M H→DV X.K ct ι M.length H d v→sH X.K ct ι M.length H ds vs→nJ (jb X.K ct) X.K ct w ι M.length H (op d ds M) Q→r v vs H Q
def I_(T:String)(d:D)(M:Mem):Bool:=match d with
 | .int _=>T== "int"
 | .str _=>T== "str"
 | .ref n=>T== "list" && (uq M n).isSome
 | _=>false
theorem aeT{K:Frag}{ι:Nat→Addr}{M:Mem}{H:Hp}{T:String}{d:D}{v:V}(R:Rl K ct ι M H)(h:I_ T d M=true)(q:DV K ct ι M.length H d v):tyV K T v H:=by
 cases q with
 | int i=>exact beq_iff_eq.mp h
 | str i=>exact beq_iff_eq.mp h
 | @ref i hi=>
  simp only[I_,Bool.and_eq_true,beq_iff_eq]at h
  obtain⟨e,h2⟩:=h
  obtain⟨ds,z⟩:=Option.isSome_iff_exists.mp h2
  obtain⟨xs,hs,_⟩:=R.obj i _ (vR.mp z)
  exact .inl ⟨e,xs,yV.of hs⟩
 | _=>exact absurd h Bool.false_ne_true
def Ma(T:String)(op:D→List D→Mem→Out D)(mo:ME)(ms:MA):ME:=fun e M=>(mo e M).bind fun d M1=>if I_ T d M1=true then(ms e M1).bind fun ds M2=>op d ds M2 else .bad
variable{o:Expr}{es:List Expr}{mo:ME}{ms:MA}{name:Str}{apos cpos:Pos}{T id:String}{op:D→List D→Mem→Out D}
theorem rF(pa:PlainAttrs T)(slot:Slot T name id)(hty:typeOf (.builtin id)=pure (.type "method_descriptor"))(hm:MtS X ct T id op)(ho:SE X ct W o mo)(ha:SA X ct W (a::es) ms)
  (hbase:attributeBase o name X.env (eval o X.env)=eval o X.env:=by rfl)
  (hfew:((backTo cpos (starEach (a::es) X.env)).all (fun x=> !x.1)&&(backToKw cpos (keywordEach [] X.env)).all (fun x=>x.1.isSome)
   && decide ((a::es).length+([]:List Keyword).length+(if([]:List Keyword).isEmpty then 0 else 1)<30))=true:=by rfl)
  (hline:(apos.endLine==cpos.line)=true:=by rfl) (hs:starEach (a::es) X.env=(false,eval a X.env)::starEach es X.env:=by rfl) (hplain:(backTo cpos (starEach es X.env)).any (·.1)=false:=by rfl):
  SE X ct W (.Call (.Attribute o name apos) (a::es) [] cpos) (Ma T op mo ms):=by
 obtain⟨r,hr,hss⟩:=hm
 refine jo (ajr pa slot hty hr ho ha hbase hfew hline hs hplain) fun σ H Q q=> ?_
 obtain⟨ι,e,M,w,p⟩:=dY (jq:=jb X.K ct) (f:=fun d e M1=>if I_ T d M1=true then(ms e M1).bind fun ds M2=>op d ds M2 else .bad) q
 refine⟨ι,e,M,w,p.mono fun v H1 ⟨i_,e1,M1,d,w1,q1,p1⟩=> ?_⟩
 cases z:I_ T d M1 with
 | false=>simp only[z,Bool.false_eq_true,if_false]at p1;exact p1.elim
 | true=>
  simp only[z,if_true]at p1
  refine⟨aeT w1.rl z q1,i_,e1,M1,w1,?_⟩
  cases z2:ms e1 M1 with
  | bad=>simp only[z2,Out.sE]at p1;exact p1
  | exc xc xd xM=>simp only[z2,Out.qi]at p1;exact p1
  | ok ds M2=>
   simp only[z2,Out.nH]at p1
   exact fun rz vs H2 x2 r2 q2=>hss rz M2 H2 d ds v vs Q r2 (q1.mono x2) q2 (p1.ext x2)
def kJ:D→List D→Mem→Out D:=fun d ds M=>match d,ds with
 | .ref n,[x]=>match M[n]? with
  | some (.lst es)=>if es.length<sizeLine then .ok .non (M.set n (.lst (es++[x])))else .bad
  | _=> .bad
 | _,_=> .bad
theorem rm:MtS X ct "list" "list.append" kJ:=by
 refine⟨_,Yu,fun ι M H d ds v vs Q R q qs p=> ?_⟩
 unfold kJ at p
 split at p
 ·rename_i n x
  obtain⟨hn,rfl⟩:=HN q
  obtain⟨y,rfl,qy⟩:=Ag qs
  split at p
  ·rename_i es e1
   split at p
   ·rename_i hz
    obtain⟨xs,hH,hd⟩:=R.obj n _ e1
    have x2:Ext X.K ι M.length H ι M.length (upd H (ι n) (.lst (xs++[y]))):=Ext.chg hH (fun _ z=>nomatch z) (fun _ _ z=>nomatch z)
    refine⟨_,xs,y,rfl,rfl,hH,by rw[hd.length];exact hz,?_⟩
    refine p ι .non _ (by rw[List.length_set];exact x2) (R.chg hn hH (fun _ z=>nomatch z) (fun _ _ z=>nomatch z) ⟨_,fX,(hd.append (.cons qy .nil)).mono x2⟩) .non
   ·exact p.elim
  ·exact p.elim
 ·exact p.elim
end
inductive mU where
 | next (e:Sl) (M:Mem) | ret (d:D) (M:Mem) | brk (e:Sl) (M:Mem) | cont (e:Sl) (M:Mem) | exc (c:Nat) (d:D) (e:Sl) (M:Mem) | bad
abbrev MS:=Sl→Mem→mU
def yW(K:Frag)(ct:Nat→Addr)(W:bK)(ι:Nat→Addr)(n:Nat)(H:Hp)(o:mU)(T:Ends):Prop:=match o with
 | .next e M=>∀ι' σ' H',Ext K ι n H ι' M.length H'→Ws K ct ι' e M σ' H'→T.nx σ' H'
 | .ret d M=>∀ι' v H',Ext K ι n H ι' M.length H'→Rl K ct ι' M H'→DV K ct ι' M.length H' d v→T.rt v H'
 | .brk e M=>∀ι' σ' H',Ext K ι n H ι' M.length H'→Ws K ct ι' e M σ' H'→T.bk σ' H'
 | .cont e M=>∀ι' σ' H',Ext K ι n H ι' M.length H'→Ws K ct ι' e M σ' H'→T.ct σ' H'
 | .exc c d e M=>∀ι' σ' dx v H',Ext K ι n H ι' M.length H'→Ws K ct ι' e M σ' H'→H' dx=some (.xd [("at",v)])→DV K ct ι' M.length H' d v→W (ct c) dx σ' H'
 | .bad=>False
def tS(K:Frag)(ct:Nat→Addr)(W:bK)(m:MS):TS:=fun T σ H=>∃ι e M,Ws K ct ι e M σ H∧yW K ct W ι M.length H (m e M) T
def SS(X:Cx)(ct:Nat→Addr)(W:bK)(st:Stmt)(m:MS):Prop:=PS X st (tS X.K ct W m)
def SSs(X:Cx)(ct:Nat→Addr)(W:bK)(st:List Stmt)(m:MS):Prop:=Jl X st (tS X.K ct W m)
theorem yW.ext{K:Frag}{ct ι ι':Nat→Addr}{W:bK}{n n':Nat}{H H':Hp}{o:mU}{T:Ends}(h:yW K ct W ι n H o T)(x:Ext K ι n H ι' n' H'):yW K ct W ι' n' H' o T:=by
 cases o with
 | next e M=>exact fun rz b H2 x2 w=>h rz b H2 (x.trans x2) w
 | ret d M=>exact fun rz b H2 x2 r q=>h rz b H2 (x.trans x2) r q
 | brk e M=>exact fun rz b H2 x2 w=>h rz b H2 (x.trans x2) w
 | cont e M=>exact fun rz b H2 x2 w=>h rz b H2 (x.trans x2) w
 | exc c d e M=>exact fun rz b dx v H2 x2 w q1 q2=>h rz b dx v H2 (x.trans x2) w q1 q2
 | bad=>exact h
def LR{α:Type}(e:Sl)(o:Out α)(f:α→Mem→mU):mU:=match o with
 | .ok a M=>f a M
 | .exc c d M=> .exc c d e M
 | .bad=> .bad
@[simp] theorem aaR{α:Type}(e:Sl)(a:α)(M:Mem)(f:α→Mem→mU):LR e (.ok a M) f=f a M:=id rfl
@[simp] theorem WD{α:Type}(e:Sl)(c:Nat)(d:D)(M:Mem)(f:α→Mem→mU):LR e (.exc c d M:Out α) f= .exc c d e M:=id rfl
@[simp] theorem WK{α:Type}(e:Sl)(f:α→Mem→mU):LR e (.bad:Out α) f= .bad:=id rfl
theorem zA{α β:Type}{rel:(Nat→Addr)→Mem→Hp→α→β→Prop}{K:Frag}{ct:Nat→Addr}{W:bK}{m:Sl→Mem→Out α}{f:α→Sl→Mem→mU}{σ:St}{H:Hp}{T:Ends}
  (h:tS K ct W (fun e M=>LR e (m e M) fun a M1=>f a e M1) T σ H):tG rel K ct W m σ H (fun b H1=>∃ι e M a,Ws K ct ι e M σ H1∧rel ι M H1 a b∧yW K ct W ι M.length H1 (f a e M) T):=by
 obtain⟨ι,e,M,w,p⟩:=h
 refine⟨ι,e,M,w,?_⟩
 cases z:m e M with
 | bad=>simp only[z,WK]at p;exact p
 | exc xc xd xM=>simp only[z,WD]at p;exact fun i_ dx v H1 x r q1 q2=>p i_ σ dx v H1 x (w.ext x r) q1 q2
 | ok a M1=>
  simp only[z,aaR]at p
  exact fun i_ b H1 x r q=>⟨i_,e,M1,a,w.ext x r,q,p.ext x⟩
section
variable{X:Cx}{ct:Nat→Addr}{W:bK}{st:Stmt}{rest:List Stmt}{s t:MS}{a:Expr}{ma:ME}{pos:Pos}
theorem PS.imp{st:Stmt}{t t':TS}(h:PS X st t)(hi:∀T σ H,t' T σ H→t T σ H):PS X st t':=fun pins s σ H T I q=>h pins s σ H T I (hi T σ H q)
theorem Jl.imp{st:List Stmt}{t t':TS}(h:Jl X st t)(hi:∀T σ H,t' T σ H→t T σ H):Jl X st t':=fun pins s σ H T I q=>h pins s σ H T I (hi T σ H q)
def fO:MS:=fun e M=> .next e M
def bx(s t:MS):MS:=fun e M=>match s e M with
 | .next e' M'=>t e' M'
 | o=>o
theorem ZM{T:Ends}{σ:St}{H:Hp}(h:tS X.K ct W fO T σ H):aeh T σ H:=let⟨ι,_,_,w,p⟩:=h;p ι σ H .refl w
theorem di:SSs X ct W [] fO:=Jl.imp acF fun T σ H q=>ZM q
theorem aF(h1:SS X ct W st s)(h2:SSs X ct W rest t):SSs X ct W (st::rest) (bx s t):=Jl.imp (aay h1 h2) fun T σ H ⟨ι,e,M,w,p⟩=>by
 refine⟨ι,e,M,w,?_⟩
 unfold bx at p
 cases z:s e M with
 | next e' M'=>rw[z]at p;exact fun ι' σ' H' x w'=>⟨ι',e',M',w',p.ext x⟩
 | ret d M'=>rw[z]at p;exact p
 | brk d M'=>rw[z]at p;exact p
 | cont d M'=>rw[z]at p;exact p
 | exc c d e M'=>rw[z]at p;exact p
 | bad=>rw[z]at p;exact p
theorem aP(h1:SS X ct W st s):SSs X ct W [st] s:=Wx h1
def rJ(m:ME):MS:=fun e M=>LR e (m e M) fun _ M1=> .next e M1
theorem kI(he:SE X ct W a ma)(hs:swapsWith a none pos.line X.env=pure false:=by rfl):SS X ct W (.Expr a pos) (rJ ma):=PS.imp (acI he hs) fun T σ H q=>by
 obtain⟨ι,e,M,w,p⟩:=zA (rel:=jb X.K ct) (f:=fun _ e M1=> .next e M1) q
 exact⟨ι,e,M,w,p.mono fun v H1 ⟨i_,e1,M1,d,w1,q1,p1⟩=>p1 i_ σ H1 .refl w1⟩
def iB(m:ME):MS:=fun e M=>LR e (m e M) fun d M1=> .ret d M1
theorem bO(he:SE X ct W a ma):SS X ct W (.Return (some a) pos) (iB ma):=PS.imp (afB he) fun T σ H q=>by
 obtain⟨ι,e,M,w,p⟩:=zA (rel:=jb X.K ct) (f:=fun d e M1=> .ret d M1) q
 exact⟨ι,e,M,w,p.mono fun v H1 ⟨i_,e1,M1,d,w1,q1,p1⟩=>p1 i_ v H1 .refl w1.rl q1⟩
def zK(c:MT)(s t:MS):MS:=fun e M=>LR e (c e M) fun k M1=>if k=true then s e M1 else t e M1
theorem fY{c:Expr}{b b':List Stmt}{mc:MT}(hc:STt X ct W c mc)(ha:SSs X ct W b s)(hb:SSs X ct W b' t):SS X ct W (.If c b b' pos) (zK mc s t):=PS.imp (aiW hc ha hb) fun T σ H q=>by
 obtain⟨ι,e,M,w,p⟩:=zA (rel:=Kh) (f:=fun k e M1=>if k=true then s e M1 else t e M1) q
 refine⟨ι,e,M,w,p.mono fun k H1 ⟨i_,e1,M1,d,w1,q1,p1⟩=> ?_⟩
 have Vl:d=k:=q1;subst Vl
 cases d with
 | true=>exact⟨i_,e1,M1,w1,p1⟩
 | false=>exact⟨i_,e1,M1,w1,p1⟩
abbrev Tg:=D→Sl→Option Sl
abbrev Tgs:=List D→Sl→Option Sl
def aeI(K:Frag)(ct ι:Nat→Addr)(M:Mem)(H:Hp)(o:Option Sl)(Q:St→Hp→Prop):Prop:=match o with
 | some e'=>∀σ',Ws K ct ι e' M σ' H→Q σ' H
 | none=>False
def tT(K:Frag)(ct:Nat→Addr)(g:Tg):TG:=fun v σ H Q=>∃ι e M d,Ws K ct ι e M σ H∧DV K ct ι M.length H d v∧aeI K ct ι M H (g d e) Q
def tTs(K:Frag)(ct:Nat→Addr)(g:Tgs):TGs:=fun vs σ H Q=>∃ι e M ds,Ws K ct ι e M σ H∧sH K ct ι M.length H ds vs∧aeI K ct ι M H (g ds e) Q
def SG(X:Cx)(ct:Nat→Addr)(tg:Expr)(g:Tg):Prop:=PG X tg (tT X.K ct g)
def SGs(X:Cx)(ct:Nat→Addr)(tg:List Expr)(g:Tgs):Prop:=PGs X tg (tTs X.K ct g)
theorem PG.imp{tg:Expr}{t t':TG}(h:PG X tg t)(hi:∀v σ H Q,t' v σ H Q→t v σ H Q):PG X tg t':=fun pins s σ H v u Q I r q=>h pins s σ H v u Q I r (hi v σ H Q q)
theorem PGs.imp{tg:List Expr}{t t':TGs}(h:PGs X tg t)(hi:∀v σ H Q,t' v σ H Q→t v σ H Q):PGs X tg t':=fun pins s σ H v u Q I r q=>h pins s σ H v u Q I r (hi v σ H Q q)
def gN(i:Nat):Tg:=fun d e=>some (e.set i (some d))
theorem zE{i:Nat}{x:Str}(hN:X.N.Nodup)(hi:X.N[i]? = some x)(hx:Loc X.env.scope x)(hf:X.fn x=true∨X.env.scope.names.lookup x=some .local:=by first | exact .inl rfl | exact .inr rfl | assumption):SG X ct (.Name x pos) (gN i):=
 PG.imp (acM hN hi hx hf) fun v σ H Q ⟨ι,e,M,d,w,q,p⟩=>p _ (w.set i q)
def abk:Tgs:=fun ds e=>match ds with
 | []=>some e
 | _=>none
def K4(g:Tg)(gs:Tgs):Tgs:=fun ds e=>match ds with
 | d::r=>(g d e).bind fun e'=>gs r e'
 | []=>none
theorem acj:SGs X ct [] abk:=PGs.imp acL fun vs σ H Q ⟨ι,e,M,ds,w,q,p⟩=>by
 cases q with
 | nil=>exact⟨rfl,p σ w⟩
 | cons _ _=>exact p.elim
theorem Rr{es:List Expr}{g:Tg}{gs:Tgs}(h1:SG X ct a g)(h2:SGs X ct es gs)
  (hs:(assignEach (a::es) X.env).map (·.2)=assign a X.env::(assignEach es X.env).map (·.2):=by rfl):SGs X ct (a::es) (K4 g gs):=PGs.imp (aaF h1 h2 hs) fun vs σ H Q ⟨ι,e,M,ds,w,q,p⟩=>by
 cases q with
 | nil=>exact p.elim
 | @cons d x ds xs h hs=>
  refine⟨x,xs,rfl,ι,e,M,d,w,h,?_⟩
  simp only[K4]at p
  cases z:g d e with
  | none=>rw[z]at p;exact p.elim
  | some e'=>rw[z]at p;exact fun σ' w'=>⟨ι,e',M,ds,w',hs,p⟩
def gT(n:Nat)(gs:Tgs):Tg:=fun d e=>match d with
 | .tup ds=>if ds.length=n then gs ds e else none
 | _=>none
theorem ae_{es:List Expr}{k:Nat}{gs:Tgs}{n:Nat}(hc:X.calm=true)(h:SGs X ct es gs)
  (hn:(assignEach es X.env).length=n:=by rfl) (hst:(assignEach es X.env).findIdx? (·.1)=none:=by rfl):SG X ct (.Tuple es k pos) (gT n gs):=PG.imp (afH hc h hn hst) fun v σ H Q ⟨ι,e,M,d,w,q,p⟩=>by
 cases q with
 | @tup a xs ds hs hd=>
  simp only[gT]at p
  split at p
  ·rename_i hl
   exact⟨a,xs,rfl,xq.of hs,by rw[hd.length];exact hl,ι,e,M,ds,w,hd,p⟩
  ·exact p.elim
 | _=>exact p.elim
def dm(m:ME)(g:Tg):MS:=fun e M=>LR e (m e M) fun d M1=>match g d e with
 | some e'=> .next e' M1
 | none=> .bad
theorem OD{te:TE}{tg:TG}{m:ME}{g:Tg}{T:Ends}{σ:St}{H:Hp}(he:∀Q,tG (jb X.K ct) X.K ct W m σ H Q→te σ H Q)(hg:∀v H Q,tT X.K ct g v σ H Q→tg v σ H Q)(h:tS X.K ct W (dm m g) T σ H):ace te tg T σ H:=by
 refine he _ ?_
 obtain⟨ι,e,M,w,p⟩:=zA (rel:=jb X.K ct) (f:=fun d e M1=>match g d e with
  | some e'=> .next e' M1
  | none=> .bad) h
 refine⟨ι,e,M,w,p.mono fun v H1 ⟨i_,e1,M1,d,w1,q1,p1⟩=>hg _ _ _ ⟨i_,e1,M1,d,w1,q1,?_⟩⟩
 cases z:g d e1 with
 | none=>rw[z]at p1;exact p1
 | some e'=>rw[z]at p1;exact fun σ' w'=>p1 i_ σ' H1 .refl w'
theorem ae1{tg:Expr}{g:Tg}(he:SE X ct W a ma)(hg:SG X ct tg g)(hs:swapsWithSole [tg] a pos.line X.env=pure false:=by rfl)(hw:swappedStores [tg] a X.env=pure none:=by rfl)
  (h1:(assignEach [tg] X.env).map (·.2)=[assign tg X.env]:=by rfl):SS X ct W (.Assign [tg] a pos) (dm ma g):=PS.imp (afE he hg hs hw h1) fun T σ H q=>OD (fun _ q=>q) (fun _ _ _ q=>q) q
theorem bz{i:Nat}{x:Str}{pos':Pos}(hN:X.N.Nodup)(hi:X.N[i]? = some x)(hx:Loc X.env.scope x)(he:SE X ct W a ma)(hs:swapsWith a (some (.Name x pos')) pos.line X.env=pure false:=by rfl)(hf:X.fn x=true∨X.env.scope.names.lookup x=some .local:=by first | exact .inl rfl | exact .inr rfl | assumption):
  SS X ct W (.Assign [.Name x pos'] a pos) (dm ma (gN i)):=PS.imp (afA hN hi hx he hs hf) fun T σ H q=>OD (fun _ q=>q) (fun v H Q ⟨ι,e,M,d,w,q,p⟩=>p _ (w.set i q)) q
def uf(cs:List Nat)(f:Str)(d:D)(o:D)(M:Mem):Option Mem:=match o with
 | .ref n=>match M[n]? with
  | some (.ins c fs)=>if c∈cs∧fs.length<1000 then some (M.set n (.ins c (putD f d fs)))else none
  | _=>none
 | _=>none
def xN(cs:List Nat)(mo mv:ME)(f:Str):MS:=fun e M=>LR e (mv e M) fun d M1=>LR e (mo e M1) fun o M2=>match uf cs f d o M2 with
 | some M3=> .next e M3
 | none=> .bad
theorem Ua.put{K:Frag}{ι:Nat→Addr}{n:Nat}{H:Hp}{f:Str}{d:D}{v:V}(h:DV K ct ι n H d v):∀{fs:List (Str×D)} {vs:List (Str×V)},Ua K ct ι n H fs vs→Ua K ct ι n H (putD f d fs) (yf f v vs)
 | _,_,.nil=> .cons h .nil
 | _,_,.cons (x:=x) h' hs=>by
  unfold putD yf
  by_cases e:x=f
  ·rw[if_pos e,if_pos e];exact .cons h hs
  ·rw[if_neg e,if_neg e];exact .cons h' (hs.put h)
theorem vW{o:Expr}{mo:ME}{cs:List Nat}{f:Str}{pos':Pos}(hc:Lp X.K ct f cs)(ho:SE X ct W o mo)(hv:SE X ct W a ma)(hs:swapsWith a (some (.Attribute o f pos')) pos.line X.env=pure false:=by rfl):
  SS X ct W (.Assign [.Attribute o f pos'] a pos) (xN cs mo ma f):=PS.imp (afD ho hv hs) fun T σ H q=>by
 obtain⟨ι,e,M,w,p⟩:=zA (rel:=jb X.K ct) (f:=fun d e M1=>LR e (mo e M1) fun o M2=>match uf cs f d o M2 with
  | some M3=> .next e M3
  | none=> .bad) q
 refine⟨ι,e,M,w,p.mono fun y H1 ⟨i_,e1,M1,d,w1,q1,p1⟩=>⟨i_,e1,M1,w1,?_⟩⟩
 cases z:mo e1 M1 with
 | bad=>simp only[z,WK]at p1;exact p1
 | exc xc xd xM=>simp only[z,WD]at p1;exact fun rz dx v H2 x r q1 q2=>p1 rz σ dx v H2 x (w1.ext x r) q1 q2
 | ok o' M2=>
  simp only[z,aaR]at p1
  intro rz x H2 x2 r2 q2
  have p2:=p1.ext x2
  have w2:=w1.ext x2 r2
  have qd:=q1.mono x2
  cases q2 with
  | @ref n hn=>
   simp only[uf]at p2
   cases z0:M2[n]? with
   | none=>rw[z0]at p2;exact p2.elim
   | some ob=>
    cases ob with
    | lst _=>rw[z0]at p2;exact p2.elim
    | dk _=>rw[z0]at p2;exact p2.elim
    | dt _=>rw[z0]at p2;exact p2.elim
    | ins c fs=>
     simp only[z0]at p2
     by_cases hcs:c∈cs∧fs.length<1000
     ·rw[if_pos hcs]at p2
      obtain⟨dx,vs,hH,fv⟩:=r2.obj n _ z0
      have x3:Ext X.K rz M2.length H2 rz M2.length (upd H2 (rz n) (.ins (ct c) dx (yf f y vs))):=Ext.chg hH (fun _ z=>nomatch z) (fun _ _ z=>nomatch z)
      refine⟨_,_,dx,vs,rfl,hH,(hc.get hcs.1).1,(hc.get hcs.1).2,by rw[fv.length];exact hcs.2,?_⟩
      have r3:=r2.chg (o:= .ins (ct c) dx (yf f y vs)) (x:= .ins c (putD f d fs)) hn hH (fun _ z=>nomatch z) (fun _ _ z=>nomatch z) ⟨dx,_,fX,(fv.put qd).mono x3⟩
      have x3':Ext X.K rz M2.length H2 rz (M2.set n (.ins c (putD f d fs))).length (upd H2 (rz n) (.ins (ct c) dx (yf f y vs))):=by rw[List.length_set];exact x3
      exact p2 rz σ _ x3' (w2.ext x3' r3)
     ·rw[if_neg hcs]at p2
      exact p2.elim
  | _=>exact p2.elim
structure Itm where
 src:Option (Nat×List D)
 ds:List D
def uQ(s:Option (Nat×List D))(M:Mem):Prop:=match s with
 | none=>True
 | some (n,ds)=>uq M n=some ds
noncomputable instance{s:Option (Nat×List D)}{M:Mem}:Decidable (uQ s M):=Classical.propDecidable _
def acw(K:Frag)(ct:Nat→Addr):(Nat→Addr)→Mem→Hp→Itm→It→Prop:=fun ι M H it J=>uQ it.src M∧it.ds.length≤sizeLine∧∀ι' M' H',Ext K ι M.length H ι' M'.length H'→Rl K ct ι' M' H'→uQ it.src M'→
 ∀i,(∀d,it.ds[i]? = some d→J.go i H'∧∀x H2,J.yld i H' x H2→Ext K ι' M'.length H' ι' M'.length H2∧Rl K ct ι' M' H2∧DV K ct ι' M'.length H2 d x)∧(it.ds.length≤i→J.stop i H')
abbrev MI:=Sl→Mem→Out Itm
def SI(X:Cx)(ct:Nat→Addr)(W:bK)(tg e:Expr)(m:MI):Prop:=PI X tg e (tG (acw X.K ct) X.K ct W m)
theorem PI.imp{tg e:Expr}{t t':TI}(h:PI X tg e t)(hi:∀σ H R,t' σ H R→t σ H R):PI X tg e t':=fun pins s σ H R I q=>h pins s σ H R I (hi σ H R q)
def vq(src:Option (Nat×List D))(g:Tg)(b:MS):List D→Sl→Mem→mU
 | [],e,M=>if uQ src M then .next e M else .bad
 | d::ds,e,M=>if uQ src M then(match g d e with
   | none=> .bad
   | some e1=>match b e1 M with
    | .next e2 M2=>vq src g b ds e2 M2
    | .cont e2 M2=>vq src g b ds e2 M2
    | .brk e2 M2=> .next e2 M2
    | .ret d M2=> .ret d M2
    | .exc c d e2 M2=> .exc c d e2 M2
    | .bad=> .bad)else .bad
def Ux(mi:MI)(g:Tg)(b:MS):MS:=fun e M=>LR e (mi e M) fun it M1=>vq it.src g b it.ds e M1
theorem JV{tg iter:Expr}{body:List Stmt}{mi:MI}{g:Tg}{b:MS}(hp:X.Ok→PassesOwn (model X.prog X.w) X.A X.env X.xe)(hc:X.calm=true)(hi:SI X ct W tg iter mi)(hg:SG X ct tg g)(hb:SSs X ct W body b)
  (hs:∀x,foldedSetIterable iter X.env x=pure x:=by intro _;rfl):SS X ct W (.For tg iter body [] pos) (Ux mi g b):=PS.imp (fun pins s σ H D I h=>acH (hp I.ok) hc hi hg hb hs pins s σ H D I h) fun T σ H q=>by
 obtain⟨ι,e,M,w,p⟩:=zA (rel:=acw X.K ct) (f:=fun it e M1=>vq it.src g b it.ds e M1) q
 refine⟨ι,e,M,w,p.mono fun J H1 ⟨i_,e1,M1,it,w1,q1,p1⟩=> ?_⟩
 obtain⟨ok1,_,step⟩:=q1
 refine⟨fun i m σ' H'=>m=it.ds.length - i∧i≤it.ds.length∧∃ι' e' M',Ext X.K i_ M1.length H1 ι' M'.length H'∧Ws X.K ct ι' e' M' σ' H'∧yW X.K ct W ι' M'.length H' (vq it.src g b (it.ds.drop i) e' M') T,
  ⟨it.ds.length,by simp,Nat.zero_le _,i_,e1,M1,.refl,w1,by simpa using p1⟩,?_⟩
 rintro i m σ' H' ⟨rfl,hi,ι',e',M',x',w',p'⟩
 by_cases hlt:i<it.ds.length
 ·rw[List.drop_eq_getElem_cons hlt]at p'
  unfold vq at p'
  by_cases ok':uQ it.src M'
  ·rw[if_pos ok']at p'
   obtain⟨go,yl⟩:=(step ι' M' H' x' w'.rl ok' i).1 _ (List.getElem?_eq_getElem hlt)
   refine .inr ⟨go,fun σ2 H2=>∃rz e2 M2,Ext X.K i_ M1.length H1 rz M2.length H2∧Ws X.K ct rz e2 M2 σ2 H2∧yW X.K ct W rz M2.length H2 (vq it.src g b (it.ds.drop (i+1)) e2 M2) T,?_,?_⟩
   ·rintro σ2 H2 ⟨rz,e2,M2,x2,w2,p2⟩
    exact⟨it.ds.length - (i+1),by omega,rfl,hlt,rz,e2,M2,x2,w2,p2⟩
   ·intro x H2 y
    obtain⟨x2,r2,dv⟩:=yl x H2 y
    have w2:=w'.ext x2 r2
    have p2:=p'.ext x2
    refine⟨ι',e',M',_,w2,dv,?_⟩
    cases z:g it.ds[i] e' with
    | none=>rw[z]at p2;exact p2
    | some e2=>
     rw[z]at p2
     intro σ3 w3
     refine⟨ι',e2,M',w3,?_⟩
     cases z3:b e2 M' with
     | next e4 M4=>simp only[z3]at p2;exact fun ι5 σ5 H5 x5 w5=>⟨ι5,e4,M4,(x'.trans x2).trans x5,w5,p2.ext x5⟩
     | cont e4 M4=>simp only[z3]at p2;exact fun ι5 σ5 H5 x5 w5=>⟨ι5,e4,M4,(x'.trans x2).trans x5,w5,p2.ext x5⟩
     | brk e4 M4=>simp only[z3]at p2;exact p2
     | ret d M4=>simp only[z3]at p2;exact p2
     | exc xc xd xe xM=>simp only[z3]at p2;exact p2
     | bad=>simp only[z3]at p2;exact p2
  ·rw[if_neg ok']at p'
   exact p'.elim
 ·have e0:i=it.ds.length:=by omega
  subst e0
  rw[List.drop_length]at p'
  unfold vq at p'
  by_cases ok':uQ it.src M'
  ·rw[if_pos ok']at p'
   exact .inl ⟨(step ι' M' H' x' w'.rl ok' _).2 (Nat.le_refl _),p' ι' σ' H' .refl w'⟩
  ·rw[if_neg ok']at p'
   exact p'.elim
def Vi(d:D)(M1:Mem):Out Itm:=match d with
 | .ref n=>match uq M1 n with
  | some ds=> .ok ⟨some (n,ds),ds⟩ M1
  | none=> .bad
 | .cl ds=> .ok ⟨none,ds⟩ M1
 | .tup ds=> .ok ⟨none,ds⟩ M1
 | _=> .bad
def Ni(m:ME):MI:=fun e M=>(m e M).bind Vi
theorem afG{tg l:Expr}{tl:TE}(hl:PE X l tl):PI X tg l (fun σ H R=>tl σ H fun x H1=>∃a,x= .ref a∧(((∃xs,yV X.K H1 a xs)∧((∀xs,yV X.K H1 a xs→xs.length≤sizeLine)→R (Itl X.K a) H1))∨((∃xs,xq X.K H1 a xs)∧((∀xs,xq X.K H1 a xs→xs.length≤sizeLine)→R (Itt X.K a) H1)))):=by
 intro pins s σ H R I h
 refine mz (hl pins s σ H _ I h) fun v s1 ⟨x,H1,I1,r1,q1⟩=> ?_
 obtain⟨a,e,q⟩:=q1
 subst e
 cases r1
 rcases q with⟨⟨xs,hq⟩,q⟩ | ⟨⟨xs,hq⟩,q⟩
 ·obtain⟨its,rv,p,hz⟩:=I1.list hq
  have q:=q fun ys hy=>by obtain⟨_,_,_,hz⟩:=I1.list hy;exact hz
  refine wpAny_pyIter_list p.isList ?_
  refine⟨s1.heap.objs.size,[s1.heap.objs.size],_,_,H1,rfl,I1.kept (t':=s1.toks) fun b o e=>Heap.get?_push_of_some _ e,XJ a _,⟨_,Heap.get?_push_size _ rfl,rfl,rfl⟩,fun b hb=> ?_,q⟩
  have e:b=s1.heap.objs.size:=by simpa using hb
  subst e
  exact I1.adz (Nat.le_refl _) (I1.hok.fresh (Nat.le_refl _))
 ·obtain⟨its,rv,p,hz⟩:=I1.tuple hq
  have q:=q fun ys hy=>by obtain⟨_,_,_,hz⟩:=I1.tuple hy;exact hz
  refine wpAny_pyIter_tuple (show s1.heap.IsTuple a its.toArray from p) ?_
  refine⟨s1.heap.objs.size,[s1.heap.objs.size],_,_,H1,rfl,I1.kept (t':=s1.toks) fun b o e=>Heap.get?_push_of_some _ e,Uh a _,⟨_,Heap.get?_push_size _ rfl,rfl,rfl⟩,fun b hb=> ?_,q⟩
  have e:b=s1.heap.objs.size:=by simpa using hb
  subst e
  exact I1.adz (Nat.le_refl _) (I1.hok.fresh (Nat.le_refl _))
theorem Sw{K:Frag}{ι:Nat→Addr}{M:Mem}{H:Hp}{a:Addr}{xs:List V}{ds:List D}(R:Rl K ct ι M H)(hq:yV K H a xs)(hd:sH K ct ι M.length H ds xs)(i:Nat):
  (∀d,ds[i]? = some d→(Itl K a).go i H∧∀x H2,(Itl K a).yld i H x H2→Ext K ι M.length H ι M.length H2∧Rl K ct ι M H2∧DV K ct ι M.length H2 d x)∧(ds.length≤i→(Itl K a).stop i H):=by
 refine⟨fun d e=> ?_,fun h=>⟨xs,hq,by rw[hd.length];exact h⟩⟩
 obtain⟨v,hv,dv⟩:=hd.at e
 refine⟨⟨xs,v,hq,hv⟩,fun x H2 y=> ?_⟩
 obtain⟨e2,y⟩:=y
 subst e2
 have z:=y xs hq
 rw[hv]at z
 cases z
 exact⟨.refl,R,dv⟩
theorem abd{K:Frag}{ι:Nat→Addr}{M:Mem}{H:Hp}{a:Addr}{xs:List V}{ds:List D}(R:Rl K ct ι M H)(hq:xq K H a xs)(hd:sH K ct ι M.length H ds xs)(i:Nat):
  (∀d,ds[i]? = some d→(Itt K a).go i H∧∀x H2,(Itt K a).yld i H x H2→Ext K ι M.length H ι M.length H2∧Rl K ct ι M H2∧DV K ct ι M.length H2 d x)∧(ds.length≤i→(Itt K a).stop i H):=by
 refine⟨fun d e=> ?_,fun h=>⟨xs,hq,by rw[hd.length];exact h⟩⟩
 obtain⟨v,hv,dv⟩:=hd.at e
 refine⟨⟨xs,v,hq,hv⟩,fun x H2 y=> ?_⟩
 obtain⟨e2,y⟩:=y
 subst e2
 have z:=y xs hq
 rw[hv]at z
 cases z
 exact⟨.refl,R,dv⟩
theorem O4{tg:Expr}(hl:SE X ct W a ma):SI X ct W tg a (Ni ma):=PI.imp (afG hl) fun σ H R q=>by
 obtain⟨ι,e,M,w,p⟩:=dY (jq:=jb X.K ct) (f:=fun d _ M1=>Vi d M1) q
 refine⟨ι,e,M,w,p.mono fun v H1 ⟨i_,e1,M1,d,w1,q1,p1⟩=> ?_⟩
 cases q1 with
 | @ref n hn=>
  dsimp only[Vi]at p1
  cases z:uq M1 n with
  | none=>rw[z]at p1;exact p1.elim
  | some ds=>
   rw[z]at p1
   obtain⟨xs,hH,hd⟩:=w1.rl.obj n _ (vR.mp z)
   refine⟨_,rfl,.inl ⟨⟨xs,yV.of hH⟩,fun hz=>p1 i_ _ H1 .refl w1.rl ⟨z,by rw[←hd.length];exact hz xs (yV.of hH),fun rz M2 H2 x2 r2 ok2 i=> ?_⟩⟩⟩
   obtain⟨xs2,hH2,hd2⟩:=r2.obj n _ (vR.mp ok2)
   rw[←x2.same n hn]
   exact Sw r2 (yV.of hH2) hd2 i
 | cl h1 h2=>exact⟨_,rfl,.inl ⟨⟨_,h1.sq⟩,fun hz=>p1 i_ _ H1 .refl w1.rl ⟨trivial,by rw[←h2.length];exact hz _ h1.sq,fun rz M2 H2 x2 r2 ok2 i=>Sw r2 (x2.Dr _ _ h1).sq (h2.mono x2) i⟩⟩⟩
 | tup h1 h2=>exact⟨_,rfl,.inr ⟨⟨_,xq.of h1⟩,fun hz=>p1 i_ _ H1 .refl w1.rl ⟨trivial,by rw[←h2.length];exact hz _ (xq.of h1),fun rz M2 H2 x2 r2 ok2 i=>abd r2 (xq.of (x2.tup _ _ h1)) (h2.mono x2) i⟩⟩⟩
 | _=>exact p1.elim
def Hs(lo:Int)(n:Nat):List D:=(List.range n).map fun(k:Nat)=>D.int (lo+k)
def LK(ds:List D)(M1:Mem):Out Itm:=match ds with
 | [.int j]=>if -(2 ^ 62)≤j∧j<2 ^ 24 then .ok ⟨none,Hs 0 j.toNat⟩ M1 else .bad
 | _=> .bad
def Nh(ms:MA):MI:=fun e M=>(ms e M).bind LK
theorem abe{K:Frag}{ι:Nat→Addr}{M:Mem}{H:Hp}(R:Rl K ct ι M H)(lo:Int)(n i:Nat):
  (∀d,(Hs lo n)[i]? = some d→(Itr lo n).go i H∧∀x H2,(Itr lo n).yld i H x H2→Ext K ι M.length H ι M.length H2∧Rl K ct ι M H2∧DV K ct ι M.length H2 d x)∧((Hs lo n).length≤i→(Itr lo n).stop i H):=by
 refine⟨fun d e=> ?_,fun h=>(by simpa[Hs]using h:n≤i)⟩
 unfold Hs at e
 rw[List.getElem?_map]at e
 obtain⟨k,hk,rfl⟩:=Option.map_eq_some_iff.mp e
 obtain⟨hi,e2⟩:=List.getElem?_eq_some_iff.mp hk
 have hi':i<n:=by simpa using hi
 have ek:k=i:=by rw[←e2];simp
 subst ek
 refine⟨hi',fun x H2 y=> ?_⟩
 obtain⟨e3,y⟩:=y
 subst e3 y
 exact⟨.refl,R,.int _⟩
theorem agj:(2 ^ 24:Nat)≤sizeLine:=by rw[sizeLine_eq];decide
theorem Dk{tg a:Expr}{ms:MA}{p pos:Pos}(hg:Gl X "range")(hm:X.mg "range" = none)(ha:SA X ct W [a] ms)(hs:starEach [a] X.env=[(false,eval a X.env)]:=by rfl):SI X ct W tg (.Call (.Name "range" p) [a] [] pos) (Nh ms):=PI.imp (Yg hg hm ha hs) fun σ H R q=>by
 obtain⟨ι,e,M,w,p⟩:=dY (jq:=Jf X.K ct) (f:=fun ds _ M1=>LK ds M1) q
 refine⟨ι,e,M,w,p.mono fun v H1 ⟨i_,e1,M1,d,w1,q1,p1⟩=> ?_⟩
 dsimp only[LK]at p1
 split at p1
 ·rename_i j
  obtain⟨v,rfl,q2⟩:=Ag q1
  cases wO q2
  split at p1
  ·rename_i hj
   have hz:=agj
   exact⟨j,rfl,hj.1,by omega,p1 i_ _ H1 .refl w1.rl ⟨trivial,by simp[Hs];omega,fun rz M2 H2 x2 r2 ok2 i=>abe r2 0 _ i⟩⟩
  ·exact p1.elim
 ·exact p1.elim
def xr(c:MT)(b:MS):Nat→Sl→Mem→mU
 | 0,_,_=> .bad
 | n+1,e,M=>match c e M with
  | .bad=> .bad
  | .exc c d M1=> .exc c d e M1
  | .ok false M1=> .next e M1
  | .ok true M1=>match b e M1 with
   | .next e2 M2=>xr c b n e2 M2
   | .cont e2 M2=>xr c b n e2 M2
   | .brk e2 M2=> .next e2 M2
   | .ret d M2=> .ret d M2
   | .exc c d e2 M2=> .exc c d e2 M2
   | .bad=> .bad
theorem JP{c:MT}{b:MS}:∀(n:Nat) (e:Sl) (M:Mem),xr c b n e M≠ .bad→xr c b (n+1) e M=xr c b n e M
 | 0,_,_,h=>absurd rfl h
 | n+1,e,M,h=>by
  unfold xr at h ⊢
  cases z:c e M with
  | bad=>rfl
  | exc _ _ _=>rfl
  | ok k M1=>
   cases k with
   | false=>rfl
   | true=>
    simp only[z]at h ⊢
    cases z2:b e M1 with
    | next e2 M2=>simp only[z2]at h ⊢;exact JP n e2 M2 h
    | cont e2 M2=>simp only[z2]at h ⊢;exact JP n e2 M2 h
    | brk e2 M2=>rfl
    | ret d M2=>rfl
    | exc _ _ _ _=>rfl
    | bad=>rfl
theorem Ue{c:MT}{b:MS}{n:Nat}{e:Sl}{M:Mem}(h:xr c b n e M≠ .bad):∀k,xr c b (n+k) e M=xr c b n e M
 | 0=>rfl
 | k+1=>by
  have ih:=Ue h k
  rw[←Nat.add_assoc,JP _ _ _ (by rw[ih];exact h)]
  exact ih
open Classical in
def Ew(c:MT)(b:MS):MS:=fun e M=>if h:∃n,xr c b n e M≠ .bad then xr c b (Classical.choose h) e M else .bad
theorem vO{c:MT}{b:MS}{n:Nat}{e:Sl}{M:Mem}{o:mU}(h:xr c b n e M=o)(ho:o≠ .bad):Ew c b e M=o:=by
 have ex:∃n,xr c b n e M≠ .bad:=⟨n,by rw[h];exact ho⟩
 unfold Ew
 rw[dif_pos ex]
 have h1:=Classical.choose_spec ex
 rcases Nat.le_total n (Classical.choose ex)with l | l
 ·obtain⟨k,hk⟩:=Nat.exists_eq_add_of_le l
  rw[hk,Ue (by rw[h];exact ho) k,h]
 ·obtain⟨k,hk⟩:=Nat.exists_eq_add_of_le l
  rw[←h,hk,Ue h1 k]
theorem JT{c:Expr}{body:List Stmt}{mc:MT}{b:MS}(hp:X.Ok→PassesOwn (model X.prog X.w) X.A X.env X.xe)(hc:STt X ct W c mc)(hb:SSs X ct W body b):SS X ct W (.While c body [] pos) (Ew mc b):=PS.imp (fun pins s σ H D I h=>aaz (hp I.ok) hc hb pins s σ H D I h) fun T σ H ⟨ι,e,M,w,p⟩=>by
 unfold Ew at p
 split at p
 ·rename_i ex
  refine⟨fun m σ' H'=>∃ι' e' M',Ws X.K ct ι' e' M' σ' H'∧yW X.K ct W ι' M'.length H' (xr mc b m e' M') T,⟨_,ι,e,M,w,p⟩,?_⟩
  rintro m σ' H' ⟨ι',e',M',w',p'⟩
  cases m with
  | zero=>exact p'.elim
  | succ m=>
   refine⟨ι',e',M',w',?_⟩
   unfold xr at p'
   cases z:mc e' M' with
   | bad=>rw[z]at p';exact p'
   | exc xc xd xM=>rw[z]at p';exact fun rz dx v H2 x r q1 q2=>p' rz σ' dx v H2 x (w'.ext x r) q1 q2
   | ok k M1=>
    intro rz k2 H2 x2 r2 ek
    have Vl:k=k2:=ek;subst Vl
    have w2:=w'.ext x2 r2
    cases k with
    | false=>rw[z]at p';exact p' rz σ' H2 x2 w2
    | true=>
     simp only[z]at p'
     have p2:=p'.ext x2
     show ∃N:St→Hp→Prop,_
     refine⟨fun σ3 H3=>∃Zo e3 M3,Ws X.K ct Zo e3 M3 σ3 H3∧yW X.K ct W Zo M3.length H3 (xr mc b m e3 M3) T,fun σ3 H3 q3=>⟨m,Nat.lt_succ_self _,q3⟩,rz,e',M1,w2,?_⟩
     cases z3:b e' M1 with
     | next e4 M4=>simp only[z3]at p2;exact fun ι5 σ5 H5 x5 w5=>⟨ι5,e4,M4,w5,p2.ext x5⟩
     | cont e4 M4=>simp only[z3]at p2;exact fun ι5 σ5 H5 x5 w5=>⟨ι5,e4,M4,w5,p2.ext x5⟩
     | brk e4 M4=>simp only[z3]at p2;exact p2
     | ret d M4=>simp only[z3]at p2;exact p2
     | exc xc xd xe xM=>simp only[z3]at p2;exact p2
     | bad=>simp only[z3]at p2;exact p2
 ·exact p.elim
def Ff(js:List Nat)(e:Sl):Sl:=js.map fun i=>(e[i]?).join
def STs(X:Cx)(ct:Nat→Addr)(W:bK)(ifs:List Expr)(m:MT):Prop:=PTs X ifs (tG Kh X.K ct W m)
def Dz:MT:=fun _ M=> .ok true M
theorem Jt:STs X ct W [] Dz:=fun pins s σ H Q I ⟨ι,e,M,w,p⟩=>acD pins s σ H Q I (p ι true H .refl w.rl rfl)
theorem Ws.caps{K:Frag}{ι:Nat→Addr}{e:Sl}{M:Mem}{σ:St}{H:Hp}{d:D}{v:V}(w:Ws K ct ι e M σ H)(js:List Nat)(h:DV K ct ι M.length H d v):Ws K ct ι (some d::Ff js e) M (some v::L2.caps js σ) H:=by
 refine⟨w.rl,by simp[Ff,L2.caps],fun i x hx=> ?_⟩
 cases i with
 | zero=>simp at hx;subst hx;exact⟨v,rfl,h⟩
 | succ i=>
  simp only[List.getElem?_cons_succ,Ff,List.getElem?_map]at hx
  obtain⟨j,hj,ej⟩:=Option.map_eq_some_iff.mp hx
  cases z:e[j]? with
  | none=>rw[z]at ej;cases ej
  | some o=>
   rw[z]at ej
   cases(show o=some x from ej)
   obtain⟨u,hu,du⟩:=w.env j x z
   refine⟨u,?_,du⟩
   simp only[List.getElem?_cons_succ,L2.caps,List.getElem?_map,hj,Option.map_some,hu]
   rfl
variable{elt iter:Expr}{ifs:List Expr}{scope:Scope}{x:Str}{px:Pos}{mi:MI}{tt:MT}{te:ME}
end
def slots(n:Nat)(ds:List D):Sl:=ds.map some++List.replicate (n - ds.length) none
def cR(n:Nat)(b:MS):Fn:=fun ds M=>match b (slots n ds) M with
 | .ret d M'=> .ok d M'
 | .next _ M'=> .ok .non M'
 | .exc c d _ M'=> .exc c d M'
 | _=> .bad
theorem Ws.start{K:Frag}{ct ι:Nat→Addr}{M:Mem}{H:Hp}{ds:List D}{vs:List V}(N:List Str)(R:Rl K ct ι M H)(h:sH K ct ι M.length H ds vs):Ws K ct ι (slots N.length ds) M (L2.start N vs) H:=by
 refine⟨R,by simp[slots,L2.start,h.length],fun i d hd=> ?_⟩
 unfold slots at hd
 by_cases z:i<ds.length
 ·rw[List.getElem?_append_left (by simpa using z),List.getElem?_map]at hd
  obtain⟨d',e1,e2⟩:=Option.map_eq_some_iff.mp hd
  cases e2
  obtain⟨v,hv,dv⟩:=h.at e1
  refine⟨v,?_,dv⟩
  unfold L2.start
  rw[List.getElem?_append_left (by rw[List.length_map,h.length];exact z),List.getElem?_map,hv]
  rfl
 ·rw[List.getElem?_append_right (by simpa using z),List.getElem?_replicate]at hd
  split at hd<;>cases hd
section
variable{P:Program}{w:World}{K:Frag}{mg:Str→Option Value}{base:Heap}{ct:Nat→Addr}
theorem nM{n ar:Nat}{b:MS}{x qual:Str}{st:Stmt}{dV:Value}{f:Addr}{fd:FuncData}{N ps:List Str}{k:Nat}(F:cF K x qual st dV f fd)(S:bA N ps (aA st))(hn:N.length=n)(har:ps.length=ar)
  (hbody:∀(cdv:Value) (A:Around) (outer:List PySem.Env) (s:Shared) (H:Hp) (E:XK) (W:bK),mV k (A.deeper (envOfC qual (aA st) s.heap.objs.size f cdv))→
   SSs ((Bq (jm P w) P w K mg base N qual (aA st) f cdv A outer s H E).wish (gb (Bq (jm P w) P w K mg base N qual (aA st) f cdv A outer s H E) W)) ct W (aK st) b):
  bF P w K mg base (jm P w) (k+1) f fd ps (spS K ct (cR n b) ar):=by
 subst hn har
 refine F.okX S (fun vs H Q E ⟨ι,ds,M,hl,_,hd,_⟩=>by rw[hd.length,hl]) fun cdv A outer s H vs Q E hr ⟨ι,ds,M,hl,R,hd,p⟩=> ?_
 refine⟨_,fun C dx _ H'=>E (.ref C) (some dx) H',fun C dx σ H' z=>z,hbody cdv A outer s H E _ hr,ι,slots N.length ds,M,Ws.start N R hd,?_⟩
 unfold cR at p
 cases z:b (slots N.length ds) M with
 | ret d M'=>rw[z]at p;exact fun ι' v H' x r q=> .inl (p ι' v H' x r q)
 | next e M'=>rw[z]at p;exact fun ι' σ' H' x w'=> .inl (p ι' .non H' x w'.rl .non)
 | exc c d e M'=>rw[z]at p;exact fun ι' σ' dx v H' x w' q1 q2=>p ι' dx v H' x w'.rl q1 q2
 | brk e M'=>rw[z]at p;exact p.elim
 | cont e M'=>rw[z]at p;exact p.elim
 | bad=>rw[z]at p;exact p.elim
end
theorem akF{P:Program}{w:World}{K:Frag}{mg:Str→Option Value}{base:Heap}{k:Nat}{f:Addr}{fd:FuncData}{ps:List Str}{sp:Sp}(F:bF P w K mg base (jm P w) k f fd ps sp):bF P w K mg base V3 k f fd ps (fun vs H Q _=>sp vs H Q E0):=
 ⟨fun vs H Q _ h=>F.len vs H Q E0 h,fun A outer s H args us vs Q E hr he hb hv hs=>codeAny_mono (F.run A outer s H args us vs Q E0 hr he hb hv hs) fun r s' hq=>by
  match r,hq with
  | .error e,hq=>obtain⟨_,_,_,_,_,_,_,_,_,_,_,_,_,_,_,z⟩:=hq;exact z.elim
  | .ok (.ret u),hq=>exact hq⟩
theorem ug{Y:Cx}{W:bK}(hst:Y.stack=Y.env::Y.outer)(hf:Y.env.frame=some Y.env.locals)(ok:(Y.wish (gb Y W)).Ok):PassesOwn (model Y.prog Y.w) Y.A Y.env (gb Y W):=fun ev s' h=>gb.Yj hst hf ok.frames ev s' h
theorem Tk.none{X:Cx}:Tk X W0:=fun _ _ ⟨_,_,_,_,_,_,_,_,_,_,_,_,_,_,z⟩=>z.elim
def spL(K:Frag):Sp:=fun vs H Q _=>∃(a:Addr) (ns:List Int),vs=[.ref a]∧FrL K H a (ns.map V.int)∧ns.length≤63∧∀H',Q (.bl true) H'
theorem S7{K:Frag}{ct ι:Nat→Addr}{n:Nat}{H:Hp}:∀ns:List Int,sH K ct ι n H (ns.map D.int) (ns.map V.int)
 | []=> .nil
 | i::r=> .cons (.int i) (S7 r)
theorem ajY{P:Program}{w:World}{K:Frag}{mg:Str→Option Value}{base:Heap}{ct:Nat→Addr}{k:Nat}{f:Addr}{fd:FuncData}{x:Str}{fn:Fn}(F:bF P w K mg base (jm P w) k f fd [x] (spS K ct fn 1))
  (h:∀ns:List Int,ns.length≤63→∃M,fn [.cl (ns.map D.int)] []= .ok (.bl true) M):bF P w K mg base V3 k f fd [x] (spL K):=by
 refine(akF F).imp fun vs H Q E ⟨a,ns,e,hf,hl,q⟩=> ?_
 subst e
 obtain⟨M,e⟩:=h ns hl
 refine⟨fun _=>0,[.cl (ns.map D.int)],[],rfl,⟨fun i j hi=>absurd hi (Nat.not_lt_zero _),fun i o h=>by simp at h⟩,.cons (.cl hf (S7 ns)) .nil,?_⟩
 rw[e]
 intro ι' v H' _ _ dv
 cases dv
 exact q H'
theorem ah8{l:PySem.W.OpenLaw}{q:Program}{loose:List Str}{XP:(Str→Option Value)→Heap→Prop}{YP:World→Heap→Prop}{d:DefRec}{K:Params→Frag}{x:Str}{k:Nat}(hn:l.most=some 63)(hdf:d.params.defaults=[])(hr:mV k callerA)
  (hY:∀(w:World) (h:Heap),YP w h→(K w.params).In h)
  (F:∀(w:World) (mg:Str→Option Value) (fa:Addr) (h:Heap),(K w.params).In h→h.Ns mainGlobals mg→mg d.name=some (.ref fa)→
   ∃fd:FuncData,(∀(s:Shared) (u:Value),BindsTo s fd ⟨[u],[]⟩ [(x,u)])∧∀base:Heap,(K w.params).In base→base.Ns mainGlobals mg→bF l.prog w (K w.params) mg base V3 k fa fd [x] (spL (K w.params))):
  PySem.W.WalkO q loose XP YP l.row.toRowW d [] (fun f vs=>PySem.call f vs):=
 ab6 (n:=63) (k:=k) (x:=x) (CX:=fun _=>V3) (sp:=fun w=>spL (K w.params)) hn (by decide) hdf hr hY F (fun _ H a ns hl hO hS=>⟨a,ns,rfl,by
  rcases hS with(z | z) | z
  ·rcases hO a with n | ⟨o,xs,n⟩
   ·rw[n]at z;cases z
   ·rw[n]at z;cases z
  ·exact .inl z
  ·exact .inr z,hl,fun _=>rfl⟩) fun _ _ _ _ _ z=>z
section
variable{e:Sl}{M:Mem}
@[simp] theorem amT{i:Nat}{d:D}(h:e[i]? = some (some d)):az i e M= .ok d M:=ac8 h
@[simp] theorem asH{d:D}:mC d e M= .ok d M:=id rfl
@[simp] theorem am0{op:vN}{ma mb:ME}:aD op ma mb e M=(ma e M).bind fun d M1=>(mb e M1).bind fun d' M2=>op d d' M2:=id rfl
@[simp] theorem aq4{op:D→Mem→Out D}{ma:ME}:mUn op ma e M=(ma e M).bind op:=id rfl
@[simp] theorem ar6{b:Bool}:VD (.bl b) M= .ok b M:=id rfl
@[simp] theorem ajI{m:ME}:cA m e M=(m e M).bind VD:=id rfl
@[simp] theorem am1{t u:MT}:Yv t u e M=(t e M).bind fun k M1=>if k=true then u e M1 else .ok false M1:=id rfl
@[simp] theorem aq6{t u:MT}:mOr t u e M=(t e M).bind fun k M1=>if k=true then .ok true M1 else u e M1:=id rfl
@[simp] theorem amW{t:MT}:aa5 t e M=(t e M).bind fun k M1=> .ok (!k) M1:=id rfl
@[simp] theorem ajS{t u:ME}:WW t u e M=(t e M).bind fun d M1=>(VD d M1).bind fun k M2=>if k=true then u e M2 else .ok (.bl false) M2:=id rfl
@[simp] theorem amV{t u:ME}:agh t u e M=(t e M).bind fun d M1=>(VD d M1).bind fun k M2=>if k=true then .ok (.bl true) M2 else u e M2:=id rfl
@[simp] theorem ajL{t:ME}:aa4 t e M=(t e M).bind fun d M1=>(VD d M1).bind fun k M2=> .ok (.bl (!k)) M2:=id rfl
@[simp] theorem amX:aG e M= .ok [] M:=id rfl
@[simp] theorem ajQ{m:ME}{ms:MA}:aq m ms e M=(m e M).bind fun d M1=>(ms e M1).bind fun ds M2=> .ok (d::ds) M2:=id rfl
theorem rN:sizeLine=16777216:=sizeLine_eq
@[simp] theorem amU{ms:MA}:rA ms e M=(ms e M).bind fun ds M1=>if ds.length≤16777216 then .ok (.tup ds) M1 else .bad:=by unfold rA;rw[rN]
@[simp] theorem amY{ms:MA}:rM ms e M=(ms e M).bind fun ds M1=>if ds.length≤16777216 then .ok (.ref M1.length) (M1++[.lst ds])else .bad:=by unfold rM;rw[rN]
@[simp] theorem amZ{cs:List Nat}{m:ME}{f:Str}:sO cs m f e M=(m e M).bind (GC cs f):=id rfl
theorem xV{cs:List Nat}{f:Str}{n c:Nat}{fs:List (Str×D)}{d:D}(h:M[n]? = some (.ins c fs))(hc:c∈cs)(hf:fs.lookup f=some d):GC cs f (.ref n) M= .ok d M:=by
 unfold GC;simp only[h,hc,if_true,hf]
@[simp] theorem ajR{fn:Fn}{ar:Nat}{dv:List D}{ms:MA}:iD fn ar dv ms e M=(ms e M).bind fun ds M1=>if(ds++dv).length=ar then fn (ds++dv) M1 else .bad:=id rfl
@[simp] theorem ajM{k:Nat}{m:Str}{fn:Fn}{ar:Nat}{dv:List D}{mo:ME}{ms:MA}:cV k m fn ar dv mo ms e M=(mo e M).bind fun d M1=>if DY k m d M1=true then(ms e M1).bind fun ds M2=>if(d::(ds++dv)).length=ar then fn (d::(ds++dv)) M2 else .bad else .bad:=id rfl
theorem SJ{k:Nat}{m:Str}{n:Nat}{fs:List (Str×D)}(h:M[n]? = some (.ins k fs))(hf:fs.lookup m=none):DY k m (.ref n) M=true:=by
 unfold DY;simp[h,hf]
@[simp] theorem ajN{kc:Nat}{fn:Fn}{ar:Nat}{dv:List D}{ms:MA}:Gv kc fn ar dv ms e M=(ms e M).bind fun ds M1=>if(D.ref M1.length::(ds++dv)).length=ar then(fn (.ref M1.length::(ds++dv)) (M1++[.ins kc []])).bind fun r M2=>if Sy r=true then .ok (.ref M1.length) M2 else .bad else .bad:=id rfl
@[simp] theorem ahT:Sy .non=true:=id rfl
@[simp] theorem aq7{op:Lq}{ms:MA}:pN op ms e M=(ms e M).bind op:=id rfl
@[simp] theorem aq8{T:String}{op:D→List D→Mem→Out D}{mo:ME}{ms:MA}:Ma T op mo ms e M=(mo e M).bind fun d M1=>if I_ T d M1=true then(ms e M1).bind fun ds M2=>op d ds M2 else .bad:=id rfl
@[simp] theorem aq5{m:ME}{lo hi:MO'}:EY m lo hi e M=(m e M).bind fun d M1=>(lo e M1).bind fun l M2=>(hi e M2).bind fun h M3=>Fp d l h M3:=id rfl
@[simp] theorem ajK{m:ME}:iU m e M=(m e M).bind asI:=id rfl
@[simp] theorem agi:cP e M= .ok none M:=id rfl
@[simp] theorem aoI{i:Int}:asI (.int i) M= .ok (some i) M:=id rfl
@[simp] theorem ajP{m:ME}:Ni m e M=(m e M).bind Vi:=id rfl
theorem uy{n:Nat}{ds:List D}(h:M[n]? = some (.lst ds)):Vi (.ref n) M= .ok ⟨some (n,ds),ds⟩ M:=by simp only[Vi,eF h]
@[simp] theorem ajJ{ms:MA}:Nh ms e M=(ms e M).bind LK:=id rfl
theorem Ge{j:Int}(h: -(2 ^ 62)≤j)(h2:j<2 ^ 24):LK [.int j] M= .ok ⟨none,Hs 0 j.toNat⟩ M:=by simp only[LK];rw[if_pos ⟨h,h2⟩]
@[simp] theorem ada:Dz e M= .ok true M:=id rfl
@[simp] theorem Qo{C:Int→Int→Bool}{g:Int→Int→D}{i j:Int}:T8 C g (.int i) (.int j) M=if C i j=true then .ok (g i j) M else .bad:=id rfl
@[simp] theorem aiK{i j:Int}:aX (.int i) (.int j) M= .ok (.int (i+j)) M:=id rfl
@[simp] theorem aiv{i j:Int}:Jd (.int i) (.int j) M= .ok (.int (i - j)) M:=id rfl
@[simp] theorem amI{i j:Int}:sLt (.int i) (.int j) M= .ok (.bl (decide (i<j))) M:=id rfl
@[simp] theorem aiB{i j:Int}:aak (.int i) (.int j) M= .ok (.bl (decide (i≤j))) M:=id rfl
@[simp] theorem aiG{i j:Int}:X7 (.int i) (.int j) M= .ok (.bl (decide (j<i))) M:=id rfl
@[simp] theorem aiH{i j:Int}:afq (.int i) (.int j) M= .ok (.bl (decide (j≤i))) M:=id rfl
theorem Ry{i j:Int}(h:(-(2 ^ 64)<i∧i<2 ^ 64)∨(-(2 ^ 64)<j∧j<2 ^ 64)):LC (.int i) (.int j) M= .ok (.int (i*j)) M:=by
 refine nC ?_;unfold aaj;rw[Qo,if_pos (by unfold ahy;exact decide_eq_true h)]
theorem aai{a:Str}{n:Int}(ha:a.length≤1000)(h0: -(2 ^ 62)<n)(h1:n≤1000):LC (.str a) (.int n) M= .ok (.str (PySem.Txt.mul a n)) M:=by
 refine(uh rfl).trans ?_;simp only[Wj];rw[if_pos ⟨ha,h0,h1⟩]
theorem RB{i j:Int}(h:0<j)(h2:j<1073741824):Je (.int i) (.int j) M= .ok (.int (i / j)) M:=by
 unfold Je;rw[Qo,if_pos (by unfold ahz;exact decide_eq_true ⟨h,h2⟩)]
theorem Ka{i j:Int}(h:0<j):j_ (.int i) (.int j) M= .ok (.int (i % j)) M:=by
 unfold j_;rw[Qo,if_pos (by unfold alT;exact decide_eq_true h)]
theorem aag{i j:Int}(h:0≤j∧j≤1000000∧i.natAbs<2 ^ 64):Lz (.int i) (.int j) M= .ok (.int (i ^ j.toNat)) M:=by
 unfold Lz;rw[Qo,if_pos (by unfold abN;exact decide_eq_true h)]
@[simp] theorem aix{i:Int}:Pa (.int i) M= .ok (.int (-i)) M:=id rfl
theorem Fd{d d':D}{a b:Dt}(h:m5 M 12 d=some a)(h':m5 M 12 d'=some b):Vq M d d'=some (cT a b):=by unfold Vq;rw[h,h']
theorem Ke{d d':D}{b:Bool}(h:Vq M d d'=some b):sEq d d' M= .ok (.bl b) M:=by unfold sEq;rw[h]
theorem Pb{d d':D}{b:Bool}(h:Vq M d d'=some b):sNe d d' M= .ok (.bl (!b)) M:=by unfold sNe;rw[h]
theorem Xg{i j:Int}:Vq M (.int i) (.int j)=some (decide (i=j)):=by
 rw[Fd (a:= .int i) (b:= .int j) rfl rfl];unfold cT;rw[Bool.beq_eq_decide_eq]
theorem Xf{i j:Str}:Vq M (.str i) (.str j)=some (decide (i=j)):=by
 rw[Fd (a:= .str i) (b:= .str j) rfl rfl];unfold cT;rw[Bool.beq_eq_decide_eq]
@[simp] theorem amM{i j:Int}:sEq (.int i) (.int j) M= .ok (.bl (decide (i=j))) M:=Ke Xg
@[simp] theorem Wh{i j:Int}:sNe (.int i) (.int j) M= .ok (.bl (!decide (i=j))) M:=Pb Xg
@[simp] theorem amL{i j:Str}:sEq (.str i) (.str j) M= .ok (.bl (decide (i=j))) M:=Ke Xf
@[simp] theorem amH{i j:Str}:sNe (.str i) (.str j) M= .ok (.bl (!decide (i=j))) M:=Pb Xf
theorem abt{d:D}{t:Dt}(h:m5 M 12 d=some t):Vq M d d=some true:=by rw[Fd h h,GX]
theorem VB{α:Type}{xs:List α}{k:Int}(h:0≤k):Le xs k=xs[k.toNat]? := by
 unfold Le ixN
 rw[if_pos h]
 by_cases z:k<xs.length
 ·rw[if_pos z];rfl
 ·rw[if_neg z]
  show none=_
  rw[List.getElem?_eq_none (by omega)]
theorem Pg{ds:List D}{k:Int}{d:D}(h0:0≤k)(h:ds[k.toNat]? = some d):bJ (.tup ds) (.int k) M= .ok d M:=
 nC (nC (by simp only[Ph,VB h0,h]))
theorem afl{ds:List D}{k:Int}{d:D}(h0:0≤k)(h:ds[k.toNat]? = some d):bJ (.cl ds) (.int k) M= .ok d M:=
 nC (nC (by simp only[Ph,B_,VB h0,h]))
theorem b_{n:Nat}{ds:List D}{k:Int}{d:D}(hM:M[n]? = some (.lst ds))(h0:0≤k)(h:ds[k.toNat]? = some d):bJ (.ref n) (.int k) M= .ok d M:=
 nC (nC (by simp only[Ph,B_,eF hM,VB h0,h]))
@[simp] theorem aiE{d:D}{r:List D}:bJ (.tup (d::r)) (.int 0) M= .ok d M:=Pg (by decide) rfl
@[simp] theorem aiD{d0 d:D}{r:List D}:bJ (.tup (d0::d::r)) (.int 1) M= .ok d M:=Pg (by decide) rfl
@[simp] theorem aiC{d0 d1 d:D}{r:List D}:bJ (.tup (d0::d1::d::r)) (.int 2) M= .ok d M:=Pg (by decide) rfl
theorem jN{n:Nat}{ds:List D}(hM:M[n]? = some (.lst ds)):j0 [.ref n] M= .ok (.int ds.length) M:=aaP (aaP (by simp only[Wm,Ar,B_,eF hM]))
@[simp] theorem amJ{ds:List D}:j0 [.cl ds] M= .ok (.int ds.length) M:=id rfl
theorem X3{n:Nat}{ds:List D}(hM:M[n]? = some (.lst ds)):MP [.ref n] M= .ok (.ref M.length) (M++[.lst ds]):=by simp only[MP,Ar,B_,eF hM]
theorem zH{n:Nat}{ds:List D}(hM:M[n]? = some (.lst ds)):yc [.ref n] M= .ok (.tup ds) M:=by simp only[yc,Ar,B_,eF hM]
theorem xK{n:Nat}{ds:List D}{lo hi:Option Int}(hM:M[n]? = some (.lst ds)):Fp (.ref n) lo hi M= .ok (.ref M.length) (M++[.lst (cut ds lo hi)]):=by simp only[Fp,B_,eF hM]
@[simp] theorem apP{ds:List D}{lo hi:Option Int}:Fp (.cl ds) lo hi M= .ok (.ref M.length) (M++[.lst (cut ds lo hi)]):=id rfl
theorem lC{n:Nat}{ds:List D}{d:D}(hM:M[n]? = some (.lst ds))(h:ds.length<16777216):kJ (.ref n) [d] M= .ok .non (M.set n (.lst (ds++[d]))):=by
 simp only[kJ,hM];rw[rN,if_pos h]
theorem ue{n:Nat}{ds:List D}(hM:M[n]? = some (.lst ds)):I_ "list" (.ref n) M=true:=by simp[I_,eF hM]
theorem Gd{n m:Nat}{ds es:List D}(h:M[n]? = some (.lst ds))(h':M[m]? = some (.lst es))(hl:ds.length+es.length≤16777216):aX (.ref n) (.ref m) M= .ok (.ref M.length) (M++[.lst (ds++es)]):=by
 refine nC ((uh rfl).trans ?_)
 unfold acr
 simp only[h,h']
 rw[if_pos (by rw[rN];exact hl)]
@[simp] theorem ahL{i j:Int}:Wk [.int i,.int j] M= .ok (.int (if j<i then j else i)) M:=id rfl
@[simp] theorem abV{i:Int}:aal [.int i,.ty "bool"] M= .ok (.bl false) M:=by unfold aal;rfl
@[simp] theorem aiw:fO e M= .next e M:=id rfl
def mU.seq(o:mU)(t:MS):mU:=match o with
 | .next e M=>t e M
 | .ret d M=> .ret d M
 | .brk e M=> .brk e M
 | .cont e M=> .cont e M
 | .exc c d e M=> .exc c d e M
 | .bad=> .bad
@[simp] theorem amF{s t:MS}:bx s t e M=(s e M).seq t:=by
 unfold bx mU.seq
 cases s e M<;>rfl
@[simp] theorem ais{t:MS}:(mU.next e M).seq t=t e M:=id rfl
@[simp] theorem amC{t:MS}{d:D}:(mU.ret d M).seq t= .ret d M:=id rfl
@[simp] theorem amD{t:MS}{c:Nat}{d:D}:(mU.exc c d e M).seq t= .exc c d e M:=id rfl
@[simp] theorem aiJ{m:ME}:rJ m e M=LR e (m e M) fun _ M1=> .next e M1:=id rfl
@[simp] theorem amG{m:ME}:iB m e M=LR e (m e M) fun d M1=> .ret d M1:=id rfl
@[simp] theorem apS{c:MT}{s t:MS}:zK c s t e M=LR e (c e M) fun k M1=>if k=true then s e M1 else t e M1:=id rfl
def tgO(o:Option Sl)(M:Mem):mU:=match o with
 | some e'=> .next e' M
 | none=> .bad
@[simp] theorem aid:tgO (some e) M= .next e M:=id rfl
@[simp] theorem amN{m:ME}{g:Tg}:dm m g e M=LR e (m e M) fun d M1=>tgO (g d e) M1:=by
 unfold dm tgO;rfl
@[simp] theorem as4{i:Nat}{d:D}:gN i d e=some (e.set i (some d)):=id rfl
@[simp] theorem as3{n:Nat}{gs:Tgs}{ds:List D}:gT n gs (.tup ds) e=if ds.length=n then gs ds e else none:=id rfl
@[simp] theorem akC{g:Tg}{gs:Tgs}{d:D}{ds:List D}:K4 g gs (d::ds) e=(g d e).bind fun e'=>gs ds e':=id rfl
@[simp] theorem anS:abk [] e=some e:=id rfl
def agf(o:Option Mem)(e:Sl):mU:=match o with
 | some M=> .next e M
 | none=> .bad
@[simp] theorem ahO:agf (some M) e= .next e M:=id rfl
@[simp] theorem aiI{cs:List Nat}{mo mv:ME}{f:Str}:xN cs mo mv f e M=LR e (mv e M) fun d M1=>LR e (mo e M1) fun o M2=>agf (uf cs f d o M2) e:=by
 unfold xN agf;rfl
theorem rK{cs:List Nat}{f:Str}{d:D}{n c:Nat}{fs:List (Str×D)}(h:M[n]? = some (.ins c fs))(hc:c∈cs)(hl:fs.length<1000):uf cs f d (.ref n) M=some (M.set n (.ins c (putD f d fs))):=by
 unfold uf;simp only[h];rw[if_pos ⟨hc,hl⟩]
@[simp] theorem amK{mi:MI}{g:Tg}{b:MS}:Ux mi g b e M=LR e (mi e M) fun it M1=>vq it.src g b it.ds e M1:=id rfl
@[simp] theorem ae5{n:Nat}{d:D}{ds:List D}:slots (n+1) (d::ds)=some d::slots n ds:=by
 unfold slots
 simp
@[simp] theorem ae4{n:Nat}:slots (n+1) []=none::slots n []:=by
 unfold slots
 simp[List.replicate_succ]
@[simp] theorem ae3:slots 0 []=[]:=id rfl
def Uz(o:mU):Out D:=match o with
 | .ret d M=> .ok d M
 | .next _ M=> .ok .non M
 | .exc c d _ M=> .exc c d M
 | _=> .bad
@[simp] theorem amO{n:Nat}{b:MS}{ds:List D}:cR n b ds M=Uz (b (slots n ds) M):=by
 unfold cR Uz
 cases b (slots n ds) M<;>rfl
@[simp] theorem aiM{d:D}:Uz (.ret d M)= .ok d M:=id rfl
@[simp] theorem aiN{c:Nat}{d:D}:Uz (.exc c d e M)= .exc c d M:=id rfl
@[simp] theorem ahM:Uz (.next e M)= .ok .non M:=id rfl
end
def mU.to(o:mU)(P:Sl→Mem→Prop)(R:D→Mem→Prop):Prop:=match o with
 | .next e M=>P e M
 | .cont e M=>P e M
 | .ret d M=>R d M
 | _=>False
@[simp] theorem amz{e:Sl}{M:Mem}{P:Sl→Mem→Prop}{R:D→Mem→Prop}:(mU.next e M).to P R=P e M:=id rfl
theorem Nu{src:Option (Nat×List D)}{g:Tg}{b:MS}(P:Nat→Sl→Mem→Prop){R:D→Mem→Prop}:∀(ds:List D) (k:Nat) {e:Sl} {M:Mem},P k e M→
  (∀i e M,k≤i→i≤k+ds.length→P i e M→uQ src M)→
  (∀i d e M,ds[i]? = some d→P (k+i) e M→∃e1,g d e=some e1∧(b e1 M).to (P (k+i+1)) R)→
  (∃e' M',vq src g b ds e M= .next e' M'∧P (k+ds.length) e' M')∨∃r M',vq src g b ds e M= .ret r M'∧R r M'
 | [],k,e,M,h0,hs,_=> .inl ⟨e,M,by unfold vq;rw[if_pos (hs k e M (Nat.le_refl _) (Nat.le_refl _) h0)],h0⟩
 | d::ds,k,e,M,h0,hs,hb=>by
  unfold vq
  rw[if_pos (hs k e M (Nat.le_refl _) (Nat.le_add_right _ _) h0)]
  obtain⟨e1,hg,h⟩:=hb 0 d e M rfl h0
  rw[hg]
  have go:∀{e2:Sl} {M2:Mem},P (k+1) e2 M2→(∃e' M',vq src g b ds e2 M2= .next e' M'∧P (k+(d::ds).length) e' M')∨∃r M',vq src g b ds e2 M2= .ret r M'∧R r M':=fun{e2 M2} p=>by
   have go:=Nu (src:=src) (g:=g) (b:=b) P (R:=R) ds (k+1) (e:=e2) (M:=M2) p
    (fun i e M h1 h2=>hs i e M (by omega) (by simp only[List.length_cons];omega)) (fun i d e M hd hp=>by
     have e4:k+(i+1)=k+1+i:=by omega
     have:=hb (i+1) d e M (by simpa using hd) (by rw[e4];exact hp)
     rw[e4]at this
     exact this)
   have el:k+1+ds.length=k+(d::ds).length:=by simp only[List.length_cons];omega
   rw[el]at go
   exact go
  cases z:b e1 M with
  | next e2 M2=>rw[z]at h;simp only[z];exact go h
  | cont e2 M2=>rw[z]at h;simp only[z];exact go h
  | ret r M2=>rw[z]at h;simp only[z];exact .inr ⟨r,M2,rfl,h⟩
  | brk _ _=>rw[z]at h;exact h.elim
  | exc _ _ _ _=>rw[z]at h;exact h.elim
  | bad=>rw[z]at h;exact h.elim
theorem yN{src:Option (Nat×List D)}{g:Tg}{b:MS}(P:Nat→Sl→Mem→Prop){ds:List D}{e:Sl}{M:Mem}(h0:P 0 e M)
  (hs:∀i e M,i≤ds.length→P i e M→uQ src M)
  (hb:∀i d e M,ds[i]? = some d→P i e M→∃e1,g d e=some e1∧(b e1 M).to (P (i+1)) fun _ _=>False):
  ∃e' M',vq src g b ds e M= .next e' M'∧P ds.length e' M':=by
 rcases Nu (src:=src) (g:=g) (b:=b) P (R:=fun _ _=>False) ds 0 h0 (fun i e M _ h2=>hs i e M (by omega)) (fun i d e M hd hp=>by
  rw[Nat.zero_add]at hp ⊢
  exact hb i d e M hd hp)with h | ⟨_,_,_,h⟩
 ·simpa using h
 ·exact h.elim
theorem Jx{lo:Int}{n i:Nat}{d:D}(h:(Hs lo n)[i]? = some d):i<n∧d= .int (lo+i):=by
 unfold Hs at h
 rw[List.getElem?_map]at h
 obtain⟨k,hk,rfl⟩:=Option.map_eq_some_iff.mp h
 obtain⟨hi,e⟩:=List.getElem?_eq_some_iff.mp hk
 simp at hi e
 exact⟨hi,by rw[←e]⟩
theorem Jw{lo:Int}{n:Nat}:(Hs lo n).length=n:=by simp[Hs]
section
variable{X:Cx}{ct:Nat→Addr}{W:bK}
def IV:List D→Option Bool
 | []=>some true
 | .bl b::r=>(IV r).map fun k=>b&&k
 | _=>none
theorem Tv:∀{ds:List D} {k:Bool},IV ds=some k→∃bs:List Bool,ds=bs.map D.bl∧k=bs.all id
 | [],k,h=>by cases h;exact⟨[],rfl,rfl⟩
 | d::r,k,h=>by
  cases d with
  | bl b=>
   simp only[IV]at h
   obtain⟨k',h1,rfl⟩:=Option.map_eq_some_iff.mp h
   obtain⟨bs,rfl,rfl⟩:=Tv h1
   exact⟨b::bs,rfl,rfl⟩
  | _=>simp only[IV]at h;cases h
theorem Xj{K:Frag}{ι:Nat→Addr}{n:Nat}{H:Hp}:∀{bs:List Bool} {vs:List V},sH K ct ι n H (bs.map D.bl) vs→vs=bs.map V.bl
 | [],_,.nil=>rfl
 | b::bs,_,.cons h hs=>by cases h;rw[Xj hs];rfl
theorem abP(bs:List Bool):(List.range bs.length).all (fun j=>bs.getD j true)=bs.all id:=by
 rw[Bool.eq_iff_iff,List.all_eq_true,List.all_eq_true]
 constructor
 ·intro h b hb
  obtain⟨j,hj,e⟩:=List.mem_iff_getElem.mp hb
  have:=h j (List.mem_range.mpr hj)
  rw[List.getD_eq_getElem?_getD,List.getElem?_eq_getElem hj]at this
  rw[←e]
  exact this
 ·intro h j hj
  have hj':=List.mem_range.mp hj
  rw[List.getD_eq_getElem?_getD,List.getElem?_eq_getElem hj']
  exact h _ (List.getElem_mem hj')
theorem Y7(hc:X.calm=true):sJ X (.builtin "all") (fun xs H Q=>∃(a:Addr) (bs:List Bool),xs=[.ref a]∧yV X.K H a (bs.map V.bl)∧Q (.bl (bs.all id)) H):=by
 intro pins s σ H xs us Q I r h
 obtain⟨a,bs,rfl,hq,q⟩:=h
 obtain⟨u,rfl,ru⟩:=vals1 r
 cases(show u=Value.ref a from ru)
 obtain⟨its,rv,p,hz⟩:=I.list hq
 have hlt:a<s.heap.objs.size:=by obtain⟨o,n,e,_⟩:=p;exact Heap.lt_size e
 have hl:its.length=bs.length:=by rw[←rv.length,List.length_map]
 refine call_all_walk (wpAny_pyIter_list p.isList ⟨s.heap.objs.size,[s.heap.objs.size,a],[s.heap.objs.size],its.toArray.size,fun i v=>its.toArray[i]? = some v,_,fun j=>bs.getD j true,rfl,
  Walks.list (A:=X.A.in1) (I.ok.hd hc) s.heap.objs.size a (Nat.ne_of_lt hlt) its.toArray,⟨⟨_,Heap.get?_push_size _ rfl,rfl,rfl⟩,p.isList.push _⟩,?_,fun h' tk hk=> ?_⟩)
 ·intro i v s' Q' E' hP hQ
  have hP':its[i]? = some v:=by simpa using hP
  have hi:i<its.length:=(List.getElem?_eq_some_iff.mp hP').1
  have hb:bs[i]? = some bs[i]:=List.getElem?_eq_getElem (by omega)
  obtain⟨u,hu,ru⟩:=rv.get (i:=i) (x:=V.bl bs[i]) (by rw[List.getElem?_map,hb];rfl)
  rw[hP']at hu
  cases hu
  cases ru
  refine wpAny_truthy_bool ?_
  have e:bs.getD i true=bs[i]:=by rw[List.getD_eq_getElem?_getD,hb];rfl
  rw[←e]
  exact hQ
 ·have e:(List.range its.toArray.size).all (fun j=>bs.getD j true)=bs.all id:=by
   rw[List.size_toArray,hl]
   exact abP bs
  rw[e]
  exact⟨.bl _,H,I.kept fun b o eb=>hk b o (by simp;exact Nat.ne_of_lt (Heap.lt_size eb)) (Heap.get?_push_of_some _ eb),rfl,q⟩
def aao:Lq:=fun ds M=>match ds with
 | [d]=>match B_ M d with
  | some es=>match IV es with
   | some k=> .ok (.bl k) M
   | none=> .bad
  | none=> .bad
 | _=> .bad
theorem agQ(hc:X.calm=true):sI X ct (.builtin "all") aao:=by
 refine⟨_,Y7 hc,fun ι M H ds vs Q R h p=> ?_⟩
 unfold aao at p
 split at p
 ·rename_i d
  obtain⟨v,rfl,q⟩:=Ag h
  cases z:B_ M d with
  | none=>rw[z]at p;exact p.elim
  | some es=>
   rw[z]at p
   dsimp only at p
   obtain⟨a,xs,rfl,hs,hd⟩:=R.seq z q
   cases z2:IV es with
   | none=>rw[z2]at p;exact p.elim
   | some k=>
    rw[z2]at p
    obtain⟨bs,rfl,rfl⟩:=Tv z2
    rw[Xj hd]at hs
    exact⟨a,bs,rfl,hs,p ι _ H .refl R (.bl _)⟩
 ·exact p.elim
theorem Za(bs:List Bool):IV (bs.map D.bl)=some (bs.all id):=by
 induction bs with
 | nil=>rfl
 | cons b r ih=>simp[IV,ih]
theorem aan{M:Mem}{n:Nat}{bs:List Bool}(h:M[n]? = some (.lst (bs.map D.bl))):aao [.ref n] M= .ok (.bl (bs.all id)) M:=by
 simp only[aao,B_,eF h,Za]
end
section
variable{X:Cx}{ct:Nat→Addr}{W:bK}
def one(ds:List D)(c:Nat)(e:Sl)(M:Mem):mU:=match ds with
 | [d]=> .exc c d e M
 | _=> .bad
def Uv(c:Nat)(ms:MA):MS:=fun e M=>LR e (ms e M) fun ds M1=>one ds c e M1
theorem kZ{c k:Nat}{f:Addr}{fd:FuncData}{ps:List Str}{x:Str}{np cpos pos:Pos}{arg:Expr}{ms:MA}(Mx:XMk X.K (ct c) f)(hX:yr X.K (ct c) "at")(F:bF X.prog X.w X.K X.mg X.base V3 k f fd ps (Dj X.K "at"))(hr:mV (k+1) X.A)(hb:Binds X.K fd ps [])
  (hg:Gl X x) (hm:X.mg x=some (.ref (ct c))) (hc:X.calm=true) (hW:Tk X W) (ha:SA X ct W [arg] ms) (hdb:(x==("__debug__" : Str))=false:=by decide) (he:starEach [arg] X.env=[(false,eval arg X.env)]:=by rfl):
  SS X ct W (.Raise (some (.Call (.Name x np) [arg] [] cpos)) none pos) (Uv c ms):=PS.imp (aaB Mx hX F hr hb hg hm hc hW ha hdb he) fun T σ H q=>by
 obtain⟨ι,e,M,w,p⟩:=zA (rel:=Jf X.K ct) (f:=fun ds e M1=>one ds c e M1) q
 refine⟨ι,e,M,w,p.mono fun vs H1 ⟨i_,e1,M1,ds,w1,q1,p1⟩=> ?_⟩
 unfold one at p1
 split at p1
 ·rename_i d
  obtain⟨v,rfl,qv⟩:=Ag q1
  refine⟨v,rfl,fun dx hd=> ?_⟩
  have x2:Ext X.K i_ M1.length H1 i_ M1.length (upd H1 dx (.xd [("at",v)])):=Ext.fresh hd
  exact p1 i_ σ dx v _ x2 (w1.ext x2 (w1.rl.fresh hd)) fX (qv.mono x2)
 ·exact p1.elim
def Xy(K:Frag)(ct:Nat→Addr)(cv:Value):List (Nat×Bool)→Prop
 | []=>True
 | (c,b)::r=>exmOne K (.ref (ct c)) cv=some b∧Xy K ct cv r
theorem Xy.get{K:Frag}{cv:Value}:∀{cl:List (Nat×Bool)} {c:Nat} {b:Bool},Xy K ct cv cl→cl.lookup c=some b→exmOne K (.ref (ct c)) cv=some b
 | [],_,_,_,h=>by simp at h
 | (k,b')::r,c,b,⟨h1,h2⟩,h=>by
  rw[List.lookup_cons]at h
  cases z:c==k with
  | true=>rw[z]at h;cases h;cases(beq_iff_eq.mp z);exact h1
  | false=>rw[z]at h;exact h2.get h
def mU.noX(o:mU):mU:=match o with
 | .exc _ _ _ _=> .bad
 | o=>o
def mU.less(i:Nat)(o:mU):mU:=match o with
 | .next e M=> .next (e.set i none) M
 | .brk e M=> .brk (e.set i none) M
 | .cont e M=> .cont (e.set i none) M
 | .ret d M=> .ret d M
 | .exc _ _ _ _=> .bad
 | .bad=> .bad
def ZJ(cl:List (Nat×Bool))(h:Nat→D→Sl→Mem→mU)(o:mU):mU:=match o with
 | .exc c d e M=>match cl.lookup c with
  | some true=>h c d e M
  | some false=> .exc c d e M
  | none=> .bad
 | o=>o
def J_(i:Nat)(cl:List (Nat×Bool))(b s:MS):MS:=fun e M=>ZJ cl (fun c d e' M'=>(s (e'.set i (some (.exc c d))) M').less i) (b e M)
theorem yW.less{K:Frag}{ι:Nat→Addr}{n i:Nat}{H:Hp}{o:mU}{T:Ends}(h:yW K ct W ι n H (o.less i) T):yW K ct W0 ι n H o (Ends.less T i):=by
 cases o with
 | exc c d e M=>exact False.elim h
 | next e M=>exact fun ι' σ' H' x w=>h ι' _ H' x (w.clear i)
 | ret e M=>exact h
 | brk e M=>exact fun ι' σ' H' x w=>h ι' _ H' x (w.clear i)
 | cont e M=>exact fun ι' σ' H' x w=>h ι' _ H' x (w.clear i)
 | bad=>exact h
variable{c:Str}{cp hpos pos:Pos}{b₀:Stmt}{suite body:List Stmt}{b s:MS}{cl:List (Nat×Bool)}{cv:Value}{v:V}
theorem Rp{i:Nat}{n:Str}(hst:X.stack=X.env::X.outer)(hf:X.env.frame=some X.env.locals)(hx:Tk X W)(hv:∀u,RelV v u→u=cv)(hn:∀e,PE (X.held e) (.Name c cp) (tC v))(hm:Xy X.K ct cv cl)
  (nd:X.N.Nodup) (hi:X.N[i]? = some n) (hl:X.env.scope.names.lookup n=some .local) (hk:X.env.kindOf n=some .local)
  (hb:∀pins W1,SSs ((X.pp pins).wish (gb (X.pp pins) W1)) ct W1 body b) (hs:∀e,SSs (X.held e) ct W0 (b₀::suite) s):
  SS X ct W (.Try body [.ExceptHandler (some (.Name c cp)) (some n) (b₀::suite) hpos] [] [] pos) (J_ i cl b s):=
 PS.imp (aaA (tb:=fun W1=>tS X.K ct W1 b) (ts:=tS X.K ct W0 s) hst hf hx hv hn nd hi hl hk hb hs) fun T σ H ⟨ι,e,M,w,p⟩=>by
  refine⟨ι,e,M,w,?_⟩
  unfold J_ at p
  cases z:b e M with
  | exc xc xd xe xM=>
   rw[z]at p
   simp only[ZJ]at p
   cases z2:cl.lookup xc with
   | none=>simp only[z2]at p;exact p.elim
   | some k=>
    simp only[z2]at p
    have e2:=hm.get z2
    cases k with
    | false=>exact fun ι' σ' dx v' H' x w' q1 q2=>⟨false,e2,p ι' σ' dx v' H' x w' q1 q2⟩
    | true=>
     refine fun ι' σ' dx v' H' x w' q1 q2=>⟨true,e2,?_⟩
     show ∀a,H' a=none→_
     intro a ha
     have x2:Ext X.K ι' xM.length H' ι' xM.length (upd H' a (xC a (ct xc) dx)):=Ext.fresh ha
     have w2:=w'.ext x2 (w'.rl.fresh ha)
     have dvx:DV X.K ct ι' xM.length (upd H' a (xC a (ct xc) dx)) (.exc xc xd) (.ref a):= .exc fX (x2.xd _ _ q1) (q2.mono x2)
     exact⟨ι',_,xM,w2.set i dvx,(yW.less p).ext (x.trans x2)⟩
  | next _ _=>rw[z]at p;exact p
  | ret _ _=>rw[z]at p;exact p
  | brk _ _=>rw[z]at p;exact p
  | cont _ _=>rw[z]at p;exact p
  | bad=>rw[z]at p;exact p
def ad7(K:Frag)(ct:Nat→Addr):List Nat→Prop
 | []=>True
 | c::r=>(yr K (ct c) "at" ∧ Zk K (ct c))∧ad7 K ct r
theorem ad7.get{K:Frag}:∀{cs:List Nat} {c:Nat},ad7 K ct cs→c∈cs→yr K (ct c) "at" ∧ Zk K (ct c)
 | [],_,_,h=>by simp at h
 | c::cs,d,⟨a,r⟩,h=>by
  rcases List.mem_cons.mp h with e | e
  ·subst e;exact a
  ·exact r.get e
def Q7(cs:List Nat)(d:D)(M:Mem):Out D:=match d with
 | .exc c x=>if c∈cs then .ok x M else .bad
 | _=> .bad
def ac7(cs:List Nat)(m:ME):ME:=fun e M=>(m e M).bind (Q7 cs)
theorem aaa{cs:List Nat}{a:Expr}{ma:ME}{pos:Pos}(hc:ad7 X.K ct cs)(ha:SE X ct W a ma)(hb:attributeBase a "at" X.env (eval a X.env)=eval a X.env:=by rfl):SE X ct W (.Attribute a "at" pos) (ac7 cs ma):=jo (afI ha hb) fun σ H Q q=>by
 obtain⟨ι,e,M,w,p⟩:=dY (jq:=jb X.K ct) (f:=fun d _ M1=>Q7 cs d M1) q
 refine⟨ι,e,M,w,p.mono fun x H1 ⟨i_,e1,M1,d,w1,q1,p1⟩=> ?_⟩
 cases q1 with
 | @exc a dx c d v h1 h2 h3=>
  simp only[Q7]at p1
  by_cases z:c∈cs
  ·rw[if_pos z]at p1
   exact⟨a,ct c,dx,_,v,rfl,h1,h2,(hc.get z).1,(hc.get z).2.gn,rfl,p1 i_ v H1 .refl w1.rl h3⟩
  ·rw[if_neg z]at p1;exact p1.elim
 | _=>exact p1.elim
def TQ(K:Frag)(ct:Nat→Addr)(cv:Value):List (Nat×Bool)→Prop
 | []=>True
 | (c,b)::r=>(kitOne K (.ref (ct c)) cv=some b∧yr K (ct c) "at" ∧ Zk K (ct c))∧TQ K ct cv r
theorem TQ.get{K:Frag}{cv:Value}:∀{cl:List (Nat×Bool)} {c:Nat} {b:Bool},TQ K ct cv cl→cl.lookup c=some b→kitOne K (.ref (ct c)) cv=some b∧yr K (ct c) "at" ∧ Zk K (ct c)
 | [],_,_,_,h=>by simp at h
 | (k,b')::r,c,b,⟨h1,h2⟩,h=>by
  rw[List.lookup_cons]at h
  cases z:c==k with
  | true=>rw[z]at h;cases h;cases(beq_iff_eq.mp z);exact h1
  | false=>rw[z]at h;exact h2.get h
def Ga(k:D)(cl:List (Nat×Bool)):Lq:=fun ds M=>match ds with
 | [.exc c _,.cls k']=>match k with
  | .cls k=>if k=k' then(match cl.lookup c with
   | some b=> .ok (.bl b) M
   | none=> .bad)else .bad
  | _=> .bad
 | [.exc c _,.ty n']=>match k with
  | .ty n=>if n=n' then(match cl.lookup c with
   | some b=> .ok (.bl b) M
   | none=> .bad)else .bad
  | _=> .bad
 | _=> .bad
theorem QB{k:Nat}{cl:List (Nat×Bool)}(h:TQ X.K ct (.ref (ct k)) cl):sI X ct (.builtin "isinstance") (Ga (.cls k) cl):=by
 refine⟨_,Tn (f:= "at"),fun ι M H ds vs Q R hd p=> ?_⟩
 unfold Ga at p
 split at p
 ·rename_i c d k'
  obtain⟨v,v',rfl,q,q'⟩:=adG hd
  cases q'
  dsimp only at p
  by_cases z:k=k'
  ·subst z
   rw[if_pos rfl]at p
   cases z2:cl.lookup c with
   | none=>rw[z2]at p;exact p.elim
   | some b=>
    rw[z2]at p
    cases q with
    | @exc a dx c d v h1 h2 h3=>
     exact⟨a,ct c,dx,_,.ref (ct k),.ref (ct k),b,rfl,rfl,h1,h2,(h.get z2).2.1,(h.get z2).2.2,(h.get z2).1,p ι _ H .refl R (.bl b)⟩
  ·rw[if_neg z]at p;exact p.elim
 ·exact p.elim
 ·exact p.elim
theorem Xo{n:String}{cl:List (Nat×Bool)}(h:TQ X.K ct (.type n) cl):sI X ct (.builtin "isinstance") (Ga (.ty n) cl):=by
 refine⟨_,Tn (f:= "at"),fun ι M H ds vs Q R hd p=> ?_⟩
 unfold Ga at p
 split at p
 ·exact p.elim
 ·rename_i c d k'
  obtain⟨v,v',rfl,q,q'⟩:=adG hd
  cases q'
  dsimp only at p
  by_cases z:n=k'
  ·subst z
   rw[if_pos rfl]at p
   cases z2:cl.lookup c with
   | none=>rw[z2]at p;exact p.elim
   | some b=>
    rw[z2]at p
    cases q with
    | @exc a dx c d v h1 h2 h3=>
     exact⟨a,ct c,dx,_,.ty n,.type n,b,rfl,rfl,h1,h2,(h.get z2).2.1,(h.get z2).2.2,(h.get z2).1,p ι _ H .refl R (.bl b)⟩
  ·rw[if_neg z]at p;exact p.elim
 ·exact p.elim
end
section
variable{e:Sl}{M:Mem}{c:Nat}{d:D}
@[simp] theorem apQ{ms:MA}:Uv c ms e M=LR e (ms e M) fun ds M1=>one ds c e M1:=id rfl
@[simp] theorem ap9:one [d] c e M= .exc c d e M:=id rfl
@[simp] theorem ahK{i:Nat}{cl:List (Nat×Bool)}{b s:MS}:J_ i cl b s e M=ZJ cl (fun c d e' M'=>(s (e'.set i (some (.exc c d))) M').less i) (b e M):=id rfl
theorem Rg{cl:List (Nat×Bool)}{h:Nat→D→Sl→Mem→mU}(z:cl.lookup c=some true):ZJ cl h (.exc c d e M)=h c d e M:=by simp only[ZJ,z]
@[simp] theorem ahR{i:Nat}:(mU.next e M).less i= .next (e.set i none) M:=id rfl
@[simp] theorem amS{cs:List Nat}{m:ME}:ac7 cs m e M=(m e M).bind (Q7 cs):=id rfl
@[simp] theorem ah3{cs:List Nat}:Q7 cs (.exc c d) M=if c∈cs then .ok d M else .bad:=id rfl
@[simp] theorem aiu{k:Nat}{cl:List (Nat×Bool)}:Ga (.cls k) cl [.exc c d,.cls k] M=match cl.lookup c with
  | some b=> .ok (.bl b) M
  | none=> .bad:=by simp[Ga]
@[simp] theorem amE{k:String}{cl:List (Nat×Bool)}:Ga (.ty k) cl [.exc c d,.ty k] M=match cl.lookup c with
  | some b=> .ok (.bl b) M
  | none=> .bad:=by simp[Ga]
end
end S
namespace S
open PySem L2
variable{M:Mem}
theorem Kf{a b:Str}(h:a.length+b.length≤16777216):aX (.str a) (.str b) M= .ok (.str (a++b)) M:=by
 refine(uh rfl).trans (nC ?_)
 simp only[Wq]
 rw[if_pos (by rw[rN];exact h)]
end S
namespace S
open PySem PySem.Spec PyProof.Rows L2
def nQ:D→Option (List Int×Nat)
 | .int i=>some ([i],0)
 | .str s=>some (aic s,1)
 | .tup ds=>(rE ds).map fun is=>(is,is.length+2)
 | _=>none
def wj:List D→Option (List Int×List Nat)
 | []=>some ([],[])
 | d::ds=>match nQ d,wj ds with
  | some p,some q=>some (p.1++q.1,p.2::q.2)
  | _,_=>none
def Uy:D→Option (List Int×List Nat)
 | .tup ds=>wj ds
 | _=>none
def YD(d:D):List Int:=match nQ d with
 | some p=>p.1
 | none=>match Uy d with
  | some p=>p.1
  | none=>[]
theorem Rh:∀{a b:List Nat} {r r':List Int},a.map Int.ofNat++[-1]++r=b.map Int.ofNat++[-1]++r'→a=b∧r=r'
 | [],[],r,r',h=>by simpa using h
 | [],y::b,r,r',h=>by
  simp at h
 | x::a,[],r,r',h=>by
  simp at h
 | x::a,y::b,r,r',h=>by
  simp only[List.map_cons,List.cons_append]at h
  injection h with h1 h2
  obtain⟨e1,e2⟩:=Rh h2
  have:x=y:=Int.ofNat.inj h1
  exact⟨by rw[this,e1],e2⟩
theorem xH:∀{ds:List D} {is:List Int},rE ds=some is→ds=is.map D.int
 | [],is,h=>by cases h;rfl
 | d::r,is,h=>by
  cases d with
  | int i=>
   simp only[rE]at h
   obtain⟨js,h1,rfl⟩:=Option.map_eq_some_iff.mp h
   rw[xH h1];rfl
  | _=>simp[rE]at h
theorem RK{d d':D}{c c' r r':List Int}{k:Nat}(h:nQ d=some (c,k))(h':nQ d'=some (c',k))(e:c++r=c'++r'):d=d'∧r=r':=by
 cases d with
 | int i=>
  cases d' with
  | int j=>simp only[nQ]at h h';cases h;cases h';simp at e;exact⟨by rw[e.1],e.2⟩
  | str s=>simp only[nQ]at h h';cases h;cases h'
  | tup ds=>simp only[nQ]at h h';cases h;obtain⟨is,_,q⟩:=Option.map_eq_some_iff.mp h';simp at q
  | _=>simp[nQ]at h'
 | str s=>
  cases d' with
  | int j=>simp only[nQ]at h h';cases h;cases h'
  | str s'=>
   simp only[nQ]at h h'
   cases h;cases h'
   obtain⟨e1,e2⟩:=Rh e
   refine⟨?_,e2⟩
   cases s;cases s'
   simp at e1
   rw[e1]
  | tup ds=>simp only[nQ]at h h';cases h;obtain⟨is,_,q⟩:=Option.map_eq_some_iff.mp h';simp at q
  | _=>simp[nQ]at h'
 | tup ds=>
  simp only[nQ]at h
  obtain⟨is,hi,q⟩:=Option.map_eq_some_iff.mp h
  simp at q
  obtain⟨rfl,rfl⟩:=q
  cases d' with
  | int j=>simp[nQ]at h'
  | str s=>simp[nQ]at h'
  | tup ds'=>
   simp only[nQ]at h'
   obtain⟨js,hj,q⟩:=Option.map_eq_some_iff.mp h'
   simp at q
   obtain⟨rfl,ek⟩:=q
   obtain⟨e1,e2⟩:=List.append_inj e ek.symm
   rw[xH hi,xH hj,e1]
   exact⟨rfl,e2⟩
  | _=>simp[nQ]at h'
 | _=>simp[nQ]at h
theorem vP:∀{ds ds':List D} {c:List Int} {ks:List Nat},wj ds=some (c,ks)→wj ds'=some (c,ks)→ds=ds'
 | [],[],_,_,_,_=>rfl
 | [],d'::ds',c,ks,h,h'=>by
  simp only[wj]at h h'
  cases h
  split at h'<;>simp at h'
 | d::ds,[],c,ks,h,h'=>by
  simp only[wj]at h h'
  cases h'
  split at h<;>simp at h
 | d::ds,d'::ds',c,ks,h,h'=>by
  simp only[wj]at h h'
  split at h
  ·rename_i p q hp hq
   split at h'
   ·rename_i p' q' hp' hq'
    simp at h h'
    obtain⟨h1,h2⟩:=h
    obtain⟨h1',h2'⟩:=h'
    subst h1 h2
    simp at h2'
    obtain⟨e1,e2⟩:=RK (d:=d) (d':=d') (k:=p.2) (by rw[hp]) (by rw[hp',←h2'.1]) h1'.symm
    have:=vP (ds:=ds) (ds':=ds') (c:=q.1) (ks:=q.2) (by rw[hq]) (by rw[hq',e2,←h2'.2])
    rw[e1,this]
   ·cases h'
  ·cases h
inductive Srt (ds:List D):Prop
 | flat (k:Nat) (hk:k<2) (h:∀d∈ds,∃c,nQ d=some (c,k)):Srt ds
 | rows (k:Nat) (ks:List Nat) (h:∀d∈ds,∃c,Uy d=some (c,k::ks)):Srt ds
theorem Sd{d:D}{c:List Int}{k:Nat}(h:nQ d=some (c,k)):YD d=c:=by unfold YD;rw[h]
theorem Ko:∀{is:List Int},wj (is.map D.int)=some (is,is.map fun _=>0)
 | []=>rfl
 | i::is=>by
  have:=Ko (is:=is)
  simp only[List.map_cons,wj,nQ,this]
  rfl
theorem W4{d:D}{c:List Int}{ks:List Nat}(h:Uy d=some (c,ks)):YD d=c:=by
 cases d with
 | tup ds=>
  unfold YD
  cases z:nQ (.tup ds)with
  | none=>dsimp only;rw[h]
  | some p=>
   dsimp only
   simp only[nQ]at z
   obtain⟨is,hi,q⟩:=Option.map_eq_some_iff.mp z
   rw[←q]
   simp only[Uy]at h
   rw[xH hi,Ko]at h
   simp at h
   exact h.1
 | _=>simp[Uy]at h
theorem Srt.inj{ds:List D}(h:Srt ds):∀a∈ds,∀b∈ds,YD a=YD b→a=b:=by
 intro a ha b hb e
 cases h with
 | flat k hk h=>
  obtain⟨c,h1⟩:=h a ha
  obtain⟨c',h2⟩:=h b hb
  rw[Sd h1,Sd h2]at e
  exact(RK (r:=[]) (r':=[]) h1 h2 (by rw[e])).1
 | rows k ks h=>
  obtain⟨c,h1⟩:=h a ha
  obtain⟨c',h2⟩:=h b hb
  rw[W4 h1,W4 h2]at e
  subst e
  cases a with
  | tup xs=>cases b with
   | tup ys=>rw[vP (show wj xs=some (c,k::ks)from h1) (show wj ys=some (c,k::ks)from h2)]
   | _=>simp[Uy]at h2
  | _=>simp[Uy]at h1
open Classical in
section
variable{X:Cx}{ct:Nat→Addr}{W:bK}{pos:Pos}{K:Frag}{ι:Nat→Addr}{n:Nat}{H:Hp}
open Classical in
variable{o:Expr}{mo:ME}{apos p1 pos1:Pos}
end
end S
namespace L2
open PySem PySem.Spec PyProof.Rows
section
variable{X:Cx}
theorem Mr:∀{ws:List Str} {us:List Value},Vals (ws.map V.str) us→∃l:List (Str×Tok),us=strValues l∧l.map (·.1)=ws
 | [],_,.nil=>⟨[],rfl,rfl⟩
 | w::ws,_,.cons ⟨t,e⟩ r=>by
  obtain⟨l,e1,e2⟩:=Mr r
  subst e
  exact⟨(w,t)::l,by rw[e1];rfl,by rw[←e2];rfl⟩
theorem Mw:∀(l:List (Str×Tok)),Vals ((l.map (·.1)).map V.str) (strValues l)
 | []=> .nil
 | (_,t)::l=> .cons ⟨t,rfl⟩ (Mw l)
def rJoin:V→List V→Hp→VK→Prop:=fun x vs H Q=>∃y a ws,x= .str y∧vs=[.ref a]∧H a=some (.lst (ws.map V.str))∧JoinOk y ws=true∧Q (.str (Txt.join y ws)) H
theorem ac5:MtR X "str.join" rJoin:=by
 intro pins s σ H x vs v us Q I rx r h
 obtain⟨y,a,ws,rfl,rfl,hH,hk,q⟩:=h
 obtain⟨t,rfl⟩:=rx
 obtain⟨u,rfl,ru⟩:=vals1 r
 cases ru
 obtain⟨z,its,n,rv,hl,e⟩:=I.Yx hH
 obtain⟨l,rfl,rfl⟩:=Mr rv
 exact SC.join ⟨_,e,rfl,n,rfl⟩ rfl hk fun t' k=>⟨.str _,H,I.tok k,⟨_,rfl⟩,q⟩
theorem split_len(x y:Str):(Txt.split x y).length≤x.length+2:=by
 unfold Txt.split
 split
 ·simp
 ·split
  ·simp
  ·rw[length_partsBetween]
   have:=StrLaws.occ_length_le x y 0 x.length (x.length+1)
   omega
def afu:V→List V→Hp→VK→Prop:=fun x vs H Q=>∃y z,x= .str y∧vs=[.str z]∧y.length+2≤sizeLine∧(z.length==0)=false∧∀p,H p=none→Q (.ref p) (upd H p (.lst ((Txt.split y z).map V.str)))
theorem aaX:MtR X "str.split" afu:=by
 intro pins s σ H x vs v us Q I rx r h
 obtain⟨y,z,rfl,rfl,hl,hz,q⟩:=h
 obtain⟨t,rfl⟩:=rx
 obtain⟨u,rfl,t',rfl⟩:=vals1 r
 have fin:∀(l:List (Str×Tok)) (k:Nat),l.map (·.1)=Txt.split y z→EP X pins σ Q (.ref s.heap.objs.size) {s with heap:=s.heap.push {cls:= .type "list",data:= .seq (strValues l).toArray},toks:=k}:=fun l k e=>
  ⟨.ref _,_,I.ajV (t':=k) (by rw[←e];exact Mw l) (by rw[List.length_map];exact Nat.le_trans (split_len y z) hl),rfl,q _ I.fresh⟩
 have agu:(Builtin.Str.partsBetween y (Builtin.Str.occurrences y z 0 y.length (y.length+1)) z.length).length≤sizeLine:=by
  rw[length_partsBetween]
  have:=StrLaws.occ_length_le y z 0 y.length (y.length+1)
  omega
 cases h1:(decide (y.length<z.length)||decide (Builtin.Str.strKind y<Builtin.Str.strKind z))with
 | true=>exact call_meets F.slot_str_split (typeIs_str _ _ _) F.entry_str_split (F.args_str_split_2 _ _) (meets_str_split_cannot_occur y z t t' h1) (fin [(y,t)] s.toks (if_pos h1).symm)
 | false=>
  have n1:=ne_true_of_eq_false h1
  cases h2:(Builtin.Str.occurrences y z 0 y.length (y.length+1)).isEmpty with
  | true=>exact call_meets F.slot_str_split (typeIs_str _ _ _) F.entry_str_split (F.args_str_split_2 _ _) (meets_str_split_not_found y z t t' h1 hz h2) (fin [(y,t)] s.toks ((if_neg n1).trans (if_pos h2)).symm)
  | false=>
   have n2:=ne_true_of_eq_false h2
   refine call_meets F.slot_str_split (typeIs_str _ _ _) F.entry_str_split (F.args_str_split_2 _ _) (meets_str_split_sep y z t t' h1 hz h2 (by omega) agu) ?_
   have:=fin (numbered s.toks (Builtin.Str.partsBetween y (Builtin.Str.occurrences y z 0 y.length (y.length+1)) z.length)) (s.toks+(Builtin.Str.partsBetween y (Builtin.Str.occurrences y z 0 y.length (y.length+1)) z.length).length) ((numbered_texts _ _).trans ((if_neg n1).trans (if_neg n2)).symm)
   rw[←strsFrom_eq]at this
   exact this
theorem Yt:MtR X "str.startswith" (fun x vs H Q=>∃y z,x= .str y∧vs=[.str z]∧Q (.bl (Txt.startswith y z)) H):=by
 intro pins s σ H x vs v us Q I rx r h
 obtain⟨y,z,rfl,rfl,q⟩:=h
 obtain⟨t,rfl⟩:=rx
 obtain⟨u,rfl,t',rfl⟩:=vals1 r
 exact SC.startswith ⟨.bl _,H,I,rfl,q⟩
theorem Y0:sJ X (.type "str") (fun xs H Q=>(∃i,xs=[.int i]∧i.natAbs.log2<1920∧Q (.str (toString i)) H)∨(∃z,xs=[.str z]∧Q (.str z) H)∨xs=[.non]∧Q (.str "None") H):=by
 intro pins s σ H xs us Q I r h
 rcases h with h | ⟨z,rfl,q⟩ | ⟨rfl,q⟩
 ·exact QD pins s σ H xs us Q I r h
 ·obtain⟨u,rfl,t,rfl⟩:=vals1 r
  exact PySem.P.str_of_str ⟨.str z,H,I,⟨_,rfl⟩,q⟩
 ·obtain⟨u,rfl,ru⟩:=vals1 r
  cases ru
  exact PySem.P.str_of_none ⟨.str _,H,I.tok _,⟨_,rfl⟩,q⟩
theorem Y6:sJ X (.type "int") (fun xs H Q=>(∃i,xs=[.int i]∧Q (.int i) H)∨(∃k,xs=[.bl k]∧Q (.int (if k then 1 else 0)) H)∨∃z n,xs=[.str z]∧PySem.intText? z=some n∧z.length≤640∧Q (.int n) H):=by
 intro pins s σ H xs us Q I r h
 rcases h with h | h | ⟨z,n,rfl,e,hl,q⟩
 ·exact NB pins s σ H xs us Q I r (.inl h)
 ·exact NB pins s σ H xs us Q I r (.inr h)
 ·obtain⟨u,rfl,t,rfl⟩:=vals1 r
  exact PySem.W.KIN.call_text e hl ⟨.int n,H,I.tok _,⟨_,rfl⟩,q⟩
theorem Yl:Bs X (compareOp .LtE) (fun x y H Q=>∃i j,x= .str i∧y= .str j∧Q (.bl (!(decide (j.cps.toList<i.cps.toList)))) H):=by
 intro pins s σ H x y v u Q I rx ry h
 obtain⟨i,j,rfl,rfl,q⟩:=h
 obtain⟨t,rfl⟩:=rx
 obtain⟨t',rfl⟩:=ry
 exact PySem.P.le_str (Vp I q rfl)
end
end L2
namespace Lh
open PySem PyProof.Rows PySem.SeqAt
open PySem.AutoSeq1 (wpAny_loadPart')
open PySem.MeetsSeq PySem.MeetsSeq2 PySem.MeetsSeq3
def Gx:List Int→List Int→Bool
 | [],_=>true
 | _::_,[]=>false
 | x::xs,y::ys=>if x=y then Gx xs ys else decide (x≤y)
theorem aa7:∀{vs ws:List Value} {ns ms:List Int},IntsAre vs ns→IntsAre ws ms→vs.zip ws=[]→Gx ns ms=decide (ns.length≤ms.length)
 | _,_,_,_,.nil,_,_=>by simp[Gx]
 | _,_,_,_,.cons _ _ _,.nil,_=>by simp[Gx]
 | _,_,_,_,.cons _ _ _,.cons _ _ _,h=>by rw[List.zip_cons_cons]at h;cases h
theorem ajX(l b:Addr)(its its2:Array Value)(n n2:Nat)(dd dd2:Option Addr)(sl sl2:Array (Option Value))(ns ms:List Int)(hi:IntsAre its.toList ns)(hj:IntsAre its2.toList ms):
  Meets (Builtin.«tuple.__le__» ⟨[.ref l,.ref b],[]⟩)
   (fun _ R s=>s.heap.get? l=some {cls:= .type "tuple",dict:=dd,data:= .seq its n,slots:=sl}∧s.heap.get? b=some {cls:= .type "tuple",dict:=dd2,data:= .seq its2 n2,slots:=sl2}∧
    R (.ok (.ret (.bool (Gx ns ms)))) s):=
 .of_wp fun prog w A R s h=>by
  obtain⟨hp,g,d,tk,os⟩:=s
  obtain⟨hl,hb,h⟩:=h
  have f2:=AutoSeq1.sub_tuple_tuple
  have z1:its.size=ns.length:=by rw[←hi.length];simp
  have z2:its2.size=ms.length:=by rw[←hj.length];simp
  wp_walk using wpAny_loadPart' hl,wpAny_loadPart' hb,wpAny_forIn_list _ (fun rest b s'=>b.1=none∧s'=⟨hp,g,d,tk,os⟩∧∃(vs ws:List Value) (ns' ms':List Int),rest=vs.zip ws∧
   IntsAre vs ns'∧IntsAre ws ms'∧ns'.length+its2.size=ms'.length+its.size∧R (.ok (.ret (.bool (Gx ns' ms')))) ⟨hp,g,d,tk,os⟩) _
  case turn=>
   rintro⟨y,x⟩ rest b s' ⟨hb',rfl,vs,ws,ns',ms',hz,hvi,hwi,hlen,hR⟩
   cases hvi with
   | nil=>rw[List.zip_nil_left]at hz;cases hz
   | cons a t hv2=>
    cases hwi with
    | nil=>rw[List.zip_nil_right]at hz;cases hz
    | cons c u hw2=>
     rw[List.zip_cons_cons]at hz
     obtain⟨hyx,hrest⟩:=List.cons.inj hz
     cases hyx
     simp only[Gx]at hR
     simp only[List.length_cons]at hlen
     by_cases hac:a=c
     ·rw[if_pos hac]at hR
      refine wpAny_bind ((SeqAt.EqAt.int_int a t c u:SeqAt.EqAt A.in1 ⟨hp,g,d,tk,os⟩ _ _ _) prog w _ _ ?_)
      rw[beq_iff_eq.mpr hac]
      wp_walk
      exact⟨rfl,rfl,_,_,_,_,hrest,hv2,hw2,by omega,hR⟩
     ·rw[if_neg hac]at hR
      refine wpAny_bind ((SeqAt.EqAt.int_int a t c u:SeqAt.EqAt A.in1 ⟨hp,g,d,tk,os⟩ _ _ _) prog w _ _ ?_)
      rw[beq_eq_false_iff_ne.mpr hac]
      have hri:∀(E:Value→Shared→Prop) (Q:Value→Shared→Prop),Q (.bool (decide (a≤c))) ⟨hp,g,d,tk,os⟩→wpAny (model prog w) A.in1 (richCompare .LtE (.int a t) (.int c u)) Q E ⟨hp,g,d,tk,os⟩:=fun E Q hq=>
       (PyProof.Rows.le_int hq:wpAny (model prog w) A.in1 (compareOp .LtE (.int a t) (.int c u)) Q E ⟨hp,g,d,tk,os⟩)
      wp_walk using hri
      exact⟨_,rfl,by simpa using hR⟩
  case fin=>
   rintro⟨b1,b2⟩ s' ⟨hb',rfl,vs,ws,ns',ms',hz,hvi,hwi,hlen,hR⟩
   simp only at hb'
   subst hb'
   have hv:Gx ns' ms'=decide (its.size≤its2.size):=by
    rw[aa7 hvi hwi hz.symm]
    exact decide_eq_decide.mpr (by omega)
   rw[hv]at hR
   wp_walk
   exact⟨_,rfl,by simpa[Builtin.Tuple.tupleCompareSizes]using hR⟩
  case h=>
   exact⟨rfl,rfl,its.toList,its2.toList,ns,ms,rfl,hi,hj,by omega,h⟩
end Lh
namespace L2
open PySem PySem.Spec PyProof.Rows
section
variable{X:Cx}
theorem af5(hu:X.A.units<cLine):Bs X (compareOp .LtE) (fun x y H Q=>∃a b ns ms,x= .ref a∧y= .ref b∧xq X.K H a (ns.map V.int)∧xq X.K H b (ms.map V.int)∧Q (.bl (Lh.Gx ns ms)) H):=by
 intro pins s σ H x y v u Q I rx ry h
 obtain⟨a,b,ns,ms,rfl,rfl,ha,hb,q⟩:=h
 cases rx
 cases ry
 obtain⟨its,r1,p1,_⟩:=I.tuple ha
 obtain⟨its2,r2,p2,_⟩:=I.tuple hb
 obtain⟨⟨cls,dd,data,sl⟩,ho,hc,n,hd⟩:=id p1
 obtain⟨⟨cls2,dd2,data2,sl2⟩,ho2,hc2,n2,hd2⟩:=id p2
 simp only at hc hd hc2 hd2
 subst hc hd hc2 hd2
 exact richCompare_meets_room (op:= .LtE) ⟨_,ho,rfl⟩ ⟨_,ho2,rfl⟩ PySem.F.slot_tuple_le PySem.F.entry_tuple_le (PySem.F.args_tuple_le_2 _ _) (Lh.ajX a b _ _ n n2 dd dd2 sl sl2 ns ms (intsAre_of r1) (intsAre_of r2))
  ⟨ho,ho2,show Value.bool (Lh.Gx ns ms)≠Value.notImplemented∧EP X pins σ Q (.bool (Lh.Gx ns ms)) s from⟨(fun x=>nomatch x),⟨.bl _,H,I,rfl,q⟩⟩⟩ hu
def Its(x:Str):It:=⟨fun i _=>i<x.length,fun i H v H'=>H'=H∧∃c,x.cps.toList[i]? = some c∧v= .str ⟨#[c]⟩,fun i _=>x.length≤i⟩
theorem XF{P:Program}{w:World}{A:Around}(hh:A.handled=none)(it:Addr)(x:Str)(t:Tok):Walks P w A it [it] [it] x.cps.size (SignAt x) (fun i h=>h.IsStrIter it (strIterType x) x t i):=by
 unfold strIterType
 cases ha:x.cps.all (· < 128)
 ·simp only[Bool.false_eq_true,if_false];exact Walks.strWide hh it x t
 ·simp only[if_true];exact Walks.strAscii hh it x t
theorem Rm(x:Str):["enumerate","zip","dict_itemiterator","dict_reverseitemiterator","odict_iterator","itertools.zip_longest","itertools.pairwise"].contains (strIterType x)=false:=by
 unfold strIterType
 split<;>decide
theorem ZF{P:Program}{w:World}{K:Frag}{tg:Expr}(it:Addr)(x:Str)(t:Tok):Turn P w K tg (Its x) [it] it (fun i h=>h.IsStrIter it (strIterType x) x t i) where
 mem:=by simp
 obj:=fun i h st b hb=>by
  have e:b=it:=by simpa using hb
  subst e
  obtain⟨o,e,c,d⟩:=st
  exact⟨o,e,fun v z=>by rw[d]at z;cases z⟩
 keep:=fun i h h' st k=>by
  obtain⟨o,e,r⟩:=st
  exact⟨o,k it (by simp) o e,r⟩
 item:=by
  intro X hP hw hK hc i pins s σ H E I hf st hg
  subst hP hw hK
  obtain⟨f0,f1,f2,f3,f4,f5⟩:=hf it (by simp)
  refine(XF (I.ok.hd hc) it x t).item i s _ _ hg st fun v h' tk hv st' kk=> ?_
  obtain⟨c,u,hx,rfl⟩:=hv
  have I1:Inv X pins σ H {s with heap:=h',toks:=tk}:=I.turned (fun b o hb e=>kk b o (by simpa using hb) e) f0 f1 f3 f4 f5
  obtain⟨o,e,cc,d⟩:=id st'
  exact⟨_,rfl,W_ (s:={s with heap:=h',toks:=tk}) e cc d (Rm x) ⟨.str ⟨#[c]⟩,H,I1,⟨u,rfl⟩,⟨rfl,c,by rw[←hx,Array.getElem?_toList],rfl⟩,st',fun b hb=>(hf b hb).1⟩⟩
 done:=by
  intro X hP hw hK hc i pins s σ H E I hf st hg
  subst hP hw hK
  obtain⟨f0,f1,f2,f3,f4,f5⟩:=hf it (by simp)
  have hi:x.cps.size≤i:=hg
  obtain⟨o,e,cc,d⟩:=id st
  unfold strIterType at st
  split at st
  ·exact wpAny_pyNext_ascii_end (I.ok.hd hc) st (by simp[hi]) fun h' eb=>⟨rfl,I.turned (t':=s.toks) (fun b o hb e=>eb b o hb e) f0 f1 f3 f4 f5⟩
  ·exact wpAny_pyNext_wide_end (I.ok.hd hc) st (by simp[hi]) fun h' eb=>⟨rfl,I.turned (t':=s.toks) (fun b o hb e=>eb b o hb e) f0 f1 f3 f4 f5⟩
 self:=fun A i s Q E st h=>by
  unfold strIterType at st
  split at st
  ·exact wpAny_pyIter_striter_ascii st h
  ·exact wpAny_pyIter_striter_wide st h
theorem afF{tg l:Expr}{tl:TE}(hl:PE X l tl):PI X tg l (fun σ H R=>tl σ H fun x H1=>∃u,x= .str u∧R (Its u) H1):=by
 intro pins s σ H R I h
 refine mz (hl pins s σ H _ I h) fun v s1 ⟨x,H1,I1,r1,u,e,q⟩=> ?_
 subst e
 obtain⟨t,rfl⟩:=r1
 refine wpAny_pyIter_strU ?_
 refine⟨s1.heap.objs.size,[s1.heap.objs.size],_,_,H1,rfl,I1.kept (t':=s1.toks) fun b o e=>Heap.get?_push_of_some _ e,ZF _ u t,⟨_,Heap.get?_push_size _ rfl,rfl,rfl⟩,fun b hb=> ?_,q⟩
 have e:b=s1.heap.objs.size:=by simpa using hb
 subst e
 exact I1.adz (Nat.le_refl _) (I1.hok.fresh (Nat.le_refl _))
end
def ahB(K:Frag)(a:Addr)(T:List (Str×Int)):Prop:=(a==sysModules)=false∧∃o es ep,K.lookup a=some o∧o.ExactDict∧o.data= .dict es ep∧PyProof.Rows.KTD.Rows (fun i v=>∃t,v=Value.int i t) es.toList T
def Hi(k:Str):List (Str×Int)→V
 | []=> .non
 | (x,i)::T=>if decide (k=x)=true then .int i else Hi k T
section
variable{X:Cx}{o e:Expr}{apos cpos:Pos}{td ty:TE}
theorem Ri{h:Heap}{k:Str}{P:Value→Prop}:∀{T:List (Str×Int)},(∀v,RelV (Hi k T) v→P v)→PyProof.Rows.KTD.Each h k P (P .none) (T.map fun p=>(p.1,PyProof.Rows.KTD.Dat.flat (PyData.int p.2)))
 | [],hp=>hp .none rfl
 | (x,i)::T,hp=>by
  show if decide (k=x)=true then _ else _
  unfold Hi at hp
  by_cases hk:decide (k=x)=true
  ·rw[if_pos hk]at hp ⊢
   exact fun t=>hp _ ⟨t,rfl⟩
  ·rw[if_neg hk]at hp ⊢
   exact Ri hp
def aij(K:Frag)(td ty:TE):TE:=fun σ H Q=>td σ H fun x H1=>∃a T,x= .ref a∧ahB K a T∧ty σ H1 fun y H2=>∃k,y= .str k∧Q (Hi k T) H2
theorem acN(ho:PE X o td)(he:PE X e ty)(m:M1 X o "get" apos e cpos):PE X (.Call (.Attribute o "get" apos) [e] [] cpos) (aij X.K td ty):=by
 intro pins s σ H Q I h
 refine wpAny_Call_method m.base m.few m.line PySem.F.plainAttrs_dict PySem.F.slot_dict_get PySem.F.type_dict_get (mz (ho pins s σ H _ I h) fun u t ⟨x,H1,I1,rx,a,T,ex,tb,q1⟩=> ?_)
 subst ex
 obtain rfl:u=Value.ref a:=rx
 obtain⟨hs,ob,es,ep,ho',hx,hd,hr⟩:=tb
 have here:∀(h:Heap),X.K.In h→PyProof.Rows.KTD.Here h h a (T.map fun p=>(p.1,PyProof.Rows.KTD.Dat.flat (PyData.int p.2))):=fun h hk=>
  ⟨⟨hs,ob,es,ep,hk _ _ ho',hx,hd,hr.mono (R':=PyProof.Rows.KTD.Dat.At h) (f:=fun i=>PyProof.Rows.KTD.Dat.flat (PyData.int i)) fun i v ⟨t,e⟩=>by subst e;exact .int i t⟩,fun _ _ z=>z⟩
 refine⟨(here _ I1.yX).typeIs,(here _ I1.yX).noDict,?_⟩
 rw[m.trees]
 refine Calls.callWith_builtin rfl (Calls.evalArgs_plain (Calls.spliced_cons (mz (he pins t σ H1 _ I1 q1) fun iv t2 ⟨y,H2,I2,ry,k,ek,q2⟩=>Calls.spliced_nil ?_)))
 subst ek
 obtain⟨tk,rfl⟩:=ry
 exact PyProof.Rows.KTD.get1_text (here _ I2.yX) (Ri fun v rv=>⟨_,H2,I2.tok _,rv,q2⟩)
end
end L2
namespace S
open PySem PySem.Spec PyProof.Rows L2
section
variable{X:Cx}{ct:Nat→Addr}{W:bK}{pos pos':Pos}
def strsOf:List D→Option (List Str)
 | []=>some []
 | .str w::r=>(strsOf r).map (w:: ·)
 | _=>none
theorem Mz{K:Frag}{ι:Nat→Addr}{n:Nat}{H:Hp}:∀{ds:List D} {ws:List Str} {vs:List V},strsOf ds=some ws→sH K ct ι n H ds vs→vs=ws.map V.str
 | [],_,_,h,.nil=>by cases h;rfl
 | d::r,ws,_,h,.cons q qs=>by
  cases q with
  | str w=>
   simp only[strsOf]at h
   obtain⟨us,h1,rfl⟩:=Option.map_eq_some_iff.mp h
   rw[Mz h1 qs]
   rfl
  | _=>simp only[strsOf]at h;cases h
theorem V_{K:Frag}{ι:Nat→Addr}{n:Nat}{H:Hp}:∀(ws:List Str),sH K ct ι n H (ws.map D.str) (ws.map V.str)
 | []=> .nil
 | w::ws=> .cons (.str w) (V_ ws)
def Aw:D→List D→Mem→Out D:=fun d ds M=>match d,ds with
 | .str y,[.ref n]=>match M[n]? with
  | some (.lst es)=>match strsOf es with
   | some ws=>if JoinOk y ws=true then .ok (.str (Txt.join y ws)) M else .bad
   | none=> .bad
  | _=> .bad
 | _,_=> .bad
theorem Jz:MtS X ct "str" "str.join" Aw:=by
 refine⟨_,ac5,fun ι M H d ds v vs Q R q qs p=> ?_⟩
 unfold Aw at p
 split at p
 ·rename_i y n
  cases mj q
  obtain⟨u,rfl,qu⟩:=Ag qs
  obtain⟨hn,rfl⟩:=HN qu
  split at p
  ·rename_i es e1
   split at p
   ·rename_i ws e2
    split at p
    ·rename_i hk
     obtain⟨xs,hH,hd⟩:=R.obj n _ e1
     have ex:=Mz e2 hd
     subst ex
     exact⟨y,_,ws,rfl,rfl,hH,hk,p ι _ H .refl R (.str _)⟩
    ·exact p.elim
   ·exact p.elim
  ·exact p.elim
 ·exact p.elim
def yd:D→List D→Mem→Out D:=fun d ds M=>match d,ds with
 | .str y,[.str z]=>if y.length+2≤sizeLine∧(z.length==0)=false then .ok (.ref M.length) (M++[.lst ((Txt.split y z).map D.str)])else .bad
 | _,_=> .bad
theorem Ky:MtS X ct "str" "str.split" yd:=by
 refine⟨_,aaX,fun ι M H d ds v vs Q R q qs p=> ?_⟩
 unfold yd at p
 split at p
 ·rename_i y z
  cases mj q
  obtain⟨u,rfl,qu⟩:=Ag qs
  cases mj qu
  split at p
  ·rename_i hz
   exact⟨y,z,rfl,rfl,hz.1,hz.2,fun pp hp=>yE R (V_ _) hp p⟩
  ·exact p.elim
 ·exact p.elim
def Gb:D→List D→Mem→Out D:=fun d ds M=>match d,ds with
 | .str y,[.str z]=> .ok (.bl (Txt.startswith y z)) M
 | _,_=> .bad
theorem Nf:MtS X ct "str" "str.startswith" Gb:=by
 refine⟨_,Yt,fun ι M H d ds v vs Q R q qs p=> ?_⟩
 unfold Gb at p
 split at p
 ·rename_i y z
  cases mj q
  obtain⟨u,rfl,qu⟩:=Ag qs
  cases mj qu
  exact⟨y,z,rfl,rfl,p ι _ H .refl R (.bl _)⟩
 ·exact p.elim
def mD:Lq:=fun ds M=>match ds with
 | [.int i]=>if i.natAbs.log2<1920 then .ok (.str (toString i)) M else .bad
 | [.str z]=> .ok (.str z) M
 | [.non]=> .ok (.str "None") M
 | _=> .bad
theorem oN:sI X ct (.type "str") mD:=by
 refine⟨_,Y0,fun ι M H ds vs Q R h p=> ?_⟩
 unfold mD at p
 split at p
 ·rename_i i
  obtain⟨v,rfl,q⟩:=Ag h
  cases wO q
  split at p
  ·rename_i hz;exact .inl ⟨i,rfl,hz,p ι _ H .refl R (.str _)⟩
  ·exact p.elim
 ·rename_i z
  obtain⟨v,rfl,q⟩:=Ag h
  cases mj q
  exact .inr (.inl ⟨z,rfl,p ι _ H .refl R (.str _)⟩)
 ·obtain⟨v,rfl,q⟩:=Ag h
  cases q
  exact .inr (.inr ⟨rfl,p ι _ H .refl R (.str _)⟩)
 ·exact p.elim
def aam:Lq:=fun ds M=>match ds with
 | [.int i]=> .ok (.int i) M
 | [.bl k]=> .ok (.int (if k then 1 else 0)) M
 | [.str z]=>match PySem.intText? z with
  | some n=>if z.length≤640 then .ok (.int n) M else .bad
  | none=> .bad
 | _=> .bad
theorem agP:sI X ct (.type "int") aam:=by
 refine⟨_,Y6,fun ι M H ds vs Q R h p=> ?_⟩
 unfold aam at p
 split at p
 ·rename_i i
  obtain⟨v,rfl,q⟩:=Ag h
  cases wO q
  exact .inl ⟨i,rfl,p ι _ H .refl R (.int _)⟩
 ·rename_i k
  obtain⟨v,rfl,q⟩:=Ag h
  cases q
  exact .inr (.inl ⟨k,rfl,p ι _ H .refl R (.int _)⟩)
 ·rename_i z
  obtain⟨v,rfl,q⟩:=Ag h
  cases mj q
  split at p
  ·rename_i n e
   split at p
   ·rename_i hl;exact .inr (.inr ⟨z,n,rfl,e,hl,p ι _ H .refl R (.int _)⟩)
   ·exact p.elim
  ·exact p.elim
 ·exact p.elim
def afi:vN:=fun d e M=>match d,e with
 | .str a,.str b=> .ok (.bl (!decide (b.cps.toList<a.cps.toList))) M
 | _,_=> .bad
theorem ahr:m_ X ct (compareOp .LtE) afi:=by
 refine⟨_,Yl,fun ι M H d d' v v' Q R h h' p=> ?_⟩
 unfold afi at p
 split at p
 ·cases mj h
  cases mj h'
  exact⟨_,_,rfl,rfl,p ι _ H .refl R (.bl _)⟩
 ·exact p.elim
def acq:vN:=fun d e M=>match d,e with
 | .tup xs,.tup ys=>match rE xs,rE ys with
  | some is,some js=> .ok (.bl (Lh.Gx is js)) M
  | _,_=> .bad
 | _,_=> .bad
theorem ahq(hu:X.A.units+64<cLine):m_ X ct (compareOp .LtE) acq:=by
 refine⟨_,af5 (by omega),fun ι M H d d' v v' Q R h h' p=> ?_⟩
 unfold acq at p
 split at p
 ·obtain⟨a,vs,rfl,ha,hd⟩:=Ah h
  obtain⟨b,us,rfl,hb,hd'⟩:=Ah h'
  split at p
  ·rename_i is js e1 e2
   have x1:=yx e1 hd
   have x2:=yx e2 hd'
   subst x1 x2
   exact⟨a,b,is,js,rfl,rfl,xq.of ha,xq.of hb,p ι _ H .refl R (.bl _)⟩
  ·exact p.elim
 ·exact p.elim
def sLe:vN:=zM (zM aak afi) acq
theorem abI(hu:X.A.units+64<cLine):m_ X ct (compareOp .LtE) sLe:=(abJ.or ahr).or (ahq hu)
def X5:vN:=fun d e M=>match d,e with
 | .str i,.str j=> .ok (.bl (!(Builtin.Str.occurrences j i 0 j.length 1).isEmpty)) M
 | _,_=> .bad
theorem ahs:m_ X ct (compareOp .In) X5:=by
 refine⟨_,Ym,fun ι M H d d' v v' Q R h h' p=> ?_⟩
 unfold X5 at p
 split at p
 ·cases mj h
  cases mj h'
  exact⟨_,_,rfl,rfl,p ι _ H .refl R (.bl _)⟩
 ·exact p.elim
def itS(d:D)(M1:Mem):Out Itm:=match d with
 | .str u=>if u.length≤sizeLine then .ok ⟨none,u.cps.toList.map fun c=>D.str ⟨#[c]⟩⟩ M1 else .bad
 | _=> .bad
def U_(m:ME):MI:=fun e M=>(m e M).bind itS
theorem ae9{tg a:Expr}{ma:ME}(hl:SE X ct W a ma):SI X ct W tg a (U_ ma):=PI.imp (afF hl) fun σ H R q=>by
 obtain⟨ι,e,M,w,p⟩:=dY (jq:=jb X.K ct) (f:=fun d _ M1=>itS d M1) q
 refine⟨ι,e,M,w,p.mono fun v H1 ⟨i_,e1,M1,d,w1,q1,p1⟩=> ?_⟩
 cases q1 with
 | str u=>
  dsimp only[itS]at p1
  split at p1
  ·rename_i hz
   refine⟨u,rfl,p1 i_ _ H1 .refl w1.rl ⟨trivial,by rw[List.length_map,Array.length_toList];exact hz,fun rz M2 H2 x2 r2 ok2 i=>⟨fun d e=> ?_,fun h=> ?_⟩⟩⟩
   ·rw[List.getElem?_map]at e
    obtain⟨c,hc,rfl⟩:=Option.map_eq_some_iff.mp e
    have hi:i<u.length:=by have:=(List.getElem?_eq_some_iff.mp hc).1;simpa[Str.length]using this
    refine⟨hi,fun x H3 ⟨e3,c',hc',e4⟩=> ?_⟩
    subst e3 e4
    rw[hc]at hc'
    cases hc'
    exact⟨.refl,r2,.str _⟩
   ·show u.length≤i
    simpa[Str.length]using h
  ·exact p1.elim
 | _=>exact p1.elim
theorem Wg{x:Str}{z:Str}{t:Tok}{pos:Pos}(hg:Gl X x)(hm:X.mg x=some (.str z t))(hd:(x==("__debug__" : Str))=false:=by decide):SE X ct W (.Name x pos) (mC (.str z)):=
 jo (Dm (v:= .str z) hg hm ⟨t,rfl⟩ hd) fun _ _ _ h=>Ie (fun _ _=> .str z) h
theorem FW{x:Str}{z:Int}{t:Tok}{pos:Pos}(hg:Gl X x)(hm:X.mg x=some (.int z t))(hd:(x==("__debug__" : Str))=false:=by decide):SE X ct W (.Name x pos) (mC (.int z)):=
 jo (Dm (v:= .int z) hg hm ⟨t,rfl⟩ hd) fun _ _ _ h=>Ie (fun _ _=> .int z) h
def Ox(k:Str):List (Str×Int)→D
 | []=> .non
 | (x,i)::T=>if decide (k=x)=true then .int i else Ox k T
theorem V9{K:Frag}{ι:Nat→Addr}{n:Nat}{H:Hp}{k:Str}:∀(T:List (Str×Int)),DV K ct ι n H (Ox k T) (Hi k T)
 | []=> .non
 | (x,i)::T=>by
  unfold Ox Hi
  split
  ·exact .int i
  ·exact V9 T
def ado(T:List (Str×Int))(k:D)(M:Mem):Out D:=match k with
 | .str z=> .ok (Ox z T) M
 | _=> .bad
def aa6(T:List (Str×Int))(mk:ME):ME:=fun e M=>(mk e M).bind (ado T)
theorem acn{x:Str}{e:Expr}{mk:ME}{p apos cpos:Pos}{a:Addr}(T:List (Str×Int))(hg:Gl X x)(hm:X.mg x=some (.ref a))(hT:ahB X.K a T)(he:SE X ct W e mk)(hd:(x==("__debug__" : Str))=false:=by decide)
  (base:attributeBase (.Name x p) "get" X.env (eval (.Name x p) X.env)=eval (.Name x p) X.env:=by rfl)
  (few:((backTo cpos (starEach [e] X.env)).all (fun x=> !x.1)&&(backToKw cpos (keywordEach [] X.env)).all (fun x=>x.1.isSome)
   && decide (([e]:List Expr).length+([]:List Keyword).length+(if([]:List Keyword).isEmpty then 0 else 1)<30))=true:=by rfl)
  (line:(apos.endLine==cpos.line)=true:=by rfl) (trees:backTo cpos (starEach [e] X.env)=[(false,eval e X.env)]:=by rfl):
  SE X ct W (.Call (.Attribute (.Name x p) "get" apos) [e] [] cpos) (aa6 T mk):=jo (acN (Dm (v:= .ref a) hg hm rfl hd) he ⟨base,few,line,trees⟩) fun σ H Q q=>by
 obtain⟨ι,e,M,w,p⟩:=dY (jq:=jb X.K ct) (f:=fun k _ M1=>ado T k M1) q
 refine⟨a,T,rfl,hT,ι,e,M,w,p.mono fun v H1 ⟨i_,e1,M1,d,w1,q1,p1⟩=> ?_⟩
 cases q1 with
 | str z=>exact⟨_,rfl,p1 i_ _ H1 .refl w1.rl (V9 T)⟩
 | _=>exact p1.elim
end
theorem Bo{N ps:List Str}{sc:Scope}(h1:sc.kind= .function:=by rfl)(h2:sc.isCoroutine=false:=by rfl)(h3:sc.isGenerator=false:=by rfl)(h4:N.Nodup:=by decide +kernel)(h5:N.take ps.length=ps:=by rfl)
  (h6:∀x∈ps,sc.names.lookup x=some .local∨sc.names.lookup x=some .cell:=by decide +kernel) (h7:∀y∈sc.names,y.2≠ .free:=by decide +kernel):bA N ps sc:=⟨h1,h2,h3,h4,h5,h6,h7⟩
section
variable{e:Sl}{M:Mem}
@[simp] theorem ajO{T:List (Str×Int)}{mk:ME}:aa6 T mk e M=(mk e M).bind (ado T):=id rfl
@[simp] theorem akp{T:List (Str×Int)}{z:Str}:ado T (.str z) M= .ok (Ox z T) M:=id rfl
@[simp] theorem ahP{m:ME}:U_ m e M=(m e M).bind itS:=id rfl
theorem afb{i:Int}(h:i.natAbs.log2<1920):mD [.int i] M= .ok (.str (toString i)) M:=by simp only[mD,h,if_true]
@[simp] theorem afc{y z:Str}:Gb (.str y) [.str z] M= .ok (.bl (Txt.startswith y z)) M:=id rfl
theorem Hr{y z:Str}(h:y.length+2≤16777216)(hz:(z.length==0)=false):yd (.str y) [.str z] M= .ok (.ref M.length) (M++[.lst ((Txt.split y z).map D.str)]):=by
 simp only[yd]
 rw[if_pos ⟨by rw[rN];exact h,hz⟩]
theorem JR:∀(ws:List Str),strsOf (ws.map D.str)=some ws
 | []=>rfl
 | w::ws=>by simp only[List.map_cons,strsOf,JR ws,Option.map_some]
theorem Rz{y:Str}{n:Nat}{ws:List Str}(h:M[n]? = some (.lst (ws.map D.str)))(hk:JoinOk y ws=true):Aw (.str y) [.ref n] M= .ok (.str (Txt.join y ws)) M:=by
 simp only[Aw,h,JR,hk,if_true]
theorem afn{z:Str}{n:Int}(h:PySem.intText? z=some n)(hl:z.length≤640):aam [.str z] M= .ok (.int n) M:=by simp only[aam,h,hl,if_true]
theorem aiA{a b:Str}:sLe (.str a) (.str b) M= .ok (.bl (!decide (b.cps.toList<a.cps.toList))) M:=nC ((uh rfl).trans rfl)
theorem aiz{xs ys:List D}{is js:List Int}(h1:rE xs=some is)(h2:rE ys=some js):sLe (.tup xs) (.tup ys) M= .ok (.bl (Lh.Gx is js)) M:=by
 refine(uh rfl).trans ?_
 simp only[acq,h1,h2]
end
section
variable{X:Cx}{ct:Nat→Addr}{W:bK}{pos pos':Pos}
def lu(src:Option (Nat×List D))(tt:MT)(te:ME)(ce:Sl):List D→List D→Mem→Out D
 | [],ys,M=>if uQ src M then .ok (.ref M.length) (M++[.lst ys])else .bad
 | d::ds,ys,M=>if uQ src M then(tt (some d::ce) M).bind fun k M1=>if k=true then(te (some d::ce) M1).bind fun y M2=>lu src tt te ce ds (ys++[y]) M2 else lu src tt te ce ds ys M1 else .bad
def Cu(js:List Nat)(mi:MI)(tt:MT)(te:ME):ME:=fun e M=>(mi e M).bind fun it M1=>lu it.src tt te (Ff js e) it.ds [] M1
theorem Mv{js:List Nat}{mi:MI}{tt:MT}{te:ME}{σ:St}{H:Hp}{Q:VK}(h:tG (jb X.K ct) X.K ct W (Cu js mi tt te) σ H Q):Um js (tG (acw X.K ct) X.K ct W mi) (fun W'=>tG Kh X.K ct W' tt) (fun W'=>tG (jb X.K ct) X.K ct W' te) W σ H Q:=by
 obtain⟨ι,e,M,w,p⟩:=dY (jq:=acw X.K ct) (f:=fun it e M1=>lu it.src tt te (Ff js e) it.ds [] M1) h
 refine⟨ι,e,M,w,p.mono fun J H1 ⟨i_,e1,M1,it,w1,q1,p1⟩=> ?_⟩
 obtain⟨ok1,hz,step⟩:=q1
 refine⟨fun i m ys H'=>m=it.ds.length - i∧i≤it.ds.length∧ys.length≤i∧∃ι' M' ds',Ext X.K i_ M1.length H1 ι' M'.length H'∧Rl X.K ct ι' M' H'∧sH X.K ct ι' M'.length H' ds' ys∧nJ (jb X.K ct) X.K ct (wAt W σ) ι' M'.length H' (lu it.src tt te (Ff js e1) (it.ds.drop i) ds' M') Q,
  ⟨it.ds.length,by simp,Nat.zero_le _,Nat.le_refl _,i_,M1,[],.refl,w1.rl,.nil,by simpa using p1⟩,?_⟩
 rintro i m ys H' ⟨rfl,hi,hy,ι',M',ds',x',r',dy,p'⟩
 by_cases hlt:i<it.ds.length
 ·rw[List.drop_eq_getElem_cons hlt]at p'
  unfold lu at p'
  by_cases ok':uQ it.src M'
  ·rw[if_pos ok']at p'
   obtain⟨go,yl⟩:=(step ι' M' H' x' r' ok' i).1 _ (List.getElem?_eq_getElem hlt)
   refine .inr ⟨go,fun ys2 H2=>ys2.length≤i+1∧∃rz M2 ds2,Ext X.K i_ M1.length H1 rz M2.length H2∧Rl X.K ct rz M2 H2∧sH X.K ct rz M2.length H2 ds2 ys2∧nJ (jb X.K ct) X.K ct (wAt W σ) rz M2.length H2 (lu it.src tt te (Ff js e1) (it.ds.drop (i+1)) ds2 M2) Q,?_,?_⟩
   ·rintro ys2 H2 ⟨hl2,q2⟩
    exact⟨by omega,it.ds.length - (i+1),by omega,rfl,hlt,hl2,q2⟩
   ·intro x H2 y
    obtain⟨x2,r2,dv⟩:=yl x H2 y
    have w2:Ws X.K ct ι' (some it.ds[i]::Ff js e1) M' (some x::L2.caps js σ) H2:=(w1.ext (x'.trans x2) r2).caps js dv
    have p2:=p'.ext x2
    refine⟨ι',_,M',w2,?_⟩
    cases z:tt (some it.ds[i]::Ff js e1) M' with
    | bad=>simp only[z,Out.sE]at p2;exact p2
    | exc xc xd xM=>simp only[z,Out.qi]at p2;exact p2
    | ok k M3=>
     simp only[z,Out.nH]at p2
     intro Zo k3 H3 x3 r3 ek
     have Vl:k=k3:=ek;subst Vl
     have p3:=p2.ext x3
     have w3:=w2.ext x3 r3
     have dy3:=(dy.mono x2).mono x3
     cases k with
     | false=>exact⟨by omega,Zo,M3,ds',(x'.trans x2).trans x3,r3,dy3,p3⟩
     | true=>
      simp only[if_true]at p3 ⊢
      refine⟨Zo,_,M3,w3,?_⟩
      cases z4:te (some it.ds[i]::Ff js e1) M3 with
      | bad=>simp only[z4,Out.sE]at p3;exact p3
      | exc xc xd xM=>simp only[z4,Out.qi]at p3;exact p3
      | ok yy M4=>
       simp only[z4,Out.nH]at p3
       intro ι4 v4 H4 x4 r4 d4
       exact⟨by rw[List.length_append];simp;omega,ι4,M4,ds'++[yy],((x'.trans x2).trans x3).trans x4,r4,(dy3.mono x4).append (.cons d4 .nil),p3.ext x4⟩
  ·rw[if_neg ok']at p'
   exact p'.elim
 ·have e0:i=it.ds.length:=by omega
  subst e0
  rw[List.drop_length]at p'
  unfold lu at p'
  by_cases ok':uQ it.src M'
  ·rw[if_pos ok']at p'
   exact .inl ⟨(step ι' M' H' x' r' ok' _).2 (Nat.le_refl _),by omega,fun pp hp=>yE r' dy hp p'⟩
  ·rw[if_neg ok']at p'
   exact p'.elim
variable{elt iter:Expr}{ifs:List Expr}{scope:Scope}{x:Str}{px:Pos}{mi:MI}{tt:MT}{te:ME}
theorem J4(hW:Tk X W)(hst:X.stack=X.env::X.outer)(hf:X.env.frame=some X.env.locals)(hc:X.calm=true)(cs:List Str)(js:List Nat)(hi:SI X ct W (.Name x px) iter mi)(hcap:Bl X scope cs js)(ht:∀cl C fp s H W',STs ((bQ X scope cl C (x::cs) fp s H).wish (gb (bQ X scope cl C (x::cs) fp s H) W')) ct W' ifs tt)(he:∀cl C fp s H W',SE ((bQ X scope cl C (x::cs) fp s H).wish (gb (bQ X scope cl C (x::cs) fp s H) W')) ct W' elt te)
  (hall:∀y∈scope.names,y.2= .free→y.1∈cs) (hcell:∀y∈scope.names,y.2≠ .cell) (hnames:∀y∈scope.names,y.2= .local→scope.names.lookup y.1=some .local) (hnd:(x::cs).Nodup)
  (hkind:scope.kind= .function:=by rfl) (hx:scope.names.lookup x=some .local:=by rfl) (hs:∀v,foldedSetIterable iter X.env v=pure v:=by intro _;rfl):
  SE X ct W (.ListComp elt [⟨.Name x px,iter,ifs,0⟩] scope pos) (Cu js mi tt te):=
 jo (aaK (tt:=fun W'=>tG Kh X.K ct W' tt) (te:=fun W'=>tG (jb X.K ct) X.K ct W' te) hW hst hf hc cs js hi hcap (fun cl C fp s H W'=>ht cl C fp s H W') (fun cl C fp s H W'=>he cl C fp s H W') hall hcell hnames hnd hkind hx hs) fun σ H Q q=>Mv q
theorem Z7{y:Str}{py spos:Pos}{k:Nat}(hW:Tk X W)(hst:X.stack=X.env::X.outer)(hf:X.env.frame=some X.env.locals)(hc:X.calm=true)(cs:List Str)(js:List Nat)(hN:X.N.Nodup)(hk:X.N[k]? = some y)(hy:X.env.scope.names.lookup y=some .local)(hi:SI X ct W (.Name x px) iter mi)(hcap:Bl X scope cs js)
  (ht:∀cl C fp s H W',STs ((bQ X scope cl C (x::cs) fp s H).wish (gb (bQ X scope cl C (x::cs) fp s H) W')) ct W' ifs tt) (he:∀cl C fp s H W',SE ((bQ X scope cl C (x::cs) fp s H).wish (gb (bQ X scope cl C (x::cs) fp s H) W')) ct W' elt te)
  (hall:∀y∈scope.names,y.2= .free→y.1∈cs) (hcell:∀y∈scope.names,y.2≠ .cell) (hnames:∀y∈scope.names,y.2= .local→scope.names.lookup y.1=some .local) (hnd:(x::cs).Nodup)
  (hsw:swapsWith (.ListComp elt [⟨.Name x px,iter,ifs,0⟩] scope pos) (some (.Name y py)) spos.line X.env=pure true:=by rfl)
  (hkind:scope.kind= .function:=by rfl) (hx:scope.names.lookup x=some .local:=by rfl) (hs:∀v,foldedSetIterable iter X.env v=pure v:=by intro _;rfl):
  SS X ct W (.Assign [.Name y py] (.ListComp elt [⟨.Name x px,iter,ifs,0⟩] scope pos) spos) (dm (Cu js mi tt te) (gN k)):=
 PS.imp (aaD (tt:=fun W'=>tG Kh X.K ct W' tt) (te:=fun W'=>tG (jb X.K ct) X.K ct W' te) hW hst hf hc cs js hN hk hy hi hcap (fun cl C fp s H W'=>ht cl C fp s H W') (fun cl C fp s H W'=>he cl C fp s H W') hall hcell hnames hnd hsw hkind hx hs) fun T σ H q=>OD (fun _ q=>Mv q) (fun v H Q ⟨ι,e,M,d,w,q,p⟩=>p _ (w.set k q)) q
end
section
variable{X:Cx}{ct:Nat→Addr}
def notStar:Expr→Bool
 | .Starred _ _=>false
 | _=>true
theorem aip{a:Expr}{es:List Expr}{env:PySem.Env}(h:notStar a=true):starEach (a::es) env=(false,eval a env)::starEach es env:=by
 cases a<;>first | rfl | cases h
theorem Ca{W:bK}{a:Expr}{es:List Expr}{ma:ME}{ms:MA}(ha:SE X ct W a ma)(hr:SA X ct W es ms)(h:notStar a=true:=by rfl):SA X ct W (a::es) (aq ma ms):=aj ha hr (aip h)
end
section
variable{e:Sl}{M:Mem}
theorem Nz{src:Option (Nat×List D)}{te:ME}{ce:Sl}{M:Mem}(f:D→D){ds:List D}(hs:uQ src M)(hf:∀d∈ds,te (some d::ce) M= .ok (f d) M):lu src Dz te ce ds [] M= .ok (.ref M.length) (M++[.lst (ds.map f)]):=by
 have key:∀(ds ys:List D),(∀d∈ds,te (some d::ce) M= .ok (f d) M)→lu src Dz te ce ds ys M= .ok (.ref M.length) (M++[.lst (ys++ds.map f)]):=by
  intro ds
  induction ds with
  | nil=>intro ys _;unfold lu;rw[if_pos hs];simp
  | cons d r ih=>
   intro ys h
   unfold lu
   rw[if_pos hs,ada,Out.nH]
   simp only[if_true]
   rw[h d List.mem_cons_self,Out.nH,ih _ fun x hx=>h x (List.mem_cons_of_mem _ hx)]
   simp
 have:=key ds [] hf
 simpa using this
@[simp] theorem ahQ{js:List Nat}{mi:MI}{tt:MT}{te:ME}:Cu js mi tt te e M=(mi e M).bind fun it M1=>lu it.src tt te (Ff js e) it.ds [] M1:=id rfl
end
end S
namespace L2
open PySem PySem.Spec PyProof.Rows
section
variable{X:Cx}
def part3(y z:Str):List Str:=match Builtin.Str.occurrences y z 0 y.length 1 with
 | i::_=>[Builtin.Str.strSub y 0 i,z,Builtin.Str.strSub y (i+z.length) y.length]
 | []=>[y,Str.empty,Str.empty]
def aiO:V→List V→Hp→VK→Prop:=fun x vs H Q=>∃y z,x= .str y∧vs=[.str z]∧y.length≤sizeLine∧(z.length==0)=false∧∀p,H p=none→Q (.ref p) (upd H p (.tup ((part3 y z).map V.str)))
theorem ac4:MtR X "str.partition" aiO:=by
 intro pins s σ H x vs v us Q I rx r h
 obtain⟨y,z,rfl,rfl,hl,hz,q⟩:=h
 obtain⟨t,rfl⟩:=rx
 obtain⟨u,rfl,t',rfl⟩:=vals1 r
 refine call_meets F.slot_str_partition (typeIs_str _ _ _) F.entry_str_partition (F.args_str_partition_2 _ _) (meets_str_partition y z t t' hz hl) ?_
 have q:=q s.heap.objs.size (I.hok.fresh (Nat.le_refl _))
 unfold part3 at q
 cases e:Builtin.Str.occurrences y z 0 y.length 1 with
 | nil=>
  rw[e]at q
  refine⟨.ref s.heap.objs.size,_,I.laid (t':=s.toks+1) (o:= .tup _) (fun b ob q=>Heap.get?_push_of_some _ q) (Nat.le_refl _) ?_,rfl,q⟩
  exact⟨by simp[sizeLine],_,.cons ⟨_,rfl⟩ (.cons ⟨_,rfl⟩ (.cons ⟨_,rfl⟩ .nil)),IsTup.new _ _⟩
 | cons i r=>
  rw[e]at q
  refine⟨.ref s.heap.objs.size,_,I.laid (t':=s.toks+1+1) (o:= .tup _) (fun b ob q=>Heap.get?_push_of_some _ q) (Nat.le_refl _) ?_,rfl,q⟩
  exact⟨by simp[sizeLine],_,.cons ⟨_,rfl⟩ (.cons ⟨_,rfl⟩ (.cons ⟨_,rfl⟩ .nil)),IsTup.new _ _⟩
def rep1(x y z:Str):Str:=
 if((Builtin.Str.occurrences x y 0 x.length 1).isEmpty||(y.length==0&&z.length==0))=true then x
 else Builtin.Str.glued z (Builtin.Str.partsBetween x (Builtin.Str.occurrences x y 0 x.length 1) y.length)
theorem Vm(x y z:Str)(t u v w:Tok)(h0:(u==0||v==0)=false)(huv:(u==v)=false)(hyz:(y==z)=false)
  (hl:Builtin.Str.tooLong (x.length+(Builtin.Str.occurrences x y 0 x.length 1).length*z.length)=false):
  Gives (Builtin.«str.replace» ⟨[.str x t,.str y u,.str z v,.int 1 w],[]⟩)
   (if((Builtin.Str.occurrences x y 0 x.length 1).isEmpty||(y.length==0&&z.length==0))=true then .val (.str x t)
    else .str (Builtin.Str.glued z (Builtin.Str.partsBetween x (Builtin.Str.occurrences x y 0 x.length 1) y.length))):=by
 show Gives (if((Builtin.Str.occurrences x y 0 x.length 1).isEmpty||(y.length==0&&z.length==0))=true then(do rule "str.replace.nothing";ret (.str x t))else
         (isSame (.str y u) (.str z v) >>= fun same=>if same=true then(do rule "str.replace.old-is-new";ret (.str x t))else if Builtin.Str.tooLong (x.length+(Builtin.Str.occurrences x y 0 x.length 1).length*z.length)=true then unsupported "str.replace:memory" else retStr (Builtin.Str.glued z (Builtin.Str.partsBetween x (Builtin.Str.occurrences x y 0 x.length 1) y.length)))) _
 cases hc:((Builtin.Str.occurrences x y 0 x.length 1).isEmpty||(y.length==0&&z.length==0))
 ·rw[isSame_str_other y z u v h0 huv hyz,hl]
  exact .of_eq rfl
 ·exact .rule (.of_eq rfl)
variable{pins:List (Addr×Obj)}{σ:St}{H:Hp}{s:Shared}
theorem aa8{i:Nat}{x:Str}{pos:Pos}{v:V}{E:Value→Shared→Prop}{Q:Value→Shared→Prop}(I:Inv X pins σ H s)(hN:X.N[i]? = some x)(hv:Zm X.env.scope x)(e:σ[i]? = some (some v))(h:∀u,RelV v u→Q u s)
  (hd:(x==("__debug__" : Str))=false:=by decide) (hcd:(x==("__classdict__" : Str))=false:=by decide):wpAny (model X.prog X.w) X.A (eval (.Name x pos) X.env) Q E s:=by
 obtain⟨m,hn,hl⟩:=I.loc
 obtain⟨u,r,l⟩:=hl i x v hN e hv
 have fin:Q u s:=h u r
 rcases l with⟨hk,hm⟩ | ⟨hk,c,hc,hcell⟩
 ·exact wpAny_Name (wpAny_loadName_local I.ok.kind hk hn hm fin) hd
 ·rcases hk with hk | hk
  ·exact wpAny_Name (wpAny_loadName_cell I.ok.kind hk hc hcell fin) hd
  ·exact wpAny_Name (wpAny_loadName_free I.ok.kind hk hc hcell fin hcd) hd
theorem aat{x y z:Str}{t u v w:Tok}{E:Value→Shared→Prop}{Q:Value→Shared→Prop}(h0:(u==0||v==0)=false)(huv:(u==v)=false)(hyz:(y==z)=false)(hl:x.length+z.length≤sizeLine)
  (hq:∀t' k,Q (.str (rep1 x y z) t') {s with toks:=k}):wpAny (model X.prog X.w) X.A (call (.builtin "str.replace") [.str x t,.str y u,.str z v,.int 1 w]) Q E s:=by
 have hle:=StrLaws.occ_length_le x y 0 x.length 1
 have h1:(Builtin.Str.occurrences x y 0 x.length 1).length*z.length≤z.length:=by
  have:=Nat.mul_le_mul_right z.length hle
  omega
 have hl2:Builtin.Str.tooLong (x.length+(Builtin.Str.occurrences x y 0 x.length 1).length*z.length)=false:=by
  unfold Builtin.Str.tooLong
  exact decide_eq_false (by omega)
 refine call_gives F.slot_str_replace (typeIs_str _ _ _) F.entry_str_replace (F.args_str_replace_4 _ _ _ _) (Vm x y z t u v w h0 huv hyz hl2) ?_
 unfold rep1 at hq
 cases hc:((Builtin.Str.occurrences x y 0 x.length 1).isEmpty||(y.length==0&&z.length==0))
 ·rw[hc]at hq
  simp only[Bool.false_eq_true,if_false]at hq ⊢
  refine⟨?_,hq _ _⟩
  have hy:(Builtin.Str.glued y (Builtin.Str.partsBetween x (Builtin.Str.occurrences x y 0 x.length 1) y.length)).length=x.length:=by rw[StrLaws.glued_between_self]
  rw[size_glued,length_partsBetween,Nat.add_sub_cancel]at hy
  rw[size_glued,length_partsBetween,Nat.add_sub_cancel]
  omega
 ·rw[hc]at hq
  simp only[if_true]at hq ⊢
  exact hq t s.toks
theorem aas{j:Nat}{y:Str}{a b x:Str}{py apos cpos:Pos}{j1 j2 j3:Nat}{p1 p2 p3:Pos}{Q:VK}(I:Inv X pins σ H s)(hs:s.toks≠0)(hN:X.N[j]? = some y)(hv:Zm X.env.scope y)(e:σ[j]? = some (some (.str x)))(hab:(a==b)=false)(hl:x.length+b.length≤sizeLine)
  (q:Q (.str (rep1 x a b)) H) (hline:(apos.endLine==cpos.line)=true:=by rfl) (hd:(y==("__debug__" : Str))=false:=by decide) (hcd:(y==("__classdict__" : Str))=false:=by decide)
  (hbase:attributeBase (.Name y py) "replace" X.env (eval (.Name y py) X.env)=eval (.Name y py) X.env:=by rfl)
  (hst:starEach [.Constant (.str a) j1 p1,.Constant (.str b) j2 p2,.Constant (.int 1) j3 p3] X.env=[(false,eval (.Constant (.str a) j1 p1) X.env),(false,eval (.Constant (.str b) j2 p2) X.env),(false,eval (.Constant (.int 1) j3 p3) X.env)]:=by rfl):
  wpAny (model X.prog X.w) X.A (eval (.Call (.Attribute (.Name y py) "replace" apos) [.Constant (.str a) j1 p1,.Constant (.str b) j2 p2,.Constant (.int 1) j3 p3] [] cpos) X.env) (EP X pins σ Q) X.xe s:=by
 refine wpAny_Call_method_late hbase rfl hline rfl (aa8 I hN hv e (fun u r=> ?_) hd hcd)
 obtain⟨t,rfl⟩:=r
 refine⟨"str","str.replace",F.plainAttrs_str,F.slot_str_replace,F.type_str_replace,typeIs_str _ _ _,(fun _ z=>nomatch z),?_⟩
 rw[hst]
 refine Calls.callWith_builtin rfl (Calls.evalArgs_plain ?_)
 show wpAny _ _ (spliced [(false,eval (.Constant (.str a) j1 p1) X.env),(false,eval (.Constant (.str b) j2 p2) X.env),(false,eval (.Constant (.int 1) j3 p3) X.env)]) _ _ s
 refine Calls.spliced_cons (Calls.Constant_str (k:=j1) (pos:=p1) (Calls.spliced_cons (Calls.Constant_str (k:=j2) (pos:=p2) (Calls.spliced_cons (wpAny_Constant_int (Calls.spliced_nil ?_))))))
 show wpAny _ _ (call (.builtin "str.replace") [.str x t,.str a s.toks,.str b (s.toks+1),.int 1 (s.toks+1+1)]) _ _ _
 refine aat ?_ ?_ hab hl fun t' k=>⟨.str _,H,I.tok k,⟨_,rfl⟩,q⟩
 ·simp[hs]
 ·simp
theorem abq{i:Nat}{x:Str}{px pc pk:Pos}{kk:Nat}{k n:Int}{Q:Bool→Shared→Prop}(I:Inv X pins σ H s)(hN:X.N[i]? = some x)(hv:Zm X.env.scope x)(e:σ[i]? = some (some (.int n)))
  (q:Q (n==k) {s with toks:=s.toks+1}) (hd:(x==("__debug__" : Str))=false:=by decide) (hcd:(x==("__classdict__" : Str))=false:=by decide) {whole:Sem Value}:
  wpAny (model X.prog X.w) X.A (isTrue (.Compare (.Name x px) [.Eq] [.Constant (.int k) kk pk] pc) X.env whole) Q X.xe s:=by
 refine wpAny_isTrue_Compare1 (aa8 I hN hv e (fun u r=> ?_) hd hcd)
 obtain⟨t,rfl⟩:=r
 exact wpAny_Constant_int (PySem.P.eq_int (wpAny_truthy_bool q))
theorem aaC{i j:Nat}{x y a b:Str}{k:Int}{px pc pk pa py apos cpos pif p1 p2 p3 pys:Pos}{kk j1 j2 j3:Nat}(hND:X.N.Nodup)(hi:X.N[i]? = some x)(hvx:Zm X.env.scope x)(hj:X.N[j]? = some y)(hvy:Zm X.env.scope y)(hly:Loc X.env.scope y)(hab:(a==b)=false)
  (hline:(apos.endLine==cpos.line)=true:=by rfl) (hdx:(x==("__debug__" : Str))=false:=by decide) (hcx:(x==("__classdict__" : Str))=false:=by decide) (hdy:(y==("__debug__" : Str))=false:=by decide) (hcy:(y==("__classdict__" : Str))=false:=by decide)
  (hbase:attributeBase (.Name y py) "replace" X.env (eval (.Name y py) X.env)=eval (.Name y py) X.env:=by rfl)
  (hst:starEach [.Constant (.str a) j1 p1,.Constant (.str b) j2 p2,.Constant (.int 1) j3 p3] X.env=[(false,eval (.Constant (.str a) j1 p1) X.env),(false,eval (.Constant (.str b) j2 p2) X.env),(false,eval (.Constant (.int 1) j3 p3) X.env)]:=by rfl)
  (hs:swapsWith (.Call (.Attribute (.Name y py) "replace" apos) [.Constant (.str a) j1 p1,.Constant (.str b) j2 p2,.Constant (.int 1) j3 p3] [] cpos) (some (.Name y pys)) pa.line X.env=pure false:=by rfl)
  (hf:X.fn y=true∨X.env.scope.names.lookup y=some .local:=by first | exact .inl rfl | exact .inr rfl | assumption):
  PS X (.If (.Compare (.Name x px) [.Eq] [.Constant (.int k) kk pk] pc) [.Assign [.Name y pys] (.Call (.Attribute (.Name y py) "replace" apos) [.Constant (.str a) j1 p1,.Constant (.str b) j2 p2,.Constant (.int 1) j3 p3] [] cpos) pa] [] pif)
   (fun D σ H=>∃n z,σ[i]? = some (some (.int n))∧(n=k→σ[j]? = some (some (.str z))∧z.length+b.length≤sizeLine∧D.nx (σ.set j (some (.str (rep1 z a b)))) H)∧(n≠k→D.nx σ H)):=by
 intro pins s σ H D I ⟨n,z,e1,h1,h2⟩
 refine wpAny_If (abq I hi hvx e1 ?_ hdx hcx)
 have I1:=I.tok (s.toks+1)
 by_cases hk:n=k
 ·obtain⟨e2,hl,q⟩:=h1 hk
  rw[show(n==k)=true by simpa using hk]
  refine wpAny_execs_cons (wpAny_Assign_Name (mz (aas I1 (Nat.succ_ne_zero _) hj hvy e2 hab hl (Q:=fun v H1=>v= .str (rep1 z a b)∧H1=H) ⟨rfl,rfl⟩ hline hdy hcy hbase hst) fun v s1 ⟨w,H1,I2,r1,q1,q2⟩=> ?_) hs)
  subst q1 q2
  exact yz I2 hND hj hly r1 (fun s2 I3=>wpAny_execs_nil ⟨_,_,I3,q⟩) hf
 ·rw[show(n==k)=false by simpa using hk]
  exact wpAny_execs_nil ⟨_,_,I1,h2 hk⟩
end
end L2
namespace S
open PySem PySem.Spec PyProof.Rows L2
section
variable{X:Cx}{ct:Nat→Addr}{W:bK}
def MN:D→List D→Mem→Out D:=fun d ds M=>match d,ds with
 | .str y,[.str z]=>if y.length≤sizeLine∧(z.length==0)=false then .ok (.tup ((part3 y z).map D.str)) M else .bad
 | _,_=> .bad
theorem S6{K:Frag}{ι:Nat→Addr}{n:Nat}{H:Hp}:∀(l:List Str),sH K ct ι n H (l.map D.str) (l.map V.str)
 | []=> .nil
 | x::l=> .cons (.str x) (S6 l)
theorem WN:MtS X ct "str" "str.partition" MN:=by
 refine⟨_,ac4,fun ι M H d ds v vs Q R q qs p=> ?_⟩
 unfold MN at p
 split at p
 ·cases q with
  | str y=>
   obtain⟨v',rfl,q'⟩:=Ag qs
   cases q' with
   | str z=>
    split at p
    ·rename_i hc
     exact⟨_,_,rfl,rfl,hc.1,hc.2,fun pp hp=>Cg R (S6 _) hp p⟩
    ·exact p.elim
 ·exact p.elim
theorem aah{y z:Str}{M:Mem}(h:y.length≤16777216)(hz:(z.length==0)=false):MN (.str y) [.str z] M= .ok (.tup ((part3 y z).map D.str)) M:=by
 show(if y.length≤sizeLine∧(z.length==0)=false then _ else _)=_
 rw[if_pos ⟨h,hz⟩]
@[irreducible] def zJ(i j:Nat)(k:Int)(a b:Str):MS:=fun e M=>match e[i]? with
 | some (some (.int n))=>if n=k then(match e[j]? with
   | some (some (.str z))=>if z.length+b.length≤sizeLine then .next (e.set j (some (.str (rep1 z a b)))) M else .bad
   | _=> .bad)else .next e M
 | _=> .bad
theorem Z6(i j:Nat){x y a b:Str}{k:Int}{px pc pk pa py apos cpos pif p1 p2 p3 pys:Pos}{kk j1 j2 j3:Nat}(hND:X.N.Nodup)(hi:X.N[i]? = some x:=by rfl)(hvx:Zm X.env.scope x:=by first | exact Or.inl rfl | exact Or.inr (Or.inl rfl) | exact Or.inr (Or.inr rfl))(hj:X.N[j]? = some y:=by rfl)
  (hvy:Zm X.env.scope y:=by first | exact Or.inl rfl | exact Or.inr (Or.inl rfl) | exact Or.inr (Or.inr rfl)) (hly:Loc X.env.scope y:=by first | exact Or.inl rfl | exact Or.inr rfl) (hab:(a==b)=false:=by decide)
  (hline:(apos.endLine==cpos.line)=true:=by rfl) (hdx:(x==("__debug__" : Str))=false:=by decide) (hcx:(x==("__classdict__" : Str))=false:=by decide) (hdy:(y==("__debug__" : Str))=false:=by decide) (hcy:(y==("__classdict__" : Str))=false:=by decide)
  (hbase:attributeBase (.Name y py) "replace" X.env (eval (.Name y py) X.env)=eval (.Name y py) X.env:=by rfl)
  (hst:starEach [.Constant (.str a) j1 p1,.Constant (.str b) j2 p2,.Constant (.int 1) j3 p3] X.env=[(false,eval (.Constant (.str a) j1 p1) X.env),(false,eval (.Constant (.str b) j2 p2) X.env),(false,eval (.Constant (.int 1) j3 p3) X.env)]:=by rfl)
  (hs:swapsWith (.Call (.Attribute (.Name y py) "replace" apos) [.Constant (.str a) j1 p1,.Constant (.str b) j2 p2,.Constant (.int 1) j3 p3] [] cpos) (some (.Name y pys)) pa.line X.env=pure false:=by rfl)
  (hf:X.fn y=true∨X.env.scope.names.lookup y=some .local:=by first | exact .inl rfl | exact .inr rfl | assumption):
  SS X ct W (.If (.Compare (.Name x px) [.Eq] [.Constant (.int k) kk pk] pc) [.Assign [.Name y pys] (.Call (.Attribute (.Name y py) "replace" apos) [.Constant (.str a) j1 p1,.Constant (.str b) j2 p2,.Constant (.int 1) j3 p3] [] cpos) pa] [] pif) (zJ i j k a b):=
 PS.imp (aaC hND hi hvx hj hvy hly hab hline hdx hcx hdy hcy hbase hst hs hf) fun T σ H ⟨ι,e,M,w,p⟩=>by
 unfold zJ at p
 split at p
 ·rename_i n z1
  obtain⟨v1,hv1,dv1⟩:=w.env i _ z1
  cases dv1
  by_cases hk:n=k
  ·rw[if_pos hk]at p
   split at p
   ·rename_i z z2
    obtain⟨v2,hv2,dv2⟩:=w.env j _ z2
    cases dv2
    split at p
    ·rename_i hl
     exact⟨n,z,hv1,fun _=>⟨hv2,hl,p ι _ H .refl (w.set j (.str _))⟩,fun h=>absurd hk h⟩
    ·exact p.elim
   ·exact p.elim
  ·rw[if_neg hk]at p
   exact⟨n,Str.empty,hv1,fun h=>absurd h hk,fun _=>p ι _ H .refl w⟩
 ·exact p.elim
end
section
variable{e:Sl}{M:Mem}
theorem X6{i j:Nat}{k n:Int}{a b:Str}(h:e[i]? = some (some (.int n)))(hk:n≠k):zJ i j k a b e M= .next e M:=by
 unfold zJ;simp only[h,if_neg hk]
theorem Uw{i j:Nat}{k:Int}{a b z:Str}(h:e[i]? = some (some (.int k)))(hj:e[j]? = some (some (.str z)))(hl:z.length+b.length≤16777216):zJ i j k a b e M= .next (e.set j (some (.str (rep1 z a b)))) M:=by
 unfold zJ;simp only[h,hj,if_true];rw[if_pos (show z.length+b.length≤sizeLine from hl)]
end
theorem WX{α:Type}{us:List α}(h:us.length=5):∃a b c d e,us=[a,b,c,d,e]:=match us,h with | [a,b,c,d,e],_=>⟨a,b,c,d,e,rfl⟩
end S
set_option Elab.async false
set_option maxHeartbeats 0
set_option maxRecDepth 100000
set_option linter.all false
namespace My
open PySem L2 S
def vV:MS:=
 (bx (dm (aD j_ (aD aX (aD aX (aD LC (az 3) (aD aX (aD Je (az 3) (mC (.int 1009))) (mC (.int 69621)))) (az 4)) (mC (.int 1))) (mC (.int 2147483647))) (gN 3))
 (rJ (Ma "list" kJ (az 2) (aq (az 3) aG))))
def CV:MS:=
 (Ux (Nh (aq (az 1) aG)) (gN 4) vV)
def jZ:MS:=
 (bx (dm (rM aG) (gN 2))
 (bx (dm (aD j_ (aD aX (aD LC (az 0) (mC (.int 48271))) (mC (.int 7919))) (mC (.int 2147483647))) (gN 3))
 (bx CV
 (iB (az 2)))))
def pB:Fn:=cR 5 jZ
def oX:MS:=
 (bx (dm (rM (aq (mC (.str "start")) (aq (aD aX (aD aX (aD aX (mC (.str "ask 3 -")) (pN mD (aq (aD aX (mC (.int 1)) (aD j_ (az 0) (mC (.int 99)))) aG))) (mC (.str " put ab "))) (pN mD (aq (aD j_ (az 1) (aD Lz (mC (.int 10)) (mC (.int 40)))) aG))) aG))) (gN 2))
 (bx (dm (aD aX (az 2) (rM (aq (aD aX (aD aX (mC (.str "ask ")) (pN mD (aq (az 0) aG))) (mC (.str " 0 add m -7"))) (aq (aD aX (mC (.str "ask 0 1 swap abcdefgh 0 ")) (pN mD (aq (aD j_ (az 0) (mC (.int 5))) aG))) aG)))) (gN 2))
 (bx (dm (aD aX (az 2) (rM (aq (aD aX (aD aX (mC (.str "roll ")) (pN mD (aq (aD aX (mC (.int 1)) (aD j_ (az 0) (mC (.int 1023)))) aG))) (mC (.str " 0"))) (aq (aD aX (mC (.str "roll 7 ")) (pN mD (aq (aD j_ (az 0) (mC (.int 9))) aG))) aG)))) (gN 2))
 (iB (aD aX (aD aX (aD aX (mC (.str "at ")) (pN mD (aq (aD j_ (az 0) (mC (.int 30))) aG))) (mC (.str " "))) (aD bJ (az 2) (aD j_ (aD Je (az 0) (mC (.int 30))) (mC (.int 6)))))))))
def xQ:Fn:=cR 3 oX
def vG:MS:=
 (bx (dm (aD bJ (rM (aq (mC (.str "-")) (aq (mC (.str "")) aG))) (aD j_ (aD bJ (az 1) (mC (.int 5))) (mC (.int 2)))) (gN 5))
 (rJ (Ma "list" kJ (az 2) (aq (aD aX (aD aX (aD aX (aD aX (mC (.str "value ")) (aD LC (mC (.str "b")) (aD aX (az 4) (mC (.int 1))))) (mC (.str " "))) (az 5)) (pN mD (aq (aD aX (mC (.int 1)) (aD j_ (aD bJ (az 1) (mC (.int 5))) (aD bJ (rM (aq (mC (.int 9)) (aq (mC (.int 99)) (aq (mC (.int 9999)) aG)))) (az 4)))) aG))) aG))))
def GP:MS:=
 (Ux (Nh (aq (aD j_ (aD bJ (az 1) (mC (.int 4))) (mC (.int 4))) aG)) (gN 4) vG)
def vD:MS:=
 (bx (dm (pN mD (aq (aD aX (aD j_ (aD bJ (az 1) (mC (.int 7))) (mC (.int 5))) (aD Je (az 4) (mC (.int 2)))) aG)) (gN 6))
 (rJ (Ma "list" kJ (az 2) (aq (aD aX (aD aX (aD aX (aD aX (aD aX (mC (.str "answer ")) (az 6)) (mC (.str " "))) (pN mD (aq (az 4) aG))) (mC (.str " "))) (pN mD (aq (aD Jd (mC (.int 0)) (aD j_ (aD bJ (az 1) (mC (.int 7))) (mC (.int 3)))) aG))) aG))))
def GK:MS:=
 (Ux (Nh (aq (aD j_ (aD bJ (az 1) (mC (.int 6))) (mC (.int 4))) aG)) (gN 4) vD)
def vC:MS:=
 (bx (dm (aD Je (aD bJ (az 1) (aD aX (mC (.int 9)) (aD j_ (az 4) (mC (.int 3))))) (aD aX (mC (.int 1)) (az 4))) (gN 7))
 (rJ (Ma "list" kJ (az 2) (aq (iD xQ 2 [] (aq (az 7) (aq (aD aX (az 0) (az 4)) aG))) aG))))
def GJ:MS:=
 (Ux (Nh (aq (aD j_ (aD bJ (az 1) (mC (.int 8))) (mC (.int 9))) aG)) (gN 4) vC)
def qT:MS:=
 (bx (dm (iD pB 2 [] (aq (az 0) (aq (mC (.int 12)) aG))) (gN 1))
 (bx (dm (rM (aq (aD aX (aD aX (aD aX (mC (.str "book ")) (pN mD (aq (aD j_ (az 0) (aD Lz (mC (.int 10)) (mC (.int 40)))) aG))) (mC (.str " "))) (aD bJ (rM (aq (mC (.str "-")) (aq (mC (.str "0")) (aq (pN mD (aq (aD j_ (aD bJ (az 1) (mC (.int 0))) (mC (.int 60))) aG)) aG)))) (aD j_ (aD bJ (az 1) (mC (.int 1))) (mC (.int 3))))) aG)) (gN 2))
 (bx (dm (rM (aq (aD j_ (aD bJ (az 1) (mC (.int 2))) (mC (.int 9))) (aq (aD j_ (aD bJ (az 1) (mC (.int 2))) (mC (.int 7))) (aq (aD aX (mC (.int 1)) (aD j_ (aD bJ (az 1) (mC (.int 3))) (mC (.int 31)))) (aq (aD j_ (aD Je (aD bJ (az 1) (mC (.int 3))) (mC (.int 31))) (mC (.int 4))) aG))))) (gN 3))
 (bx (rJ (Ma "list" kJ (az 2) (aq (aD aX (mC (.str "base ")) (Ma "str" Aw (mC (.str " ")) (aq (Cu [] (Ni (az 3)) Dz (pN mD (aq (az 0) aG))) aG))) aG)))
 (bx GP
 (bx GK
 (bx GJ
 (iB (aD aX (az 2) (rM (aq (aD aX (mC (.str "end ")) (pN mD (aq (pN j0 (aq (az 2) aG)) aG))) aG)))))))))))
def zQ:Fn:=cR 8 qT
def Bd:MS:=
 (zK (cA (aD sLt (az 1) (pN j0 (aq (az 0) aG)))) (iB (aD bJ (az 0) (az 1))) fO)
def iY:MS:=
 (bx Bd
 (iB (mC (.int 0))))
def mX:Fn:=cR 2 iY
def j8:MS:=
 (bx (xN [4] (az 0) (Ma "str" yd (az 1) (aq (mC (.str "\n")) aG)) "rows")
 (xN [4] (az 0) (mC (.int 1)) "here"))
def tX:Fn:=cR 2 j8
def tM:MS:=
 (zK (cA (aD X7 (sO [4] (az 0) "here") (pN j0 (aq (sO [4] (az 0) "rows") aG)))) (Uv 2 (aq (sO [4] (az 0) "here") aG)) fO)
def eN:MS:=
 (bx tM
 (iB (Ma "str" yd (aD bJ (sO [4] (az 0) "rows") (aD Jd (sO [4] (az 0) "here") (mC (.int 1)))) (aq (mC (.str " ")) aG))))
def fK:Fn:=cR 1 eN
def fM:MS:=
 (zK (mOr (cA (aD sNe (aD bJ (az 3) (mC (.int 0))) (az 1))) (cA (aD sNe (pN j0 (aq (az 3) aG)) (az 2)))) (Uv 2 (aq (sO [4] (az 0) "here") aG)) fO)
def a_:MS:=
 (bx (dm (cV 4 "words" fK 1 [] (az 0) aG) (gN 3))
 (bx fM
 (iB (az 3))))
def aR:Fn:=cR 4 a_
def t_:MS:=
 (iB (WW (aD aak (mC (.int 1)) (pN j0 (aq (az 0) aG))) (WW (aD aak (pN j0 (aq (az 0) aG)) (az 2)) (pN aao (aq (Cu [1] (U_ (az 0)) Dz (aD X5 (az 0) (az 1))) aG)))))
def zR:Fn:=cR 3 t_
def t7:MS:=
 (zK (cA (Ma "str" Gb (az 0) (aq (mC (.str "-")) aG))) (dm (EY (az 0) (iU (mC (.int 1))) cP) (gN 1)) fO)
def D_:MS:=
 (zK (aa5 (cA (iD zR 3 [] (aq (az 1) (aq (mC (.str "0123456789")) (aq (mC (.int 100)) aG)))))) (iB (mC (.bl false))) fO)
def oY:MS:=
 (bx (dm (az 0) (gN 1))
 (bx t7
 (bx D_
 (iB (agh (aD sEq (az 0) (mC (.str "0"))) (aa4 (Ma "str" Gb (az 1) (aq (mC (.str "0")) aG))))))))
def xR:Fn:=cR 2 oY
def tO:MS:=
 (zK (aa5 (cA (iD xR 1 [] (aq (az 1) aG)))) (Uv 2 (aq (sO [4] (az 0) "here") aG)) fO)
def b8:MS:=
 (bx tO
 (iB (pN aam (aq (az 1) aG))))
def bI:Fn:=cR 2 b8
def iR:MS:=
 (zK (cA (aD sLt (az 2) (mC (.int 0)))) (Uv 2 (aq (sO [4] (az 0) "here") aG)) fO)
def bu:MS:=
 (bx (dm (cV 4 "whole" bI 2 [] (az 0) (aq (az 1) aG)) (gN 2))
 (bx iR
 (iB (az 2))))
def bM:Fn:=cR 3 bu
def pF:MS:=
 (zK (cA (aD afq (az 3) (az 2))) (Uv 2 (aq (sO [4] (az 0) "here") aG)) fO)
def dD:MS:=
 (bx (dm (cV 4 "from_nought" bM 2 [] (az 0) (aq (az 1) aG)) (gN 3))
 (bx pF
 (iB (az 3))))
def gY:Fn:=cR 4 dD
def iZ:MS:=
 (iB (cV 4 "below" gY 3 [] (az 0) (aq (az 1) (aq (mC (.int 60)) aG))))
def pM:Fn:=cR 2 iZ
def dB:MS:=
 (xN [4] (az 0) (aD aX (sO [4] (az 0) "here") (mC (.int 1))) "here")
def gW:Fn:=cR 1 dB
def mZ:MS:=
 (zK (cA (aD sNe (aD bJ (az 1) (mC (.int 2))) (mC (.str "-")))) (dm (cV 4 "hand" pM 2 [] (az 0) (aq (aD bJ (az 1) (mC (.int 2))) aG)) (gN 2)) fO)
def iW:MS:=
 (bx (dm (cV 4 "words_of" aR 3 [] (az 0) (aq (mC (.str "book")) (aq (mC (.int 3)) aG))) (gN 1))
 (bx (dm (mC .non) (gN 2))
 (bx mZ
 (bx (dm (rA (aq (cV 4 "from_nought" bM 2 [] (az 0) (aq (aD bJ (az 1) (mC (.int 1))) aG)) (aq (az 2) aG))) (gN 3))
 (bx (rJ (cV 4 "go_on" gW 1 [] (az 0) aG))
 (iB (az 3)))))))
def jP:Fn:=cR 4 iW
def gZ:MS:=
 (zK (cA (aD sEq (aD bJ (az 3) (mC (.int 0))) (mC (.int 0)))) (Uv 2 (aq (sO [4] (az 0) "here") aG)) fO)
def bT:MS:=
 (bx (dm (rA (aq (cV 4 "below" gY 3 [] (az 0) (aq (az 1) (aq (aD acp (mC (.int 1)) (mC (.int 60))) aG))) (aq (cV 4 "below" gY 3 [] (az 0) (aq (az 2) (aq (aD acp (mC (.int 1)) (mC (.int 60))) aG))) aG))) (gN 3))
 (bx gZ
 (iB (az 3))))
def dz:Fn:=cR 4 bT
def fV:MS:=
 (bx (dm (cV 4 "words_of" aR 3 [] (az 0) (aq (mC (.str "base")) (aq (mC (.int 5)) aG))) (gN 1))
 (bx (dm (cV 4 "from_nought" bM 2 [] (az 0) (aq (aD bJ (az 1) (mC (.int 1))) aG)) (gN 2))
 (bx (dm (rA (aq (az 2) (aq (cV 4 "from_nought" bM 2 [] (az 0) (aq (aD bJ (az 1) (mC (.int 2))) aG)) (aq (cV 4 "both_sets" dz 3 [] (az 0) (aq (aD bJ (az 1) (mC (.int 3))) (aq (aD bJ (az 1) (mC (.int 4))) aG))) aG)))) (gN 3))
 (bx (rJ (cV 4 "go_on" gW 1 [] (az 0) aG))
 (iB (az 3))))))
def fQ:Fn:=cR 4 fV
def dH:MS:=
 (iB (aD sEq (aD bJ (cV 4 "words" fK 1 [] (az 0) aG) (mC (.int 0))) (az 1)))
def eZ:Fn:=cR 2 dH
def tV:MS:=
 (iB (iD zR 3 [] (aq (az 0) (aq (mC (.str "abcdefghijklmnopqrstuvwxyz")) (aq (mC (.int 8)) aG)))))
def Dp:Fn:=cR 1 tV
def uW:MS:=
 (zK (aa5 (cA (iD Dp 1 [] (aq (az 1) aG)))) (Uv 2 (aq (sO [4] (az 0) "here") aG)) fO)
def gO:MS:=
 (bx uW
 (iB (az 1)))
def mY:Fn:=cR 2 gO
def uV:MS:=
 (zK (mOr (cA (aD sEq (aD bJ (az 3) (mC (.int 1))) (mC (.int 0)))) (Yv (cA (aD X7 (pN j0 (aq (az 1) aG)) (mC (.int 0)))) (cA (aD sLe (aD bJ (az 3) (mC (.int 0))) (aD bJ (aD bJ (az 1) (mUn Pa (mC (.int 1)))) (mC (.int 0))))))) (Uv 2 (aq (sO [4] (az 0) "here") aG)) fO)
def cL:MT:=
 (cA (cV 4 "begins" eZ 2 [] (az 0) (aq (mC (.str "value")) aG)))
def cu:MS:=
 (bx (dm (cV 4 "words_of" aR 3 [] (az 0) (aq (mC (.str "value")) (aq (mC (.int 3)) aG))) (gN 2))
 (bx (dm (rA (aq (cV 4 "name" mY 2 [] (az 0) (aq (aD bJ (az 2) (mC (.int 1))) aG)) (aq (cV 4 "whole" bI 2 [] (az 0) (aq (aD bJ (az 2) (mC (.int 2))) aG)) aG))) (gN 3))
 (bx uV
 (bx (rJ (Ma "list" kJ (az 1) (aq (az 3) aG)))
 (rJ (cV 4 "go_on" gW 1 [] (az 0) aG))))))
def uR:MS:=
 (Ew cL cu)
def iV:MS:=
 (bx (dm (rM aG) (gN 1))
 (bx uR
 (iB (pN yc (aq (az 1) aG)))))
def j5:Fn:=cR 4 iV
def tL:MS:=
 (zK (Yv (cA (aD X7 (pN j0 (aq (az 1) aG)) (mC (.int 0)))) (cA (aD sLe (EY (az 3) cP (iU (mC (.int 2)))) (EY (aD bJ (az 1) (mUn Pa (mC (.int 1)))) cP (iU (mC (.int 2))))))) (Uv 2 (aq (sO [4] (az 0) "here") aG)) fO)
def cC:MT:=
 (cA (cV 4 "begins" eZ 2 [] (az 0) (aq (mC (.str "answer")) aG)))
def cz:MS:=
 (bx (dm (cV 4 "words_of" aR 3 [] (az 0) (aq (mC (.str "answer")) (aq (mC (.int 4)) aG))) (gN 2))
 (bx (dm (pN yc (aq (Cu [0] (Ni (EY (az 2) (iU (mC (.int 1))) cP)) Dz (cV 4 "whole" bI 2 [] (az 1) (aq (az 0) aG))) aG)) (gN 3))
 (bx tL
 (bx (rJ (Ma "list" kJ (az 1) (aq (az 3) aG)))
 (rJ (cV 4 "go_on" gW 1 [] (az 0) aG))))))
def tE:MS:=
 (Ew cC cz)
def ir:MS:=
 (bx (dm (rM aG) (gN 1))
 (bx tE
 (iB (pN yc (aq (az 1) aG)))))
def je:Fn:=cR 4 ir
def oZ:MS:=
 (bx (xN [5] (az 0) (az 1) "base")
 (bx (xN [5] (az 0) (az 2) "base_term")
 (bx (xN [5] (az 0) (az 3) "base_roll")
 (xN [5,6] (az 0) (pN MP (aq (az 4) aG)) "kept"))))
def qN:Fn:=cR 5 oZ
def nW:MS:=
 (zK (cA (aD sNe (aa6 [("put",3),("add",3),("swap",4)] (aD bJ (az 1) (mC (.int 0)))) (pN j0 (aq (az 1) aG)))) (Uv 2 (aq (sO [4] (az 0) "here") aG)) fO)
def gM:MS:=
 (bx nW
 (bx (dm (Cu [0] (Ni (EY (az 1) (iU (mC (.int 2))) cP)) Dz (cV 4 "whole" bI 2 [] (az 1) (aq (az 0) aG))) (gN 2))
 (iB (aD aX (rA (aq (aD bJ (az 1) (mC (.int 0))) (aq (cV 4 "name" mY 2 [] (az 0) (aq (aD bJ (az 1) (mC (.int 1))) aG)) aG))) (pN yc (aq (az 2) aG))))))
def lY:Fn:=cR 3 gM
def tZ:MS:=
 (zK (cA (aD sEq (az 1) (rM (aq (mC (.str "start")) aG)))) (iB (rA (aq (mC (.str "start")) aG))) fO)
def gK:MS:=
 (zK (Yv (cA (aD sEq (pN j0 (aq (az 1) aG)) (mC (.int 3)))) (cA (aD sEq (aD bJ (az 1) (mC (.int 0))) (mC (.str "roll"))))) (iB (aD aX (rA (aq (mC (.str "roll")) aG)) (cV 4 "both_sets" dz 3 [] (az 0) (aq (aD bJ (az 1) (mC (.int 1))) (aq (aD bJ (az 1) (mC (.int 2))) aG))))) fO)
def eG:MS:=
 (zK (Yv (cA (aD X7 (pN j0 (aq (az 1) aG)) (mC (.int 3)))) (cA (aD sEq (aD bJ (az 1) (mC (.int 0))) (mC (.str "ask"))))) (iB (rA (aq (mC (.str "ask")) (aq (cV 4 "whole" bI 2 [] (az 0) (aq (aD bJ (az 1) (mC (.int 1))) aG)) (aq (cV 4 "whole" bI 2 [] (az 0) (aq (aD bJ (az 1) (mC (.int 2))) aG)) (aq (iD lY 2 [] (aq (az 0) (aq (EY (az 1) (iU (mC (.int 3))) cP) aG))) aG)))))) fO)
def fU:MS:=
 (bx tZ
 (bx gK
 (bx eG
 (Uv 2 (aq (sO [4] (az 0) "here") aG)))))
def fc:Fn:=cR 2 fU
def cB:MT:=
 (cA (cV 4 "begins" eZ 2 [] (az 0) (aq (mC (.str "at")) aG)))
def cQ:MS:=
 (bx (dm (cV 4 "words" fK 1 [] (az 0) aG) (gN 2))
 (bx (dm (iD fc 2 [] (aq (az 0) (aq (EY (az 2) (iU (mC (.int 2))) cP) aG))) (gN 3))
 (bx (rJ (Ma "list" kJ (az 1) (aq (rA (aq (cV 4 "from_nought" bM 2 [] (az 0) (aq (aD bJ (az 2) (mC (.int 1))) aG)) (aq (az 3) aG))) aG)))
 (rJ (cV 4 "go_on" gW 1 [] (az 0) aG)))))
def tD:MS:=
 (Ew cB cQ)
def ig:MS:=
 (bx (dm (rM aG) (gN 1))
 (bx tD
 (iB (az 1))))
def jd:Fn:=cR 4 ig
def jV:MS:=
 (zK (cA (aD sNe (cV 4 "whole" bI 2 [] (az 0) (aq (aD bJ (az 1) (mC (.int 1))) aG)) (aD Jd (sO [4] (az 0) "here") (mC (.int 1))))) (Uv 2 (aq (sO [4] (az 0) "here") aG)) fO)
def rQ:MS:=
 (zK (cA (aD sLt (sO [4] (az 0) "here") (pN j0 (aq (sO [4] (az 0) "rows") aG)))) (Uv 2 (aq (aD aX (sO [4] (az 0) "here") (mC (.int 1))) aG)) fO)
def cM:MS:=
 (bx (dm (cV 4 "words_of" aR 3 [] (az 0) (aq (mC (.str "end")) (aq (mC (.int 2)) aG))) (gN 1))
 (bx jV
 rQ))
def dG:Fn:=cR 2 cM
def qU:MS:=
 (iB (Gv 5 qN 5 [] (aq (sO [5] (az 0) "base") (aq (sO [5] (az 0) "base_term") (aq (sO [5] (az 0) "base_roll") (aq (sO [5,6] (az 0) "kept") aG))))))
def zU:Fn:=cR 1 qU
def o4:MS:=
 (bx (xN [6] (az 0) (az 1) "term")
 (bx (xN [6] (az 0) (az 2) "vote")
 (bx (xN [6] (az 0) (cV 5 "twin" zU 1 [] (az 3) aG) "row")
 (xN [5,6] (az 0) (az 4) "kept"))))
def uo:Fn:=cR 5 o4
def jY:MS:=
 (bx (dm (Gv 4 tX 2 [] (aq (az 0) aG)) (gN 1))
 (bx (dm (iD jP 1 [] (aq (az 1) aG)) (gN 2))
 (bx (dm (iD fQ 1 [] (aq (az 1) aG)) (gN 3))
 (bx (dm (iD j5 1 [] (aq (az 1) aG)) (gN 4))
 (bx (dm (iD je 1 [] (aq (az 1) aG)) (gN 5))
 (bx (dm (Gv 5 qN 5 [] (aq (aD bJ (az 3) (mC (.int 0))) (aq (aD bJ (az 3) (mC (.int 1))) (aq (aD bJ (az 3) (mC (.int 2))) (aq (iD jd 1 [] (aq (az 1) aG)) aG))))) (gN 6))
 (bx (rJ (cV 4 "finish" dG 1 [] (az 1) aG))
 (iB (Gv 6 uo 5 [] (aq (aD bJ (az 2) (mC (.int 0))) (aq (aD bJ (az 2) (mC (.int 1))) (aq (az 6) (aq (rA (aq (az 4) (aq (az 5) aG))) aG)))))))))))))
def lE:Fn:=cR 7 jY
def z_:MS:=
 (zK (mOr (cA (aD sLt (az 1) (mC (.int 2)))) (cA (aD sEq (az 1) (aD Jd (pN j0 (aq (az 0) aG)) (mC (.int 1)))))) (iB (rA (aq (aD aX (EY (az 0) cP (iU (az 1))) (EY (az 0) (iU (aD aX (az 1) (mC (.int 1)))) cP)) (aq (aD aX (az 1) (mC (.int 1))) aG)))) fO)
def oW:MS:=
 (bx z_
 (iB (rA (aq (aD aX (EY (az 0) cP (iU (az 1))) (EY (az 0) (iU (aD aX (az 1) (mC (.int 1)))) cP)) (aq (aD Jd (pN j0 (aq (az 0) aG)) (mC (.int 1))) aG)))))
def wC:Fn:=cR 2 oW
def yo:MS:=
 (zK (cA (aD sIn (EY (aD bJ (az 0) (az 1)) cP (iU (mC (.int 2)))) (rA (aq (mC (.str "bo")) (aq (mC (.str "ba")) (aq (mC (.str "va")) (aq (mC (.str "an")) (aq (mC (.str "en")) aG)))))))) (iB (rA (aq (aD aX (EY (az 0) cP (iU (aD aX (az 1) (mC (.int 1))))) (EY (az 0) (iU (az 1)) cP)) (aq (aD aX (az 1) (mC (.int 2))) aG)))) fO)
def lF:MS:=
 (bx yo
 (iB (rA (aq (aD aX (EY (az 0) cP (iU (aD aX (az 1) (mC (.int 1))))) (EY (az 0) (iU (az 1)) cP)) (aq (aD aX (pN j0 (aq (az 0) aG)) (mC (.int 1))) aG)))))
def um:Fn:=cR 2 lF
def jU:MS:=
 (zK (mOr (cA (aD sLt (az 1) (mC (.int 2)))) (cA (aD sEq (EY (aD bJ (az 0) (aD aX (az 1) (mC (.int 1)))) cP (iU (mC (.int 2)))) (mC (.str "en"))))) (iB (rA (aq (az 2) (aq (aD aX (az 1) (mC (.int 1))) aG)))) fO)
def jT:MS:=
 (zK (cA (aD sEq (EY (aD bJ (az 0) (az 1)) cP (iU (mC (.int 2)))) (mC (.str "at")))) (iB (rA (aq (aD aX (az 0) (rM (aq (mC (.str "end")) aG))) (aq (aD aX (pN j0 (aq (az 0) aG)) (mC (.int 1))) aG)))) fO)
def iC:MS:=
 (bx (dm (pN Wk (aq (az 1) (aq (aD Jd (pN j0 (aq (az 0) aG)) (mC (.int 2))) aG))) (gN 1))
 (bx (dm (aD aX (aD aX (EY (az 0) cP (iU (az 1))) (rM (aq (aD bJ (az 0) (aD aX (az 1) (mC (.int 1)))) (aq (aD bJ (az 0) (az 1)) aG)))) (EY (az 0) (iU (aD aX (az 1) (mC (.int 2)))) cP)) (gN 2))
 (bx jU
 (bx jT
 (iB (rA (aq (az 2) (aq (aD aX (az 1) (mC (.int 2))) aG))))))))
def mG:Fn:=cR 3 iC
def qK:MS:=
 (zK (cA (aD sEq (az 2) (mC (.int 1)))) (dm (aD aX (az 4) (aD bJ (rM (aq (mC (.str " 1")) (aq (mC (.str " ")) (aq (mC (.str " x")) (aq (mC (.str " start")) aG))))) (aD j_ (az 3) (mC (.int 4))))) (gN 4)) fO)
def qJ:MS:=
 (zK (cA (aD sEq (az 2) (mC (.int 2)))) (dm (Ma "str" Aw (mC (.str " ")) (aq (EY (Ma "str" yd (az 4) (aq (mC (.str " ")) aG)) cP (iU (mUn Pa (mC (.int 1))))) aG)) (gN 4)) fO)
def qI:MS:=
 (zK (cA (aD sEq (az 2) (mC (.int 3)))) (iB (iD wC 2 [] (aq (az 0) (aq (az 1) aG)))) fO)
def qH:MS:=
 (zK (cA (aD sEq (az 2) (mC (.int 4)))) (iB (iD um 2 [] (aq (az 0) (aq (az 1) aG)))) fO)
def qG:MS:=
 (zK (cA (aD sEq (az 2) (mC (.int 5)))) (iB (rA (aq (aD aX (aD aX (EY (az 0) cP (iU (az 1))) (rM (aq (aD bJ (rM (aq (mC (.str "")) (aq (mC (.str " ")) aG))) (aD j_ (az 3) (mC (.int 2)))) aG))) (EY (az 0) (iU (az 1)) cP)) (aq (aD aX (az 1) (mC (.int 1))) aG)))) fO)
def qF:MS:=
 (zK (cA (aD sEq (az 2) (mC (.int 6)))) (dm (aD aX (aD aX (aD bJ (rM (aq (mC (.str "End")) (aq (mC (.str "row")) (aq (mC (.str "At")) (aq (mC (.str "")) aG))))) (aD j_ (az 3) (mC (.int 4)))) (aD bJ (Ma "str" MN (az 4) (aq (mC (.str " ")) aG)) (mC (.int 1)))) (aD bJ (Ma "str" MN (az 4) (aq (mC (.str " ")) aG)) (mC (.int 2)))) (gN 4)) fO)
def qD:MS:=
 (zK (cA (aD sEq (az 2) (mC (.int 8)))) (iB (rA (aq (aD aX (EY (az 0) cP (iU (mUn Pa (mC (.int 1))))) (rM (aq (aD aX (mC (.str "end ")) (pN mD (aq (aD bJ (rM (aq (pN j0 (aq (az 0) aG)) (aq (aD Jd (pN j0 (aq (az 0) aG)) (mC (.int 2))) (aq (aD aX (aD Jd (mC (.int 0)) (pN j0 (aq (az 0) aG))) (mC (.int 1))) aG)))) (aD j_ (az 3) (mC (.int 3)))) aG))) aG))) (aq (pN j0 (aq (az 0) aG)) aG)))) fO)
def qC:MS:=
 (zK (cA (aD sEq (az 2) (mC (.int 9)))) (iB (rA (aq (aD aX (az 0) (rM (aq (aD bJ (rM (aq (mC (.str "")) (aq (aD aX (mC (.str "end ")) (pN mD (aq (pN j0 (aq (az 0) aG)) aG))) (aq (mC (.str "at 1 start")) aG)))) (aD j_ (az 3) (mC (.int 3)))) aG))) (aq (aD aX (pN j0 (aq (az 0) aG)) (mC (.int 1))) aG)))) fO)
def qz:MS:=
 (zK (mOr (cA (aD sEq (az 2) (mC (.int 11)))) (cA (aD sEq (az 2) (mC (.int 0))))) (iB (iD mG 2 [] (aq (az 0) (aq (az 1) aG)))) fO)
def bV:MS:=
 (bx (dm (aD bJ (az 0) (az 1)) (gN 4))
 (bx qK
 (bx qJ
 (bx qI
 (bx qH
 (bx qG
 (bx qF
 (bx (zJ 2 4 7 " " "  ")
 (bx qD
 (bx qC
 (bx qz
 (iB (rA (aq (aD aX (aD aX (EY (az 0) cP (iU (az 1))) (rM (aq (az 4) aG))) (EY (az 0) (iU (aD aX (az 1) (mC (.int 1)))) cP)) (aq (aD aX (az 1) (mC (.int 1))) aG)))))))))))))))
def aY:Fn:=cR 5 bV
def Ft:MS:=
 (rJ (iD lE 1 [] (aq (az 0) aG)))
def Fx:MS:=
 (dm (rA (aq (ac7 [0,1,2,3] (az 3)) (aq (pN (Ga (.cls 2) [(0,false),(1,false),(2,true),(3,false)]) (aq (az 3) (aq (mC (.cls 2)) aG))) (aq (pN (Ga (.ty "ValueError") [(0,true),(1,true),(2,true),(3,true)]) (aq (az 3) (aq (mC (.ty "ValueError")) aG))) (aq (pN (Ga (.cls 1) [(0,false),(1,true),(2,false),(3,false)]) (aq (az 3) (aq (mC (.cls 1)) aG))) aG))))) (gN 2))
def z9:MS:=
 (J_ 3 [(0,true),(1,true),(2,true),(3,true)] Ft Fx)
def Fq:MS:=
 (rJ (iD lE 1 [] (aq (az 0) aG)))
def Fw:MS:=
 (dm (rA (aq (ac7 [0,1,2,3] (az 3)) (aq (pN (Ga (.cls 0) [(0,true),(1,true),(2,true),(3,true)]) (aq (az 3) (aq (mC (.cls 0)) aG))) (aq (pN (Ga (.ty "ValueError") [(0,true),(1,true),(2,true),(3,true)]) (aq (az 3) (aq (mC (.ty "ValueError")) aG))) (aq (pN (Ga (.cls 3) [(0,false),(1,false),(2,false),(3,true)]) (aq (az 3) (aq (mC (.cls 3)) aG))) aG))))) (gN 2))
def zZ:MS:=
 (J_ 3 [(0,false),(1,false),(2,true),(3,false)] Fq Fw)
def zY:MS:=
 (zK (cA (az 1)) z9 zZ)
def oV:MS:=
 (bx (dm (mC .non) (gN 2))
 (bx zY
 (iB (az 2))))
def wB:Fn:=cR 4 oV
def W7:MS:=
 (zK (cA (aD sNe (sO [6] (iD lE 1 [] (aq (Ma "str" Aw (mC (.str "\n")) (aq (az 1) aG)) aG)) "term") (aD j_ (iD mX 2 [] (aq (az 0) (aq (mC (.int 0)) aG))) (aD Lz (mC (.int 10)) (mC (.int 40)))))) (iB (mC (.bl false))) fO)
def JG:MS:=
 (zK (mOr (cA (aD sEq (pN j0 (aq (az 1) aG)) (mC (.int 3)))) (cA (aD sEq (EY (aD bJ (az 1) (mUn Pa (mC (.int 2)))) cP (iU (mC (.int 3)))) (mC (.str "val"))))) (dm (aD aX (pN j0 (aq (az 1) aG)) (mC (.int 1))) (gN 7)) fO)
def Dq:MS:=
 (zK (cA (aD sEq (az 5) (mC (.int 10)))) (bx (dm (aD aX (EY (az 1) cP (iU (mUn Pa (mC (.int 1))))) (rM (aq (mC (.str "value zz 1")) (aq (aD bJ (az 1) (mUn Pa (mC (.int 1)))) aG)))) (gN 6))
 (bx (dm (pN j0 (aq (az 1) aG)) (gN 7))
 JG)) (dm (iD aY 4 [] (aq (az 1) (aq (az 4) (aq (az 5) (aq (aD bJ (az 3) (mC (.int 2))) aG))))) (gT 2 (K4 (gN 6) (K4 (gN 7) abk)))))
def W6:MS:=
 (zK (mOr (cA (aD sNe (az 8) (rA (aq (az 7) (aq (mC (.bl true)) (aq (mC (.bl true)) (aq (mC (.bl false)) aG))))))) (cA (pN aal (aq (aD bJ (az 8) (mC (.int 0))) (aq (mC (.ty "bool")) aG))))) (iB (mC (.bl false))) fO)
def FP:MS:=
 (bx (dm (iD pB 2 [] (aq (az 2) (aq (mC (.int 3)) aG))) (gN 3))
 (bx (dm (aD j_ (aD bJ (az 3) (mC (.int 0))) (pN j0 (aq (az 1) aG))) (gN 4))
 (bx (dm (aD j_ (aD bJ (az 3) (mC (.int 1))) (mC (.int 12))) (gN 5))
 (bx Dq
 (bx (dm (iD wB 2 [] (aq (Ma "str" Aw (mC (.str "\n")) (aq (az 6) aG)) (aq (aD sEq (aD j_ (aD Je (aD bJ (az 3) (mC (.int 2))) (mC (.int 12))) (mC (.int 2))) (mC (.int 0))) aG))) (gN 8))
 W6)))))
def Xe:MS:=
 (Ux (Ni (EY (az 0) (iU (mC (.int 1))) (iU (mC (.int 25))))) (gN 2) FP)
def NZ:MS:=
 (bx (dm (iD zQ 1 [] (aq (iD mX 2 [] (aq (az 0) (aq (mC (.int 0)) aG))) aG)) (gN 1))
 (bx W7
 (bx Xe
 (iB (mC (.bl true))))))
def aa2:Fn:=cR 9 NZ
def aZ(l:List Nat):Str:=⟨l.toArray⟩
@[simp] theorem bH(l:List Nat):(aZ l).cps.toList=l:=by simp[aZ]
theorem qL{a b:Str}(h:a.cps.toList=b.cps.toList):a=b:=Str.ext' (Array.toList_inj.mp h)
theorem age(a:Str):aZ a.cps.toList=a:=qL (by simp)
theorem ac6{a b:List Nat}(h:aZ a=aZ b):a=b:=by
 have:=congrArg (fun s:Str=>s.cps.toList) h
 simpa using this
theorem jf(a:Str):a.length=a.cps.toList.length:=by simp[Str.length]
def qQ(c:Nat):List Nat→List (List Nat)
 | []=>[[]]
 | a::l=>if a=c then[]::qQ c l else match qQ c l with
  | []=>[[a]]
  | h::t=>(a::h)::t
theorem Xn(c:Nat):∀l,qQ c l≠[]
 | []=>by simp[qQ]
 | a::l=>by
  unfold qQ
  split
  ·simp
  ·split<;>simp
theorem Tf{c:Nat}{l:List Nat}:qQ c (c::l)=[]::qQ c l:=by rw[qQ,if_pos rfl]
def Be(p:List Nat):List (List Nat)→List (List Nat)
 | []=>[p]
 | h::t=>(p++h)::t
theorem HS{c a:Nat}{l:List Nat}(h:a≠c):qQ c (a::l)=Be [a] (qQ c l):=by
 rw[qQ,if_neg h]
 cases e:qQ c l<;>simp[Be]
theorem YS{c a:Nat}{p l:List Nat}(h:a≠c):Be p (qQ c (a::l))=Be (p++[a]) (qQ c l):=by
 rw[HS h]
 cases qQ c l<;>simp[Be]
open Builtin.Str in
theorem PX(x:Str)(c:Nat):∀(n a:Nat) (st:Array Nat×Nat),st.2≤a→st.1.size≤a→a+n=x.length+1→
  (forIn (List.range' a n) st (StrLaws.occBody x ⟨#[c]⟩ x.length (x.length+1))).run.fst.toList=st.1.toList++(List.range' a n).filter fun i=>decide (x.cps.toList[i]? = some c)
 | 0,a,st,_,_,_=>by simp
 | n+1,a,st,h1,h2,h3=>by
  rw[List.range'_succ,List.forIn_cons,List.filter_cons]
  unfold StrLaws.occBody
  by_cases hx:x.cps.toList[a]? = some c
  ·have q:=(StrLaws.subAt_one x c a).mpr hx
   rw[if_pos ⟨⟨⟨by omega,h1⟩,q.1⟩,q.2⟩]
   have ih:=PX x c n (a+1) (st.1.push a,a+1) (by simp) (by simp;omega) (by omega)
   simp only[hx,decide_true,if_true]
   refine ih.trans ?_
   simp
  ·have nq:¬(((st.1.size<x.length+1∧st.2≤a)∧a+(⟨#[c]⟩:Str).length≤x.length)∧subAt x ⟨#[c]⟩ a=true):=fun q=>hx ((StrLaws.subAt_one x c a).mp ⟨q.1.2,q.2⟩)
   rw[if_neg nq]
   have ih:=PX x c n (a+1) (st.1,st.2) (by simp;omega) (by simp;omega) (by omega)
   simp only[hx,decide_false,Bool.false_eq_true,if_false]
   exact ih
theorem vP(x:Str)(c:Nat):∀(n a b:Nat),a≤b→b+n=x.length+1→0<n→
  StrLaws.partsFrom x 1 a ((List.range' b n).filter fun i=>decide (x.cps.toList[i]? = some c))=(Be ((x.cps.toList.drop a).take (b - a)) (qQ c (x.cps.toList.drop b))).map aZ
 | 0,_,_,_,_,h=>absurd h (by omega)
 | n+1,a,b,hab,hb,_=>by
  have hl:=jf x
  by_cases hn:n=0
  ·subst hn
   have e0:x.cps.toList[b]? = none:=List.getElem?_eq_none (by omega)
   have e1:x.cps.toList.drop b=[]:=List.drop_eq_nil_of_le (by omega)
   simp only[List.range'_succ,List.range'_zero,List.filter_cons,List.filter_nil,e0,e1,qQ,Be]
   simp only[StrLaws.partsFrom,List.append_nil,List.map_cons,List.map_nil]
   refine congrArg (· :: []) (qL ?_)
   rw[StrLaws.strSub_toList,bH,show x.length - a=b - a from by omega]
  ·rw[List.range'_succ,List.filter_cons]
   obtain⟨v,hv⟩:∃v,x.cps.toList[b]? = some v:=⟨_,List.getElem?_eq_getElem (by omega)⟩
   have ed:x.cps.toList.drop b=v::x.cps.toList.drop (b+1):=by
    have hb':b<x.cps.toList.length:=by omega
    rw[List.drop_eq_getElem_cons hb']
    rw[List.getElem?_eq_getElem hb']at hv
    rw[Option.some.inj hv]
   rw[ed]
   by_cases hc:v=c
   ·subst hc
    simp only[hv,decide_true,if_true,StrLaws.partsFrom]
    rw[vP x v n (b+1) (b+1) (Nat.le_refl _) (by omega) (by omega)]
    simp only[Nat.sub_self,List.take_zero]
    rw[Tf]
    have eg:Be [] (qQ v (x.cps.toList.drop (b+1)))=qQ v (x.cps.toList.drop (b+1)):=by
     cases e:qQ v (x.cps.toList.drop (b+1))with
     | nil=>exact absurd e (Xn _ _)
     | cons h t=>simp[Be]
    rw[eg]
    simp only[Be,List.append_nil,List.map_cons]
    refine congrArg (· :: _) (qL ?_)
    rw[StrLaws.strSub_toList,bH]
   ·have hne:¬(some v=some c):=fun z=>hc (Option.some.inj z)
    simp only[hv,hne,decide_false,Bool.false_eq_true,if_false]
    rw[vP x c n a (b+1) (by omega) (by omega) (by omega),YS hc]
    have et:(x.cps.toList.drop a).take (b+1 - a)=(x.cps.toList.drop a).take (b - a)++[v]:=by
     have h1:b+1 - a=(b - a)+1:=by omega
     have h2:(x.cps.toList.drop a)[b - a]? = some v:=by rw[List.getElem?_drop,←hv];congr 1;omega
     rw[h1,List.take_succ,h2];rfl
    rw[et]
theorem strKind_pos(x:Str):1≤Builtin.Str.strKind x:=by
 unfold Builtin.Str.strKind
 split
 ·omega
 ·split<;>omega
theorem XR(x:Str){c:Nat}(hc:c<256):Txt.split x ⟨#[c]⟩=(qQ c x.cps.toList).map aZ:=by
 have hk:Builtin.Str.strKind ⟨#[c]⟩=1:=by
  unfold Builtin.Str.strKind
  rw[if_pos (by simp[hc])]
 have hl:=jf x
 unfold Txt.split
 have h1:((⟨#[c]⟩:Str)).length=1:=rfl
 have hkp:=strKind_pos x
 by_cases h0:x.length<1
 ·rw[if_pos (by rw[h1,decide_eq_true h0];rfl)]
  have:x.cps.toList=[]:=List.eq_nil_of_length_eq_zero (by omega)
  rw[this]
  simp only[qQ,List.map_cons,List.map_nil]
  exact congrArg (· :: []) (qL (by rw[this];simp))
 ·rw[if_neg (by rw[h1,hk,decide_eq_false h0,decide_eq_false (by omega)];decide)]
  have ho:Builtin.Str.occurrences x ⟨#[c]⟩ 0 x.length (x.length+1)=(List.range' 0 (x.length+1)).filter fun i=>decide (x.cps.toList[i]? = some c):=by
   rw[StrLaws.occ_eq]
   have:=PX x c (x.length+1) 0 (#[],0) (Nat.le_refl _) (by simp) (by omega)
   simpa using this
  have hp:=vP x c (x.length+1) 0 0 (Nat.le_refl _) (by omega) (by omega)
  have eg:Be ((x.cps.toList.drop 0).take (0 - 0)) (qQ c (x.cps.toList.drop 0))=qQ c x.cps.toList:=by
   simp only[Nat.sub_self,List.take_zero,List.drop_zero]
   cases e:qQ c x.cps.toList with
   | nil=>exact absurd e (Xn _ _)
   | cons h t=>simp[Be]
  rw[eg]at hp
  rw[←ho]at hp
  split
  ·rename_i he
   rw[List.isEmpty_iff.mp he]at hp
   rw[←hp]
   simp only[StrLaws.partsFrom]
   exact congrArg (· :: []) (StrLaws.sub_whole x).symm
  ·rw[StrLaws.partsBetween_eq]
   exact hp
def cg(c:Nat):List (List Nat)→List Nat
 | []=>[]
 | [w]=>w
 | w::r=>w++c::cg c r
theorem zX(c:Nat):∀(ws:List (List Nat)),Txt.join ⟨#[c]⟩ (ws.map aZ)=aZ (cg c ws):=by
 intro ws
 unfold Txt.join
 rw[StrLaws.glued_eq_join]
 induction ws with
 | nil=>rfl
 | cons w r ih=>
  cases r with
  | nil=>rfl
  | cons v r=>
   show aZ w++⟨#[c]⟩++Str.join ⟨#[c]⟩ ((v::r).map aZ)=_
   rw[ih]
   apply qL
   simp[cg,Str.cps_append]
theorem Th{c:Nat}:∀{w l:List Nat},c∉w→qQ c (w++c::l)=w::qQ c l
 | [],l,_=>Tf
 | a::w,l,h=>by
  have ha:a≠c:=fun z=>h (by simp[z])
  have hw:c∉w:=fun z=>h (by simp[z])
  show qQ c (a::(w++c::l))=_
  rw[HS ha,Th hw]
  rfl
theorem Te{c:Nat}:∀{w:List Nat},c∉w→qQ c w=[w]
 | [],_=>rfl
 | a::w,h=>by
  have ha:a≠c:=fun z=>h (by simp[z])
  have hw:c∉w:=fun z=>h (by simp[z])
  rw[HS ha,Te hw]
  rfl
theorem K8{c:Nat}:∀{ws:List (List Nat)},ws≠[]→(∀w∈ws,c∉w)→qQ c (cg c ws)=ws
 | [],h,_=>absurd rfl h
 | [w],_,h=>Te (h w (by simp))
 | w::v::r,_,h=>by
  show qQ c (w++c::cg c (v::r))=_
  rw[Th (h w (by simp)),K8 (by simp) fun x hx=>h x (by simp at hx ⊢;exact .inr hx)]
theorem JW{c:Nat}(hc:c<256){ws:List (List Nat)}(h:ws≠[])(hw:∀w∈ws,c∉w):Txt.split (Txt.join ⟨#[c]⟩ (ws.map aZ)) ⟨#[c]⟩=ws.map aZ:=by
 rw[zX,XR _ hc,bH,K8 h hw]
def wR(m:Nat):List Nat:=(Nat.toDigits 10 m).map Char.toNat
def aM(n:Int):List Nat:=if n<0 then 45::wR n.natAbs else wR n.natAbs
theorem Yp(n:Int):(Str.ofString (toString n)).cps.toList=aM n:=by
 rw[PyProof.Rows.signs_ofString]
 cases n with
 | ofNat m=>
  show(Nat.repr m).toList.map Char.toNat=_
  rw[Nat.toList_repr]
  have:¬(Int.ofNat m<0):=Int.not_lt.mpr (Int.natCast_nonneg m)
  simp only[aM,this,if_false]
  rfl
 | negSucc m=>
  show(("-" : String)++Nat.repr (m+1)).toList.map Char.toNat=_
  rw[String.toList_append,List.map_append,Nat.toList_repr]
  have:Int.negSucc m<0:=Int.negSucc_lt_zero m
  simp only[aM,this,if_true]
  rfl
theorem ac0(n:Int):(Str.ofString (toString n))=aZ (aM n):=qL (by rw[Yp,bH])
theorem K7{m:Nat}(h:10≤m):wR m=wR (m / 10)++wR (m % 10):=by
 have hm:m % 10<10:=Nat.mod_lt m (by decide)
 have t:Nat.toDigits 10 (m / 10)++Nat.toDigits 10 (m % 10)=Nat.toDigits 10 (10*(m / 10)+m % 10):=Nat.toDigits_append_toDigits (by decide) (by omega) hm
 rw[Nat.div_add_mod]at t
 unfold wR
 rw[←t,List.map_append]
theorem wQ{m:Nat}(h:m<10):wR m=[48+m]:=by
 unfold wR
 rw[Nat.toDigits_of_lt_base h]
 have:∀d,d<10→(Nat.digitChar d).toNat=48+d:=by decide
 simp[this m h]
theorem yR(m:Nat):∀c∈wR m,48≤c∧c≤57:=by
 induction m using Nat.strongRecOn with
 | _ m ih=>
  by_cases h:m<10
  ·rw[wQ h];intro c hc;simp at hc;omega
  ·rw[K7 (by omega)]
   intro c hc
   rcases List.mem_append.mp hc with q | q
   ·exact ih (m / 10) (by omega) c q
   ·rw[wQ (Nat.mod_lt m (by decide))]at q
    simp at q
    have:=Nat.mod_lt m (show 10 > 0 by decide)
    omega
theorem S9{k:Nat}:∀{m:Nat},m<10 ^ (k+1)→(wR m).length≤k+1:=by
 induction k with
 | zero=>intro m h;rw[wQ (by omega)];simp
 | succ k ih=>
  intro m h
  by_cases h1:m<10
  ·rw[wQ h1];simp
  ·rw[K7 (by omega),List.length_append,wQ (Nat.mod_lt m (by decide))]
   have:m / 10<10 ^ (k+1):=by
    rw[Nat.div_lt_iff_lt_mul (by decide)]
    rw[Nat.pow_succ]at h
    exact h
   have:=ih this
   simp
   omega
theorem HQ(m:Nat):∃a r,wR m=a::r∧(a=48→m=0):=by
 induction m using Nat.strongRecOn with
 | _ m ih=>
  by_cases h:m<10
  ·exact⟨48+m,[],wQ h,by omega⟩
  ·obtain⟨a,r,e,q⟩:=ih (m / 10) (by omega)
   refine⟨a,r++wR (m % 10),by rw[K7 (by omega),e];rfl,fun z=> ?_⟩
   have:=q z
   omega
theorem Qv(m:Nat):wR m≠[]:=by
 obtain⟨a,r,e,_⟩:=HQ m
 rw[e];simp
theorem S8(m:Nat):PySem.NumText.digitsVal (wR m)=m:=PySem.W.KIN.val_back m
theorem agM:wR 0=[48]:=wQ (by decide)
theorem Kv(n:Int):∀c∈aM n,c=45∨(48≤c∧c≤57):=by
 unfold aM
 split
 ·intro c hc
  rcases List.mem_cons.mp hc with q | q
  ·exact .inl q
  ·exact .inr (yR _ c q)
 ·intro c hc;exact .inr (yR _ c hc)
theorem bW{n:Int}(h:n.natAbs<10 ^ 41):(aM n).length≤42:=by
 have:=S9 (k:=40) h
 unfold aM
 split
 ·simp;omega
 ·omega
theorem ac1{n:Int}(h:n.natAbs<10 ^ 41):PySem.intText? (aZ (aM n))=some n:=by
 have hl:=bW h
 by_cases hn:n<0
 ·have e:(aZ (aM n)).cps.toList=45::wR n.natAbs:=by rw[bH];simp only[aM,hn,if_true]
  rw[PySem.intText_neg e (fun c hc=>yR _ c hc) (Qv _) (by rw[jf,bH];omega),S8]
  congr 1
  omega
 ·have e:(aZ (aM n)).cps.toList=wR n.natAbs:=by rw[bH];simp only[aM,hn,if_false]
  rw[PySem.intText_digits (x:=aZ (aM n)) (by rw[e];exact fun c hc=>yR _ c hc) (by rw[e];exact Qv _) (by rw[jf,bH];omega),e,S8]
  congr 1
  omega
theorem XS{n:Int}(h:n.natAbs<10 ^ 41):n.natAbs.log2<1920:=by
 by_cases h0:n.natAbs=0
 ·rw[h0];decide
 ·rw[Nat.log2_lt h0]
  exact Nat.lt_of_lt_of_le h (by decide +kernel)
theorem Ys(n:Int):32∉aM n∧10∉aM n:=⟨fun h=>by have:=Kv n _ h;omega,fun h=>by have:=Kv n _ h;omega⟩
def tU(l:List Nat):List Nat:=if l.head? = some 45 then l.tail else l
def yj(l:List Nat):Bool:=(decide (1≤(tU l).length)&&(decide ((tU l).length≤100)&&(tU l).all fun c=>decide (48≤c∧c≤57)))&&(decide (l=[48])|| !decide ((tU l).head? = some 48))
theorem YH{n:Int}(h:n.natAbs<10 ^ 41):yj (aM n)=true:=by
 have hf:tU (aM n)=wR n.natAbs:=by
  obtain⟨a,r,e,_⟩:=HQ n.natAbs
  have ha:=yR n.natAbs a (by rw[e];simp)
  unfold tU aM
  by_cases hn:n<0
  ·simp[hn]
  ·have:¬(a=45):=by omega
   simp[hn,e,this]
 have hl:=S9 (k:=40) h
 have hd:1≤(wR n.natAbs).length:=by
  cases e:wR n.natAbs with
  | nil=>exact absurd e (Qv _)
  | cons _ _=>simp
 obtain⟨a,r,e,q⟩:=HQ n.natAbs
 unfold yj
 rw[hf]
 have hall:(wR n.natAbs).all (fun c=>decide (48≤c∧c≤57))=true:=List.all_eq_true.mpr fun c hc=>decide_eq_true (yR _ c hc)
 have h3:decide (aM n=[48])=true∨(!decide ((wR n.natAbs).head? = some 48))=true:=by
  by_cases ha:a=48
  ·left
   have z:=q ha
   have:¬(n<0):=by omega
   apply decide_eq_true
   simp only[aM,this,if_false,z,agM]
  ·right
   rw[e];simp[ha]
 simp only[hall,decide_eq_true hd,decide_eq_true (show(wR n.natAbs).length≤100 by omega),Bool.true_and,Bool.or_eq_true]
 exact h3
def nU(l:List Nat):Bool:=decide (1≤l.length)&&(decide (l.length≤8)&&l.all fun c=>decide (97≤c∧c≤122))
def Gr(M M':Mem):Prop:=∀(i:Nat) (o:MO),M[i]? = some o→M'[i]? = some o
theorem Gr.refl{M:Mem}:Gr M M:=fun _ _ h=>h
theorem Gr.trans{M M1 M2:Mem}(a:Gr M M1)(b:Gr M1 M2):Gr M M2:=fun i o h=>b i o (a i o h)
theorem Gr.app{M:Mem}{xs:List MO}:Gr M (M++xs):=fun i o h=>by
 rw[List.getElem?_append_left (List.getElem?_eq_some_iff.mp h).1];exact h
theorem sW{M:Mem}{i:Nat}{o:MO}(h:M[i]? = some o):i<M.length:=(List.getElem?_eq_some_iff.mp h).1
theorem aO{M:Mem}{o:MO}:(M++[o])[M.length]? = some o:=by simp
theorem get_set{M:Mem}{n:Nat}{o x:MO}(h:M[n]? = some o):(M.set n x)[n]? = some x:=List.getElem?_set_self (sW h)
theorem nY{M:Mem}{n i:Nat}{x:MO}(h:n≠i):(M.set n x)[i]? = M[i]? := List.getElem?_set_ne h
theorem Gr.le{M M':Mem}(h:Gr M M'):M.length≤M'.length:=by
 cases z:M.length with
 | zero=>omega
 | succ n=>
  have q:M[n]? = some M[n]:=List.getElem?_eq_getElem (by omega)
  have:=sW (h _ _ q)
  omega
def Ch(p:Nat→Prop)(M M':Mem):Prop:=M.length≤M'.length∧∀(i:Nat) (o:MO),¬p i→M[i]? = some o→M'[i]? = some o
theorem Ch.refl{p:Nat→Prop}{M:Mem}:Ch p M M:=⟨Nat.le_refl _,fun _ _ _ h=>h⟩
theorem Ch.trans{p:Nat→Prop}{M M1 M2:Mem}(a:Ch p M M1)(b:Ch p M1 M2):Ch p M M2:=⟨Nat.le_trans a.1 b.1,fun i o n h=>b.2 i o n (a.2 i o n h)⟩
theorem Ch.mono{p q:Nat→Prop}{M M1:Mem}(a:Ch p M M1)(h:∀i,i<M.length→p i→q i):Ch q M M1:=⟨a.1,fun i o n e=>a.2 i o (fun z=>n (h i (sW e) z)) e⟩
theorem Gr.ch{p:Nat→Prop}{M M':Mem}(h:Gr M M'):Ch p M M':=⟨h.le,fun i o _ e=>h i o e⟩
theorem Ch.set{p:Nat→Prop}{M:Mem}{n:Nat}{o:MO}(h:p n):Ch p M (M.set n o):=⟨by simp,fun i x z e=>by
 rw[nY (fun q=>z (by rw[←q];exact h))];exact e⟩
def aiL(b bt:Int)(br:D)(l:Nat):MO:= .ins 5 [("base",.int b),("base_term",.int bt),("base_roll",br),("kept",.ref l)]
structure o5(M:Mem)(r:Nat)(b bt:Int)(br:D)(l:Nat)(es:List D):Prop where
 o:M[r]? = some (aiL b bt br l)
 k:M[l]? = some (.lst es)
section
variable{M M':Mem}{r l:Nat}{b bt:Int}{br:D}{es:List D}
theorem o5.gr(R:o5 M r b bt br l es)(g:Gr M M'):o5 M' r b bt br l es:=⟨g _ _ R.o,g _ _ R.k⟩
theorem o5.ch{p:Nat→Prop}(R:o5 M r b bt br l es)(g:Ch p M M')(h1:¬p r)(h2:¬p l):o5 M' r b bt br l es:=⟨g.2 _ _ h1 R.o,g.2 _ _ h2 R.k⟩
theorem o5.fb(R:o5 M r b bt br l es):GC [5] "base" (.ref r) M= .ok (.int b) M:=xV R.o (by simp) rfl
theorem o5.ft(R:o5 M r b bt br l es):GC [5] "base_term" (.ref r) M= .ok (.int bt) M:=xV R.o (by simp) rfl
theorem o5.fr(R:o5 M r b bt br l es):GC [5] "base_roll" (.ref r) M= .ok br M:=xV R.o (by simp) rfl
theorem o5.fk(R:o5 M r b bt br l es):GC [5,6] "kept" (.ref r) M= .ok (.ref l) M:=xV R.o (by simp) rfl
theorem o5.me(R:o5 M r b bt br l es){m:Str}(h:List.lookup m [(("base" : Str),D.int b),("base_term",.int bt),("base_roll",br),("kept",.ref l)]=none):DY 5 m (.ref r) M=true:=SJ R.o h
end
theorem adt{M:Mem}{n h:Nat}{b bt:Int}{br:D}{es:List D}(h0:M[n]? = some (.ins 5 []))(hh:M[h]? = some (.lst es)):
  ∃M',qN [.ref n,.int b,.int bt,br,.ref h] M= .ok .non M'∧o5 M' n b bt br M.length es∧Ch (· = n) M M'∧M'.length=M.length+1:=by
 have ne:n≠h:=fun e=>by subst e;rw[h0]at hh;cases hh
 have e1:uf [5] "base" (.int b) (.ref n) M=some (M.set n (.ins 5 [("base",.int b)])):=rK h0 (by simp) (by simp)
 have e2:uf [5] "base_term" (.int bt) (.ref n) (M.set n (.ins 5 [("base",.int b)]))=some (M.set n (.ins 5 [("base",.int b),("base_term",.int bt)])):=by
  rw[rK (get_set h0) (by simp) (by simp),List.set_set];rfl
 have e3:uf [5] "base_roll" br (.ref n) (M.set n (.ins 5 [("base",.int b),("base_term",.int bt)]))=some (M.set n (.ins 5 [("base",.int b),("base_term",.int bt),("base_roll",br)])):=by
  rw[rK (get_set h0) (by simp) (by simp),List.set_set];rfl
 have e4:MP [.ref h] (M.set n (.ins 5 [("base",.int b),("base_term",.int bt),("base_roll",br)]))= .ok (.ref M.length) (M.set n (.ins 5 [("base",.int b),("base_term",.int bt),("base_roll",br)])++[.lst es]):=by
  rw[X3 (ds:=es) (by rw[nY ne];exact hh),List.length_set]
 have hn:=sW h0
 have g:(M.set n (.ins 5 [("base",.int b),("base_term",.int bt),("base_roll",br)])++[MO.lst es])[n]? = some (.ins 5 [("base",.int b),("base_term",.int bt),("base_roll",br)]):=by
  rw[List.getElem?_append_left (by simpa using hn)];exact get_set h0
 have e5:uf [5,6] "kept" (.ref M.length) (.ref n) (M.set n (.ins 5 [("base",.int b),("base_term",.int bt),("base_roll",br)])++[MO.lst es])=some ((M.set n (.ins 5 [("base",.int b),("base_term",.int bt),("base_roll",br)])++[MO.lst es]).set n (aiL b bt br M.length)):=by
  rw[rK g (by simp) (by simp)];rfl
 refine⟨_,by simp only[qN,oZ];simp[e1,e2,e3,e4,e5],⟨get_set g,?_⟩,⟨by simp,fun i o hi h=> ?_⟩,by simp⟩
 ·rw[nY (by omega),List.getElem?_append_right (by simp)]
  simp
 ·rw[nY (Ne.symm hi),List.getElem?_append_left (by simpa using sW h),nY (Ne.symm hi)]
  exact h
theorem WT{M:Mem}{h:Nat}{b bt:Int}{br:D}{es:List D}(hh:M[h]? = some (.lst es)):
  ∃M',(qN [.ref M.length,.int b,.int bt,br,.ref h] (M++[.ins 5 []]))= .ok .non M'∧o5 M' M.length b bt br (M.length+1) es∧Gr M M':=by
 obtain⟨M',e,R,k,z⟩:=adt (M:=M++[.ins 5 []]) (n:=M.length) (h:=h) (b:=b) (bt:=bt) (br:=br) (es:=es) aO (by rw[List.getElem?_append_left (sW hh)];exact hh)
 refine⟨M',e,?_,fun i o hi=>k.2 i o (Nat.ne_of_lt (sW hi)) (Gr.app _ _ hi)⟩
 simpa using R
theorem ab7{M:Mem}{r l:Nat}{b bt:Int}{br:D}{es:List D}(R:o5 M r b bt br l es):∃M',zU [.ref r] M= .ok (.ref M.length) M'∧o5 M' M.length b bt br (M.length+1) es∧Gr M M':=by
 obtain⟨M',e,R',g⟩:=WT (M:=M) (b:=b) (bt:=bt) (br:=br) R.k
 refine⟨M',?_,R',g⟩
 simp only[zU,qU]
 simp[R.fb,R.ft,R.fr,R.fk,e]
structure Ze(M:Mem)(k r l:Nat)(tm:Int)(vt:D)(b bt:Int)(br:D)(kept:D)(es:List D):Prop where
 o:M[k]? = some (.ins 6 [("term",.int tm),("vote",vt),("row",.ref r),("kept",kept)])
 row:o5 M r b bt br l es
section
variable{M M':Mem}{k r l:Nat}{tm b bt:Int}{vt br kept:D}{es:List D}
theorem Ze.ft(B:Ze M k r l tm vt b bt br kept es):GC [6] "term" (.ref k) M= .ok (.int tm) M:=xV B.o (by simp) rfl
theorem Ze.fv(B:Ze M k r l tm vt b bt br kept es):GC [6] "vote" (.ref k) M= .ok vt M:=xV B.o (by simp) rfl
end
theorem ad1{M:Mem}{r l:Nat}{tm b bt:Int}{vt br kept:D}{es:List D}(R:o5 M r b bt br l es):
  ∃M',uo [.ref M.length,.int tm,vt,.ref r,kept] (M++[.ins 6 []])= .ok .non M'∧Ze M' M.length (M.length+1) (M.length+2) tm vt b bt br kept es∧Gr M M':=by
 have h0:(M++[MO.ins 6 []])[M.length]? = some (.ins 6 []):=aO
 have e1:uf [6] "term" (.int tm) (.ref M.length) (M++[MO.ins 6 []])=some (M++[.ins 6 [("term",.int tm)]]):=by
  rw[rK h0 (by simp) (by simp)];simp[putD]
 have e2:uf [6] "vote" vt (.ref M.length) (M++[MO.ins 6 [("term",.int tm)]])=some (M++[.ins 6 [("term",.int tm),("vote",vt)]]):=by
  rw[rK aO (by simp) (by simp)];simp[putD];decide
 have R1:o5 (M++[MO.ins 6 [("term",.int tm),("vote",vt)]]) r b bt br l es:=R.gr Gr.app
 obtain⟨M1,e3,R2,g⟩:=ab7 R1
 have eL:(M++[MO.ins 6 [("term",.int tm),("vote",vt)]]).length=M.length+1:=by simp
 rw[eL]at e3 R2
 have q1:M1[M.length]? = some (.ins 6 [("term",.int tm),("vote",vt)]):=g _ _ aO
 have e4:uf [6] "row" (.ref (M.length+1)) (.ref M.length) M1=some (M1.set M.length (.ins 6 [("term",.int tm),("vote",vt),("row",.ref (M.length+1))])):=by
  rw[rK q1 (by simp) (by simp)];rfl
 have e5:uf [5,6] "kept" kept (.ref M.length) (M1.set M.length (.ins 6 [("term",.int tm),("vote",vt),("row",.ref (M.length+1))]))=some (M1.set M.length (.ins 6 [("term",.int tm),("vote",vt),("row",.ref (M.length+1)),("kept",kept)])):=by
  rw[rK (get_set q1) (by simp) (by simp),List.set_set];rfl
 have c:Ch (· = M.length) M1 (M1.set M.length (.ins 6 [("term",.int tm),("vote",vt),("row",.ref (M.length+1)),("kept",kept)])):=Ch.set rfl
 refine⟨_,?_,⟨get_set q1,R2.ch c (by omega) (by omega)⟩,fun i o h=>c.2 i o (Nat.ne_of_lt (sW h)) (g _ _ (Gr.app _ _ h))⟩
 simp only[uo,o4]
 simp[e1,e2,R1.me (m:= "twin") rfl,e3,e4,e5]
theorem aeo:("\n" : Str)=⟨#[10]⟩:=by decide
theorem Tr:(" " : Str)=⟨#[32]⟩:=by decide
structure cZ(M:Mem)(r l:Nat)(rows:List Str)(k:Int):Prop where
 o:M[r]? = some (.ins 4 [("rows",.ref l),("here",.int k)])
 k:M[l]? = some (.lst (rows.map D.str))
section
variable{M M':Mem}{r l:Nat}{rows:List Str}{k:Int}
theorem cZ.gr(R:cZ M r l rows k)(g:Gr M M'):cZ M' r l rows k:=⟨g _ _ R.o,g _ _ R.k⟩
theorem cZ.ch{p:Nat→Prop}(R:cZ M r l rows k)(g:Ch p M M')(h1:¬p r)(h2:¬p l):cZ M' r l rows k:=⟨g.2 _ _ h1 R.o,g.2 _ _ h2 R.k⟩
theorem cZ.fr(R:cZ M r l rows k):GC [4] "rows" (.ref r) M= .ok (.ref l) M:=xV R.o (by simp) rfl
theorem cZ.fh(R:cZ M r l rows k):GC [4] "here" (.ref r) M= .ok (.int k) M:=xV R.o (by simp) rfl
theorem cZ.me(R:cZ M r l rows k){m:Str}(h:List.lookup m [(("rows" : Str),D.ref l),("here",.int k)]=none):DY 4 m (.ref r) M=true:=SJ R.o h
theorem cZ.ne(R:cZ M r l rows k):l≠r:=fun e=>by subst e;have:=R.k;rw[R.o]at this;cases this
end
theorem acy{M:Mem}{t:Str}(h:t.length+2≤16777216):
  ∃M',tX [.ref M.length,.str t] (M++[.ins 4 []])= .ok .non M'∧cZ M' M.length (M.length+1) (Txt.split t "\n") 1∧Gr M M'∧M'.length=M.length+2:=by
 have e0:yd (.str t) [.str "\n"] (M++[MO.ins 4 []])= .ok (.ref (M.length+1)) (M++[MO.ins 4 [],.lst ((Txt.split t "\n").map D.str)]):=by
  rw[Hr h (by decide)];simp
 have h0:(M++[MO.ins 4 [],.lst ((Txt.split t "\n").map D.str)])[M.length]? = some (.ins 4 []):=by simp
 have e1:uf [4] "rows" (.ref (M.length+1)) (.ref M.length) (M++[MO.ins 4 [],.lst ((Txt.split t "\n").map D.str)])=some (M++[MO.ins 4 [("rows",.ref (M.length+1))],.lst ((Txt.split t "\n").map D.str)]):=by
  rw[rK h0 (by simp) (by simp)];simp[putD]
 have h1:(M++[MO.ins 4 [("rows",.ref (M.length+1))],.lst ((Txt.split t "\n").map D.str)])[M.length]? = some (.ins 4 [("rows",.ref (M.length+1))]):=by simp
 have e2:uf [4] "here" (.int 1) (.ref M.length) (M++[MO.ins 4 [("rows",.ref (M.length+1))],.lst ((Txt.split t "\n").map D.str)])=some (M++[MO.ins 4 [("rows",.ref (M.length+1)),("here",.int 1)],.lst ((Txt.split t "\n").map D.str)]):=by
  rw[rK h1 (by simp) (by simp)];simp[putD];decide
 refine⟨_,?_,⟨?_,?_⟩,Gr.app (xs:=[MO.ins 4 [("rows",.ref (M.length+1)),("here",.int 1)],.lst ((Txt.split t "\n").map D.str)]),by simp⟩
 ·simp only[tX,j8]
  simp[e0,e1,e2,I_]
 ·simp
 ·simp
def ts(ws:List (List Nat)):List D:=ws.map fun w=>D.str (aZ w)
def dw(ws:List (List Nat)):Str:=Txt.join " " (ws.map aZ)
def Wd(w:List Nat):Prop:=32∉w∧10∉w∧w.length≤150
def qW(ws:List (List Nat)):Prop:=ws≠[]∧ws.length≤20∧∀w∈ws,Wd w
theorem HF{c:Nat}:∀(ws:List (List Nat)),(∀w∈ws,w.length≤150)→(cg c ws).length≤ws.length*151
 | [],_=>by simp[cg]
 | [w],h=>by have:=h w (by simp);simp[cg];omega
 | w::v::r,h=>by
  have h1:=h w (by simp)
  have h2:=HF (c:=c) (v::r) fun x hx=>h x (by simp at hx ⊢;exact .inr hx)
  simp only[cg,List.length_append,List.length_cons]at h2 ⊢
  omega
theorem dZ(ws:List (List Nat)):dw ws=aZ (cg 32 ws):=by unfold dw;rw[Tr,zX]
theorem yD{ws:List (List Nat)}(h:qW ws):(dw ws).length≤3020:=by
 rw[dZ,jf,bH]
 have:=HF (c:=32) ws fun w hw=>(h.2.2 w hw).2.2
 have:=h.2.1
 omega
theorem Kg{ws:List (List Nat)}(h:qW ws):Txt.split (dw ws) " " = ws.map aZ:=by
 unfold dw
 rw[Tr]
 exact JW (by decide) h.1 fun w hw=>(h.2.2 w hw).1
theorem ZG(ws:List (List Nat)):(ws.map aZ).map D.str=ts ws:=by simp[ts]
section
variable{M:Mem}{r l:Nat}{rows:List Str}{k:Int}{i:Nat}{ws:List (List Nat)}
theorem JL(R:cZ M r l rows k)(hk:k=i+1)(h:rows[i]? = some (dw ws))(hw:qW ws):fK [.ref r] M= .ok (.ref M.length) (M++[.lst (ts ws)]):=by
 have hi:i<rows.length:=(List.getElem?_eq_some_iff.mp h).1
 have e1:bJ (.ref l) (.int (k - 1)) M= .ok (.str (dw ws)) M:=b_ R.k (by omega) (by rw[show(k - 1).toNat=i by omega,List.getElem?_map,h];rfl)
 have e2:yd (.str (dw ws)) [.str " "] M= .ok (.ref M.length) (M++[.lst (ts ws)]):=by
  rw[Hr (by have:=yD hw;omega) (by decide),Kg hw,ZG]
 have h1:¬((rows.length:Int)<k):=by omega
 simp only[fK,eN,tM]
 simp[R.fr,R.fh,jN R.k,h1,e1,e2,I_]
theorem Y_(R:cZ M r l rows k)(hk:k=i+1){w:List Nat}(h:rows[i]? = some (dw (w::ws)))(hw:qW (w::ws))(b:Str):eZ [.ref r,.str b] M= .ok (.bl (decide (aZ w=b))) (M++[.lst (ts (w::ws))]):=by
 have e1:=JL R hk h hw
 have e2:bJ (.ref M.length) (.int 0) (M++[.lst (ts (w::ws))])= .ok (.str (aZ w)) (M++[.lst (ts (w::ws))]):=b_ aO (by omega) rfl
 simp only[eZ,dH]
 simp[R.me (m:= "words") rfl,e1,e2]
theorem Ra(R:cZ M r l rows k)(hk:k=i+1){w:List Nat}(h:rows[i]? = some (dw (w::ws)))(hw:qW (w::ws)){b:Str}(hb:aZ w=b){n:Int}(hn:n=(ws.length:Int)+1):
  aR [.ref r,.str b,.int n] M= .ok (.ref M.length) (M++[.lst (ts (w::ws))]):=by
 have e1:=JL R hk h hw
 have e2:bJ (.ref M.length) (.int 0) (M++[.lst (ts (w::ws))])= .ok (.str (aZ w)) (M++[.lst (ts (w::ws))]):=b_ aO (by omega) rfl
 have e3:j0 [.ref M.length] (M++[.lst (ts (w::ws))])= .ok (.int n) (M++[.lst (ts (w::ws))]):=by
  rw[jN aO];simp[ts,hn]
 simp only[aR,a_,fM]
 simp[R.me (m:= "words") rfl,e1,e2,e3,hb]
theorem Cw(R:cZ M r l rows k):∃M',gW [.ref r] M= .ok .non M'∧cZ M' r l rows (k+1)∧Ch (· = r) M M'∧M'.length=M.length:=by
 have e1:uf [4] "here" (.int (k+1)) (.ref r) M=some (M.set r (.ins 4 [("rows",.ref l),("here",.int (k+1))])):=by
  rw[rK R.o (by simp) (by simp)];rfl
 refine⟨_,?_,⟨get_set R.o,?_⟩,Ch.set rfl,by simp⟩
 ·simp only[gW,dB]
  simp[R.fh,e1]
 ·rw[nY (Ne.symm R.ne)];exact R.k
end
theorem ags{c:Nat}{sg:Str}{M:Mem}:X5 (.str ⟨#[c]⟩) (.str sg) M= .ok (.bl (decide (c∈sg.cps.toList))) M:=by
 show Out.ok (D.bl (!(Builtin.Str.occurrences sg ⟨#[c]⟩ 0 sg.length 1).isEmpty)) M=_
 rw[StrLaws.found_one]
theorem adf{z:Str}{M:Mem}(h:z.length≤16777216):j0 [.str z] M= .ok (.int z.length) M:=by
 unfold j0
 refine(acS ?_).trans ?_
 ·rfl
 ·simp only[Wl]
  rw[if_pos (by rw[rN];exact h)]
def Lw(s:Str):List Nat:=s.cps.toList
@[simp] theorem Ed(l:List Nat):Lw (aZ l)=l:=bH l
theorem abU{a b:Str}(h:Lw a=Lw b):a=b:=qL h
theorem Am(a:Str):a.length=(Lw a).length:=jf a
theorem adu{c:Nat}{sg:Str}{M:Mem}:X5 (.str ⟨#[c]⟩) (.str sg) M= .ok (.bl (decide (c∈Lw sg))) M:=ags
theorem akv{w:Str}{M:Mem}(h:w.length≤16777216):itS (.str w) M= .ok ⟨none,(Lw w).map fun c=>D.str ⟨#[c]⟩⟩ M:=by
 simp only[itS];rw[if_pos (by rw[rN];exact h)];rfl
def oneOf(z:Str):Nat:=(z.cps.toList).headD 0
@[simp] theorem ajz(c:Nat):oneOf ⟨#[c]⟩=c:=rfl
theorem VG(f:Nat→Bool)(l:List Nat):(l.map f).all id=l.all f:=by simp[List.all_map]
theorem Sx{M:Mem}{w sg:Str}{n:Int}(h:w.length≤16777216):∃M',zR [.str w,.str sg,.int n] M= .ok (.bl (decide (1≤w.length)&&(decide ((w.length:Int)≤n)&&(Lw w).all fun c=>decide (c∈(Lw sg))))) M'∧Gr M M':=by
 have e1:=adf (M:=M) h
 by_cases h1:1≤w.length
 ·by_cases h2:(w.length:Int)≤n
  ·obtain⟨M1,rB⟩:∃M1,M1=M++[MO.lst (((Lw w).map fun c=>decide (c∈(Lw sg))).map D.bl)]:=⟨_,rfl⟩
   refine⟨M1,?_,by rw[rB];exact Gr.app⟩
   have e2:=akv (M:=M) h
   have e3:lu none Dz (aD X5 (az 0) (az 1)) [some (.str sg)] ((Lw w).map fun c=>D.str ⟨#[c]⟩) [] M= .ok (.ref M.length) (M++[.lst (((Lw w).map fun c=>decide (c∈(Lw sg))).map D.bl)]):=by
    rw[Nz (src:=none) (fun d=>match d with | .str z=> .bl (decide (oneOf z∈(Lw sg))) | _=> .non) trivial]
    ·simp[List.map_map]
     exact fun a _=>decide_eq_decide.mpr Iff.rfl
    ·intro d hd
     obtain⟨c,_,rfl⟩:=List.mem_map.mp hd
     simp[adu]
     exact decide_eq_decide.mpr Iff.rfl
   have e4:=aan (M:=M++[.lst (((Lw w).map fun c=>decide (c∈(Lw sg))).map D.bl)]) (n:=M.length) aO
   rw[VG]at e4
   rw[←rB]at e3 e4
   simp only[zR,t_]
   have h1':(1:Int)≤w.length:=by omega
   have ec:Ff [1] [some (D.str w),some (.str sg),some (.int n)]=[some (.str sg)]:=rfl
   simp[e1,h1,h1',h2,e2,ec,e3,e4]
  ·refine⟨M,?_,Gr.refl⟩
   have h1':(1:Int)≤w.length:=by omega
   simp only[zR,t_]
   simp[e1,h1,h1',h2]
 ·refine⟨M,?_,Gr.refl⟩
  have h1':¬((1:Int)≤w.length):=by omega
  simp only[zR,t_]
  simp[e1,h1,h1']
theorem Wr{z:List Nat}{a n c:Nat}(e:z=(List.range n).map (a+ ·)):decide (c∈z)=decide (a≤c∧c<a+n):=by
 rw[e]
 refine decide_eq_decide.mpr ⟨fun h=> ?_,fun h=>List.mem_map.mpr ⟨c - a,List.mem_range.mpr (by omega),by omega⟩⟩
 obtain⟨k,hk,rfl⟩:=List.mem_map.mp h
 have:=List.mem_range.mp hk
 omega
theorem adA(c:Nat):decide (c∈(Lw "0123456789"))=decide (48≤c∧c≤57):=by
 rw[Wr (a:=48) (n:=10) (by decide)]
 exact decide_eq_decide.mpr ⟨fun h=>by omega,fun h=>by omega⟩
theorem ade(c:Nat):decide (c∈(Lw "abcdefghijklmnopqrstuvwxyz"))=decide (97≤c∧c≤122):=by
 rw[Wr (a:=97) (n:=26) (by decide)]
 exact decide_eq_decide.mpr ⟨fun h=>by omega,fun h=>by omega⟩
theorem Eu(w:Str)(c:Nat):Txt.startswith w ⟨#[c]⟩=decide ((Lw w).head? = some c):=by
 unfold Txt.startswith
 have h:(0+(⟨#[c]⟩:Str).length≤w.length∧Builtin.Str.subAt w ⟨#[c]⟩ 0=true)↔(Lw w)[0]? = some c:=StrLaws.subAt_one w c 0
 rw[←List.head?_eq_getElem?]at h
 by_cases q:(Lw w).head? = some c
 ·have:=h.mpr q
  rw[decide_eq_true q,this.2,decide_eq_true this.1];rfl
 ·rw[decide_eq_false q]
  by_cases q1:0+(⟨#[c]⟩:Str).length≤w.length
  ·have:Builtin.Str.subAt w ⟨#[c]⟩ 0=false:=by
    cases z:Builtin.Str.subAt w ⟨#[c]⟩ 0 with
    | false=>rfl
    | true=>exact absurd (h.mp ⟨q1,z⟩) q
   rw[this,Bool.and_false]
  ·rw[decide_eq_false q1,Bool.false_and]
theorem RZ:("-" : Str)=⟨#[45]⟩:=by decide
theorem Yr:("0" : Str)=⟨#[48]⟩:=by decide
theorem ae6(w:Str)(h:1≤w.length):Txt.slice w (some 1) none=aZ (Lw w).tail:=by
 have hl:=Am w
 have e:=StrLaws.sliceText_from (x:=w) (i:=1) ⟨by decide,by show(1:Int)≤(Lw w).length;omega⟩
 refine Eq.trans e ?_
 apply abU
 rw[Ed]
 show((((Lw w).drop (1:Int).toNat).take _).toArray).toList=_
 rw[List.toList_toArray,←List.drop_one]
 refine List.take_of_length_le ?_
 simp only[List.length_drop]
 show(Lw w).length - 1≤(((Lw w).length:Int) - 1).toNat
 omega
theorem Qn{M:Mem}{w:Str}(h:w.length≤16777216):∃M',xR [.str w] M= .ok (.bl (yj (Lw w))) M'∧Gr M M':=by
 have hf:∃f:Str,(Lw f)=tU (Lw w)∧f.length≤16777216∧t7 [some (.str w),some (.str w)] M= .next [some (.str w),some (.str f)] M:=by
  by_cases q:(Lw w).head? = some 45
  ·have hl:1≤w.length:=by
    rw[Am]
    cases z:(Lw w)with
    | nil=>rw[z]at q;cases q
    | cons _ _=>simp
   have hs:Txt.startswith w "-" = true:=by rw[RZ,Eu,decide_eq_true q]
   refine⟨aZ (Lw w).tail,by rw[Ed];simp[tU,q],?_,?_⟩
   ·rw[Am,Ed,List.length_tail,←Am];omega
   ·simp only[t7]
    have e:Fp (.str w) (some 1) none M= .ok (.str (aZ (Lw w).tail)) M:=by
     rw[←ae6 w hl]
     simp only[Fp,B_,rN,h,if_true]
    simp[I_,hs,e]
  ·have hs:Txt.startswith w "-" = false:=by rw[RZ,Eu,decide_eq_false q]
   refine⟨w,by simp[tU,q],h,?_⟩
   simp only[t7]
   simp[I_,hs]
 obtain⟨f,hfe,hfl,ef⟩:=hf
 obtain⟨M1,e1,g1⟩:=Sx (M:=M) (w:=f) (sg:= "0123456789") (n:=100) hfl
 have ea:((Lw f).all fun c=>decide (c∈(Lw "0123456789")))=(tU (Lw w)).all fun c=>decide (48≤c∧c≤57):=by
  rw[hfe]
  congr 1
  funext c
  exact adA c
 have el:f.length=(tU (Lw w)).length:=by rw[Am,hfe]
 rw[ea,el]at e1
 have hs:Txt.startswith f "0" = decide ((tU (Lw w)).head? = some 48):=by rw[Yr,Eu,hfe]
 have hw:(w=("0" : Str))↔(Lw w)=[48]:=⟨fun z=>by rw[z];decide,fun z=>abU (by rw[z];decide)⟩
 refine⟨M1,?_,g1⟩
 simp only[xR,oY,D_]
 have hi:(((tU (Lw w)).length:Int)≤100)↔(tU (Lw w)).length≤100:=by omega
 simp only[yj]
 by_cases q:(decide (1≤(tU (Lw w)).length)&&(decide ((tU (Lw w)).length≤100)&&(tU (Lw w)).all fun c=>decide (48≤c∧c≤57)))=true
 ·have q':(decide (1≤(tU (Lw w)).length)&&(decide (((tU (Lw w)).length:Int)≤100)&&(tU (Lw w)).all fun c=>decide (48≤c∧c≤57)))=true:=by
   rw[decide_eq_decide.mpr hi];exact q
  rw[q']at e1
  rw[q]
  simp[ef,e1,hs,hw,I_]
  by_cases z:(Lw w)=[48]<;>simp[z]
 ·have q2:=Bool.eq_false_iff.mpr q
  have q':(decide (1≤(tU (Lw w)).length)&&(decide (((tU (Lw w)).length:Int)≤100)&&(tU (Lw w)).all fun c=>decide (48≤c∧c≤57)))=false:=by
   rw[decide_eq_decide.mpr hi];exact q2
  rw[q']at e1
  rw[q2]
  simp[ef,e1]
theorem Vj{M:Mem}{w:Str}(h:w.length≤16777216):∃M',Dp [.str w] M= .ok (.bl (nU (Lw w))) M'∧Gr M M':=by
 obtain⟨M1,e1,g1⟩:=Sx (M:=M) (w:=w) (sg:= "abcdefghijklmnopqrstuvwxyz") (n:=8) h
 have ea:((Lw w).all fun c=>decide (c∈(Lw "abcdefghijklmnopqrstuvwxyz")))=(Lw w).all fun c=>decide (97≤c∧c≤122):=by
  congr 1
  funext c
  exact ade c
 rw[ea,Am]at e1
 refine⟨M1,?_,g1⟩
 simp only[Dp,tV]
 have hi:((((Lw w)).length:Int)≤8)↔((Lw w)).length≤8:=by omega
 rw[show decide (((Lw w).length:Int)≤8)=decide ((Lw w).length≤8)from decide_eq_decide.mpr hi]at e1
 simp[e1,nU]
def W(s:Str):List Nat:=s.cps.toList
@[simp] theorem DW(s:Str):aZ (W s)=s:=age s
inductive Od where
 | put (s:List Nat) (n:Int) | add (s:List Nat) (n:Int) | swap (s:List Nat) (a n:Int)
inductive Wt where
 | start | roll (a b:Int) | ask (w n:Int) (o:Od)
def Od.d:Od→D
 | .put s n=> .tup [.str "put",.str (aZ s),.int n]
 | .add s n=> .tup [.str "add",.str (aZ s),.int n]
 | .swap s a n=> .tup [.str "swap",.str (aZ s),.int a,.int n]
def Od.w:Od→List (List Nat)
 | .put s n=>[W "put",s,aM n]
 | .add s n=>[W "add",s,aM n]
 | .swap s a n=>[W "swap",s,aM a,aM n]
def Sm(n:Int):Prop:=n.natAbs<10 ^ 41
def Od.Ok:Od→Prop
 | .put s n=>nU s=true∧Sm n
 | .add s n=>nU s=true∧Sm n
 | .swap s a n=>nU s=true∧Sm a∧Sm n
def Wt.d:Wt→D
 | .start=> .tup [.str "start"]
 | .roll a b=> .tup [.str "roll",.int a,.int b]
 | .ask w n o=> .tup [.str "ask",.int w,.int n,o.d]
def Wt.w:Wt→List (List Nat)
 | .start=>[W "start"]
 | .roll a b=>[W "roll",aM a,aM b]
 | .ask w n o=>W "ask" :: aM w::aM n::o.w
def Ro(a b:Int):Prop:=1≤a∧a<2 ^ 60∧0≤b∧b<2 ^ 60
def Wt.Ok:Wt→Prop
 | .start=>True
 | .roll a b=>Ro a b
 | .ask w n o=>Sm w∧Sm n∧o.Ok
def enW(p:Int×Wt):List (List Nat):=W "at" :: aM p.1::p.2.w
def amt(p:Int×Wt):Prop:=0≤p.1∧Sm p.1∧p.2.Ok
def Q3(p:List Nat×Int):D:= .tup [.str (aZ p.1),.int p.2]
def vaW(p:List Nat×Int):List (List Nat):=[W "value",p.1,aM p.2]
def amm(p:List Nat×Int):Prop:=nU p.1=true∧Sm p.2∧p.2≠0
def anD(p:(Int×Int)×Int):D:= .tup [.int p.1.1,.int p.1.2,.int p.2]
def anW(p:(Int×Int)×Int):List (List Nat):=[W "answer",aM p.1.1,aM p.1.2,aM p.2]
def amv(p:(Int×Int)×Int):Prop:=Sm p.1.1∧Sm p.1.2∧Sm p.2
def ar7(p q:(Int×Int)×Int):Prop:=p.1.1<q.1.1∨p.1.1=q.1.1∧p.1.2<q.1.2
structure Bk where
 tm:Int
 vt:Option Int
 b:Int
 bt:Int
 r1:Int
 r2:Int
 vs:List (List Nat×Int)
 as:List ((Int×Int)×Int)
 es:List (Int×Wt)
def Bk.vw(B:Bk):List Nat:=match B.vt with
 | none=>W "-"
 | some v=>aM v
def Bk.roll(B:Bk):D:= .tup [.int B.r1,.int B.r2]
def Bk.kept(B:Bk):D:= .tup [.tup (B.vs.map Q3),.tup (B.as.map anD)]
def Bk.body(B:Bk):List (List (List Nat)):=[W "book",aM B.tm,B.vw]::[W "base",aM B.b,aM B.bt,aM B.r1,aM B.r2]::(B.vs.map vaW++(B.as.map anW++B.es.map enW))
def Bk.cH(B:Bk):List (List (List Nat)):=B.body++[[W "end",aM B.body.length]]
def Bk.text(B:Bk):Str:=Txt.join "\n" (B.cH.map dw)
structure Bk.Ok(B:Bk):Prop where
 tm:0≤B.tm∧Sm B.tm
 vt:∀v,B.vt=some v→0≤v∧v<60
 b:0≤B.b∧Sm B.b
 bt:0≤B.bt∧Sm B.bt
 ro:Ro B.r1 B.r2
 vs:∀p∈B.vs,amm p
 vo:B.vs.Pairwise fun p q=>p.1<q.1
 as:∀p∈B.as,amv p
 ao:B.as.Pairwise ar7
 es:∀p∈B.es,amt p
 lv:B.vs.length<64
 la:B.as.length<64
 le:B.es.length≤64
theorem dU{n:Int}(h:Sm n):Wd (aM n):=⟨(Ys n).1,(Ys n).2,by have:=bW h;omega⟩
theorem Ou{s:List Nat}(h:nU s=true):Wd s:=by
 simp only[nU,Bool.and_eq_true,decide_eq_true_eq,List.all_eq_true]at h
 refine⟨fun z=> ?_,fun z=> ?_,by omega⟩
 ·have:=h.2.2 _ z;omega
 ·have:=h.2.2 _ z;omega
theorem Hh{s:Str}(h:(decide (32∉W s)&&decide (10∉W s)&&decide ((W s).length≤150))=true):Wd (W s):=by
 simp only[Bool.and_eq_true,decide_eq_true_eq]at h
 exact⟨h.1.1,h.1.2,h.2⟩
theorem Hg{ws:List (List Nat)}(h0:ws≠[])(hl:ws.length≤20)(h:∀w∈ws,Wd w):qW ws:=⟨h0,hl,h⟩
theorem ajA{o:Od}(h:o.Ok):∀w∈o.w,Wd w:=by
 cases o with
 | put s n=>
  intro w hw
  simp[Od.w]at hw
  rcases hw with rfl | rfl | rfl
  ·exact Hh (by decide)
  ·exact Ou h.1
  ·exact dU h.2
 | add s n=>
  intro w hw
  simp[Od.w]at hw
  rcases hw with rfl | rfl | rfl
  ·exact Hh (by decide)
  ·exact Ou h.1
  ·exact dU h.2
 | swap s a n=>
  intro w hw
  simp[Od.w]at hw
  rcases hw with rfl | rfl | rfl | rfl
  ·exact Hh (by decide)
  ·exact Ou h.1
  ·exact dU h.2.1
  ·exact dU h.2.2
theorem af_(o:Od):o.w.length≤4:=by cases o<;>simp[Od.w]
theorem aem{a b:Int}(h:Ro a b):Sm a∧Sm b:=by
 obtain⟨h1,h2,h3,h4⟩:=h
 unfold Sm
 constructor<;>omega
theorem ah6{x:Wt}(h:x.Ok):∀w∈x.w,Wd w:=by
 cases x with
 | start=>intro w hw;simp[Wt.w]at hw;subst hw;exact Hh (by decide)
 | roll a b=>
  have:=aem h
  intro w hw
  simp[Wt.w]at hw
  rcases hw with rfl | rfl | rfl
  ·exact Hh (by decide)
  ·exact dU this.1
  ·exact dU this.2
 | ask a n o=>
  intro w hw
  simp only[Wt.w,List.mem_cons]at hw
  rcases hw with rfl | rfl | rfl | hw
  ·exact Hh (by decide)
  ·exact dU h.1
  ·exact dU h.2.1
  ·exact ajA h.2.2 w hw
theorem aeN(x:Wt):x.w.length≤7:=by
 cases x with
 | start=>simp[Wt.w]
 | roll a b=>simp[Wt.w]
 | ask a n o=>have:=af_ o;simp[Wt.w];omega
theorem agK{p:Int×Wt}(h:amt p):qW (enW p):=by
 refine Hg (by simp[enW]) (by have:=aeN p.2;simp[enW];omega) fun w hw=> ?_
 simp only[enW,List.mem_cons]at hw
 rcases hw with rfl | rfl | hw
 ·exact Hh (by decide)
 ·exact dU h.2.1
 ·exact ah6 h.2.2 w hw
theorem aeP{p:List Nat×Int}(h:amm p):qW (vaW p):=Hg (by simp[vaW]) (by simp[vaW]) fun w hw=>by
 simp[vaW]at hw
 rcases hw with rfl | rfl | rfl
 ·exact Hh (by decide)
 ·exact Ou h.1
 ·exact dU h.2.1
theorem ahA{p:(Int×Int)×Int}(h:amv p):qW (anW p):=Hg (by simp[anW]) (by simp[anW]) fun w hw=>by
 simp[anW]at hw
 rcases hw with rfl | rfl | rfl | rfl
 ·exact Hh (by decide)
 ·exact dU h.1
 ·exact dU h.2.1
 ·exact dU h.2.2
theorem agx{B:Bk}(h:B.Ok):qW [W "book",aM B.tm,B.vw]:=Hg (by simp) (by simp) fun w hw=>by
 simp at hw
 rcases hw with rfl | rfl | rfl
 ·exact Hh (by decide)
 ·exact dU h.tm.2
 ·unfold Bk.vw
  split
  ·exact Hh (by decide)
  ·rename_i v e
   have:=h.vt v e
   exact dU (by unfold Sm;omega)
theorem ahn{B:Bk}(h:B.Ok):qW [W "base",aM B.b,aM B.bt,aM B.r1,aM B.r2]:=Hg (by simp) (by simp) fun w hw=>by
 have:=aem h.ro
 simp at hw
 rcases hw with rfl | rfl | rfl | rfl | rfl
 ·exact Hh (by decide)
 ·exact dU h.b.2
 ·exact dU h.bt.2
 ·exact dU this.1
 ·exact dU this.2
theorem abL{B:Bk}(h:B.Ok):B.body.length=2+B.vs.length+B.as.length+B.es.length∧B.body.length≤200:=by
 have e:B.body.length=2+B.vs.length+B.as.length+B.es.length:=by simp[Bk.body];omega
 have:=h.lv
 have:=h.la
 have:=h.le
 exact⟨e,by omega⟩
theorem adF{B:Bk}(h:B.Ok):qW [W "end",aM B.body.length]:=Hg (by simp) (by simp) fun w hw=>by
 have:=(abL h).2
 simp at hw
 rcases hw with rfl | rfl
 ·exact Hh (by decide)
 ·exact dU (by unfold Sm;omega)
theorem amw{B:Bk}(h:B.Ok):∀ws∈B.cH,qW ws:=by
 intro ws hw
 simp only[Bk.cH,Bk.body,List.mem_append,List.mem_cons,List.mem_map,List.not_mem_nil,or_false]at hw
 rcases hw with(rfl | rfl | ⟨p,hp,rfl⟩ | ⟨p,hp,rfl⟩ | ⟨p,hp,rfl⟩) | rfl
 ·exact agx h
 ·exact ahn h
 ·exact aeP (h.vs p hp)
 ·exact ahA (h.as p hp)
 ·exact agK (h.es p hp)
 ·exact adF h
theorem Nk{c x:Nat}:∀{ws:List (List Nat)},x∈cg c ws→x=c∨∃w∈ws,x∈w
 | [],h=>by simp[cg]at h
 | [w],h=> .inr ⟨w,by simp,h⟩
 | w::v::r,h=>by
  simp only[cg,List.mem_append,List.mem_cons]at h
  rcases h with h | h | h
  ·exact .inr ⟨w,by simp,h⟩
  ·exact .inl h
  ·rcases Nk h with q | ⟨y,hy,q⟩
   ·exact .inl q
   ·exact .inr ⟨y,by simp at hy ⊢;exact .inr hy,q⟩
theorem aaq{ws:List (List Nat)}(h:qW ws):10∉cg 32 ws:=fun z=>by
 rcases Nk z with q | ⟨w,hw,q⟩
 ·omega
 ·exact(h.2.2 w hw).2.1 q
theorem Uk{cH:List (List (List Nat))}(h0:cH≠[])(h:∀ws∈cH,qW ws):Txt.split (Txt.join "\n" (cH.map dw)) "\n" = cH.map dw:=by
 have e:cH.map dw=(cH.map (cg 32)).map aZ:=by rw[List.map_map];exact List.map_congr_left fun ws _=>dZ ws
 rw[aeo,e]
 refine JW (by decide) (by simpa using h0) fun w hw=> ?_
 obtain⟨ws,hs,rfl⟩:=List.mem_map.mp hw
 exact aaq (h ws hs)
theorem Sv{c:Nat}{n:Nat}:∀(ws:List (List Nat)),(∀w∈ws,w.length≤n)→(cg c ws).length≤ws.length*(n+1)
 | [],_=>by simp[cg]
 | [w],h=>by have:=h w (by simp);simp[cg];omega
 | w::v::r,h=>by
  have h1:=h w (by simp)
  have h2:=Sv (c:=c) (v::r) fun x hx=>h x (by simp at hx ⊢;exact .inr hx)
  simp only[cg,List.length_append,List.length_cons]at h2 ⊢
  rw[Nat.succ_mul]
  omega
theorem text_len{cH:List (List (List Nat))}(h:∀ws∈cH,qW ws)(hl:cH.length≤300):(Txt.join "\n" (cH.map dw)).length≤906300:=by
 have e:cH.map dw=(cH.map (cg 32)).map aZ:=by rw[List.map_map];exact List.map_congr_left fun ws _=>dZ ws
 rw[aeo,e,zX,jf,bH]
 have:=Sv (c:=10) (n:=3020) (cH.map (cg 32)) fun w hw=>by
  obtain⟨ws,hs,rfl⟩:=List.mem_map.mp hw
  have:=yD (h ws hs)
  rw[dZ,jf,bH]at this
  exact this
 rw[List.length_map]at this
 omega
theorem K6{α:Type}{l:List α}{i:Nat}{x:α}{r:List α}(h:l.drop i=x::r):l[i]? = some x∧l.drop (i+1)=r:=by
 constructor
 ·have:(l.drop i)[0]? = some x:=by rw[h];rfl
  rw[List.getElem?_drop]at this
  exact this
 ·rw[←List.drop_drop,h];rfl
section
variable{M:Mem}{r l:Nat}{cH:List (List (List Nat))}{k:Int}{i:Nat}{ws:List (List Nat)}
theorem Hf(R:cZ M r l (cH.map dw) k)(hk:k=i+1)(h:cH[i]? = some ws)(hw:qW ws):∃x M1,fK [.ref r] M= .ok (.ref x) M1∧M1[x]? = some (.lst (ts ws))∧Gr M M1:=
 ⟨_,_,JL R hk (by rw[List.getElem?_map,h];rfl) hw,aO,Gr.app⟩
theorem Fg(R:cZ M r l (cH.map dw) k)(hk:k=i+1){w:List Nat}(h:cH[i]? = some (w::ws))(hw:qW (w::ws))(b:Str):∃M1,eZ [.ref r,.str b] M= .ok (.bl (decide (aZ w=b))) M1∧Gr M M1:=
 ⟨_,Y_ R hk (by rw[List.getElem?_map,h];rfl) hw b,Gr.app⟩
theorem rD(R:cZ M r l (cH.map dw) k)(hk:k=i+1){w:List Nat}(h:cH[i]? = some (w::ws))(hw:qW (w::ws)){b:Str}(hb:aZ w=b){n:Int}(hn:n=(ws.length:Int)+1):
  ∃x M1,aR [.ref r,.str b,.int n] M= .ok (.ref x) M1∧M1[x]? = some (.lst (ts (w::ws)))∧Gr M M1:=
 ⟨_,_,Ra R hk (by rw[List.getElem?_map,h];rfl) hw hb hn,aO,Gr.app⟩
end
theorem pJ{M:Mem}{x:Nat}{ws:List (List Nat)}{k:Int}{j:Nat}{w:List Nat}(h:M[x]? = some (.lst (ts ws)))(hk:k=j)(hw:ws[j]? = some w):bJ (.ref x) (.int k) M= .ok (.str (aZ w)) M:=
 b_ h (by omega) (by subst hk;simp[ts,hw])
theorem Kd{M:Mem}{n k:Nat}{ds:List D}{d:D}(hM:M[n]? = some (.lst ds))(hl:ds.length=k+1)(h:ds[k]? = some d):bJ (.ref n) (.int (-1)) M= .ok d M:=by
 have e:Le ds (-1)=ds[k]? := by
  unfold Le ixN
  rw[if_neg (by decide),if_pos (by omega),hl]
  show ds[(-1+((k+1:Nat):Int)).toNat]? = _
  congr 1
  omega
 exact nC (nC (by simp only[Ph,B_,eF hM,e,h]))
theorem Nj{α:Type}(l:List α)(h:l≠[]):∃m x,l=m++[x]:=⟨l.dropLast,l.getLast h,(List.dropLast_concat_getLast h).symm⟩
theorem aln{α:Type}{x:α}{xs:List α}:cut (x::xs) (some 1) none=xs:=by
 have e1:HT.bJ (x::xs).length 0 (some 1)=1:=by simp[HT.bJ]
 have e2:HT.bJ (x::xs).length (x::xs).length none=(x::xs).length:=rfl
 unfold cut
 rw[e1,e2]
 simp
theorem aeD{α:Type}{x y:α}{xs:List α}:cut (x::y::xs) (some 2) none=xs:=by
 have e1:HT.bJ (x::y::xs).length 0 (some 2)=2:=by simp[HT.bJ]
 have e2:HT.bJ (x::y::xs).length (x::y::xs).length none=(x::y::xs).length:=rfl
 unfold cut
 rw[e1,e2]
 simp
theorem alm{α:Type}{x y z:α}{xs:List α}:cut (x::y::z::xs) (some 3) none=xs:=by
 have e1:HT.bJ (x::y::z::xs).length 0 (some 3)=3:=by simp[HT.bJ]
 have e2:HT.bJ (x::y::z::xs).length (x::y::z::xs).length none=(x::y::z::xs).length:=rfl
 unfold cut
 rw[e1,e2]
 simp
theorem Z9{a b c:D}{M:Mem}:Fp (.tup [a,b,c]) none (some 2) M= .ok (.tup [a,b]) M:=by rfl
def Dat(k:Nat)(d:D):Prop:=∃t,∀M:Mem,m5 M k d=some t
theorem Qy{k:Nat}{i:Str}:Dat (k+1) (.str i):=⟨_,fun _=>rfl⟩
theorem Qz{k:Nat}{ds:List D}(h:∀d∈ds,Dat k d):∃ts,∀M:Mem,yI (m5 M k) ds=some ts:=by
 induction ds with
 | nil=>exact⟨[],fun M=>rfl⟩
 | cons d r ih=>
  obtain⟨ts,q⟩:=ih fun x hx=>h x (List.mem_cons_of_mem _ hx)
  obtain⟨t,q2⟩:=h d List.mem_cons_self
  exact⟨t::ts,fun M=>by simp only[yI,q2 M,q M]⟩
theorem YX{M:Mem}{n m:Nat}{ds:List D}(h:∀d∈ds,Dat 11 d)(h1:M[n]? = some (.lst ds))(h2:M[m]? = some (.lst ds)):Vq M (.ref n) (.ref m)=some true:=by
 obtain⟨ts,q⟩:=Qz h
 have e:∀{n:Nat},M[n]? = some (.lst ds)→m5 M 12 (.ref n)=some (.lst ts):=fun{n} h=>by
  show(match uq M n with | some ds=>(yI (m5 M 11) ds).map Dt.lst | none=>none)=_
  rw[eF h]
  show(yI (m5 M 11) ds).map Dt.lst=_
  rw[q M]
  rfl
 rw[Fd (e h1) (e h2),GX]
theorem RC{xs ys:List D}{M:Mem}(h:xs≠[])(hl:xs.length+ys.length≤16777216):aX (.tup xs) (.tup ys) M= .ok (.tup (xs++ys)) M:=by
 refine(uh (uh rfl)).trans ((uh rfl).trans ?_)
 simp only[Wo]
 rw[if_pos ⟨by cases xs with | nil=>exact absurd rfl h | cons _ _=>rfl,by rw[rN];exact hl⟩]
theorem agC{M:Mem}{n m:Nat}{ds es:List D}(h1:M[n]? = some (.lst ds))(h2:M[m]? = some (.lst es))(d1:∀d∈ds,Dat 11 d)(d2:∀d∈es,Dat 11 d)(hl:ds.length≠es.length):Vq M (.ref n) (.ref m)=some false:=by
 obtain⟨ts,q⟩:=Qz d1
 obtain⟨us,q'⟩:=Qz d2
 have e:∀{n:Nat} {ds:List D} {ts:List Dt},(∀M:Mem,yI (m5 M 11) ds=some ts)→M[n]? = some (.lst ds)→m5 M 12 (.ref n)=some (.lst ts):=fun{n ds ts} q h=>by
  show(match uq M n with | some ds=>(yI (m5 M 11) ds).map Dt.lst | none=>none)=_
  rw[eF h]
  show(yI (m5 M 11) ds).map Dt.lst=_
  rw[q M]
  rfl
 have len:∀{ds:List D} {ts:List Dt},yI (m5 M 11) ds=some ts→ts.length=ds.length:=by
  intro ds
  induction ds with
  | nil=>intro ts h;cases h;rfl
  | cons d r ih=>
   intro ts h
   simp only[yI]at h
   split at h
   ·rename_i t u _ hr
    cases h
    simp[ih hr]
   ·cases h
 rw[Fd (e q h1) (e q' h2)]
 have l1:=len (q M)
 have l2:=len (q' M)
 have:CZ ts us=false:=uH (by omega)
 simp only[cT,this]
theorem aeU(ws:List (List Nat)):∀d∈ts ws,Dat 11 d:=fun d hd=>by
 obtain⟨w,_,rfl⟩:=List.mem_map.mp hd
 exact Qy
def Od.k:Od→Str
 | .put _ _=> "put" | .add _ _=> "add" | .swap _ _ _=> "swap"
def Od.s:Od→List Nat
 | .put s _=>s | .add s _=>s | .swap s _ _=>s
def Od.ns:Od→List Int
 | .put _ n=>[n] | .add _ n=>[n] | .swap _ a n=>[a,n]
theorem YJ{l:List Nat}(h:yj l=true):∃n,PySem.intText? (aZ l)=some n∧l.length≤101:=by
 unfold yj at h
 simp only[Bool.and_eq_true,decide_eq_true_eq,List.all_eq_true]at h
 obtain⟨⟨h1,h2,h3⟩,_⟩:=h
 by_cases q:l.head? = some 45
 ·cases l with
  | nil=>cases q
  | cons a f=>
   cases(show a=45 by simpa using q)
   have ef:tU (45::f)=f:=by simp[tU]
   rw[ef]at h1 h2 h3
   have ne:f≠[]:=fun z=>by subst z;simp at h1
   exact⟨_,PySem.intText_neg (x:=aZ (45::f)) (bH _) h3 ne (by rw[jf,bH];simp;omega),by simp;omega⟩
 ·have ef:tU l=l:=by simp[tU,q]
  rw[ef]at h1 h2 h3
  have ne:l≠[]:=fun z=>by subst z;simp at h1
  exact⟨_,PySem.intText_digits (x:=aZ l) (by rw[bH];exact h3) (by rw[bH];exact ne) (by rw[jf,bH];omega),by omega⟩
def Tor(k:Int)(M:Mem)(o:Out D):Prop:=∃M',o= .exc 2 (.int k) M'∧Gr M M'
section
variable{M:Mem}{r l:Nat}{cH:List (List (List Nat))}{k:Int}{i:Nat}{ws:List (List Nat)}
theorem Ot(R:cZ M r l (cH.map dw) k)(hk:k=i+1)(h:cH[i]? = some ws)(hw:qW ws)(b:Str)(n:Int):
  (∃x M1,aR [.ref r,.str b,.int n] M= .ok (.ref x) M1∧M1[x]? = some (.lst (ts ws))∧Gr M M1∧(ws.length:Int)=n∧(ts ws)[0]? = some (.str b))∨Tor k M (aR [.ref r,.str b,.int n] M):=by
 obtain⟨x,M1,e1,h1,g1⟩:=Hf R hk h hw
 cases ws with
 | nil=>exact absurd rfl hw.1
 | cons w tl=>
  have e2:bJ (.ref x) (.int 0) M1= .ok (.str (aZ w)) M1:=pJ h1 (j:=0) rfl rfl
  have e3:j0 [.ref x] M1= .ok (.int ((tl.length:Int)+1)) M1:=by rw[jN h1];simp[ts]
  by_cases hb:aZ w=b
  ·by_cases hn:(tl.length:Int)+1=n
   ·refine .inl ⟨x,M1,?_,h1,g1,by simpa using hn,by simp[ts,hb]⟩
    simp only[aR,a_,fM]
    simp[R.me (m:= "words") rfl,e1,e2,e3,hb,hn]
   ·refine .inr ⟨M1,?_,g1⟩
    simp only[aR,a_,fM]
    simp[R.me (m:= "words") rfl,e1,e2,e3,hb,hn,(R.gr g1).fh]
  ·refine .inr ⟨M1,?_,g1⟩
   simp only[aR,a_,fM]
   simp[R.me (m:= "words") rfl,e1,e2,hb,(R.gr g1).fh]
end
section
variable{M:Mem}{r l:Nat}{rows:List Str}{k:Int}
theorem JN(R:cZ M r l rows k)(hk:(rows.length:Int)<k):fK [.ref r] M= .exc 2 (.int k) M:=by
 simp only[fK,eN,tM]
 simp[R.fr,R.fh,jN R.k,hk]
theorem Dd(R:cZ M r l rows k)(hk:(rows.length:Int)<k)(b:Str):eZ [.ref r,.str b] M= .exc 2 (.int k) M:=by
 simp only[eZ,dH]
 simp[R.me (m:= "words") rfl,JN R hk]
theorem Lr(R:cZ M r l rows k)(hk:(rows.length:Int)<k)(b:Str)(n:Int):aR [.ref r,.str b,.int n] M= .exc 2 (.int k) M:=by
 simp only[aR,a_]
 simp[R.me (m:= "words") rfl,JN R hk]
end
def num(w:List Nat):Option Int:=if yj w=true then PySem.intText? (aZ w)else none
def yg(w:List Nat):Option Int:=(num w).bind fun n=>if n<0 then none else some n
def Ak(b:Int)(w:List Nat):Option Int:=(yg w).bind fun n=>if b≤n then none else some n
def Dc(a b:List Nat):Option D:=(Ak 1152921504606846976 a).bind fun x=>(Ak 1152921504606846976 b).bind fun y=>if x=0 then none else some (.tup [.int x,.int y])
def L_(w:List Nat):Option D:=if nU w=true then some (.str (aZ w))else none
theorem Yq(w:List Nat):(yj w=false∧num w=none)∨∃n,yj w=true∧PySem.intText? (aZ w)=some n∧num w=some n:=by
 cases z:yj w with
 | false=>exact .inl ⟨rfl,by simp[num,z]⟩
 | true=>
  obtain⟨n,hn,_⟩:=YJ z
  exact .inr ⟨n,rfl,hn,by simp[num,z,hn]⟩
def Res(k:Int)(M:Mem)(o:Out D):Option D→Prop
 | some d=>∃M',o= .ok d M'∧Gr M M'
 | none=>∃M',o= .exc 2 (.int k) M'∧Gr M M'
section
variable{M:Mem}{r l:Nat}{rows:List Str}{k:Int}{w:List Nat}
theorem Di(R:cZ M r l rows k)(hw:w.length≤150):Res k M (bI [.ref r,.str (aZ w)] M) ((num w).map D.int):=by
 have hl:(aZ w).length≤150:=by rw[Am,Ed];exact hw
 obtain⟨M1,e1,g1⟩:=Qn (M:=M) (w:=aZ w) (by omega)
 rw[Ed]at e1
 rcases Yq w with⟨z,e⟩ | ⟨n,z,hn,e⟩
 ·rw[z]at e1
  rw[e]
  refine⟨M1,?_,g1⟩
  simp only[bI,b8,tO]
  simp[e1,(R.gr g1).fh]
 ·rw[z]at e1
  rw[e]
  refine⟨M1,?_,g1⟩
  simp only[bI,b8,tO]
  simp[e1,afn hn (show(aZ w).length≤640 by omega)]
theorem pO(R:cZ M r l rows k)(hw:w.length≤150):Res k M (bM [.ref r,.str (aZ w)] M) ((yg w).map D.int):=by
 have h:=Di R hw
 unfold yg
 cases e:num w with
 | none=>
  rw[e]at h
  obtain⟨M1,e1,g1⟩:=h
  refine⟨M1,?_,g1⟩
  simp only[bM,bu,iR]
  simp[R.me (m:= "whole") rfl,e1]
 | some n=>
  rw[e]at h
  obtain⟨M1,e1,g1⟩:=h
  by_cases hn:n<0
  ·simp only[Option.bind_some,hn,if_true,Option.map_none]
   refine⟨M1,?_,g1⟩
   simp only[bM,bu,iR]
   simp[R.me (m:= "whole") rfl,e1,hn,(R.gr g1).fh]
  ·simp only[Option.bind_some,hn,if_false,Option.map_some]
   refine⟨M1,?_,g1⟩
   simp only[bM,bu,iR]
   simp[R.me (m:= "whole") rfl,e1,hn]
theorem QJ(R:cZ M r l rows k)(hw:w.length≤150)(b:Int):Res k M (gY [.ref r,.str (aZ w),.int b] M) ((Ak b w).map D.int):=by
 have h:=pO R hw
 unfold Ak
 cases e:yg w with
 | none=>
  rw[e]at h
  obtain⟨M1,e1,g1⟩:=h
  refine⟨M1,?_,g1⟩
  simp only[gY,dD,pF]
  simp[R.me (m:= "from_nought") rfl,e1]
 | some n=>
  rw[e]at h
  obtain⟨M1,e1,g1⟩:=h
  by_cases hn:b≤n
  ·simp only[Option.bind_some,hn,if_true,Option.map_none]
   refine⟨M1,?_,g1⟩
   simp only[gY,dD,pF]
   simp[R.me (m:= "from_nought") rfl,e1,hn,(R.gr g1).fh]
  ·simp only[Option.bind_some,hn,if_false,Option.map_some]
   refine⟨M1,?_,g1⟩
   simp only[gY,dD,pF]
   simp[R.me (m:= "from_nought") rfl,e1,hn]
theorem agz(R:cZ M r l rows k)(hw:w.length≤150):Res k M (pM [.ref r,.str (aZ w)] M) ((Ak 60 w).map D.int):=by
 have h:=QJ R hw 60
 cases e:Ak 60 w with
 | none=>
  rw[e]at h
  obtain⟨M1,e1,g1⟩:=h
  refine⟨M1,?_,g1⟩
  simp only[pM,iZ]
  simp[R.me (m:= "below") rfl,e1]
 | some n=>
  rw[e]at h
  obtain⟨M1,e1,g1⟩:=h
  refine⟨M1,?_,g1⟩
  simp only[pM,iZ]
  simp[R.me (m:= "below") rfl,e1]
theorem abK(R:cZ M r l rows k){v:List Nat}(hw:w.length≤150)(hv:v.length≤150):Res k M (dz [.ref r,.str (aZ w),.str (aZ v)] M) (Dc w v):=by
 have hs:∀M,acp (.int 1) (.int 60) M= .ok (.int 1152921504606846976) M:=fun M=>by rfl
 have h:=QJ R hw 1152921504606846976
 unfold Dc
 cases e:Ak 1152921504606846976 w with
 | none=>
  rw[e]at h
  obtain⟨M1,e1,g1⟩:=h
  refine⟨M1,?_,g1⟩
  simp only[dz,bT,gZ]
  simp[R.me (m:= "below") rfl,hs,e1]
 | some a=>
  rw[e]at h
  obtain⟨M1,e1,g1⟩:=h
  have R1:=R.gr g1
  have h2:=QJ R1 hv 1152921504606846976
  cases e':Ak 1152921504606846976 v with
  | none=>
   rw[e']at h2
   obtain⟨M2,e2,g2⟩:=h2
   refine⟨M2,?_,g1.trans g2⟩
   simp only[dz,bT,gZ]
   simp[R.me (m:= "below") rfl,R1.me (m:= "below") rfl,hs,e1,e2]
  | some b=>
   rw[e']at h2
   obtain⟨M2,e2,g2⟩:=h2
   by_cases hz:a=0
   ·simp only[Option.bind_some,hz,if_true]
    refine⟨M2,?_,g1.trans g2⟩
    simp only[dz,bT,gZ]
    simp[R.me (m:= "below") rfl,R1.me (m:= "below") rfl,hs,e1,e2,hz,(R1.gr g2).fh]
   ·simp only[Option.bind_some,hz,if_false]
    refine⟨M2,?_,g1.trans g2⟩
    simp only[dz,bT,gZ]
    simp[R.me (m:= "below") rfl,R1.me (m:= "below") rfl,hs,e1,e2,hz]
theorem aep(R:cZ M r l rows k)(hw:w.length≤150):Res k M (mY [.ref r,.str (aZ w)] M) (L_ w):=by
 obtain⟨M1,e1,g1⟩:=Vj (M:=M) (w:=aZ w) (by rw[Am,Ed];omega)
 rw[Ed]at e1
 unfold L_
 cases z:nU w with
 | true=>
  rw[z]at e1
  simp only[if_true]
  refine⟨M1,?_,g1⟩
  simp only[mY,gO,uW]
  simp[e1]
 | false=>
  rw[z]at e1
  simp only[Bool.false_eq_true,if_false]
  refine⟨M1,?_,g1⟩
  simp only[mY,gO,uW]
  simp[e1,(R.gr g1).fh]
end
def GoX(r l:Nat)(rows:List Str)(k:Int)(M:Mem)(o:Out D):Option D→Prop
 | some d=>∃M',o= .ok d M'∧cZ M' r l rows (k+1)∧Ch (· = r) M M'
 | none=>∃M',o= .exc 2 (.int k) M'∧Ch (· = r) M M'
def W9(a b:List Nat):Option (Int×D):=(if aZ b= "-" then some .non else(Ak 60 b).map D.int).bind fun v=>(yg a).map fun n=>(n,v)
def Xv(a b c d:List Nat):Option (Int×Int×D):=(yg a).bind fun x=>(yg b).bind fun y=>(Dc c d).map fun z=>(x,y,z)
section
variable{M:Mem}{r l:Nat}{cH:List (List (List Nat))}{k:Int}{i:Nat}{w0 w1 w2 w3 w4:List Nat}
theorem agv(R:cZ M r l (cH.map dw) k)(hk:k=i+1)(h:cH[i]? = some [w0,w1,w2])(hw:qW [w0,w1,w2])(h0:aZ w0= "book"):GoX r l (cH.map dw) k M (jP [.ref r] M) ((W9 w1 w2).map fun p=> .tup [.int p.1,p.2]):=by
 obtain⟨x,M1,e1,h1,g1⟩:=rD R hk h hw h0 (n:=3) rfl
 have R1:=R.gr g1
 have l1:w1.length≤150:=(hw.2.2 w1 (by simp)).2.2
 have l2:w2.length≤150:=(hw.2.2 w2 (by simp)).2.2
 have i2:bJ (.ref x) (.int 2) M1= .ok (.str (aZ w2)) M1:=pJ h1 (j:=2) rfl rfl
 unfold W9
 have hv:match(if aZ w2= "-" then some .non else(Ak 60 w2).map D.int)with
   | some v=>∃M2,mZ [some (.ref r),some (.ref x),some .non,none] M1= .next [some (.ref r),some (.ref x),some v,none] M2∧Gr M1 M2
   | none=>∃M2,mZ [some (.ref r),some (.ref x),some .non,none] M1= .exc 2 (.int k) [some (.ref r),some (.ref x),some .non,none] M2∧Gr M1 M2:=by
  by_cases hm:aZ w2=("-" : Str)
  ·rw[if_pos hm]
   exact⟨M1,by simp only[mZ];simp[i2,hm],Gr.refl⟩
  ·rw[if_neg hm]
   have h:=agz R1 l2
   cases e:Ak 60 w2 with
   | none=>
    rw[e]at h
    obtain⟨M2,e2,g2⟩:=h
    exact⟨M2,by simp only[mZ];simp[i2,hm,R1.me (m:= "hand") rfl,e2],g2⟩
   | some n=>
    rw[e]at h
    obtain⟨M2,e2,g2⟩:=h
    exact⟨M2,by simp only[mZ];simp[i2,hm,R1.me (m:= "hand") rfl,e2],g2⟩
 cases ev:(if aZ w2= "-" then some D.non else(Ak 60 w2).map D.int)with
 | none=>
  rw[ev]at hv
  obtain⟨M2,e2,g2⟩:=hv
  refine⟨M2,?_,(g1.trans g2).ch⟩
  simp only[jP,iW]
  simp[R.me (m:= "words_of") rfl,e1,e2]
 | some v=>
  rw[ev]at hv
  obtain⟨M2,e2,g2⟩:=hv
  have R2:=R1.gr g2
  have i1:bJ (.ref x) (.int 1) M2= .ok (.str (aZ w1)) M2:=pJ (g2 _ _ h1) (j:=1) rfl rfl
  have h:=pO R2 l1
  cases e:yg w1 with
  | none=>
   rw[e]at h
   obtain⟨M3,e3,g3⟩:=h
   refine⟨M3,?_,((g1.trans g2).trans g3).ch⟩
   simp only[jP,iW]
   simp[R.me (m:= "words_of") rfl,e1,e2,i1,R2.me (m:= "from_nought") rfl,e3]
  | some n=>
   rw[e]at h
   obtain⟨M3,e3,g3⟩:=h
   have R3:=R2.gr g3
   obtain⟨M4,e4,R4,c4,_⟩:=Cw R3
   refine⟨M4,?_,R4,((g1.trans g2).trans g3).ch.trans c4⟩
   simp only[jP,iW]
   simp[R.me (m:= "words_of") rfl,e1,e2,i1,R2.me (m:= "from_nought") rfl,e3,R3.me (m:= "go_on") rfl,e4]
theorem ahw(R:cZ M r l (cH.map dw) k)(hk:k=i+1)(h:cH[i]? = some [w0,w1,w2,w3,w4])(hw:qW [w0,w1,w2,w3,w4])(h0:aZ w0= "base"):GoX r l (cH.map dw) k M (fQ [.ref r] M) ((Xv w1 w2 w3 w4).map fun p=> .tup [.int p.1,.int p.2.1,p.2.2]):=by
 obtain⟨x,M1,e1,h1,g1⟩:=rD R hk h hw h0 (n:=5) rfl
 have R1:=R.gr g1
 have i1:bJ (.ref x) (.int 1) M1= .ok (.str (aZ w1)) M1:=pJ h1 (j:=1) rfl rfl
 have hx1:=pO R1 (w:=w1) (hw.2.2 w1 (by simp)).2.2
 unfold Xv
 cases ea:yg w1 with
 | none=>
  rw[ea]at hx1
  obtain⟨M2,e2,g2⟩:=hx1
  refine⟨M2,?_,(g1.trans g2).ch⟩
  simp only[fQ,fV]
  simp[R.me (m:= "words_of") rfl,e1,i1,R1.me (m:= "from_nought") rfl,e2]
 | some a=>
  rw[ea]at hx1
  obtain⟨M2,e2,g2⟩:=hx1
  have R2:=R1.gr g2
  have i2:bJ (.ref x) (.int 2) M2= .ok (.str (aZ w2)) M2:=pJ (g2 _ _ h1) (j:=2) rfl rfl
  have hx2:=pO R2 (w:=w2) (hw.2.2 w2 (by simp)).2.2
  cases eb:yg w2 with
  | none=>
   rw[eb]at hx2
   obtain⟨M3,e3,g3⟩:=hx2
   refine⟨M3,?_,((g1.trans g2).trans g3).ch⟩
   simp only[fQ,fV]
   simp[R.me (m:= "words_of") rfl,e1,i1,R1.me (m:= "from_nought") rfl,e2,i2,R2.me (m:= "from_nought") rfl,e3]
  | some b=>
   rw[eb]at hx2
   obtain⟨M3,e3,g3⟩:=hx2
   have R3:=R2.gr g3
   have i3:bJ (.ref x) (.int 3) M3= .ok (.str (aZ w3)) M3:=pJ (g3 _ _ (g2 _ _ h1)) (j:=3) rfl rfl
   have i4:bJ (.ref x) (.int 4) M3= .ok (.str (aZ w4)) M3:=pJ (g3 _ _ (g2 _ _ h1)) (j:=4) rfl rfl
   have hx3:=abK R3 (w:=w3) (v:=w4) (hw.2.2 w3 (by simp)).2.2 (hw.2.2 w4 (by simp)).2.2
   cases ec:Dc w3 w4 with
   | none=>
    rw[ec]at hx3
    obtain⟨M4,e4,g4⟩:=hx3
    refine⟨M4,?_,(((g1.trans g2).trans g3).trans g4).ch⟩
    simp only[fQ,fV]
    simp[R.me (m:= "words_of") rfl,e1,i1,R1.me (m:= "from_nought") rfl,e2,i2,R2.me (m:= "from_nought") rfl,e3,i3,i4,R3.me (m:= "both_sets") rfl,e4]
   | some c=>
    rw[ec]at hx3
    obtain⟨M4,e4,g4⟩:=hx3
    have R4:=R3.gr g4
    obtain⟨M5,e5,R5,c5,_⟩:=Cw R4
    refine⟨M5,?_,R5,(((g1.trans g2).trans g3).trans g4).ch.trans c5⟩
    simp only[fQ,fV]
    simp[R.me (m:= "words_of") rfl,e1,i1,R1.me (m:= "from_nought") rfl,e2,i2,R2.me (m:= "from_nought") rfl,e3,i3,i4,R3.me (m:= "both_sets") rfl,e4,R4.me (m:= "go_on") rfl,e5]
end
def pH:List (List Nat)→Option (List Int)
 | []=>some []
 | u::us=>(num u).bind fun n=>(pH us).map (n:: ·)
def Er(a b:List Nat):Option D:=(L_ a).bind fun s=>(num b).bind fun n=>if n=0 then none else some (.tup [s,.int n])
def Dy(z:Str):Option Int:=if z= "put" then some 3 else if z= "add" then some 3 else if z= "swap" then some 4 else none
def orderV:List (List Nat)→Option D
 | a::b::tl=>if Dy (aZ a)=some ((tl.length:Int)+2)then(pH tl).bind fun ns=>(L_ b).map fun s=> .tup ([.str (aZ a),s]++ns.map D.int)else none
 | _=>none
def qY(us:List (List Nat)):Option D:=if us=[W "start"]then some (.tup [.str "start"])else match us with
 | [a,b,c]=>if aZ a= "roll" then(Dc b c).bind fun d=>match d with
  | .tup ds=>some (.tup ([.str "roll"]++ds))
  | _=>none
  else none
 | a::b::c::d::tl=>if aZ a= "ask" then(num b).bind fun x=>(num c).bind fun y=>(orderV (d::tl)).map fun o=> .tup [.str "ask",.int x,.int y,o]else none
 | _=>none
theorem aef(z:Str):Ox z [("put",3),("add",3),("swap",4)]=match Dy z with | some n=> .int n | none=> .non:=by
 simp only[Ox,Dy,decide_eq_true_eq]
 split
 ·rfl
 ·split
  ·rfl
  ·split<;>rfl
theorem agd{n:Int}{M:Mem}:sNe .non (.int n) M= .ok (.bl true) M:=Pb (b:=false) (by rw[Fd (a:= .non) (b:= .int n) rfl rfl];unfold cT;rfl)
section
variable{M:Mem}{r l:Nat}{rows:List Str}{k:Int}
theorem WL(R:cZ M r l rows k){y:Nat}{all:List (List Nat)}(hy:M[y]? = some (.lst (ts all))):∀(us:List (List Nat)) (acc:List Int) (M1:Mem),(∀u∈us,u.length≤150)→Gr M M1→
  match pH us with
  | some ns=>∃x M',lu (some (y,ts all)) Dz (cV 4 "whole" bI 2 [] (az 1) (aq (az 0) aG)) [some (.ref r)] (ts us) (acc.map D.int) M1= .ok (.ref x) M'∧M'[x]? = some (.lst ((acc++ns).map D.int))∧Gr M M'
  | none=>∃M',lu (some (y,ts all)) Dz (cV 4 "whole" bI 2 [] (az 1) (aq (az 0) aG)) [some (.ref r)] (ts us) (acc.map D.int) M1= .exc 2 (.int k) M'∧Gr M M'
 | [],acc,M1,_,g=>by
  refine⟨M1.length,M1++[.lst (acc.map D.int)],?_,by simp,g.trans Gr.app⟩
  show lu _ _ _ _ [] _ _=_
  unfold lu
  rw[if_pos (show uQ (some (y,ts all)) M1 from eF (g _ _ hy))]
 | u::us,acc,M1,hu,g=>by
  have R1:=R.gr g
  have h:=Di R1 (hu u (by simp))
  have hs:uQ (some (y,ts all)) M1:=eF (g _ _ hy)
  cases e:num u with
  | none=>
   rw[e]at h
   obtain⟨M2,e2,g2⟩:=h
   simp only[pH,e,Option.bind_none]
   refine⟨M2,?_,g.trans g2⟩
   show lu _ _ _ _ (.str (aZ u)::ts us) _ _=_
   unfold lu
   rw[if_pos hs]
   simp[R1.me (m:= "whole") rfl,e2]
  | some n=>
   rw[e]at h
   obtain⟨M2,e2,g2⟩:=h
   have ih:=WL R hy us (acc++[n]) M2 (fun v hv=>hu v (by simp[hv])) (g.trans g2)
   have step:lu (some (y,ts all)) Dz (cV 4 "whole" bI 2 [] (az 1) (aq (az 0) aG)) [some (.ref r)] (ts (u::us)) (acc.map D.int) M1=lu (some (y,ts all)) Dz (cV 4 "whole" bI 2 [] (az 1) (aq (az 0) aG)) [some (.ref r)] (ts us) ((acc++[n]).map D.int) M2:=by
    show lu _ _ _ _ (.str (aZ u)::ts us) _ _=_
    rw[lu,if_pos hs]
    simp[R1.me (m:= "whole") rfl,e2]
   simp only[pH,e,Option.bind_some]
   cases e3:pH us with
   | none=>
    rw[e3]at ih
    obtain⟨M3,e4,g3⟩:=ih
    exact⟨M3,step.trans e4,g3⟩
   | some ns=>
    rw[e3]at ih
    obtain⟨x,M3,e4,h4,g3⟩:=ih
    exact⟨x,M3,step.trans e4,by rw[h4];simp,g3⟩
theorem aaS(R:cZ M r l rows k){y:Nat}{us:List (List Nat)}(hu:∀u∈us,u.length≤150)(hy:M[y]? = some (.lst (ts us))):
  match pH us with
  | some ns=>∃x M',lu (some (y,ts us)) Dz (cV 4 "whole" bI 2 [] (az 1) (aq (az 0) aG)) [some (.ref r)] (ts us) [] M= .ok (.ref x) M'∧M'[x]? = some (.lst (ns.map D.int))∧Gr M M'
  | none=>∃M',lu (some (y,ts us)) Dz (cV 4 "whole" bI 2 [] (az 1) (aq (az 0) aG)) [some (.ref r)] (ts us) [] M= .exc 2 (.int k) M'∧Gr M M':=by
 have h:=WL R hy us [] M hu Gr.refl
 simpa using h
theorem acR(R:cZ M r l rows k){y:Nat}{us:List (List Nat)}(hu:∀u∈us,u.length≤150)(h0:us≠[])(adv:us.length≤20)(hy:M[y]? = some (.lst (ts us))):Res k M (lY [.ref r,.ref y] M) (orderV us):=by
 cases us with
 | nil=>exact absurd rfl h0
 | cons a tl=>
  have i0:bJ (.ref y) (.int 0) M= .ok (.str (aZ a)) M:=pJ hy (j:=0) rfl rfl
  obtain⟨L,hL⟩:∃L:Int,L=(tl.length:Int)+1:=⟨_,rfl⟩
  have ln:j0 [.ref y] M= .ok (.int L) M:=by rw[jN hy,hL];simp[ts]
  by_cases hc:Dy (aZ a)=some L
  ·have ec:sNe (Ox (aZ a) [("put",3),("add",3),("swap",4)]) (.int L) M= .ok (.bl false) M:=by rw[aef,hc,Wh];simp
   cases tl with
   | nil=>
    exfalso
    simp at hL
    subst hL
    unfold Dy at hc
    split at hc
    ·cases hc
    ·split at hc
     ·cases hc
     ·split at hc<;>cases hc
   | cons b tl=>
    have s2:Fp (.ref y) (some 2) none M= .ok (.ref M.length) (M++[.lst (ts tl)]):=by
     rw[xK hy]
     have:cut (ts (a::b::tl)) (some 2) none=ts tl:=aeD
     rw[this]
    obtain⟨M1,rB⟩:∃M1,M1=M++[MO.lst (ts tl)]:=⟨_,rfl⟩
    have h1:M1[M.length]? = some (.lst (ts tl)):=by rw[rB];exact aO
    have g1:Gr M M1:=by rw[rB];exact Gr.app
    rw[←rB]at s2
    have R1:=R.gr g1
    have ecp:Ff [0] [some (D.ref r),some (.ref y),none]=[some (.ref r)]:=rfl
    have hcond:Dy (aZ a)=some ((tl.length:Int)+2):=by rw[hc,hL];simp;omega
    have hn:=aaS R1 (us:=tl) (fun u hm=>hu u (by simp[hm])) h1
    simp only[orderV,hcond,if_true]
    cases en:pH tl with
    | none=>
     rw[en]at hn
     obtain⟨M2,e2,g2⟩:=hn
     refine⟨M2,?_,g1.trans g2⟩
     simp only[lY,gM,nW]
     simp[i0,ln,ec,s2,uy h1,ecp,e2]
    | some ns=>
     rw[en]at hn
     obtain⟨z,M2,e2,h2,g2⟩:=hn
     have R2:=R1.gr g2
     have i0':bJ (.ref y) (.int 0) M2= .ok (.str (aZ a)) M2:=pJ (g2 _ _ (g1 _ _ hy)) (j:=0) rfl rfl
     have i1:bJ (.ref y) (.int 1) M2= .ok (.str (aZ b)) M2:=pJ (g2 _ _ (g1 _ _ hy)) (j:=1) rfl rfl
     have hm:=aep R2 (w:=b) (hu b (by simp))
     have hnl:ns.length=tl.length:=by
      clear hcond hc ec ln hL h1 rB s2 h2 e2 adv hy hu i0 i0' i1
      induction tl generalizing ns with
      | nil=>cases en;rfl
      | cons u us ih=>
       simp only[pH]at en
       cases e1:num u with
       | none=>rw[e1]at en;cases en
       | some n=>
        rw[e1]at en
        cases e2:pH us with
        | none=>rw[e2]at en;cases en
        | some ms=>
         rw[e2]at en
         cases en
         simp[ih (by simp) ms e2]
     cases e3:L_ b with
     | none=>
      rw[e3]at hm
      obtain⟨M3,e3',g3⟩:=hm
      refine⟨M3,?_,(g1.trans g2).trans g3⟩
      simp only[lY,gM,nW]
      simp[i0,ln,ec,s2,uy h1,ecp,e2,i0',i1,R2.me (m:= "name") rfl,e3']
     | some s=>
      rw[e3]at hm
      obtain⟨M3,e3',g3⟩:=hm
      have e4:yc [.ref z] M3= .ok (.tup (ns.map D.int)) M3:=zH (g3 _ _ h2)
      have e5:aX (.tup [.str (aZ a),s]) (.tup (ns.map D.int)) M3= .ok (.tup ([.str (aZ a),s]++ns.map D.int)) M3:=RC (by simp) (by simp at adv ⊢;omega)
      refine⟨M3,?_,(g1.trans g2).trans g3⟩
      simp only[lY,gM,nW]
      simp[i0,ln,ec,s2,uy h1,ecp,e2,i0',i1,R2.me (m:= "name") rfl,e3',e4,e5]
  ·have ec:sNe (Ox (aZ a) [("put",3),("add",3),("swap",4)]) (.int L) M= .ok (.bl true) M:=by
    rw[aef]
    cases e:Dy (aZ a)with
    | none=>exact agd
    | some n=>
     rw[e]at hc
     have:¬(n=L):=fun z=>hc (by rw[z])
     rw[Wh]
     simp[this]
   have hv:orderV (a::tl)=none:=by
    cases tl with
    | nil=>rfl
    | cons b tl=>
     simp only[orderV]
     rw[if_neg]
     intro z
     exact hc (by rw[z,hL];simp;omega)
   rw[hv]
   refine⟨M,?_,Gr.refl⟩
   simp only[lY,gM,nW]
   simp[i0,ln,ec,R.fh]
theorem Rb{us:List (List Nat)}(hst:us≠[W "start"])(h:us.length<3):qY us=none:=by
 unfold qY
 rw[if_neg hst]
 match us,h with
 | [],_=>rfl
 | [_],_=>rfl
 | [_,_],_=>rfl
theorem aeO(R:cZ M r l rows k){y:Nat}{us:List (List Nat)}(hu:∀u∈us,u.length≤150)(adv:us.length≤20)(hy:M[y]? = some (.lst (ts us))):Res k M (fc [.ref r,.ref y] M) (qY us):=by
 obtain⟨M1,rB⟩:∃M1,M1=M++[MO.lst [D.str "start"]]:=⟨_,rfl⟩
 have h1:M1[M.length]? = some (.lst [D.str "start"]):=by rw[rB];exact aO
 have g1:Gr M M1:=by rw[rB];exact Gr.app
 have y1:=g1 _ _ hy
 have R1:=R.gr g1
 obtain⟨L,hL⟩:∃L:Int,L=(us.length:Int):=⟨_,rfl⟩
 have ln:j0 [.ref y] M1= .ok (.int L) M1:=by rw[jN y1,hL];simp[ts]
 by_cases hst:us=[W "start"]
 ·unfold qY
  rw[if_pos hst]
  have he:sEq (.ref y) (.ref M.length) M1= .ok (.bl true) M1:=by
   refine Ke (YX (ds:=[D.str "start"]) (fun d hd=>by simp at hd;subst hd;exact Qy) ?_ h1)
   rw[y1,hst];simp[ts]
  refine⟨M1,?_,g1⟩
  simp only[fc,fU,tZ]
  simp[←rB,he]
 ·have he:sEq (.ref y) (.ref M.length) M1= .ok (.bl false) M1:=by
   by_cases hl:us.length=1
   ·match us,hl with
    | [u],_=>
     have hne:aZ u≠ "start" := fun z=>hst (by
      have:u=W "start" := by rw[←DW "start"]at z;exact ac6 z
      rw[this])
     have f:∀{n:Nat} {z:Str},M1[n]? = some (.lst [D.str z])→m5 M1 12 (.ref n)=some (.lst [.str z]):=fun{n z} h=>by
      show(match uq M1 n with | some ds=>(yI (m5 M1 11) ds).map Dt.lst | none=>none)=_
      rw[eF h]
      rfl
     refine Ke ?_
     rw[Fd (f (z:=aZ u) (by rw[y1];rfl)) (f h1)]
     simp[cT,CZ,hne]
   ·exact Ke (agC y1 h1 (aeU _) (fun d hd=>by simp at hd;subst hd;exact Qy) (by simpa[ts]using hl))
  have p1:tZ [some (.ref r),some (.ref y)] M= .next [some (.ref r),some (.ref y)] M1:=by
   simp only[tZ]
   simp[←rB,he]
  have p2n:¬L=3→gK [some (.ref r),some (.ref y)] M1= .next [some (.ref r),some (.ref y)] M1:=fun n3=>by
   simp only[gK]
   simp[ln,n3]
  have pno:gK [some (.ref r),some (.ref y)] M1= .next [some (.ref r),some (.ref y)] M1→eG [some (.ref r),some (.ref y)] M1= .next [some (.ref r),some (.ref y)] M1→fc [.ref r,.ref y] M= .exc 2 (.int k) M1:=fun p2 p3=>by
   simp only[fc,fU]
   simp[p1,p2,p3,R1.fh]
  have ap5:¬L=3→¬(3:Int)<L→fc [.ref r,.ref y] M= .exc 2 (.int k) M1:=fun n3 n4=>pno (p2n n3) (by
   simp only[eG]
   simp[ln,n4])
  have p3x:¬L=3→∀M2,eG [some (.ref r),some (.ref y)] M1= .exc 2 (.int k) [some (.ref r),some (.ref y)] M2→fc [.ref r,.ref y] M= .exc 2 (.int k) M2:=fun n3 M2 p3=>by
   simp only[fc,fU]
   simp[p1,p2n n3,p3]
  have p3r:¬L=3→∀v M2,eG [some (.ref r),some (.ref y)] M1= .ret v M2→fc [.ref r,.ref y] M= .ok v M2:=fun n3 v M2 p3=>by
   simp only[fc,fU]
   simp[p1,p2n n3,p3]
  by_cases hs3:us.length<3
  ·rw[Rb hst hs3]
   exact⟨M1,ap5 (by omega) (by omega),g1⟩
  unfold qY
  rw[if_neg hst]
  by_cases hl3:us.length=3
  ·obtain⟨a,b,c,rfl⟩:=Gw hl3
   have ln3:j0 [.ref y] M1= .ok (.int 3) M1:=by rw[ln,hL];rfl
   have i0:bJ (.ref y) (.int 0) M1= .ok (.str (aZ a)) M1:=pJ y1 (j:=0) rfl rfl
   by_cases hr:aZ a= "roll"
   ·have i1:bJ (.ref y) (.int 1) M1= .ok (.str (aZ b)) M1:=pJ y1 (j:=1) rfl rfl
    have i2:bJ (.ref y) (.int 2) M1= .ok (.str (aZ c)) M1:=pJ y1 (j:=2) rfl rfl
    have hb:=abK R1 (w:=b) (v:=c) (hu b (by simp)) (hu c (by simp))
    have hshape:Dc b c=none∨∃x1 x2,Dc b c=some (.tup [.int x1,.int x2]):=by
     unfold Dc
     cases Ak 1152921504606846976 b with
     | none=>exact .inl rfl
     | some x1=>
      cases Ak 1152921504606846976 c with
      | none=>exact .inl rfl
      | some x2=>
       simp only[Option.bind_some]
       split
       ·exact .inl rfl
       ·exact .inr ⟨x1,x2,rfl⟩
    simp only[hr,if_true]
    rcases hshape with e | ⟨x1,x2,e⟩
    ·rw[e]at hb ⊢
     obtain⟨M2,e2,g2⟩:=hb
     refine⟨M2,?_,g1.trans g2⟩
     have p2:gK [some (.ref r),some (.ref y)] M1= .exc 2 (.int k) [some (.ref r),some (.ref y)] M2:=by
      simp only[gK]
      simp[ln3,i0,hr,i1,i2,R1.me (m:= "both_sets") rfl,e2]
     simp only[fc,fU]
     simp[p1,p2]
    ·rw[e]at hb ⊢
     obtain⟨M2,e2,g2⟩:=hb
     have e3:aX (.tup [.str "roll"]) (.tup [.int x1,.int x2]) M2= .ok (.tup [.str "roll",.int x1,.int x2]) M2:=RC (by simp) (by simp)
     refine⟨M2,?_,g1.trans g2⟩
     have p2:gK [some (.ref r),some (.ref y)] M1= .ret (.tup [.str "roll",.int x1,.int x2]) M2:=by
      simp only[gK]
      simp[ln3,i0,hr,i1,i2,R1.me (m:= "both_sets") rfl,e2,e3]
     simp only[fc,fU]
     simp[p1,p2]
   ·simp only[hr,if_false]
    refine⟨M1,pno ?_ ?_,g1⟩
    ·simp only[gK]
     simp[ln3,i0,hr]
    ·simp only[eG]
     simp[ln3]
  ·obtain⟨a,b,c,d,tl,rfl⟩:∃a b c d tl,us=a::b::c::d::tl:=by
    match us,hs3,hl3 with
    | [],h,_=>exact absurd (by simp) h
    | [_],h,_=>exact absurd (by simp) h
    | [_,_],h,_=>exact absurd (by simp) h
    | [_,_,_],_,h=>exact absurd rfl h
    | a::b::c::d::tl,_,_=>exact⟨a,b,c,d,tl,rfl⟩
   have n3:¬(L=3):=by rw[hL];simp;omega
   have n4:(3:Int)<L:=by rw[hL];simp;omega
   have i0:bJ (.ref y) (.int 0) M1= .ok (.str (aZ a)) M1:=pJ y1 (j:=0) rfl rfl
   by_cases hr:aZ a= "ask"
   ·simp only[hr,if_true]
    have i1:bJ (.ref y) (.int 1) M1= .ok (.str (aZ b)) M1:=pJ y1 (j:=1) rfl rfl
    have hb:=Di R1 (w:=b) (hu b (by simp))
    cases eb:num b with
    | none=>
     rw[eb]at hb
     obtain⟨M2,e2,g2⟩:=hb
     refine⟨M2,p3x n3 M2 ?_,g1.trans g2⟩
     simp only[eG]
     simp[ln,n4,i0,hr,i1,R1.me (m:= "whole") rfl,e2]
    | some x1=>
     rw[eb]at hb
     obtain⟨M2,e2,g2⟩:=hb
     have R2:=R1.gr g2
     have i2:bJ (.ref y) (.int 2) M2= .ok (.str (aZ c)) M2:=pJ (g2 _ _ y1) (j:=2) rfl rfl
     have hcx:=Di R2 (w:=c) (hu c (by simp))
     cases ec:num c with
     | none=>
      rw[ec]at hcx
      obtain⟨M3,e3,g3⟩:=hcx
      refine⟨M3,p3x n3 M3 ?_,(g1.trans g2).trans g3⟩
      simp only[eG]
      simp[ln,n4,i0,hr,i1,R1.me (m:= "whole") rfl,e2,i2,R2.me (m:= "whole") rfl,e3]
     | some x2=>
      rw[ec]at hcx
      obtain⟨M3,e3,g3⟩:=hcx
      have R3:=R2.gr g3
      have s3:Fp (.ref y) (some 3) none M3= .ok (.ref M3.length) (M3++[.lst (ts (d::tl))]):=by
       rw[xK (g3 _ _ (g2 _ _ y1))]
       have:cut (ts (a::b::c::d::tl)) (some 3) none=ts (d::tl):=alm
       rw[this]
      obtain⟨M4,K1⟩:∃M4,M4=M3++[MO.lst (ts (d::tl))]:=⟨_,rfl⟩
      have h4:M4[M3.length]? = some (.lst (ts (d::tl))):=by rw[K1];exact aO
      have g4:Gr M3 M4:=by rw[K1];exact Gr.app
      rw[←K1]at s3
      have ho:=acR (R3.gr g4) (us:=d::tl) (fun u hm=>hu u (by simp at hm ⊢;exact .inr (.inr (.inr hm)))) (by simp) (by simp at adv ⊢;omega) h4
      cases eo:orderV (d::tl)with
      | none=>
       rw[eo]at ho
       obtain⟨M5,e5,g5⟩:=ho
       refine⟨M5,p3x n3 M5 ?_,(((g1.trans g2).trans g3).trans g4).trans g5⟩
       simp only[eG]
       simp[ln,n4,i0,hr,i1,R1.me (m:= "whole") rfl,e2,i2,R2.me (m:= "whole") rfl,e3,s3,e5]
      | some v=>
       rw[eo]at ho
       obtain⟨M5,e5,g5⟩:=ho
       refine⟨M5,p3r n3 _ M5 ?_,(((g1.trans g2).trans g3).trans g4).trans g5⟩
       simp only[eG]
       simp[ln,n4,i0,hr,i1,R1.me (m:= "whole") rfl,e2,i2,R2.me (m:= "whole") rfl,e3,s3,e5]
   ·simp only[hr,if_false]
    refine⟨M1,pno (p2n n3) ?_,g1⟩
    simp only[eG]
    simp[ln,n4,i0,hr]
end
theorem YZ{r q:Nat}{M M':Mem}{o:MO}(hq:q=M.length)(c:Ch (fun j=>j=r∨j=q) (M++[o]) M'):Ch (· = r) M M':=
 ⟨Nat.le_trans (by simp) c.1,fun j x nj h=>c.2 j x (fun z=>by have:=sW h;rcases z with z | z;exact nj z;omega) (Gr.app _ _ h)⟩
section
variable{M:Mem}{r l i:Nat}{cH:List (List (List Nat))}{w0 w1 w2 w3 v:List Nat}{tl us:List (List Nat)}
def Vs(a:List Nat)(us:List (List Nat)):Option D:=(qY us).bind fun v=>(yg a).map fun n=> .tup [.int n,v]
end
theorem ara{α:Type}{l:List α}(h:l.length=2):∃a b,l=[a,b]:=by
 match l,h with
 | [a,b],_=>exact⟨a,b,rfl⟩
theorem ajW{α:Type}{l:List α}(h:l.length=3):∃a b c,l=[a,b,c]:=by
 match l,h with
 | [a,b,c],_=>exact⟨a,b,c,rfl⟩
theorem aq_{α:Type}{l:List α}(h:l.length=4):∃a b c d,l=[a,b,c,d]:=by
 match l,h with
 | [a,b,c,d],_=>exact⟨a,b,c,d,rfl⟩
theorem aq9{α:Type}{l:List α}(h:l.length=5):∃a b c d e,l=[a,b,c,d,e]:=by
 match l,h with
 | [a,b,c,d,e],_=>exact⟨a,b,c,d,e,rfl⟩
def zV(done:List (List Nat×Int))(a:List Nat):Bool:=match done.getLast? with
 | none=>false
 | some p=> !decide (p.1<a)
def vZ(done:List (List Nat×Int))(ws:List (List Nat)):Option (List Nat×Int):=match ws with
 | [_,a,b]=>if nU a=true then(num b).bind fun n=>if n=0∨zV done a=true then none else some (a,n)else none
 | _=>none
theorem Vb{a:List Nat}:zV [] a=false:=rfl
theorem Ir{m:List (List Nat×Int)}{p:List Nat×Int}{a:List Nat}:zV (m++[p]) a= !decide (p.1<a):=by
 unfold zV
 simp
theorem Ov{M:Mem}{r q x l:Nat}{k:Int}{rows:List Str}{done:List (List Nat×Int)}(R:cZ M r l rows k)(hq:M[q]? = some (.lst (done.map Q3)))(w:List Nat)(n:Int):
  uV [some (.ref r),some (.ref q),some (.ref x),some (.tup [.str (aZ w),.int n])] M=if n=0∨zV done w=true then .exc 2 (.int k) [some (.ref r),some (.ref q),some (.ref x),some (.tup [.str (aZ w),.int n])] M else .next [some (.ref r),some (.ref q),some (.ref x),some (.tup [.str (aZ w),.int n])] M:=by
 simp only[uV]
 by_cases h0:n=0
 ·rw[if_pos (.inl h0)]
  simp[h0,R.fh]
 ·by_cases hd:done=[]
  ·subst hd
   rw[if_neg (fun z=>z.elim h0 (by rw[Vb];exact fun y=>nomatch y))]
   simp[h0,jN hq]
  ·obtain⟨m,a,rfl⟩:=Nj done hd
   have e1:bJ (.ref q) (.int (-1)) M= .ok (Q3 a) M:=Kd hq (k:=m.length) (by simp) (by simp)
   have e2:sLe (.str (aZ w)) (.str (aZ a.1)) M= .ok (.bl (!decide (a.1<w))) M:=by
    rw[aiA]
    simp only[bH]
   have e3:j0 [.ref q] M= .ok (.int ((m.length:Int)+1)) M:=by rw[jN hq];simp
   have h3:(0:Int)<(m.length:Int)+1:=by omega
   rw[Ir]
   cases z:decide (a.1<w)with
   | true=>rw[z]at e2;simp[h0,e3,h3,e1,Q3,e2]
   | false=>rw[z]at e2;simp[h0,e3,h3,e1,Q3,e2,R.fh]
section
variable{M:Mem}{r l q i:Nat}{cH:List (List (List Nat))}{ws:List (List Nat)}
theorem JM(R:cZ M r l (cH.map dw) ((i:Int)+1))(h:cH[i]? = some ws)(hw:qW ws){b:Str}(hb:(ws.map aZ).head? = some b)(n:Int)(hn:(ws.length:Int)≠n):∃M1,aR [.ref r,.str b,.int n] M= .exc 2 (.int ((i:Int)+1)) M1∧Gr M M1:=by
 obtain⟨x,M1,e1,h1,g1⟩:=Hf R rfl h hw
 cases ws with
 | nil=>exact absurd rfl hw.1
 | cons w tl=>
  have hb':aZ w=b:=by simpa using hb
  have e2:bJ (.ref x) (.int 0) M1= .ok (.str (aZ w)) M1:=pJ h1 (j:=0) rfl rfl
  have e3:j0 [.ref x] M1= .ok (.int ((tl.length:Int)+1)) M1:=by rw[jN h1];simp[ts]
  have hn':¬((tl.length:Int)+1=n):=fun z=>hn (by simpa using z)
  refine⟨M1,?_,g1⟩
  simp only[aR,a_,fM]
  simp[R.me (m:= "words") rfl,e1,e2,e3,hb',hn',(R.gr g1).fh]
theorem Rc{done:List (List Nat×Int)}{y2 y3:Option D}(R:cZ M r l (cH.map dw) ((i:Int)+1))(h:cH[i]? = some ws)(hw:qW ws)(hb:(ws.map aZ).head? = some ("value" : Str))(hq:M[q]? = some (.lst (done.map Q3)))(hd:done.length<1000)(SM:q≠r)(hql:q≠l):
  match vZ done ws with
  | some p=>∃a b M',cu [some (.ref r),some (.ref q),y2,y3] M= .next [some (.ref r),some (.ref q),a,b] M'∧cZ M' r l (cH.map dw) ((i:Int)+1+1)∧M'[q]? = some (.lst ((done++[p]).map Q3))∧Ch (fun j=>j=r∨j=q) M M'
  | none=>∃en M',cu [some (.ref r),some (.ref q),y2,y3] M= .exc 2 (.int ((i:Int)+1)) en M'∧Ch (fun j=>j=r∨j=q) M M':=by
 by_cases hl3:ws.length=3
 ·obtain⟨w0,w1,w2,rfl⟩:=ajW hl3
  have h0:aZ w0= "value" := by simpa using hb
  obtain⟨x,M1,e1,h1,g1⟩:=rD R rfl h hw h0 (n:=3) rfl
  have R1:=R.gr g1
  have i1:bJ (.ref x) (.int 1) M1= .ok (.str (aZ w1)) M1:=pJ h1 (j:=1) rfl rfl
  have hx1:=aep R1 (w:=w1) (hw.2.2 w1 (by simp)).2.2
  simp only[vZ]
  cases ea:nU w1 with
  | false=>
   simp only[L_,ea,Bool.false_eq_true,if_false]at hx1 ⊢
   obtain⟨M2,e2,g2⟩:=hx1
   refine⟨[some (.ref r),some (.ref q),some (.ref x),y3],M2,?_,(g1.trans g2).ch⟩
   simp only[cu]
   simp[R.me (m:= "words_of") rfl,e1,i1,R1.me (m:= "name") rfl,e2]
  | true=>
   simp only[L_,ea,if_true]at hx1 ⊢
   obtain⟨M2,e2,g2⟩:=hx1
   have R2:=R1.gr g2
   have i2:bJ (.ref x) (.int 2) M2= .ok (.str (aZ w2)) M2:=pJ (g2 _ _ h1) (j:=2) rfl rfl
   have hx2:=Di R2 (w:=w2) (hw.2.2 w2 (by simp)).2.2
   cases eb:num w2 with
   | none=>
    rw[eb]at hx2
    obtain⟨M3,e3,g3⟩:=hx2
    refine⟨[some (.ref r),some (.ref q),some (.ref x),y3],M3,?_,((g1.trans g2).trans g3).ch⟩
    simp only[cu]
    simp[R.me (m:= "words_of") rfl,e1,i1,R1.me (m:= "name") rfl,e2,i2,R2.me (m:= "whole") rfl,e3]
   | some n=>
    rw[eb]at hx2
    obtain⟨M3,e3,g3⟩:=hx2
    have R3:=R2.gr g3
    have q3:=g3 _ _ (g2 _ _ (g1 _ _ hq))
    have ck:=Ov (x:=x) R3 q3 w1 n
    by_cases hz:n=0∨zV done w1=true
    ·rw[if_pos hz]at ck
     simp only[Option.bind_some,if_pos hz]
     refine⟨[some (.ref r),some (.ref q),some (.ref x),some (.tup [.str (aZ w1),.int n])],M3,?_,((g1.trans g2).trans g3).ch⟩
     simp only[cu]
     simp[R.me (m:= "words_of") rfl,e1,i1,R1.me (m:= "name") rfl,e2,i2,R2.me (m:= "whole") rfl,e3,ck]
    ·rw[if_neg hz]at ck
     simp only[Option.bind_some,if_neg hz]
     have e4:=lC (d:= .tup [.str (aZ w1),.int n]) q3 (by rw[List.length_map];omega)
     obtain⟨M4,K1⟩:∃M4,M4=M3.set q (.lst (done.map Q3++[.tup [.str (aZ w1),.int n]])):=⟨_,rfl⟩
     have R4:cZ M4 r l (cH.map dw) ((i:Int)+1):=by
      have c:Ch (· = q) M3 M4:=by rw[K1];exact Ch.set rfl
      exact R3.ch c (Ne.symm SM) (Ne.symm hql)
     have q4:M4[q]? = some (.lst ((done++[(w1,n)]).map Q3)):=by rw[K1,get_set q3];simp[Q3]
     have c4:Ch (fun j=>j=r∨j=q) M3 M4:=by rw[K1];exact Ch.set (.inr rfl)
     obtain⟨M5,e5,R5,c5,_⟩:=Cw R4
     refine⟨some (.ref x),some (.tup [.str (aZ w1),.int n]),M5,?_,R5,c5.2 _ _ SM q4,((g1.trans g2).trans g3).ch.trans (c4.trans (c5.mono fun j _ z=> .inl z))⟩
     simp only[cu]
     rw[←K1]at e4
     simp[R.me (m:= "words_of") rfl,e1,i1,R1.me (m:= "name") rfl,e2,i2,R2.me (m:= "whole") rfl,e3,ck,ue q3,e4,R4.me (m:= "go_on") rfl,e5]
 ·have hv:vZ done ws=none:=by
   match ws,hl3 with
   | [],_=>rfl
   | [_],_=>rfl
   | [_,_],_=>rfl
   | [_,_,_],z=>exact absurd rfl z
   | _::_::_::_::_,_=>rfl
  rw[hv]
  obtain⟨M1,e1,g1⟩:=JM R h hw hb 3 (by omega)
  refine⟨[some (.ref r),some (.ref q),y2,y3],M1,?_,g1.ch⟩
  simp only[cu]
  simp[R.me (m:= "words_of") rfl,e1]
end
def Mt:List (List Nat×Int)→List (List (List Nat))→Nat→Except Nat (List (List Nat×Int)×Nat)
 | _,[],i=> .error (i+1)
 | done,ws::rest,i=>if(ws.map aZ).head? = some ("value" : Str)then match vZ done ws with
  | some v=>Mt (done++[v]) rest (i+1)
  | none=> .error (i+1)
  else .ok (done,i)
theorem V6{r l q:Nat}{cH:List (List (List Nat))}(hW:∀ws∈cH,qW ws)(SM:q≠r)(hql:q≠l):∀(rest:List (List (List Nat))) (done:List (List Nat×Int)) (i:Nat) (M:Mem) (y2 y3:Option D),cZ M r l (cH.map dw) ((i:Int)+1)→M[q]? = some (.lst (done.map Q3))→cH.drop i=rest→i≤cH.length→done.length+rest.length<1000→
  match Mt done rest i with
  | .ok (vs,j)=>∃M' a b,xr cL cu (rest.length+1) [some (.ref r),some (.ref q),y2,y3] M= .next [some (.ref r),some (.ref q),a,b] M'∧cZ M' r l (cH.map dw) ((j:Int)+1)∧M'[q]? = some (.lst (vs.map Q3))∧Ch (fun j=>j=r∨j=q) M M'
  | .error t=>∃en M',xr cL cu (rest.length+1) [some (.ref r),some (.ref q),y2,y3] M= .exc 2 (.int (t:Int)) en M'∧Ch (fun j=>j=r∨j=q) M M'
 | [],done,i,M,y2,y3,R,hq,hd,hi,_=>by
  have hl:cH.length=i:=by
   have:=congrArg List.length hd
   simp at this
   omega
  refine⟨[some (.ref r),some (.ref q),y2,y3],M,?_,Ch.refl⟩
  have e0:cL [some (.ref r),some (.ref q),y2,y3] M= .exc 2 (.int ((i:Int)+1)) M:=by
   simp only[cL]
   simp[R.me (m:= "begins") rfl,Dd R (by simp;omega)]
  rw[xr,e0]
  simp
 | ws::rest,done,i,M,y2,y3,R,hq,hd,hi,hl=>by
  obtain⟨hw,hd'⟩:=K6 hd
  have hws:=hW ws (List.mem_of_getElem? hw)
  cases ws with
  | nil=>exact absurd rfl hws.1
  | cons w tl=>
   obtain⟨M0,e0,g0⟩:=Fg R rfl hw hws "value"
   have R0:=R.gr g0
   have hlt:i<cH.length:=(List.getElem?_eq_some_iff.mp hw).1
   by_cases hv:aZ w=("value" : Str)
   ·have hb:((w::tl).map aZ).head? = some ("value" : Str):=by simp[hv]
    have ec:cL [some (.ref r),some (.ref q),y2,y3] M= .ok true M0:=by simp only[cL];simp[R.me (m:= "begins") rfl,e0,hv]
    have ht:=Rc (y2:=y2) (y3:=y3) R0 hw hws hb (g0 _ _ hq) (by simp at hl;omega) SM hql
    cases ev:vZ done (w::tl)with
    | none=>
     have S5:Mt done ((w::tl)::rest) i= .error (i+1):=by simp only[Mt,hb,if_true,ev]
     rw[S5]
     rw[ev]at ht
     obtain⟨en,M1,e1,c1⟩:=ht
     refine⟨en,M1,?_,g0.ch.trans c1⟩
     rw[xr,ec]
     simp only[e1]
     simp
    | some p=>
     rw[ev]at ht
     obtain⟨a,b,M1,e1,R1,q1,c1⟩:=ht
     have ih:=V6 hW SM hql rest (done++[p]) (i+1) M1 a b (by simpa using R1) q1 hd' (by omega) (by simp at hl ⊢;omega)
     have step:xr cL cu ((w::tl)::rest).length.succ [some (.ref r),some (.ref q),y2,y3] M=xr cL cu (rest.length+1) [some (.ref r),some (.ref q),a,b] M1:=by
      show xr _ _ (rest.length+1+1) _ _=_
      rw[xr,ec]
      simp only[e1]
     have S5:Mt done ((w::tl)::rest) i=Mt (done++[p]) rest (i+1):=by simp only[Mt,hb,if_true,ev]
     rw[S5]
     cases er:Mt (done++[p]) rest (i+1)with
     | error t=>
      rw[er]at ih
      obtain⟨en,M2,e2,c2⟩:=ih
      exact⟨en,M2,step.trans e2,(g0.ch.trans c1).trans c2⟩
     | ok z=>
      obtain⟨vs,j⟩:=z
      rw[er]at ih
      obtain⟨M2,a',b',e2,R2,q2,c2⟩:=ih
      exact⟨M2,a',b',step.trans e2,R2,q2,(g0.ch.trans c1).trans c2⟩
   ·have hb:¬(((w::tl).map aZ).head? = some ("value" : Str)):=by simp[hv]
    have ec:cL [some (.ref r),some (.ref q),y2,y3] M= .ok false M0:=by simp only[cL];simp[R.me (m:= "begins") rfl,e0,hv]
    have S5:Mt done ((w::tl)::rest) i= .ok (done,i):=by simp only[Mt,hb,if_false]
    rw[S5]
    refine⟨M0,y2,y3,?_,R0,g0 _ _ hq,g0.ch⟩
    show xr _ _ (rest.length+1+1) _ _=_
    rw[xr,ec]
def tY(done:List (List Int))(a:List Int):Bool:=match done.getLast? with
 | none=>false
 | some p=>Lh.Gx (a.take 2) (p.take 2)
def v_(done:List (List Int))(ws:List (List Nat)):Option (List Int):=match ws with
 | [_,a,b,c]=>(pH [a,b,c]).bind fun ns=>if tY done ns=true then none else some ns
 | _=>none
def HX(ns:List Int):D:= .tup (ns.map D.int)
theorem R_{a:List Int}:tY [] a=false:=rfl
theorem vM{m:List (List Int)}{p a:List Int}:tY (m++[p]) a=Lh.Gx (a.take 2) (p.take 2):=by
 unfold tY
 simp
theorem ajC{a b c:List Nat}{ns:List Int}(h:pH [a,b,c]=some ns):∃x y z,ns=[x,y,z]:=by
 simp only[pH]at h
 cases e1:num a with
 | none=>rw[e1]at h;cases h
 | some x=>
  cases e2:num b with
  | none=>rw[e1,e2]at h;cases h
  | some y=>
   cases e3:num c with
   | none=>rw[e1,e2,e3]at h;cases h
   | some z=>rw[e1,e2,e3]at h;cases h;exact⟨x,y,z,rfl⟩
theorem Tu{M:Mem}{r q x l:Nat}{k:Int}{rows:List Str}{done:List (List Int)}(R:cZ M r l rows k)(hq:M[q]? = some (.lst (done.map HX)))(h3:∀p∈done,∃a b c,p=[a,b,c])(a b c:Int):
  tL [some (.ref r),some (.ref q),some (.ref x),some (.tup [.int a,.int b,.int c])] M=if tY done [a,b,c]=true then .exc 2 (.int k) [some (.ref r),some (.ref q),some (.ref x),some (.tup [.int a,.int b,.int c])] M else .next [some (.ref r),some (.ref q),some (.ref x),some (.tup [.int a,.int b,.int c])] M:=by
 simp only[tL]
 by_cases hd:done=[]
 ·subst hd
  rw[if_neg (by rw[R_];exact fun y=>nomatch y)]
  simp[jN hq]
 ·obtain⟨m,p,rfl⟩:=Nj done hd
  obtain⟨x1,x2,x3,rfl⟩:=h3 p (by simp)
  have e1:bJ (.ref q) (.int (-1)) M= .ok (.tup [.int x1,.int x2,.int x3]) M:=Kd hq (k:=m.length) (by simp) (by simp[HX])
  have e2:sLe (.tup [.int a,.int b]) (.tup [.int x1,.int x2]) M= .ok (.bl (Lh.Gx [a,b] [x1,x2])) M:=aiz (is:=[a,b]) (js:=[x1,x2]) rfl rfl
  have e3:j0 [.ref q] M= .ok (.int ((m.length:Int)+1)) M:=by rw[jN hq];simp
  have h3:(0:Int)<(m.length:Int)+1:=by omega
  rw[vM]
  show _=if Lh.Gx [a,b] [x1,x2]=true then _ else _
  cases z:Lh.Gx [a,b] [x1,x2]with
  | true=>rw[z]at e2;simp[e3,h3,e1,Z9,e2,R.fh]
  | false=>rw[z]at e2;simp[e3,h3,e1,Z9,e2]
section
variable{M:Mem}{r l q i:Nat}{cH:List (List (List Nat))}{ws:List (List Nat)}
theorem VF{done:List (List Int)}{y2 y3:Option D}(R:cZ M r l (cH.map dw) ((i:Int)+1))(h:cH[i]? = some ws)(hw:qW ws)(hb:(ws.map aZ).head? = some ("answer" : Str))(hq:M[q]? = some (.lst (done.map HX)))(h3:∀p∈done,∃a b c,p=[a,b,c])(hd:done.length<1000)(SM:q≠r)(hql:q≠l):
  match v_ done ws with
  | some p=>(∃a b c,p=[a,b,c])∧∃a b M',cz [some (.ref r),some (.ref q),y2,y3] M= .next [some (.ref r),some (.ref q),a,b] M'∧cZ M' r l (cH.map dw) ((i:Int)+1+1)∧M'[q]? = some (.lst ((done++[p]).map HX))∧Ch (fun j=>j=r∨j=q) M M'
  | none=>∃en M',cz [some (.ref r),some (.ref q),y2,y3] M= .exc 2 (.int ((i:Int)+1)) en M'∧Ch (fun j=>j=r∨j=q) M M':=by
 by_cases hl4:ws.length=4
 ·obtain⟨w0,w1,w2,w3,rfl⟩:=aq_ hl4
  have h0:aZ w0= "answer" := by simpa using hb
  obtain⟨x,M1,e1,h1,g1⟩:=rD R rfl h hw h0 (n:=4) rfl
  have R1:=R.gr g1
  have s1:Fp (.ref x) (some 1) none M1= .ok (.ref M1.length) (M1++[.lst (ts [w1,w2,w3])]):=by
   rw[xK h1]
   have:cut (ts [w0,w1,w2,w3]) (some 1) none=ts [w1,w2,w3]:=aln
   rw[this]
  obtain⟨M2,tQ⟩:∃M2,M2=M1++[MO.lst (ts [w1,w2,w3])]:=⟨_,rfl⟩
  have h2:M2[M1.length]? = some (.lst (ts [w1,w2,w3])):=by rw[tQ];exact aO
  have g2:Gr M1 M2:=by rw[tQ];exact Gr.app
  rw[←tQ]at s1
  have R2:=R1.gr g2
  have ecp:Ff [0] [some (D.ref r),some (.ref q),some (.ref x),y3]=[some (.ref r)]:=rfl
  have hx:=aaS R2 (us:=[w1,w2,w3]) (fun u hu=>(hw.2.2 u (by simp at hu ⊢;exact .inr hu)).2.2) h2
  simp only[v_]
  cases ea:pH [w1,w2,w3]with
  | none=>
   rw[ea]at hx
   obtain⟨M3,e3,g3⟩:=hx
   refine⟨[some (.ref r),some (.ref q),some (.ref x),y3],M3,?_,((g1.trans g2).trans g3).ch⟩
   simp only[cz]
   simp[R.me (m:= "words_of") rfl,e1,s1,uy h2,ecp,e3]
  | some ns=>
   rw[ea]at hx
   obtain⟨a,b,c,rfl⟩:=ajC ea
   obtain⟨z,M3,e3,h3',g3⟩:=hx
   have R3:=R2.gr g3
   have q3:=g3 _ _ (g2 _ _ (g1 _ _ hq))
   have et:yc [.ref z] M3= .ok (.tup [.int a,.int b,.int c]) M3:=zH h3'
   have ck:=Tu (x:=x) R3 q3 h3 a b c
   by_cases hz:tY done [a,b,c]=true
   ·rw[if_pos hz]at ck
    simp only[Option.bind_some,if_pos hz]
    refine⟨[some (.ref r),some (.ref q),some (.ref x),some (.tup [.int a,.int b,.int c])],M3,?_,((g1.trans g2).trans g3).ch⟩
    simp only[cz]
    simp[R.me (m:= "words_of") rfl,e1,s1,uy h2,ecp,e3,et,ck]
   ·rw[if_neg hz]at ck
    simp only[Option.bind_some,if_neg hz]
    have e4:=lC (d:= .tup [.int a,.int b,.int c]) q3 (by rw[List.length_map];omega)
    obtain⟨M4,K1⟩:∃M4,M4=M3.set q (.lst (done.map HX++[.tup [.int a,.int b,.int c]])):=⟨_,rfl⟩
    have R4:cZ M4 r l (cH.map dw) ((i:Int)+1):=by
     have c:Ch (· = q) M3 M4:=by rw[K1];exact Ch.set rfl
     exact R3.ch c (Ne.symm SM) (Ne.symm hql)
    have q4:M4[q]? = some (.lst ((done++[[a,b,c]]).map HX)):=by rw[K1,get_set q3];simp[HX]
    have c4:Ch (fun j=>j=r∨j=q) M3 M4:=by rw[K1];exact Ch.set (.inr rfl)
    obtain⟨M5,e5,R5,c5,_⟩:=Cw R4
    refine⟨⟨a,b,c,rfl⟩,some (.ref x),some (.tup [.int a,.int b,.int c]),M5,?_,R5,c5.2 _ _ SM q4,((g1.trans g2).trans g3).ch.trans (c4.trans (c5.mono fun j _ z=> .inl z))⟩
    simp only[cz]
    rw[←K1]at e4
    simp[R.me (m:= "words_of") rfl,e1,s1,uy h2,ecp,e3,et,ck,ue q3,e4,R4.me (m:= "go_on") rfl,e5]
 ·have hv:v_ done ws=none:=by
   match ws,hl4 with
   | [],_=>rfl
   | [_],_=>rfl
   | [_,_],_=>rfl
   | [_,_,_],_=>rfl
   | [_,_,_,_],z=>exact absurd rfl z
   | _::_::_::_::_::_,_=>rfl
  rw[hv]
  obtain⟨M1,e1,g1⟩:=JM R h hw hb 4 (by omega)
  refine⟨[some (.ref r),some (.ref q),y2,y3],M1,?_,g1.ch⟩
  simp only[cz]
  simp[R.me (m:= "words_of") rfl,e1]
def lg(ws:List (List Nat)):Option D:=match ws with
 | _::a::us=>Vs a us
 | _=>none
theorem Vr{done:List D}{y2 y3:Option D}(R:cZ M r l (cH.map dw) ((i:Int)+1))(h:cH[i]? = some ws)(hw:qW ws)(hq:M[q]? = some (.lst done))(hd:done.length<1000)(SM:q≠r)(hql:q≠l):
  match lg ws with
  | some p=>∃a b M',cQ [some (.ref r),some (.ref q),y2,y3] M= .next [some (.ref r),some (.ref q),a,b] M'∧cZ M' r l (cH.map dw) ((i:Int)+1+1)∧M'[q]? = some (.lst (done++[p]))∧Ch (fun j=>j=r∨j=q) M M'
  | none=>∃en M',cQ [some (.ref r),some (.ref q),y2,y3] M= .exc 2 (.int ((i:Int)+1)) en M'∧Ch (fun j=>j=r∨j=q) M M':=by
 obtain⟨x,M1,e1,h1,g1⟩:=Hf R rfl h hw
 have R1:=R.gr g1
 have arJ:cut (ts ws) (some 2) none=ts (ws.drop 2):=by
  match ws with
  | []=>exact absurd rfl hw.1
  | [a]=>rfl
  | [a,b]=>rfl
  | a::b::c::tl=>exact aeD
 have s1:Fp (.ref x) (some 2) none M1= .ok (.ref M1.length) (M1++[.lst (ts (ws.drop 2))]):=by rw[xK h1,arJ]
 obtain⟨M2,tQ⟩:∃M2,M2=M1++[MO.lst (ts (ws.drop 2))]:=⟨_,rfl⟩
 have h2:M2[M1.length]? = some (.lst (ts (ws.drop 2))):=by rw[tQ];exact aO
 have g2:Gr M1 M2:=by rw[tQ];exact Gr.app
 rw[←tQ]at s1
 have R2:=R1.gr g2
 have hx:=aeO R2 (us:=ws.drop 2) (fun u hu=>(hw.2.2 u (List.mem_of_mem_drop hu)).2.2) (by have:=hw.2.1;simp;omega) h2
 cases ea:qY (ws.drop 2)with
 | none=>
  have hv:lg ws=none:=by
   match ws with
   | []=>rfl
   | [_]=>rfl
   | a::b::us=>
    have:qY us=none:=by simpa using ea
    simp[lg,Vs,this]
  rw[hv]
  rw[ea]at hx
  obtain⟨M3,e3,g3⟩:=hx
  refine⟨[some (.ref r),some (.ref q),some (.ref x),y3],M3,?_,((g1.trans g2).trans g3).ch⟩
  simp only[cQ]
  simp[R.me (m:= "words") rfl,e1,s1,e3]
 | some d=>
  match ws with
  | []=>exact absurd rfl hw.1
  | [_]=>exact absurd ea (by simp[qY])
  | a::w1::us=>
   have ea':qY us=some d:=by simpa using ea
   rw[ea]at hx
   obtain⟨M3,e3,g3⟩:=hx
   have R3:=R2.gr g3
   have g03:=(g1.trans g2).trans g3
   have i1:bJ (.ref x) (.int 1) M3= .ok (.str (aZ w1)) M3:=pJ (g3 _ _ (g2 _ _ h1)) (j:=1) rfl rfl
   have t3:I_ "list" (.ref q) M3=true:=ue (g03 _ _ hq)
   have hx4:=pO R3 (w:=w1) (hw.2.2 w1 (by simp)).2.2
   simp only[lg,Vs,ea',Option.bind_some]
   cases eb2:yg w1 with
   | none=>
    rw[eb2]at hx4
    obtain⟨M4,e4,g4⟩:=hx4
    refine⟨[some (.ref r),some (.ref q),some (.ref x),some d],M4,?_,(g03.trans g4).ch⟩
    simp only[cQ]
    simp[R.me (m:= "words") rfl,e1,s1,e3,i1,R3.me (m:= "from_nought") rfl,e4,t3]
   | some n=>
    rw[eb2]at hx4
    obtain⟨M4,e4,g4⟩:=hx4
    have R4:=R3.gr g4
    have q4:=g4 _ _ (g03 _ _ hq)
    have e5:=lC (d:= .tup [.int n,d]) q4 (by omega)
    obtain⟨M5,T9⟩:∃M5,M5=M4.set q (.lst (done++[.tup [.int n,d]])):=⟨_,rfl⟩
    rw[←T9]at e5
    have q5:M5[q]? = some (.lst (done++[.tup [.int n,d]])):=by rw[T9];exact get_set q4
    have c5:Ch (fun j=>j=r∨j=q) M4 M5:=by rw[T9];exact Ch.set (.inr rfl)
    have R5:cZ M5 r l (cH.map dw) ((i:Int)+1):=by
     have c:Ch (· = q) M4 M5:=by rw[T9];exact Ch.set rfl
     exact R4.ch c (Ne.symm SM) (Ne.symm hql)
    obtain⟨M6,e6,R6,c6,_⟩:=Cw R5
    refine⟨some (.ref x),some d,M6,?_,R6,c6.2 _ _ SM q5,(g03.trans g4).ch.trans (c5.trans (c6.mono fun j _ z=> .inl z))⟩
    simp only[cQ]
    simp[R.me (m:= "words") rfl,e1,s1,e3,i1,R3.me (m:= "from_nought") rfl,e4,t3,e5,R5.me (m:= "go_on") rfl,e6]
end
def N5:List (List Int)→List (List (List Nat))→Nat→Except Nat (List (List Int)×Nat)
 | _,[],i=> .error (i+1)
 | done,ws::rest,i=>if(ws.map aZ).head? = some ("answer" : Str)then match v_ done ws with
  | some v=>N5 (done++[v]) rest (i+1)
  | none=> .error (i+1)
  else .ok (done,i)
theorem abO{r l q:Nat}{cH:List (List (List Nat))}(hW:∀ws∈cH,qW ws)(SM:q≠r)(hql:q≠l):∀(rest:List (List (List Nat))) (done:List (List Int)) (i:Nat) (M:Mem) (y2 y3:Option D),cZ M r l (cH.map dw) ((i:Int)+1)→M[q]? = some (.lst (done.map HX))→cH.drop i=rest→i≤cH.length→done.length+rest.length<1000→(∀p∈done,∃a b c,p=[a,b,c])→
  match N5 done rest i with
  | .ok (vs,j)=>∃M' a b,xr cC cz (rest.length+1) [some (.ref r),some (.ref q),y2,y3] M= .next [some (.ref r),some (.ref q),a,b] M'∧cZ M' r l (cH.map dw) ((j:Int)+1)∧M'[q]? = some (.lst (vs.map HX))∧Ch (fun j=>j=r∨j=q) M M'
  | .error t=>∃en M',xr cC cz (rest.length+1) [some (.ref r),some (.ref q),y2,y3] M= .exc 2 (.int (t:Int)) en M'∧Ch (fun j=>j=r∨j=q) M M'
 | [],done,i,M,y2,y3,R,hq,hd,hi,_,_=>by
  have hl:cH.length=i:=by
   have:=congrArg List.length hd
   simp at this
   omega
  refine⟨[some (.ref r),some (.ref q),y2,y3],M,?_,Ch.refl⟩
  have e0:cC [some (.ref r),some (.ref q),y2,y3] M= .exc 2 (.int ((i:Int)+1)) M:=by
   simp only[cC]
   simp[R.me (m:= "begins") rfl,Dd R (by simp;omega)]
  rw[xr,e0]
  simp
 | ws::rest,done,i,M,y2,y3,R,hq,hd,hi,hl,h3=>by
  obtain⟨hw,hd'⟩:=K6 hd
  have hws:=hW ws (List.mem_of_getElem? hw)
  cases ws with
  | nil=>exact absurd rfl hws.1
  | cons w tl=>
   obtain⟨M0,e0,g0⟩:=Fg R rfl hw hws "answer"
   have R0:=R.gr g0
   have hlt:i<cH.length:=(List.getElem?_eq_some_iff.mp hw).1
   by_cases hv:aZ w=("answer" : Str)
   ·have hb:((w::tl).map aZ).head? = some ("answer" : Str):=by simp[hv]
    have ec:cC [some (.ref r),some (.ref q),y2,y3] M= .ok true M0:=by simp only[cC];simp[R.me (m:= "begins") rfl,e0,hv]
    have ht:=VF (y2:=y2) (y3:=y3) R0 hw hws hb (g0 _ _ hq) h3 (by simp at hl;omega) SM hql
    cases ev:v_ done (w::tl)with
    | none=>
     have S5:N5 done ((w::tl)::rest) i= .error (i+1):=by simp only[N5,hb,if_true,ev]
     rw[S5]
     rw[ev]at ht
     obtain⟨en,M1,e1,c1⟩:=ht
     refine⟨en,M1,?_,g0.ch.trans c1⟩
     rw[xr,ec]
     simp only[e1]
     simp
    | some p=>
     rw[ev]at ht
     obtain⟨hp,a,b,M1,e1,R1,q1,c1⟩:=ht
     have ih:=abO hW SM hql rest (done++[p]) (i+1) M1 a b (by simpa using R1) q1 hd' (by omega) (by simp at hl ⊢;omega) (fun z hz=>by
      rcases List.mem_append.mp hz with q | q
      ·exact h3 z q
      ·rw[List.mem_singleton.mp q];exact hp)
     have step:xr cC cz ((w::tl)::rest).length.succ [some (.ref r),some (.ref q),y2,y3] M=xr cC cz (rest.length+1) [some (.ref r),some (.ref q),a,b] M1:=by
      show xr _ _ (rest.length+1+1) _ _=_
      rw[xr,ec]
      simp only[e1]
     have S5:N5 done ((w::tl)::rest) i=N5 (done++[p]) rest (i+1):=by simp only[N5,hb,if_true,ev]
     rw[S5]
     cases er:N5 (done++[p]) rest (i+1)with
     | error t=>
      rw[er]at ih
      obtain⟨en,M2,e2,c2⟩:=ih
      exact⟨en,M2,step.trans e2,(g0.ch.trans c1).trans c2⟩
     | ok z=>
      obtain⟨vs,j⟩:=z
      rw[er]at ih
      obtain⟨M2,a',b',e2,R2,q2,c2⟩:=ih
      exact⟨M2,a',b',step.trans e2,R2,q2,(g0.ch.trans c1).trans c2⟩
   ·have hb:¬(((w::tl).map aZ).head? = some ("answer" : Str)):=by simp[hv]
    have ec:cC [some (.ref r),some (.ref q),y2,y3] M= .ok false M0:=by simp only[cC];simp[R.me (m:= "begins") rfl,e0,hv]
    have S5:N5 done ((w::tl)::rest) i= .ok (done,i):=by simp only[N5,hb,if_false]
    rw[S5]
    refine⟨M0,y2,y3,?_,R0,g0 _ _ hq,g0.ch⟩
    show xr _ _ (rest.length+1+1) _ _=_
    rw[xr,ec]
def Nx:List D→List (List (List Nat))→Nat→Except Nat (List D×Nat)
 | _,[],i=> .error (i+1)
 | done,ws::rest,i=>if(ws.map aZ).head? = some ("at" : Str)then match lg ws with
  | some v=>Nx (done++[v]) rest (i+1)
  | none=> .error (i+1)
  else .ok (done,i)
theorem abB{r l q:Nat}{cH:List (List (List Nat))}(hW:∀ws∈cH,qW ws)(SM:q≠r)(hql:q≠l):∀(rest:List (List (List Nat))) (done:List D) (i:Nat) (M:Mem) (y2 y3:Option D),cZ M r l (cH.map dw) ((i:Int)+1)→M[q]? = some (.lst (done))→cH.drop i=rest→i≤cH.length→done.length+rest.length<1000→
  match Nx done rest i with
  | .ok (vs,j)=>∃M' a b,xr cB cQ (rest.length+1) [some (.ref r),some (.ref q),y2,y3] M= .next [some (.ref r),some (.ref q),a,b] M'∧cZ M' r l (cH.map dw) ((j:Int)+1)∧M'[q]? = some (.lst (vs))∧Ch (fun j=>j=r∨j=q) M M'
  | .error t=>∃en M',xr cB cQ (rest.length+1) [some (.ref r),some (.ref q),y2,y3] M= .exc 2 (.int (t:Int)) en M'∧Ch (fun j=>j=r∨j=q) M M'
 | [],done,i,M,y2,y3,R,hq,hd,hi,_=>by
  have hl:cH.length=i:=by
   have:=congrArg List.length hd
   simp at this
   omega
  refine⟨[some (.ref r),some (.ref q),y2,y3],M,?_,Ch.refl⟩
  have e0:cB [some (.ref r),some (.ref q),y2,y3] M= .exc 2 (.int ((i:Int)+1)) M:=by
   simp only[cB]
   simp[R.me (m:= "begins") rfl,Dd R (by simp;omega)]
  rw[xr,e0]
  simp
 | ws::rest,done,i,M,y2,y3,R,hq,hd,hi,hl=>by
  obtain⟨hw,hd'⟩:=K6 hd
  have hws:=hW ws (List.mem_of_getElem? hw)
  cases ws with
  | nil=>exact absurd rfl hws.1
  | cons w tl=>
   obtain⟨M0,e0,g0⟩:=Fg R rfl hw hws "at"
   have R0:=R.gr g0
   have hlt:i<cH.length:=(List.getElem?_eq_some_iff.mp hw).1
   by_cases hv:aZ w=("at" : Str)
   ·have hb:((w::tl).map aZ).head? = some ("at" : Str):=by simp[hv]
    have ec:cB [some (.ref r),some (.ref q),y2,y3] M= .ok true M0:=by simp only[cB];simp[R.me (m:= "begins") rfl,e0,hv]
    have ht:=Vr (y2:=y2) (y3:=y3) R0 hw hws (g0 _ _ hq) (by simp at hl;omega) SM hql
    cases ev:lg (w::tl)with
    | none=>
     have S5:Nx done ((w::tl)::rest) i= .error (i+1):=by simp only[Nx,hb,if_true,ev]
     rw[S5]
     rw[ev]at ht
     obtain⟨en,M1,e1,c1⟩:=ht
     refine⟨en,M1,?_,g0.ch.trans c1⟩
     rw[xr,ec]
     simp only[e1]
     simp
    | some p=>
     rw[ev]at ht
     obtain⟨a,b,M1,e1,R1,q1,c1⟩:=ht
     have ih:=abB hW SM hql rest (done++[p]) (i+1) M1 a b (by simpa using R1) q1 hd' (by omega) (by simp at hl ⊢;omega)
     have step:xr cB cQ ((w::tl)::rest).length.succ [some (.ref r),some (.ref q),y2,y3] M=xr cB cQ (rest.length+1) [some (.ref r),some (.ref q),a,b] M1:=by
      show xr _ _ (rest.length+1+1) _ _=_
      rw[xr,ec]
      simp only[e1]
     have S5:Nx done ((w::tl)::rest) i=Nx (done++[p]) rest (i+1):=by simp only[Nx,hb,if_true,ev]
     rw[S5]
     cases er:Nx (done++[p]) rest (i+1)with
     | error t=>
      rw[er]at ih
      obtain⟨en,M2,e2,c2⟩:=ih
      exact⟨en,M2,step.trans e2,(g0.ch.trans c1).trans c2⟩
     | ok z=>
      obtain⟨vs,j⟩:=z
      rw[er]at ih
      obtain⟨M2,a',b',e2,R2,q2,c2⟩:=ih
      exact⟨M2,a',b',step.trans e2,R2,q2,(g0.ch.trans c1).trans c2⟩
   ·have hb:¬(((w::tl).map aZ).head? = some ("at" : Str)):=by simp[hv]
    have ec:cB [some (.ref r),some (.ref q),y2,y3] M= .ok false M0:=by simp only[cB];simp[R.me (m:= "begins") rfl,e0,hv]
    have S5:Nx done ((w::tl)::rest) i= .ok (done,i):=by simp only[Nx,hb,if_false]
    rw[S5]
    refine⟨M0,y2,y3,?_,R0,g0 _ _ hq,g0.ch⟩
    show xr _ _ (rest.length+1+1) _ _=_
    rw[xr,ec]
section
variable{M:Mem}{r l i:Nat}{cH:List (List (List Nat))}
theorem Zz(hW:∀ws∈cH,qW ws)(hn:cH.length<900)(R:cZ M r l (cH.map dw) ((i:Int)+1))(hi:i≤cH.length):
  match Mt [] (cH.drop i) i with
  | .ok (vs,j)=>∃M',j5 [.ref r] M= .ok (.tup (vs.map Q3)) M'∧cZ M' r l (cH.map dw) ((j:Int)+1)∧Ch (· = r) M M'
  | .error t=>∃M',j5 [.ref r] M= .exc 2 (.int (t:Int)) M'∧Ch (· = r) M M':=by
 have hr:=sW R.o
 have hll:=sW R.k
 have R0:cZ (M++[.lst []]) r l (cH.map dw) ((i:Int)+1):=R.gr Gr.app
 have h:=V6 hW (q:=M.length) (by omega) (by omega) (cH.drop i) [] i (M++[.lst []]) none none R0 (by simp) rfl hi (by simp;omega)
 cases e:Mt [] (cH.drop i) i with
 | error t=>
  rw[e]at h
  obtain⟨en,M',e1,c⟩:=h
  refine⟨M',?_,YZ rfl c⟩
  have ew:=vO e1 (fun z=>nomatch z)
  simp only[j5,iV,uR]
  simp[ew]
 | ok z=>
  obtain⟨vs,j⟩:=z
  rw[e]at h
  obtain⟨M',a,b,e1,R',q',c⟩:=h
  refine⟨M',?_,R',YZ rfl c⟩
  have ew:=vO e1 (fun z=>nomatch z)
  simp only[j5,iV,uR]
  simp[ew,zH q']
theorem ad4(hW:∀ws∈cH,qW ws)(hn:cH.length<900)(R:cZ M r l (cH.map dw) ((i:Int)+1))(hi:i≤cH.length):
  match N5 [] (cH.drop i) i with
  | .ok (vs,j)=>∃M',je [.ref r] M= .ok (.tup (vs.map HX)) M'∧cZ M' r l (cH.map dw) ((j:Int)+1)∧Ch (· = r) M M'
  | .error t=>∃M',je [.ref r] M= .exc 2 (.int (t:Int)) M'∧Ch (· = r) M M':=by
 have hr:=sW R.o
 have hll:=sW R.k
 have R0:cZ (M++[.lst []]) r l (cH.map dw) ((i:Int)+1):=R.gr Gr.app
 have h:=abO hW (q:=M.length) (by omega) (by omega) (cH.drop i) [] i (M++[.lst []]) none none R0 (by simp) rfl hi (by simp;omega) (fun p hp=>by simp at hp)
 cases e:N5 [] (cH.drop i) i with
 | error t=>
  rw[e]at h
  obtain⟨en,M',e1,c⟩:=h
  refine⟨M',?_,YZ rfl c⟩
  have ew:=vO e1 (fun z=>nomatch z)
  simp only[je,ir,tE]
  simp[ew]
 | ok z=>
  obtain⟨vs,j⟩:=z
  rw[e]at h
  obtain⟨M',a,b,e1,R',q',c⟩:=h
  refine⟨M',?_,R',YZ rfl c⟩
  have ew:=vO e1 (fun z=>nomatch z)
  simp only[je,ir,tE]
  simp[ew,zH q']
theorem abw(hW:∀ws∈cH,qW ws)(hn:cH.length<900)(R:cZ M r l (cH.map dw) ((i:Int)+1))(hi:i≤cH.length):
  match Nx [] (cH.drop i) i with
  | .ok (vs,j)=>∃q M',jd [.ref r] M= .ok (.ref q) M'∧M'[q]? = some (.lst vs)∧cZ M' r l (cH.map dw) ((j:Int)+1)∧Ch (· = r) M M'
  | .error t=>∃M',jd [.ref r] M= .exc 2 (.int (t:Int)) M'∧Ch (· = r) M M':=by
 have hr:=sW R.o
 have hll:=sW R.k
 have R0:cZ (M++[.lst []]) r l (cH.map dw) ((i:Int)+1):=R.gr Gr.app
 have h:=abB hW (q:=M.length) (by omega) (by omega) (cH.drop i) [] i (M++[.lst []]) none none R0 (by simp) rfl hi (by simp;omega)
 cases e:Nx [] (cH.drop i) i with
 | error t=>
  rw[e]at h
  obtain⟨en,M',e1,c⟩:=h
  refine⟨M',?_,YZ rfl c⟩
  have ew:=vO e1 (fun z=>nomatch z)
  simp only[jd,ig,tD]
  simp[ew]
 | ok z=>
  obtain⟨vs,j⟩:=z
  rw[e]at h
  obtain⟨M',a,b,e1,R',q',c⟩:=h
  refine⟨M.length,M',?_,q',R',YZ rfl c⟩
  have ew:=vO e1 (fun z=>nomatch z)
  simp only[jd,ig,tD]
  simp[ew]
end
def iQ(ws:List (List Nat)):Option (Int×D):=match ws with
 | [w,a,b]=>if aZ w= "book" then W9 a b else none
 | _=>none
def gJ(ws:List (List Nat)):Option (Int×Int×D):=match ws with
 | [w,a,b,c,d]=>if aZ w= "base" then Xv a b c d else none
 | _=>none
def j4(j n:Nat)(ws:List (List Nat)):Option Nat:=match ws with
 | [w,a]=>if aZ w= "end" ∧ num a=some (j:Int)then(if j+1=n then none else some (j+2))else some (j+1)
 | _=>some (j+1)
section
variable{M:Mem}{r l i:Nat}{cH:List (List (List Nat))}{ws:List (List Nat)}
theorem BV(R:cZ M r l (cH.map dw) ((i:Int)+1))(h:cH[i]? = some ws)(hw:qW ws)(b:Str)(n:Nat)(hb:ws.length=n→(ts ws)[0]? = some (.str b)→False):Tor ((i:Int)+1) M (aR [.ref r,.str b,.int n] M):=by
 rcases Ot R rfl h hw b n with⟨x,M1,e,_,_,hl,h0⟩ | h
 ·exact(hb (by omega) h0).elim
 ·exact h
theorem adw(R:cZ M r l (cH.map dw) ((i:Int)+1))(h:cH[i]? = some ws)(hw:qW ws):GoX r l (cH.map dw) ((i:Int)+1) M (jP [.ref r] M) ((iQ ws).map fun p=> .tup [.int p.1,p.2]):=by
 by_cases hc:∃w a b,ws=[w,a,b]∧aZ w=("book" : Str)
 ·obtain⟨w,a,b,rfl,h0⟩:=hc
  have:=agv R rfl h hw h0
  simpa only[iQ,h0,if_true]using this
 ·have hv:iQ ws=none:=by
   unfold iQ
   split
   ·rename_i w a b
    rw[if_neg fun z=>hc ⟨w,a,b,rfl,z⟩]
   ·rfl
  rw[hv]
  obtain⟨M1,e1,g1⟩:=BV R h hw "book" 3 (fun hl h0=>by
   obtain⟨w,a,b,rfl⟩:=ajW hl
   exact hc ⟨w,a,b,rfl,by simpa[ts]using h0⟩)
  refine⟨M1,?_,g1.ch⟩
  have e1':aR [.ref r,.str "book",.int 3] M= .exc 2 (.int ((i:Int)+1)) M1:=e1
  simp only[jP,iW]
  simp[R.me (m:= "words_of") rfl,e1']
theorem ad2(R:cZ M r l (cH.map dw) ((i:Int)+1))(h:cH[i]? = some ws)(hw:qW ws):GoX r l (cH.map dw) ((i:Int)+1) M (fQ [.ref r] M) ((gJ ws).map fun p=> .tup [.int p.1,.int p.2.1,p.2.2]):=by
 by_cases hc:∃w a b c d,ws=[w,a,b,c,d]∧aZ w=("base" : Str)
 ·obtain⟨w,a,b,c,d,rfl,h0⟩:=hc
  have:=ahw R rfl h hw h0
  simpa only[gJ,h0,if_true]using this
 ·have hv:gJ ws=none:=by
   unfold gJ
   split
   ·rename_i w a b c d
    rw[if_neg fun z=>hc ⟨w,a,b,c,d,rfl,z⟩]
   ·rfl
  rw[hv]
  obtain⟨M1,e1,g1⟩:=BV R h hw "base" 5 (fun hl h0=>by
   obtain⟨w,a,b,c,d,rfl⟩:=aq9 hl
   exact hc ⟨w,a,b,c,d,rfl,by simpa[ts]using h0⟩)
  refine⟨M1,?_,g1.ch⟩
  have e1':aR [.ref r,.str "base",.int 5] M= .exc 2 (.int ((i:Int)+1)) M1:=e1
  simp only[fQ,fV]
  simp[R.me (m:= "words_of") rfl,e1']
theorem YT(R:cZ M r l (cH.map dw) ((i:Int)+1))(h:cH[i]? = some ws)(hw:qW ws):match j4 i cH.length ws with
  | none=>∃M',dG [.ref r] M= .ok .non M'∧Gr M M'
  | some t=>∃M',dG [.ref r] M= .exc 2 (.int (t:Int)) M'∧Gr M M':=by
 have hlt:i<cH.length:=(List.getElem?_eq_some_iff.mp h).1
 by_cases hc:∃w a,ws=[w,a]∧aZ w=("end" : Str)
 ·obtain⟨w,a,rfl,h0⟩:=hc
  obtain⟨x,M1,e1,h1,g1⟩:=rD R rfl h hw h0 (n:=2) rfl
  have R1:=R.gr g1
  have i1:bJ (.ref x) (.int 1) M1= .ok (.str (aZ a)) M1:=pJ h1 (j:=1) rfl rfl
  have hx:=Di R1 (w:=a) (hw.2.2 a (by simp)).2.2
  simp only[j4,h0,true_and]
  cases en:num a with
  | none=>
   rw[en]at hx
   obtain⟨M2,e2,g2⟩:=hx
   simp only[reduceCtorEq,if_false]
   refine⟨M2,?_,g1.trans g2⟩
   simp only[dG,cM,jV]
   simp[R.me (m:= "words_of") rfl,e1,i1,R1.me (m:= "whole") rfl,e2]
  | some n=>
   rw[en]at hx
   obtain⟨M2,e2,g2⟩:=hx
   have R2:=R1.gr g2
   have hll:j0 [.ref l] M2= .ok (.int (cH.length:Int)) M2:=by rw[jN R2.k];simp
   by_cases hn:n=(i:Int)
   ·subst hn
    simp only[if_true]
    by_cases hl:i+1=cH.length
    ·rw[if_pos hl]
     have hlt':¬((i:Int)+1<cH.length):=by omega
     refine⟨M2,?_,g1.trans g2⟩
     simp only[dG,cM,jV,rQ]
     simp[R.me (m:= "words_of") rfl,e1,i1,R1.me (m:= "whole") rfl,e2,R2.fh,R2.fr,hll,hlt']
    ·rw[if_neg hl]
     have hlt':(i:Int)+1<cH.length:=by omega
     refine⟨M2,?_,g1.trans g2⟩
     simp only[dG,cM,jV,rQ]
     simp[R.me (m:= "words_of") rfl,e1,i1,R1.me (m:= "whole") rfl,e2,R2.fh,R2.fr,hll,hlt']
     omega
   ·rw[if_neg (fun z=>hn (Option.some.inj z))]
    have hn':¬(n=(i:Int)+1 - 1):=by omega
    refine⟨M2,?_,g1.trans g2⟩
    simp only[dG,cM,jV]
    have hn2:¬(n=(i:Int)):=hn
    simp[R.me (m:= "words_of") rfl,e1,i1,R1.me (m:= "whole") rfl,e2,R2.fh,hn2]
 ·have hv:j4 i cH.length ws=some (i+1):=by
   unfold j4
   split
   ·rename_i w a
    rw[if_neg fun z=>hc ⟨w,a,rfl,z.1⟩]
   ·rfl
  rw[hv]
  obtain⟨M1,e1,g1⟩:=BV R h hw "end" 2 (fun hl h0=>by
   obtain⟨w,a,rfl⟩:=ara hl
   exact hc ⟨w,a,rfl,by simpa[ts]using h0⟩)
  refine⟨M1,?_,g1⟩
  have e1':aR [.ref r,.str "end",.int 2] M= .exc 2 (.int ((i:Int)+1)) M1:=e1
  simp only[dG,cM]
  simp[R.me (m:= "words_of") rfl,e1']
end
theorem ZC:∀(rest:List (List (List Nat))) (done:List (List Nat×Int)) (i:Nat) {vs:List (List Nat×Int)} {j:Nat},Mt done rest i= .ok (vs,j)→j<i+rest.length
 | [],_,_,_,_,h=>by simp[Mt]at h
 | ws::rest,done,i,vs,j,h=>by
  simp only[Mt]at h
  split at h
  ·split at h
   ·have:=ZC rest _ (i+1) h;simp;omega
   ·cases h
  ·cases h;simp
theorem abR:∀(rest:List (List (List Nat))) (done:List (List Int)) (i:Nat) {vs:List (List Int)} {j:Nat},N5 done rest i= .ok (vs,j)→j<i+rest.length
 | [],_,_,_,_,h=>by simp[N5]at h
 | ws::rest,done,i,vs,j,h=>by
  simp only[N5]at h
  split at h
  ·split at h
   ·have:=abR rest _ (i+1) h;simp;omega
   ·cases h
  ·cases h;simp
theorem abE:∀(rest:List (List (List Nat))) (done:List D) (i:Nat) {vs:List D} {j:Nat},Nx done rest i= .ok (vs,j)→j<i+rest.length
 | [],_,_,_,_,h=>by simp[Nx]at h
 | ws::rest,done,i,vs,j,h=>by
  simp only[Nx]at h
  split at h
  ·split at h
   ·have:=abE rest _ (i+1) h;simp;omega
   ·cases h
  ·cases h;simp
def Jg(cH:List (List (List Nat))):Except Nat ((Int×D)×(Int×Int×D)×List (List Nat×Int)×List (List Int)×List D):=
 match cH[0]?.bind iQ with
 | none=> .error 1
 | some h=>match cH[1]?.bind gJ with
  | none=> .error 2
  | some b=>match Mt [] (cH.drop 2) 2 with
   | .error t=> .error t
   | .ok (vs,j1)=>match N5 [] (cH.drop j1) j1 with
    | .error t=> .error t
    | .ok (as,j2)=>match Nx [] (cH.drop j2) j2 with
     | .error t=> .error t
     | .ok (es,j3)=>match cH[j3]?.elim (some (j3+1)) (j4 j3 cH.length)with
      | some t=> .error t
      | none=> .ok (h,b,vs,as,es)
theorem Tq{M:Mem}{cH:List (List (List Nat))}(h0:cH≠[])(hn:cH.length≤300)(hW:∀ws∈cH,qW ws):
  match Jg cH with
  | .ok (h,b,vs,as,es)=>∃k r l M',lE [.str (Txt.join "\n" (cH.map dw))] M= .ok (.ref k) M'∧Ze M' k r l h.1 h.2 b.1 b.2.1 b.2.2 (.tup [.tup (vs.map Q3),.tup (as.map HX)]) es∧Gr M M'
  | .error t=>∃M',lE [.str (Txt.join "\n" (cH.map dw))] M= .exc 2 (.int (t:Int)) M'∧Gr M M':=by
 have hT:(Txt.join "\n" (cH.map dw)).length+2≤16777216:=by have:=text_len hW hn;omega
 obtain⟨M1,e1,R1,g1,z1⟩:=acy (M:=M) hT
 rw[Uk h0 hW]at R1
 have gr:∀{M':Mem},Ch (· = M.length) M1 M'→Gr M M':=fun{M'} c j o hj=>c.2 j o (Nat.ne_of_lt (sW hj)) (g1 _ _ hj)
 have hWi:∀{i:Nat} {ws:List (List Nat)},cH[i]? = some ws→qW ws:=fun h=>hW _ (List.mem_of_getElem? h)
 obtain⟨ws0,hw0⟩:∃ws0,cH[0]? = some ws0:=by
  cases cH with
  | nil=>exact absurd rfl h0
  | cons a _=>exact⟨a,rfl⟩
 have h2:=adw (i:=0) R1 hw0 (hWi hw0)
 obtain⟨q8,d8⟩:∃q:MS,q=iB (Gv 6 uo 5 [] (aq (aD bJ (az 2) (mC (.int 0))) (aq (aD bJ (az 2) (mC (.int 1))) (aq (az 6) (aq (rA (aq (az 4) (aq (az 5) aG))) aG))))):=⟨_,rfl⟩
 obtain⟨q7,d7⟩:∃q:MS,q=bx (rJ (cV 4 "finish" dG 1 [] (az 1) aG)) q8:=⟨_,rfl⟩
 obtain⟨q6,d6⟩:∃q:MS,q=bx (dm (Gv 5 qN 5 [] (aq (aD bJ (az 3) (mC (.int 0))) (aq (aD bJ (az 3) (mC (.int 1))) (aq (aD bJ (az 3) (mC (.int 2))) (aq (iD jd 1 [] (aq (az 1) aG)) aG))))) (gN 6)) q7:=⟨_,rfl⟩
 obtain⟨q5,d5⟩:∃q:MS,q=bx (dm (iD je 1 [] (aq (az 1) aG)) (gN 5)) q6:=⟨_,rfl⟩
 obtain⟨q4,d4⟩:∃q:MS,q=bx (dm (iD j5 1 [] (aq (az 1) aG)) (gN 4)) q5:=⟨_,rfl⟩
 obtain⟨q3,d3⟩:∃q:MS,q=bx (dm (iD fQ 1 [] (aq (az 1) aG)) (gN 3)) q4:=⟨_,rfl⟩
 obtain⟨q2,d2⟩:∃q:MS,q=bx (dm (iD jP 1 [] (aq (az 1) aG)) (gN 2)) q3:=⟨_,rfl⟩
 obtain⟨z,hz⟩:∃z,z=Txt.join "\n" (cH.map dw):=⟨_,rfl⟩
 have kA:lE [.str z] M=Uz (q2 [some (.str z),some (.ref M.length),none,none,none,none,none] M1):=by
  rw[←hz]at e1
  simp only[lE,jY,←d8,←d7,←d6,←d5,←d4,←d3,←d2]
  simp[e1]
 rw[←hz,kA]
 unfold Jg
 rw[hw0,Option.bind_some]
 cases ea:iQ ws0 with
 | none=>
  rw[ea]at h2
  obtain⟨M2,e2,c2⟩:=h2
  refine⟨M2,?_,gr c2⟩
  rw[d2]
  simp[e2]
 | some hd=>
  rw[ea]at h2
  obtain⟨M2,e2,R2,c2⟩:=h2
  have kB:q2 [some (.str z),some (.ref M.length),none,none,none,none,none] M1=q3 [some (.str z),some (.ref M.length),some (.tup [.int hd.1,hd.2]),none,none,none,none] M2:=by
   rw[d2]
   simp[e2]
  rw[kB]
  have R2':cZ M2 M.length (M.length+1) (cH.map dw) (((1:Nat):Int)+1):=R2
  cases ew1:cH[1]? with
  | none=>
   have hl1:cH.length≤1:=by simpa using ew1
   have eb:fQ [.ref M.length] M2= .exc 2 (.int 2) M2:=by
    have:=Lr R2' (by simp;omega) "base" 5
    simp only[fQ,fV]
    simp[R2'.me (m:= "words_of") rfl,this]
   refine⟨M2,?_,gr c2⟩
   rw[d3]
   simp[eb]
  | some ws1=>
   have h3:=ad2 (i:=1) R2' ew1 (hWi ew1)
   have hl2:2≤cH.length:=by have:=(List.getElem?_eq_some_iff.mp ew1).1;omega
   rw[Option.bind_some]
   cases eb:gJ ws1 with
   | none=>
    rw[eb]at h3
    obtain⟨M3,e3,c3⟩:=h3
    refine⟨M3,?_,gr (c2.trans c3)⟩
    rw[d3]
    simp[e3]
   | some bs=>
    rw[eb]at h3
    obtain⟨M3,e3,R3,c3⟩:=h3
    have c23:=c2.trans c3
    have kC:q3 [some (.str z),some (.ref M.length),some (.tup [.int hd.1,hd.2]),none,none,none,none] M2=q4 [some (.str z),some (.ref M.length),some (.tup [.int hd.1,hd.2]),some (.tup [.int bs.1,.int bs.2.1,bs.2.2]),none,none,none] M3:=by
     rw[d3]
     simp[e3]
    rw[kC]
    have h4:=Zz (i:=2) hW (by omega) R3 hl2
    simp only
    cases ev:Mt [] (cH.drop 2) 2 with
    | error t=>
     rw[ev]at h4
     obtain⟨M4,e4,c4⟩:=h4
     refine⟨M4,?_,gr (c23.trans c4)⟩
     rw[d4]
     simp[e4]
    | ok z=>
     obtain⟨vs,j1⟩:=z
     rw[ev]at h4
     obtain⟨M4,e4,R4,c4⟩:=h4
     have c24:=c23.trans c4
     have kD:q4 [some (.str z),some (.ref M.length),some (.tup [.int hd.1,hd.2]),some (.tup [.int bs.1,.int bs.2.1,bs.2.2]),none,none,none] M3=q5 [some (.str z),some (.ref M.length),some (.tup [.int hd.1,hd.2]),some (.tup [.int bs.1,.int bs.2.1,bs.2.2]),some (.tup (vs.map Q3)),none,none] M4:=by
      rw[d4]
      simp[e4]
     rw[kD]
     have hj1:j1≤cH.length:=by have:=ZC _ _ _ ev;simp at this;omega
     have h5:=ad4 hW (by omega) R4 hj1
     simp only
     cases ez:N5 [] (cH.drop j1) j1 with
     | error t=>
      rw[ez]at h5
      obtain⟨M5,e5,c5⟩:=h5
      refine⟨M5,?_,gr (c24.trans c5)⟩
      rw[d5]
      simp[e5]
     | ok z=>
      obtain⟨as,j2⟩:=z
      rw[ez]at h5
      obtain⟨M5,e5,R5,c5⟩:=h5
      have c25:=c24.trans c5
      have kE:q5 [some (.str z),some (.ref M.length),some (.tup [.int hd.1,hd.2]),some (.tup [.int bs.1,.int bs.2.1,bs.2.2]),some (.tup (vs.map Q3)),none,none] M4=q6 [some (.str z),some (.ref M.length),some (.tup [.int hd.1,hd.2]),some (.tup [.int bs.1,.int bs.2.1,bs.2.2]),some (.tup (vs.map Q3)),some (.tup (as.map HX)),none] M5:=by
       rw[d5]
       simp[e5]
      rw[kE]
      have hj2:j2≤cH.length:=by have:=abR _ _ _ ez;simp at this;omega
      have h6:=abw hW (by omega) R5 hj2
      simp only
      cases ee:Nx [] (cH.drop j2) j2 with
      | error t=>
       rw[ee]at h6
       obtain⟨M6,e6,c6⟩:=h6
       refine⟨M6,?_,gr (c25.trans c6)⟩
       rw[d6]
       simp[e6]
      | ok z=>
       obtain⟨es,j3⟩:=z
       rw[ee]at h6
       obtain⟨q,M6,e6,q6,R6,c6⟩:=h6
       obtain⟨M7,e7,Rw,g7⟩:=WT (M:=M6) (b:=bs.1) (bt:=bs.2.1) (br:=bs.2.2) q6
       have R7:=R6.gr g7
       have hj3:j3<cH.length:=by have:=abE _ _ _ ee;simp at this;omega
       have hw3:cH[j3]? = some cH[j3]:=List.getElem?_eq_getElem hj3
       have h8:=YT R7 hw3 (hWi hw3)
       simp only[hw3,Option.elim_some]
       cases ef:j4 j3 cH.length cH[j3]with
       | some t=>
        rw[ef]at h8
        obtain⟨M8,e8,g8⟩:=h8
        refine⟨M8,?_,gr (((c25.trans c6).trans g7.ch).trans g8.ch)⟩
        rw[d6,d7]
        simp[e6,e7,R7.me (m:= "finish") rfl,e8]
       | none=>
        rw[ef]at h8
        obtain⟨M8,e8,g8⟩:=h8
        obtain⟨M9,e9,K9,g9⟩:=ad1 (tm:=hd.1) (vt:=hd.2) (kept:= .tup [.tup (vs.map Q3),.tup (as.map HX)]) (Rw.gr g8)
        refine⟨_,_,_,M9,?_,K9,(gr (((c25.trans c6).trans g7.ch).trans g8.ch)).trans g9⟩
        rw[d6,d7,d8]
        simp[e6,e7,R7.me (m:= "finish") rfl,e8,e9]
theorem adR{M:Mem}(ns:List Int)(k:Nat){kk:Int}(hk:kk=k):mX [.cl (ns.map D.int),.int kk] M= .ok (.int (cell ns k)) M:=by
 subst hk
 simp only[mX,iY,Bd]
 by_cases h:k<ns.length
 ·have e:bJ (.cl (ns.map D.int)) (.int k) M= .ok (.int ns[k]) M:=afl (by omega) (by simp[h])
  simp[h,e,cell]
 ·simp[h,cell]
def TF(n:Nat)(xs:List Int):Prop:=xs.length=n∧∀x∈xs,0≤x∧x<2147483647
structure VM(M:Mem)(c:Int)(n i:Nat)(e:Sl)(M':Mem):Prop where
 h:∃(xs:List Int) (num:Int) (v:Option D),TF i xs∧0≤num∧num<2147483647∧e=[some (.int c),some (.int n),some (.ref M.length),some (.int num),v]∧M'=M++[.lst (xs.map D.int)]
theorem aaY(z:Int):0≤z % 2147483647∧z % 2147483647<2147483647:=⟨Int.emod_nonneg _ (by omega),Int.emod_lt_of_pos _ (by omega)⟩
theorem ZX{M:Mem}{c:Int}{n i:Nat}{d:D}{e:Sl}{M2:Mem}(hn:n≤1000)(hd:(Hs 0 n)[i]? = some d)(h:VM M c n i e M2):∃e1,gN 4 d e=some e1∧
  (vV e1 M2).to (VM M c n (i+1)) fun _ _=>False:=by
 obtain⟨xs,num,v,⟨hx,hxb⟩,h0,h1,rfl,rfl⟩:=h
 obtain⟨hi,rfl⟩:=Jx hd
 refine⟨_,rfl,?_⟩
 have a1:Je (.int num) (.int 1009) (M++[.lst (xs.map D.int)])= .ok (.int (num / 1009)) (M++[.lst (xs.map D.int)]):=RB (by omega) (by omega)
 have a2:LC (.int num) (.int (num / 1009+69621)) (M++[.lst (xs.map D.int)])= .ok (.int (num*(num / 1009+69621))) (M++[.lst (xs.map D.int)]):=Ry (.inl (by constructor<;>omega))
 have a3:∀z:Int,j_ (.int z) (.int 2147483647) (M++[.lst (xs.map D.int)])= .ok (.int (z % 2147483647)) (M++[.lst (xs.map D.int)]):=fun z=>Ka (by omega)
 have a4:I_ "list" (.ref M.length) (M++[.lst (xs.map D.int)])=true:=ue aO
 have a5:∀z:Int,kJ (.ref M.length) [.int z] (M++[.lst (xs.map D.int)])= .ok .non (M++[.lst ((xs++[z]).map D.int)]):=fun z=>by
  rw[lC aO (by rw[List.length_map];omega)]
  simp
 simp[vV,a1,a2,a3,a4,a5]
 refine⟨xs++[(num*(num / 1009+69621)+i+1) % 2147483647],(num*(num / 1009+69621)+i+1) % 2147483647,_,⟨by simp[hx],fun x hm=> ?_⟩,(aaY _).1,(aaY _).2,rfl,by simp⟩
 rcases List.mem_append.mp hm with h | h
 ·exact hxb x h
 ·rw[List.mem_singleton.mp h];exact aaY _
theorem XQ{M:Mem}(c:Int)(n:Nat){nn:Int}(hnn:nn=n)(hn:n≤1000):∃xs:List Int,TF n xs∧pB [.int c,.int nn] M= .ok (.ref M.length) (M++[.lst (xs.map D.int)]):=by
 subst hnn
 have e1:LC (.int c) (.int 48271) (M++[.lst []])= .ok (.int (c*48271)) (M++[.lst []]):=Ry (.inr (by omega))
 have e2:j_ (.int (c*48271+7919)) (.int 2147483647) (M++[.lst []])= .ok (.int ((c*48271+7919) % 2147483647)) (M++[.lst []]):=Ka (by omega)
 have e3:LK [.int n] (M++[.lst []])= .ok ⟨none,Hs 0 n⟩ (M++[.lst []]):=by
  have:=Ge (M:=M++[.lst []]) (j:=n) (by omega) (by omega)
  simpa using this
 obtain⟨e',M',hl,hh⟩:=yN (VM M c n) (ds:=Hs 0 n) (e:=[some (.int c),some (.int n),some (.ref M.length),some (.int ((c*48271+7919) % 2147483647)),none]) (M:=M++[.lst []]) (src:=none)
  ⟨[],_,none,⟨rfl,by simp⟩,(aaY _).1,(aaY _).2,rfl,rfl⟩ (fun _ _ _ _ _=>trivial) fun i d e M2 hd h=>ZX hn hd h
 obtain⟨xs,num,v,hx,_,_,rfl,rfl⟩:=hh
 rw[Jw]at hx
 refine⟨xs,hx,?_⟩
 simp only[pB,jZ,CV]
 simp[e1,e2,e3,hl]
theorem o9{n:Nat}{xs:List Int}(h:TF n xs){i:Nat}(hi:i<n):∃x,xs[i]? = some x∧0≤x∧x<2147483647:=by
 have hl:i<xs.length:=by rw[h.1];exact hi
 exact⟨xs[i],List.getElem?_eq_getElem hl,h.2 _ (List.getElem_mem hl)⟩
theorem nG{M:Mem}{n i:Nat}{xs:List Int}{x:Int}{k:Int}(hM:M[n]? = some (.lst (xs.map D.int)))(hk:k=i)(h:xs[i]? = some x):bJ (.ref n) (.int k) M= .ok (.int x) M:=
 b_ hM (by omega) (by subst hk;simp[h])
theorem JS{M:Mem}(c:Int)(n:Nat){nn:Int}(hnn:nn=n)(hn:n≤1000):∃xs x M1,TF n xs∧pB [.int c,.int nn] M= .ok (.ref x) M1∧M1[x]? = some (.lst (xs.map D.int))∧Gr M M1:=by
 obtain⟨xs,h,e⟩:=XQ (M:=M) c n hnn hn
 exact⟨xs,_,_,h,e,aO,Gr.app⟩
theorem d9(z:Int){j:Int}(h:0<j):0≤z % j∧z % j<j:=⟨Int.emod_nonneg _ (by omega),Int.emod_lt_of_pos _ h⟩
theorem adJ{α β:Type}(f:α→β)(xs:List α)(lo hi:Option Int):cut (xs.map f) lo hi=(cut xs lo hi).map f:=by
 unfold cut
 rw[List.length_map,List.map_take,List.map_drop]
abbrev Rw:=List (List Nat)
def fw(r:Rw):Option Str:=(r.map aZ).head?
inductive SB where
 | v (d:List (List Nat×Int)) | a (d:List (List Int)) | e
def Aq(r:Rw):Option SB:=if fw r=some ("at" : Str)then(lg r).map fun _=> .e else none
def xJ(d:List (List Int))(r:Rw):Option SB:=if fw r=some ("answer" : Str)then(v_ d r).map fun x=> .a (d++[x])else Aq r
def gP:SB→Rw→Option SB
 | .v d,r=>if fw r=some ("value" : Str)then(vZ d r).map fun x=> .v (d++[x])else xJ [] r
 | .a d,r=>xJ d r
 | .e,r=>Aq r
def scan:SB→List Rw→Nat→Nat→Option Nat
 | _,[],i,_=>some (i+1)
 | st,r::rest,i,n=>match gP st r with
  | some st'=>scan st' rest (i+1) n
  | none=>j4 i n r
theorem lW{r:Rw}(h:fw r≠some ("end" : Str))(i n:Nat):j4 i n r=some (i+1):=by
 unfold j4
 split
 ·rename_i w a
  rw[if_neg fun z=>h (by simp[fw,z.1])]
 ·rfl
section
variable{cH:List Rw}{n:Nat}
theorem Qu{α:Type}{l:List α}{i:Nat}{x:α}{r:List α}(h:l.drop i=x::r):l[i]? = some x∧l.drop (i+1)=r:=by
 constructor
 ·have:=congrArg (·[0]?) h
  simpa using this
 ·have:=congrArg List.tail h
  simpa using this
theorem aeC:∀(rest:List Rw) (done:List D) (i:Nat),cH.drop i=rest→match Nx done rest i with
  | .error t=>scan .e rest i n=some t
  | .ok (_,j)=>scan .e rest i n=cH[j]?.elim (some (j+1)) (j4 j n)
 | [],done,i,_=>rfl
 | ws::rest,done,i,h=>by
  obtain⟨h1,h2⟩:=Qu h
  simp only[Nx,scan,gP,Aq]
  by_cases hf:(ws.map aZ).head? = some ("at" : Str)
  ·have hf':fw ws=some ("at" : Str):=hf
   rw[if_pos hf,if_pos hf']
   cases e:lg ws with
   | none=>exact lW (by rw[hf'];decide) _ _
   | some v=>exact aeC rest (done++[v]) (i+1) h2
  ·have hf':fw ws≠some ("at" : Str):=hf
   rw[if_neg hf,if_neg hf']
   simp only[h1,Option.elim_some]
theorem aeF:∀(rest:List Rw) (done:List (List Int)) (i:Nat),cH.drop i=rest→match N5 done rest i with
  | .error t=>scan (.a done) rest i n=some t
  | .ok (_,j)=>scan (.a done) rest i n=scan .e (cH.drop j) j n
 | [],done,i,_=>rfl
 | ws::rest,done,i,h=>by
  obtain⟨h1,h2⟩:=Qu h
  simp only[N5,scan,gP,xJ]
  by_cases hf:(ws.map aZ).head? = some ("answer" : Str)
  ·have hf':fw ws=some ("answer" : Str):=hf
   rw[if_pos hf,if_pos hf']
   cases e:v_ done ws with
   | none=>exact lW (by rw[hf'];decide) _ _
   | some v=>exact aeF rest (done++[v]) (i+1) h2
  ·have hf':fw ws≠some ("answer" : Str):=hf
   rw[if_neg hf,if_neg hf']
   simp only[h,scan,gP]
theorem aee:∀(rest:List Rw) (done:List (List Nat×Int)) (i:Nat),cH.drop i=rest→match Mt done rest i with
  | .error t=>scan (.v done) rest i n=some t
  | .ok (_,j)=>scan (.v done) rest i n=scan (.a []) (cH.drop j) j n
 | [],done,i,_=>rfl
 | ws::rest,done,i,h=>by
  obtain⟨h1,h2⟩:=Qu h
  simp only[Mt,scan,gP]
  by_cases hf:(ws.map aZ).head? = some ("value" : Str)
  ·have hf':fw ws=some ("value" : Str):=hf
   rw[if_pos hf,if_pos hf']
   cases e:vZ done ws with
   | none=>exact lW (by rw[hf'];decide) _ _
   | some v=>exact aee rest (done++[v]) (i+1) h2
  ·have hf':fw ws≠some ("value" : Str):=hf
   rw[if_neg hf,if_neg hf']
   simp only[h,scan,gP]
end
theorem Pq{hd bs:Rw}{body:List Rw}{h:Int×D}{b:Int×Int×D}(e1:iQ hd=some h)(e2:gJ bs=some b):match scan (.v []) body 2 (body.length+2)with
  | some t=>Jg (hd::bs::body)= .error t
  | none=>∃z,Jg (hd::bs::body)= .ok (h,z):=by
 have hl:(hd::bs::body).length=body.length+2:=rfl
 have d2:(hd::bs::body).drop 2=body:=rfl
 have g0:(hd::bs::body)[0]? = some hd:=rfl
 have g1:(hd::bs::body)[1]? = some bs:=rfl
 have hv:=aee (cH:=hd::bs::body) (n:=body.length+2) body [] 2 d2
 unfold Jg
 simp only[g0,g1,Option.bind_some,e1,e2,d2,hl]
 cases ev:Mt [] body 2 with
 | error t=>rw[ev]at hv;simp only[hv]
 | ok z=>
  obtain⟨vs,j⟩:=z
  rw[ev]at hv
  simp only[hv]
  have ha:=aeF (cH:=hd::bs::body) (n:=body.length+2) _ [] j rfl
  cases ea:N5 [] ((hd::bs::body).drop j) j with
  | error t=>rw[ea]at ha;simp only[ha]
  | ok z=>
   obtain⟨as,k⟩:=z
   rw[ea]at ha
   simp only[ha]
   have he:=aeC (cH:=hd::bs::body) (n:=body.length+2) _ [] k rfl
   cases ee:Nx [] ((hd::bs::body).drop k) k with
   | error t=>rw[ee]at he;simp only[he]
   | ok z=>
    obtain⟨es,m⟩:=z
    rw[ee]at he
    simp only[he]
    cases ef:(hd::bs::body)[m]?.elim (some (m+1)) (j4 m (body.length+2))with
    | some t=>rfl
    | none=>exact⟨_,rfl⟩
def lM:SB→List Rw→Option SB
 | st,[]=>some st
 | st,r::rest=>(gP st r).bind fun st'=>lM st' rest
theorem MJ{p q:List Rw}:∀{st st':SB},lM st p=some st'→lM st (p++q)=lM st' q:=by
 induction p with
 | nil=>intro st st' h;cases h;rfl
 | cons r p ih=>
  intro st st' h
  simp only[lM,List.cons_append]at h ⊢
  cases e:gP st r with
  | none=>rw[e]at h;cases h
  | some s1=>rw[e]at h;exact ih h
theorem zF{q:List Rw}{n:Nat}:∀{p:List Rw} {st st':SB} {i:Nat},lM st p=some st'→scan st (p++q) i n=scan st' q (i+p.length) n
 | [],st,st',i,h=>by cases h;rfl
 | r::p,st,st',i,h=>by
  simp only[lM]at h
  cases e:gP st r with
  | none=>rw[e]at h;cases h
  | some s1=>
   rw[e]at h
   simp only[List.cons_append,scan,e]
   rw[zF (p:=p) h,List.length_cons]
   congr 1
   omega
def Zf(r:Rw):List Nat:=(r[1]?).getD []
def Yn(r:Rw):Prop:=∃nm x n,r=[W "value",nm,x]∧nU nm=true∧num x=some n∧n≠0
def ltV(r s:Rw):Prop:=Zf r<Zf s
def Mh(r:Rw):List Int:=(pH (r.drop 1)).getD []
def U4(r:Rw):Prop:=∃a b c ns,r=[W "answer",a,b,c]∧pH [a,b,c]=some ns
def ltA(r s:Rw):Prop:=Lh.Gx ((Mh s).take 2) ((Mh r).take 2)=false
def okE(r:Rw):Prop:=∃a us,r=W "at" :: a::us∧(lg r).isSome=true
def vPr(r:Rw):List Nat×Int:=(Zf r,(num ((r[2]?).getD [])).getD 0)
theorem WY:∀a b:List Int,Lh.Gx a b=false→Lh.Gx b a=true
 | [],_,h=>by simp[Lh.Gx]at h
 | _::_,[],_=>by simp[Lh.Gx]
 | x::a,y::b,h=>by
  simp only[Lh.Gx]at h ⊢
  by_cases e:x=y
  ·subst e;simp at h ⊢;exact WY a b h
  ·have e':¬y=x:=fun z=>e z.symm
   simp[e,e']at h ⊢;omega
theorem R9:∀a:List Int,Lh.Gx a a=true
 | []=>by simp[Lh.Gx]
 | x::a=>by simp[Lh.Gx,R9 a]
theorem Zi{s:Str}{t:Rw}:fw (W s::t)=some s:=by simp[fw]
section
variable{r s:Rw}{d:List (List Nat×Int)}{da:List (List Int)}{st:SB}
theorem Yn.fw(h:Yn r):fw r=some ("value" : Str):=by obtain⟨nm,x,n,rfl,_⟩:=h;exact Zi
theorem U4.fw(h:U4 r):fw r=some ("answer" : Str):=by obtain⟨a,b,c,ns,rfl,_⟩:=h;exact Zi
theorem okE.fw(h:okE r):fw r=some ("at" : Str):=by obtain⟨a,us,rfl,_⟩:=h;exact Zi
theorem aeY(h:Yn r)(hd:∀p,d.getLast? = some p→p.1<Zf r):gP (.v d) r=some (.v (d++[vPr r])):=by
 have hf:=h.fw
 obtain⟨nm,x,n,rfl,h1,h2,h3⟩:=h
 have hl:zV d nm=false:=by
  unfold zV
  cases e:d.getLast? with
  | none=>rfl
  | some p=>simpa[Zf]using hd p e
 simp only[gP,if_pos hf,vZ,h1,if_true,h2,Option.bind_some,h3,hl,Bool.false_eq_true,or_self,if_false,Option.map_some]
 simp[vPr,Zf,h2]
theorem Z2{p:List Nat×Int}(h:Yn r)(hp:¬p.1<Zf r):gP (.v (d++[p])) r=none:=by
 have hf:=h.fw
 obtain⟨nm,x,n,rfl,h1,h2,h3⟩:=h
 have hl:zV (d++[p]) nm=true:=by rw[Ir];simpa[Zf]using hp
 simp only[gP,if_pos hf,vZ,h1,if_true,h2,Option.bind_some,hl,or_true,if_true,Option.map_none]
theorem Rn(h:U4 r)(hd:tY da (Mh r)=false):xJ da r=some (.a (da++[Mh r])):=by
 have hf:=h.fw
 obtain⟨a,b,c,ns,rfl,h1⟩:=h
 have e:Mh [W "answer",a,b,c]=ns:=by simp[Mh,h1]
 rw[e]at hd ⊢
 simp only[xJ,if_pos hf,v_,h1,Option.bind_some,hd,Bool.false_eq_true,if_false,Option.map_some]
theorem Z4(h:U4 r)(hd:tY da (Mh r)=true):xJ da r=none:=by
 have hf:=h.fw
 obtain⟨a,b,c,ns,rfl,h1⟩:=h
 have e:Mh [W "answer",a,b,c]=ns:=by simp[Mh,h1]
 rw[e]at hd
 simp only[xJ,if_pos hf,v_,h1,Option.bind_some,hd,if_true,Option.map_none]
theorem aeZ(h:U4 r):gP (.v d) r=some (.a [Mh r]):=by
 simp only[gP,h.fw]
 rw[if_neg (by decide)]
 exact Rn (da:=[]) h rfl
theorem ae0(h:U4 r)(hd:tY da (Mh r)=false):gP (.a da) r=some (.a (da++[Mh r])):=Rn h hd
theorem Z5{p:List Int}(h:U4 r)(hd:Lh.Gx ((Mh r).take 2) (p.take 2)=true):gP (.a (da++[p])) r=none:=Z4 h (by rw[vM];exact hd)
theorem Z3(h:okE r):gP st r=some .e:=by
 have hf:=h.fw
 obtain⟨a,us,rfl,h1⟩:=h
 obtain⟨x,hx⟩:=Option.isSome_iff_exists.mp h1
 have e:Aq (W "at" :: a::us)=some .e:=by unfold Aq;rw[if_pos hf,hx];rfl
 cases st with
 | e=>exact e
 | a d=>simp only[gP,xJ,hf];rw[if_neg (by decide)];exact e
 | v d=>simp only[gP,xJ,hf];rw[if_neg (by decide),if_neg (by decide)];exact e
theorem Wb(h:Yn r):gP (.a da) r=none:=by
 simp only[gP,xJ,Aq,h.fw];rw[if_neg (by decide),if_neg (by decide)]
theorem Wa(h:Yn r):gP .e r=none:=by
 simp only[gP,Aq,h.fw];rw[if_neg (by decide)]
theorem acg(h:U4 r):gP .e r=none:=by
 simp only[gP,Aq,h.fw];rw[if_neg (by decide)]
theorem FQ{c:List Nat}:gP st [W "end",c]=none:=by
 have hf:fw [W "end",c]=some ("end" : Str):=Zi
 have n1:¬(some ("end" : Str)=some ("value" : Str)):=by decide
 have n2:¬(some ("end" : Str)=some ("answer" : Str)):=by decide
 have n3:¬(some ("end" : Str)=some ("at" : Str)):=by decide
 cases st<;>simp only[gP,xJ,Aq,hf,if_neg n1,if_neg n2,if_neg n3]
end
theorem ZZ:∀(vs:List Rw) (d:List (List Nat×Int)),(∀r∈vs,Yn r)→vs.Pairwise ltV→(∀r∈vs,∀p,d.getLast? = some p→p.1<Zf r)→lM (.v d) vs=some (.v (d++vs.map vPr))
 | [],d,_,_,_=>by simp[lM]
 | r::vs,d,h,hp,hd=>by
  rw[List.pairwise_cons]at hp
  simp only[lM]
  rw[aeY (h r List.mem_cons_self) (hd r List.mem_cons_self),Option.bind_some,ZZ vs _ (fun s hs=>h s (List.mem_cons_of_mem _ hs)) hp.2 (fun s hs p e=>by
   simp at e;subst e;exact hp.1 s hs)]
  simp
theorem Z1:∀(as:List Rw) (d:List (List Int)),(∀r∈as,U4 r)→as.Pairwise ltA→(∀r∈as,tY d (Mh r)=false)→lM (.a d) as=some (.a (d++as.map Mh))
 | [],d,_,_,_=>by simp[lM]
 | r::vs,d,h,hp,hd=>by
  rw[List.pairwise_cons]at hp
  simp only[lM]
  rw[ae0 (h r List.mem_cons_self) (hd r List.mem_cons_self),Option.bind_some,Z1 vs _ (fun s hs=>h s (List.mem_cons_of_mem _ hs)) hp.2 (fun s hs=>by
   rw[vM];exact hp.1 s hs)]
  simp
theorem Z0:∀(es:List Rw),(∀r∈es,okE r)→lM .e es=some .e
 | [],_=>rfl
 | r::es,h=>by
  simp only[lM]
  rw[Z3 (h r List.mem_cons_self),Option.bind_some]
  exact Z0 es fun s hs=>h s (List.mem_cons_of_mem _ hs)
structure Body(vs as es:List Rw):Prop where
 v:∀r∈vs,Yn r
 vp:vs.Pairwise ltV
 a:∀r∈as,U4 r
 ap:as.Pairwise ltA
 e:∀r∈es,okE r
theorem Body.sub{vs as es vs' as' es':List Rw}(B:Body vs as es)(h1:vs'.Sublist vs)(h2:as'.Sublist as)(h3:∀r∈es',r∈es):Body vs' as' es':=
 ⟨fun r h=>B.v r (h1.subset h),B.vp.sublist h1,fun r h=>B.a r (h2.subset h),B.ap.sublist h2,fun r h=>B.e r (h3 r h)⟩
def GR(vs as es:List Rw):SB:=match es with
 | _::_=> .e
 | []=>match as with
  | _::_=> .a (as.map Mh)
  | []=> .v (vs.map vPr)
theorem Body.steps{vs as es:List Rw}(B:Body vs as es):lM (.v []) (vs++as++es)=some (GR vs as es):=by
 have hv:=ZZ vs [] B.v B.vp (fun _ _ _ e=>by simp at e)
 rw[List.nil_append]at hv
 have ha:lM (.v []) (vs++as)=some (GR vs as []):=by
  rw[MJ hv]
  cases as with
  | nil=>rfl
  | cons r as=>
   have hp:=List.pairwise_cons.mp B.ap
   simp only[lM]
   rw[aeZ (B.a r List.mem_cons_self),Option.bind_some,Z1 as _ (fun s hs=>B.a s (List.mem_cons_of_mem _ hs)) hp.2 (fun s hs=>by
    have:=hp.1 s hs
    rw[show([Mh r]:List (List Int))=[]++[Mh r]from rfl,vM];exact this)]
   rfl
 rw[MJ ha]
 cases es with
 | nil=>rfl
 | cons r es=>
  simp only[lM]
  rw[Z3 (B.e r List.mem_cons_self),Option.bind_some]
  exact Z0 es fun s hs=>B.e s (List.mem_cons_of_mem _ hs)
section
variable{hd bs r:Rw}{h:Int×D}{b:Int×Int×D}{vs as es q:List Rw}
theorem iG(e1:iQ hd=some h)(e2:gJ bs=some b)(B:Body vs as es)(hs:gP (GR vs as es) r=none){t:Nat}(ht:j4 ((vs++as++es).length+2) ((vs++as++es).length+q.length+3) r=some t):Jg (hd::bs::((vs++as++es)++r::q))= .error t:=by
 have:=Pq (body:=(vs++as++es)++r::q) e1 e2
 rw[zF B.steps]at this
 simp only[scan,hs]at this
 have e:(vs++as++es++r::q).length+2=(vs++as++es).length+q.length+3:=by simp;omega
 rw[e,Nat.add_comm 2,ht]at this
 exact this
theorem Y9(e1:iQ hd=some h)(e2:gJ bs=some b)(B:Body vs as es)(hs:gP (GR vs as es) r=none)(ht:j4 ((vs++as++es).length+2) ((vs++as++es).length+q.length+3) r=none):∃z,Jg (hd::bs::((vs++as++es)++r::q))= .ok (h,z):=by
 have:=Pq (body:=(vs++as++es)++r::q) e1 e2
 rw[zF B.steps]at this
 simp only[scan,hs]at this
 have e:(vs++as++es++r::q).length+2=(vs++as++es).length+q.length+3:=by simp;omega
 rw[e,Nat.add_comm 2,ht]at this
 exact this
theorem Y8(e1:iQ hd=some h)(e2:gJ bs=some b)(B:Body vs as es):Jg (hd::bs::(vs++as++es))= .error ((vs++as++es).length+3):=by
 have:=Pq (body:=vs++as++es) e1 e2
 have e:=zF (q:=[]) (i:=2) (n:=(vs++as++es).length+2) B.steps
 rw[List.append_nil]at e
 rw[e]at this
 simp only[scan]at this
 rw[this]
 congr 1
 omega
theorem P0(e1:iQ r=none):Jg (r::q)= .error 1:=by
 unfold Jg
 simp[e1]
theorem Jy{h:Int×D}(e1:iQ hd=some h)(e2:gJ r=none):Jg (hd::r::q)= .error 2:=by
 unfold Jg
 simp[e1,e2]
end
structure Mq(r:Rw):Prop where
 h:iQ r=none
 b:gJ r=none
 s:∀st,gP st r=none
 e:∀i n,j4 i n r=some (i+1)
theorem adH{r:Rw}(h1:fw r=some ("book" : Str)→r.length≠3)(h2:fw r=some ("base" : Str)→r.length≠5)(h3:fw r=some ("value" : Str)→r.length≠3)(h4:fw r=some ("answer" : Str)→r.length≠4)
  (h5:fw r=some ("at" : Str)→lg r=none) (h6:fw r=some ("end" : Str)→r.length≠2):Mq r:=by
 have hE:Aq r=none:=by
  unfold Aq
  split
  ·rename_i z;rw[h5 z];rfl
  ·rfl
 have hA:∀d,xJ d r=none:=fun d=>by
  unfold xJ
  split
  ·rename_i z
   have:v_ d r=none:=by
    unfold v_
    split
    ·exact absurd rfl (h4 z)
    ·rfl
   rw[this];rfl
  ·exact hE
 refine⟨?_,?_,fun st=> ?_,fun i n=> ?_⟩
 ·unfold iQ
  split
  ·rename_i w a b
   rw[if_neg fun z=>h1 (by simp[fw,z]) rfl]
  ·rfl
 ·unfold gJ
  split
  ·rename_i w a b c d
   rw[if_neg fun z=>h2 (by simp[fw,z]) rfl]
  ·rfl
 ·cases st with
  | e=>exact hE
  | a d=>exact hA d
  | v d=>
   simp only[gP]
   split
   ·rename_i z
    have:vZ d r=none:=by
     unfold vZ
     split
     ·exact absurd rfl (h3 z)
     ·rfl
    rw[this];rfl
   ·exact hA []
 ·unfold j4
  split
  ·rename_i w a
   rw[if_neg fun z=>h6 (by simp[fw,z.1]) rfl]
  ·rfl
structure Good(R:List Rw)(h:Int×D)(hd bs en:Rw)(vs as es:List Rw):Prop where
 B:Body vs as es
 eh:iQ hd=some h
 hb:gJ hd=none
 eb:∃b,gJ bs=some b
 bh:iQ bs=none
 bf:fw bs=some ("base" : Str)
 hf:fw hd=some ("book" : Str)
 ee:∃c,en=[W "end",c]∧num c=some (((vs++as++es).length+2:Nat):Int)
 z:∀r∈vs,Zf r<W "zz"
 eq:R=hd::bs::(vs++as++es++[en])
theorem abM{r:Rw}(h:fw r≠some ("base" : Str)):gJ r=none:=by
 unfold gJ
 split
 ·rename_i w a b c d
  rw[if_neg fun z=>h (by simp[fw,z])]
 ·rfl
theorem mid{α:Type}{P Q A B:List α}{r:α}(h:P++r::Q=A++B):(∃q,A=P++r::q∧Q=q++B)∨∃p,P=A++p∧B=p++r::Q:=by
 rcases List.append_eq_append_iff.mp h with⟨a,e1,e2⟩ | ⟨c,e1,e2⟩
 ·cases a with
  | nil=>exact .inr ⟨[],by simpa using e1.symm,by simpa using e2.symm⟩
  | cons x a=>
   rw[List.cons_append]at e2
   cases e2
   exact .inl ⟨a,e1,rfl⟩
 ·exact .inr ⟨c,e1,e2⟩
section
variable{R:List Rw}{h:Int×D}{hd bs en r:Rw}{vs as es P Q:List Rw}
theorem Good.kinds(G:Good R h hd bs en vs as es)(e:R=P++r::Q):
  (P=[]∧r=hd∧Q=bs::(vs++as++es++[en]))∨(P=[hd]∧r=bs∧Q=vs++as++es++[en])∨
  (∃p q,vs=p++r::q∧P=hd::bs::p∧Q=q++as++es++[en])∨(∃p q,as=p++r::q∧P=hd::bs::(vs++p)∧Q=q++es++[en])∨
  (∃p q,es=p++r::q∧P=hd::bs::(vs++as++p)∧Q=q++[en])∨(P=hd::bs::(vs++as++es)∧r=en∧Q=[]):=by
 rw[G.eq]at e
 cases P with
 | nil=>rw[List.nil_append]at e;cases e;exact .inl ⟨rfl,rfl,rfl⟩
 | cons x P=>
  rw[List.cons_append]at e
  injection e with e0 e
  subst e0
  cases P with
  | nil=>rw[List.nil_append]at e;cases e;exact .inr (.inl ⟨rfl,rfl,rfl⟩)
  | cons y P=>
   rw[List.cons_append]at e
   injection e with e0 e
   subst e0
   have e':P++r::Q=vs++(as++(es++[en])):=by rw[←e];simp
   rcases mid e' with⟨q,e1,e2⟩ | ⟨p,e1,e2⟩
   ·exact .inr (.inr (.inl ⟨P,q,e1,rfl,by rw[e2];simp⟩))
   ·rcases mid e2.symm with⟨q,e3,e4⟩ | ⟨p2,e3,e4⟩
    ·exact .inr (.inr (.inr (.inl ⟨p,q,e3,by rw[e1],by rw[e4];simp⟩)))
    ·rcases mid e4.symm with⟨q,e5,e6⟩ | ⟨p3,e5,e6⟩
     ·exact .inr (.inr (.inr (.inr (.inl ⟨p2,q,e5,by rw[e1,e3];simp,e6⟩))))
     ·have:p3=[]∧r=en∧Q=[]:=by
       cases p3 with
       | nil=>rw[List.nil_append]at e6;cases e6;exact⟨rfl,rfl,rfl⟩
       | cons x p3=>rw[List.cons_append]at e6;injection e6 with _ e6;cases p3<;>simp at e6
      obtain⟨rfl,rfl,rfl⟩:=this
      exact .inr (.inr (.inr (.inr (.inr ⟨by rw[e1,e3,e5];simp,rfl,rfl⟩))))
theorem Good.read(G:Good R h hd bs en vs as es):∃z,Jg R= .ok (h,z):=by
 obtain⟨b,eb⟩:=G.eb
 obtain⟨c,rfl,hc⟩:=G.ee
 rw[G.eq]
 refine Y9 (q:=[]) G.eh eb G.B FQ ?_
 simp[j4,hc]
theorem Good.dead(G:Good R h hd bs en vs as es)(e:R=P++r::Q){r':Rw}{q':List Rw}(D:Mq r'):Jg (P++r'::q')= .error (P.length+1):=by
 obtain⟨b,eb⟩:=G.eb
 rcases G.kinds e with⟨rfl,-,-⟩ | ⟨rfl,-,-⟩ | ⟨p,q,h1,rfl,-⟩ | ⟨p,q,h1,rfl,-⟩ | ⟨p,q,h1,rfl,-⟩ | ⟨rfl,-,-⟩
 ·exact P0 D.h
 ·exact Jy G.eh D.b
 ·have B:Body p [] []:=G.B.sub (by rw[h1];exact List.sublist_append_left _ _) (List.nil_sublist _) (fun _ z=>nomatch z)
  have:=iG (q:=q') G.eh eb B (D.s _) (D.e _ _)
  simpa using this
 ·have B:Body vs p []:=G.B.sub (List.Sublist.refl _) (by rw[h1];exact List.sublist_append_left _ _) (fun _ z=>nomatch z)
  have:=iG (q:=q') G.eh eb B (D.s _) (D.e _ _)
  simpa[Nat.add_assoc]using this
 ·have B:Body vs as p:=G.B.sub (List.Sublist.refl _) (List.Sublist.refl _) (fun x z=>by rw[h1];exact List.mem_append_left _ z)
  have:=iG (q:=q') G.eh eb B (D.s _) (D.e _ _)
  simpa[Nat.add_assoc]using this
 ·have:=iG (q:=q') G.eh eb G.B (D.s _) (D.e _ _)
  simpa[Nat.add_assoc]using this
theorem Good.len(G:Good R h hd bs en vs as es):R.length=(vs++as++es).length+3:=by rw[G.eq];simp;omega
end
theorem acf{r:Rw}{st:SB}(h1:fw r≠some ("value" : Str))(h2:fw r≠some ("answer" : Str))(h3:fw r≠some ("at" : Str)):gP st r=none:=by
 cases st<;>simp only[gP,xJ,Aq,if_neg h1,if_neg h2,if_neg h3]
theorem Xh{p:List Rw}{r:Rw}:GR (p++[r]) [] []= .v (p.map vPr++[vPr r]):=by simp[GR]
theorem Xi{vs p:List Rw}{r:Rw}:GR vs (p++[r]) []= .a (p.map Mh++[Mh r]):=by
 cases p<;>simp[GR]
section
variable{R:List Rw}{h:Int×D}{hd bs en r s:Rw}{vs as es P Q:List Rw}{b:Int×Int×D}
theorem sr{c:List Nat}{q:List Rw}(e1:iQ hd=some h)(e2:gJ bs=some b)(B:Body vs as es)(hc:num c≠some (((vs++as++es).length+2:Nat):Int)):Jg (hd::bs::((vs++as++es)++[W "end",c]::q))= .error ((vs++as++es).length+3):=by
 refine iG e1 e2 B FQ ?_
 simp only[j4]
 rw[if_neg fun z=>hc z.2]
theorem Good.nb(G:Good R h hd bs en vs as es):∀x∈vs++as++es++[en],gJ x=none:=by
 intro x hx
 refine abM ?_
 simp only[List.mem_append,List.mem_singleton]at hx
 rcases hx with((hx | hx) | hx) | hx
 ·rw[(G.B.v x hx).fw];decide
 ·rw[(G.B.a x hx).fw];decide
 ·rw[(G.B.e x hx).fw];decide
 ·obtain⟨c,rfl,_⟩:=G.ee
  rw[hx,Zi];decide
theorem Cj{c:List Nat}{m k:Nat}(h:num c=some (m:Int))(hk:m≠k):num c≠some (k:Int):=by
 rw[h];intro z;injection z with z;omega
theorem Good.gone(G:Good R h hd bs en vs as es)(e:R=P++r::Q):Jg (P++Q)= .error (if P.length<2∨Q=[]then P.length+1 else R.length - 1):=by
 obtain⟨b,eb⟩:=G.eb
 obtain⟨c,hen,hc⟩:=G.ee
 have hl:=G.len
 rcases G.kinds e with⟨rfl,-,rfl⟩ | ⟨rfl,-,rfl⟩ | ⟨p,q,h1,rfl,rfl⟩ | ⟨p,q,h1,rfl,rfl⟩ | ⟨p,q,h1,rfl,rfl⟩ | ⟨rfl,-,rfl⟩
 ·rw[if_pos (.inl (by simp))]
  exact P0 G.bh
 ·rw[if_pos (.inl (by simp))]
  have nb:=G.nb
  cases z:vs++as++es++[en]with
  | nil=>simp at z
  | cons s t=>
   rw[z]at nb
   exact Jy G.eh (nb s List.mem_cons_self)
 ·rw[if_neg (by simp)]
  have B:Body (p++q) as es:=G.B.sub (by rw[h1];simp) (List.Sublist.refl _) (fun _ z=>z)
  have hl2:((p++q)++as++es).length+1=(vs++as++es).length:=by rw[h1];simp;omega
  have:=sr (q:=[]) G.eh eb B (Cj hc (k:=((p++q)++as++es).length+2) (by omega))
  rw[←hen]at this
  rw[hl,show(vs++as++es).length+3 - 1=((p++q)++as++es).length+3 by omega,←this]
  simp
 ·rw[if_neg (by simp)]
  have B:Body vs (p++q) es:=G.B.sub (List.Sublist.refl _) (by rw[h1];simp) (fun _ z=>z)
  have hl2:(vs++(p++q)++es).length+1=(vs++as++es).length:=by rw[h1];simp;omega
  have:=sr (q:=[]) G.eh eb B (Cj hc (k:=(vs++(p++q)++es).length+2) (by omega))
  rw[←hen]at this
  rw[hl,show(vs++as++es).length+3 - 1=(vs++(p++q)++es).length+3 by omega,←this]
  simp
 ·rw[if_neg (by simp)]
  have B:Body vs as (p++q):=G.B.sub (List.Sublist.refl _) (List.Sublist.refl _) (fun x z=>by rw[h1];simp at z ⊢;rcases z with z | z<;>simp[z])
  have hl2:(vs++as++(p++q)).length+1=(vs++as++es).length:=by rw[h1];simp;omega
  have:=sr (q:=[]) G.eh eb B (Cj hc (k:=(vs++as++(p++q)).length+2) (by omega))
  rw[←hen]at this
  rw[hl,show(vs++as++es).length+3 - 1=(vs++as++(p++q)).length+3 by omega,←this]
  simp
 ·rw[if_pos (.inr rfl),List.append_nil,Y8 G.eh eb G.B]
  simp
theorem Good.twice(G:Good R h hd bs en vs as es)(e:R=P++r::Q):Jg (P++r::r::Q)= .error (if fw r=some ("at" : Str)then R.length+1 else P.length+2):=by
 obtain⟨b,eb⟩:=G.eb
 obtain⟨c,hen,hc⟩:=G.ee
 have hl:=G.len
 rcases G.kinds e with⟨rfl,rfl,rfl⟩ | ⟨rfl,rfl,rfl⟩ | ⟨p,q,h1,rfl,rfl⟩ | ⟨p,q,h1,rfl,rfl⟩ | ⟨p,q,h1,rfl,rfl⟩ | ⟨rfl,rfl,rfl⟩
 ·rw[if_neg (by rw[G.hf];decide)]
  exact Jy G.eh G.hb
 ·rw[if_neg (by rw[G.bf];decide)]
  have B:Body [] [] []:=⟨(fun _ z=>nomatch z),.nil,(fun _ z=>nomatch z),.nil,(fun _ z=>nomatch z)⟩
  have:=iG (r:=r) (q:=vs++as++es++[en]) G.eh eb B (acf (by rw[G.bf];decide) (by rw[G.bf];decide) (by rw[G.bf];decide)) (lW (by rw[G.bf];decide) _ _)
  simpa using this
 ·have hr:Yn r:=G.B.v r (by rw[h1];simp)
  rw[if_neg (by rw[hr.fw];decide)]
  have B:Body (p++[r]) [] []:=G.B.sub (by rw[h1,show p++r::q=p++[r]++q by simp];exact List.sublist_append_left _ _) (List.nil_sublist _) (fun _ z=>nomatch z)
  have:=iG (r:=r) (q:=q++as++es++[en]) G.eh eb B (by rw[Xh];exact Z2 hr (by simp[vPr])) (lW (by rw[hr.fw];decide) _ _)
  simpa using this
 ·have hr:U4 r:=G.B.a r (by rw[h1];simp)
  rw[if_neg (by rw[hr.fw];decide)]
  have B:Body vs (p++[r]) []:=G.B.sub (List.Sublist.refl _) (by rw[h1,show p++r::q=p++[r]++q by simp];exact List.sublist_append_left _ _) (fun _ z=>nomatch z)
  have:=iG (r:=r) (q:=q++es++[en]) G.eh eb B (by rw[Xi];exact Z5 hr (R9 _)) (lW (by rw[hr.fw];decide) _ _)
  simpa[Nat.add_assoc]using this
 ·have hr:okE r:=G.B.e r (by rw[h1];simp)
  rw[if_pos hr.fw]
  have B:Body vs as (p++r::r::q):=G.B.sub (List.Sublist.refl _) (List.Sublist.refl _) (fun x z=>by rw[h1];simp at z ⊢;rcases z with z | z | z<;>simp[z])
  have hl2:(vs++as++(p++r::r::q)).length=(vs++as++es).length+1:=by rw[h1];simp;omega
  have:=sr (q:=[]) G.eh eb B (Cj hc (k:=(vs++as++(p++r::r::q)).length+2) (by omega))
  rw[←hen]at this
  rw[hl,show(vs++as++es).length+3+1=(vs++as++(p++r::r::q)).length+3 by omega,←this]
  simp
 ·have hf:fw r=some ("end" : Str):=by rw[hen];exact Zi
  rw[if_neg (by rw[hf];decide)]
  have:=iG (r:=r) (q:=[r]) (t:=(vs++as++es).length+4) G.eh eb G.B (by rw[hen];exact FQ) (by rw[hen];simp[j4,hc])
  rw[List.cons_append,List.cons_append,this]
  simp
theorem Good.count(G:Good R h hd bs en vs as es){c:List Nat}(hc:num c≠some (((vs++as++es).length+2:Nat):Int)):Jg (hd::bs::((vs++as++es)++[[W "end",c]]))= .error R.length:=by
 obtain⟨b,eb⟩:=G.eb
 rw[G.len]
 exact sr G.eh eb G.B hc
theorem Good.behind(G:Good R h hd bs en vs as es)(x:Rw):Jg (R++[x])= .error (R.length+1):=by
 obtain⟨b,eb⟩:=G.eb
 obtain⟨c,hen,hc⟩:=G.ee
 have:=iG (r:=en) (q:=[x]) (t:=(vs++as++es).length+4) G.eh eb G.B (by rw[hen];exact FQ) (by rw[hen];simp[j4,hc])
 rw[G.len,←this,G.eq]
 simp
theorem Good.zz(G:Good R h hd bs en vs as es):Jg (hd::bs::((vs++as++es)++[[W "value",W "zz",W "1"],en]))= .error (if as=[]∧es=[]then R.length+1 else R.length):=by
 obtain⟨b,eb⟩:=G.eb
 obtain⟨c,hen,hc⟩:=G.ee
 have hz:Yn [W "value",W "zz",W "1"]:=⟨_,_,1,rfl,by decide,by decide +kernel,by decide⟩
 by_cases hn:as=[]∧es=[]
 ·rw[if_pos hn]
  obtain⟨rfl,rfl⟩:=hn
  have B:Body (vs++[[W "value",W "zz",W "1"]]) [] []:=⟨fun x hx=>by
    simp at hx;rcases hx with hx | hx
    ·exact G.B.v x hx
    ·rw[hx];exact hz,List.pairwise_append.mpr ⟨G.B.vp,List.pairwise_singleton _ _,fun x hx y hy=>by
     simp at hy;subst hy;exact G.z x hx⟩,(fun _ z=>nomatch z),.nil,(fun _ z=>nomatch z)⟩
  have:=sr (c:=c) (q:=[]) G.eh eb B (Cj hc (by simp))
  rw[←hen]at this
  rw[G.len]
  simpa using this
 ·rw[if_neg hn,G.len]
  have hs:gP (GR vs as es) [W "value",W "zz",W "1"]=none:=by
   cases es with
   | cons _ _=>exact Wa hz
   | nil=>
    cases as with
    | cons _ _=>exact Wb hz
    | nil=>exact absurd ⟨rfl,rfl⟩ hn
  exact iG G.eh eb G.B hs (lW (by rw[hz.fw];decide) _ _)
theorem Good.swap(G:Good R h hd bs en vs as es)(e:R=P++r::s::Q)(ha:fw r=some ("at" : Str)→fw s=some ("end" : Str)):Jg (P++s::r::Q)= .error (if P.length<2∨fw s=some ("end" : Str)then P.length+1 else P.length+2):=by
 obtain⟨b,eb⟩:=G.eb
 obtain⟨c,hen,hc⟩:=G.ee
 have hf:fw en=some ("end" : Str):=by rw[hen];exact Zi
 rcases G.kinds e with⟨rfl,rfl,e1⟩ | ⟨rfl,rfl,e1⟩ | ⟨p,q,h1,rfl,e1⟩ | ⟨p,q,h1,rfl,e1⟩ | ⟨p,q,h1,rfl,e1⟩ | ⟨rfl,rfl,e1⟩
 ·rw[if_pos (.inl (by simp))]
  cases e1
  exact P0 G.bh
 ·rw[if_pos (.inl (by simp))]
  exact Jy G.eh (G.nb s (by rw[←e1];simp))
 ·have hr:Yn r:=G.B.v r (by rw[h1];simp)
  have nr:∀i n,j4 i n r=some (i+1):=fun i n=>lW (by rw[hr.fw];decide) i n
  cases q with
  | cons x q=>
   have:s=x:=by simp at e1;exact e1.1
   subst this
   have hs:Yn s:=G.B.v s (by rw[h1];simp)
   rw[if_neg (by rw[hs.fw];simp;decide)]
   have hlt:Zf r<Zf s:=by
    have:=G.B.vp
    rw[h1]at this
    have:=(List.pairwise_append.mp this).2.1
    exact(List.pairwise_cons.mp this).1 s (by simp)
   have B:Body (p++[s]) [] []:=G.B.sub (by rw[h1];exact List.Sublist.append (List.Sublist.refl _) (List.Sublist.cons _ (List.Sublist.cons₂ _ (List.nil_sublist _)))) (List.nil_sublist _) (fun _ z=>nomatch z)
   have:=iG (r:=r) (q:=Q) G.eh eb B (by rw[Xh];exact Z2 hr (List.lt_asymm hlt)) (nr _ _)
   simpa using this
  | nil=>
   cases as with
   | cons x as=>
    have:s=x:=by simp at e1;exact e1.1
    subst this
    have hs:U4 s:=G.B.a s (by simp)
    rw[if_neg (by rw[hs.fw];simp;decide)]
    have B:Body p [s] []:=G.B.sub (by rw[h1];exact List.sublist_append_left _ _) (List.Sublist.cons₂ _ (List.nil_sublist _)) (fun _ z=>nomatch z)
    have:=iG (r:=r) (q:=Q) G.eh eb B (Wb hr) (nr _ _)
    simpa using this
   | nil=>
    cases es with
    | cons x es=>
     have:s=x:=by simp at e1;exact e1.1
     subst this
     have hs:okE s:=G.B.e s (by simp)
     rw[if_neg (by rw[hs.fw];simp;decide)]
     have B:Body p [] [s]:=G.B.sub (by rw[h1];exact List.sublist_append_left _ _) (List.nil_sublist _) (fun x z=>by simp at z;simp[z])
     have:=iG (r:=r) (q:=Q) G.eh eb B (Wa hr) (nr _ _)
     simpa using this
    | nil=>
     have:s=en∧Q=[]:=by simpa using e1
     obtain⟨rfl,rfl⟩:=this
     rw[if_pos (.inr hf)]
     have B:Body p [] []:=G.B.sub (by rw[h1];exact List.sublist_append_left _ _) (List.nil_sublist _) (fun _ z=>nomatch z)
     have:=sr (c:=c) (q:=[r]) G.eh eb B (Cj hc (by rw[h1];simp))
     rw[←hen]at this
     simpa using this
 ·have hr:U4 r:=G.B.a r (by rw[h1];simp)
  have nr:∀i n,j4 i n r=some (i+1):=fun i n=>lW (by rw[hr.fw];decide) i n
  cases q with
  | cons x q=>
   have:s=x:=by simp at e1;exact e1.1
   subst this
   have hs:U4 s:=G.B.a s (by rw[h1];simp)
   rw[if_neg (by rw[hs.fw];simp;decide)]
   have hlt:ltA r s:=by
    have:=G.B.ap
    rw[h1]at this
    have:=(List.pairwise_append.mp this).2.1
    exact(List.pairwise_cons.mp this).1 s (by simp)
   have B:Body vs (p++[s]) []:=G.B.sub (List.Sublist.refl _) (by rw[h1];exact List.Sublist.append (List.Sublist.refl _) (List.Sublist.cons _ (List.Sublist.cons₂ _ (List.nil_sublist _)))) (fun _ z=>nomatch z)
   have:=iG (r:=r) (q:=Q) G.eh eb B (by rw[Xi];exact Z5 hr (WY _ _ hlt)) (nr _ _)
   simpa[Nat.add_assoc]using this
  | nil=>
   cases es with
   | cons x es=>
    have:s=x:=by simp at e1;exact e1.1
    subst this
    have hs:okE s:=G.B.e s (by simp)
    rw[if_neg (by rw[hs.fw];simp;decide)]
    have B:Body vs p [s]:=G.B.sub (List.Sublist.refl _) (by rw[h1];exact List.sublist_append_left _ _) (fun x z=>by simp at z;simp[z])
    have:=iG (r:=r) (q:=Q) G.eh eb B (acg hr) (nr _ _)
    simpa[Nat.add_assoc]using this
   | nil=>
    have:s=en∧Q=[]:=by simpa using e1
    obtain⟨rfl,rfl⟩:=this
    rw[if_pos (.inr hf)]
    have B:Body vs p []:=G.B.sub (List.Sublist.refl _) (by rw[h1];exact List.sublist_append_left _ _) (fun _ z=>nomatch z)
    have:=sr (c:=c) (q:=[r]) G.eh eb B (Cj hc (by rw[h1];simp))
    rw[←hen]at this
    simpa[Nat.add_assoc]using this
 ·have hr:okE r:=G.B.e r (by rw[h1];simp)
  have hs:=ha hr.fw
  cases q with
  | cons x q=>
   have:s=x:=by simp at e1;exact e1.1
   subst this
   have hs':okE s:=G.B.e s (by rw[h1];simp)
   rw[hs'.fw]at hs
   exact absurd hs (by decide)
  | nil=>
   have:s=en∧Q=[]:=by simpa using e1
   obtain⟨rfl,rfl⟩:=this
   rw[if_pos (.inr hf)]
   have B:Body vs as p:=G.B.sub (List.Sublist.refl _) (List.Sublist.refl _) (fun x z=>by rw[h1];simp[z])
   have:=sr (c:=c) (q:=[r]) G.eh eb B (Cj hc (by rw[h1];simp))
   rw[←hen]at this
   simpa[Nat.add_assoc]using this
 ·cases e1
end
theorem md(z j:Int)(M:Mem)(h:0<j):j_ (.int z) (.int j) M= .ok (.int (z % j)) M:=Ka h
theorem dv(z j:Int)(M:Mem)(h:0<j)(h':j<1073741824):Je (.int z) (.int j) M= .ok (.int (z / j)) M:=RB h h'
theorem U6(c:Nat)(n:Int)(h:0≤n):(PySem.Txt.mul ⟨#[c]⟩ n).cps.toList=List.replicate n.toNat c:=by
 have fold:∀(k:Nat) (acc:Array Nat),((List.replicate k #[c]).foldl (· ++ ·) acc).toList=acc.toList++List.replicate k c:=by
  intro k
  induction k with
  | zero=>intro acc;simp
  | succ k ih=>intro acc;rw[List.replicate_succ,List.foldl_cons,ih];simp[List.replicate_succ]
 unfold PySem.Txt.mul
 split
 ·rename_i h1
  have:n.toNat=0:=by omega
  rw[this];rfl
 ·split
  ·rename_i h1 h2
   rcases Bool.or_eq_true_iff.mp h2 with q | q
   ·have:n=1:=by simpa using q
    subst this;rfl
   ·have:(1:Nat)=0:=by simpa[Str.length]using q
    omega
  ·show((List.replicate n.toNat #[c]).foldl (· ++ ·) #[]).toList=_
   rw[fold];simp
theorem BZ{n:Int}(h:Sm n)(M:Mem):mD [.int n] M= .ok (.str (aZ (aM n))) M:=by rw[afb (XS h),ac0]
theorem Lf(a b:List Nat):aZ a++aZ b=aZ (a++b):=by
 apply qL
 rw[Str.cps_append,Array.toList_append,bH,bH,bH]
theorem wu(a:List Nat):(aZ a).length=a.length:=by rw[Am,Ed]
theorem QM{a b:List Nat}(h:a.length+b.length≤1000)(M:Mem):aX (.str (aZ a)) (.str (aZ b)) M= .ok (.str (aZ (a++b))) M:=by
 rw[Kf (by rw[wu,wu];omega),Lf]
theorem Z8{w:Str}{n:Int}(h0:0≤n)(h1:n≤w.length):Txt.slice w none (some n)=aZ ((Lw w).take n.toNat):=by
 have e:=StrLaws.sliceText_to (x:=w) (j:=n) ⟨h0,by rw[←jf];exact h1⟩
 refine Eq.trans e ?_
 apply qL
 rw[bH]
 simp[Lw]
theorem aba{c:Nat}{n:Nat}{texts:List Str}(hB:∀y∈texts,y.length≤n)(h:texts.length*n+texts.length*1≤16777216):JoinOk ⟨#[c]⟩ texts=true:=by
 have:=StrLaws.joinFits (sep:=⟨#[c]⟩) (B:=n) hB h
 unfold JoinOk
 rw[this];rfl
theorem aew{M:Mem}{n:Nat}{us:List (List Nat)}(hM:M[n]? = some (.lst (ts us)))(h:∀u∈us,u.length≤150)(hl:us.length≤20):Aw (.str " ") [.ref n] M= .ok (.str (aZ (cg 32 us))) M:=by
 have hk:JoinOk " " (us.map aZ)=true:=by
  rw[Tr]
  refine aba (n:=150) (fun y hy=> ?_) (by simp;omega)
  obtain⟨w,hw,rfl⟩:=List.mem_map.mp hy
  rw[wu]
  exact h w hw
 rw[Rz (by rw[ZG];exact hM) hk,Tr,zX]
theorem addW{s:Str}{b:List Nat}(h:(W s).length+b.length≤1000)(M:Mem):aX (.str s) (.str (aZ b)) M= .ok (.str (aZ (W s++b))) M:=by
 have:=QM (a:=W s) (b:=b) h M
 rw[DW]at this
 exact this
theorem G8{s:Str}{b:List Nat}(h:b.length+(W s).length≤1000)(M:Mem):aX (.str (aZ b)) (.str s) M= .ok (.str (aZ (b++W s))) M:=by
 have:=QM (a:=b) (b:=W s) h M
 rw[DW]at this
 exact this
def dN(k:Nat)(n m:Int):Rw:=match k with
 | 0=>[W "start"]
 | 1=>[W "ask",W "3",45::aM (1+n % 99),W "put",W "ab",aM m]
 | 2=>[W "ask",aM n,W "0",W "add",W "m",W "-7"]
 | 3=>[W "ask",W "0",W "1",W "swap",W "abcdefgh",W "0",aM (n % 5)]
 | 4=>[W "roll",aM (1+n % 1023),W "0"]
 | _=>[W "roll",W "7",aM (n % 9)]
theorem iu{n:Int}(h:Sm n):num (aM n)=some n:=by
 unfold num
 rw[if_pos (YH h),ac1 h]
theorem WM{n:Int}(h:1≤n)(h':Sm n):num (45::aM n)=some (-n):=by
 have e:45::aM n=aM (-n):=by
  unfold aM
  rw[if_neg (by omega),if_pos (by omega)]
  simp
 rw[e,iu (by unfold Sm at *;omega)]
theorem dM{n:Int}(h:0≤n)(h':n<2147483647000):Sm n:=by
 unfold Sm
 have:(2147483647000:Nat)<10 ^ 41:=by decide
 omega
theorem ae2{n T:Int}(h:0≤n)(h':n<T)(hT:T≤10 ^ 40):Sm n:=by
 unfold Sm
 have:(10:Int) ^ 40<10 ^ 41:=by decide
 omega
section
variable{n m:Int}(hn:0≤n)(hn':n<2147483647)(hm:0≤m)(hm':Sm m)
include hn hn' hm hm'
theorem aby(k:Nat){a:Int}(ha:0≤a)(ha':Sm a):(lg (W "at" :: aM a::dN k n m)).isSome=true:=by
 have e1:num (aM a)=some a:=iu ha'
 have na:yg (aM a)=some a:=by simp[yg,e1];omega
 have s1:Sm n:=dM hn (by omega)
 have p99:=d9 n (j:=99) (by decide)
 have p5:=d9 n (j:=5) (by decide)
 have p9:=d9 n (j:=9) (by decide)
 have aaO:=d9 n (j:=1023) (by decide)
 have t1:Dy "put" = some 3:=by decide
 have t2:Dy "add" = some 3:=by decide
 have t3:Dy "swap" = some 4:=by decide
 have h:(qY (dN k n m)).isSome=true:=by
  unfold dN
  split
  ·simp[qY]
  ·have z1:=WM (n:=1+n % 99) (by omega) (dM (by omega) (by omega))
   have z2:num (W "3")=some 3:=by decide +kernel
   have z3:nU (W "ab")=true:=by decide
   simp[qY,orderV,t1,pH,L_,z1,z2,z3,iu hm']
  ·have z2:num (W "0")=some 0:=by decide +kernel
   have z4:num (W "-7")=some (-7):=by decide +kernel
   have z3:nU (W "m")=true:=by decide
   simp[qY,orderV,t2,pH,L_,iu s1,z2,z3,z4]
  ·have z2:num (W "0")=some 0:=by decide +kernel
   have z4:num (W "1")=some 1:=by decide +kernel
   have z3:nU (W "abcdefgh")=true:=by decide
   have z5:=iu (n:=n % 5) (dM (by omega) (by omega))
   simp[qY,orderV,t3,pH,L_,z2,z3,z4,z5]
  ·have z2:num (W "0")=some 0:=by decide +kernel
   have z5:=iu (n:=1+n % 1023) (dM (by omega) (by omega))
   have q1:¬(1+n % 1023<0):=by omega
   have q2:¬(1152921504606846976≤1+n % 1023):=by omega
   have q3:¬(1+n % 1023=0):=by omega
   simp[qY,Dc,Ak,yg,z2,z5,q1,q2,q3]
  ·have z2:num (W "7")=some 7:=by decide +kernel
   have z5:=iu (n:=n % 9) (dM (by omega) (by omega))
   have q1:¬(n % 9<0):=by omega
   have q2:¬(1152921504606846976≤n % 9):=by omega
   simp[qY,Dc,Ak,yg,z2,z5,q1,q2]
 obtain⟨v,hv⟩:=Option.isSome_iff_exists.mp h
 simp[lg,Vs,hv,na]
omit hn hn' hm hm' in
theorem abz(k:Nat)(a:Int)(w:List Nat):lg ((W "at" :: aM a::dN k n m)++[w])=none:=by
 have t1:Dy "put" = some 3:=by decide
 have t2:Dy "add" = some 3:=by decide
 have t3:Dy "swap" = some 4:=by decide
 have ra:¬(("roll" : Str)= "ask"):=by decide
 have h:qY (dN k n m++[w])=none:=by
  unfold dN
  split<;>simp[qY,orderV,t1,t2,t3,ra]
 simp[lg,Vs,h]
omit hn hn' hm hm' in
theorem abA(k:Nat)(a:Int):lg (W "at" :: aM a::dN k n m).dropLast=none:=by
 have t1:Dy "put" = some 3:=by decide
 have t2:Dy "add" = some 3:=by decide
 have t3:Dy "swap" = some 4:=by decide
 have as:¬(("ask" : Str)= "start"):=by decide
 unfold dN
 split<;>simp[List.dropLast,lg,Vs,qY,orderV,t1,t2,t3]
theorem adD(k:Nat){a:Int}(ha':Sm a):qW (W "at" :: aM a::dN k n m):=by
 have wn:∀{z:Int},Sm z→Wd (aM z):=fun h=>⟨(Ys _).1,(Ys _).2,by have:=bW h;omega⟩
 have p99:=d9 n (j:=99) (by decide)
 have p5:=d9 n (j:=5) (by decide)
 have p9:=d9 n (j:=9) (by decide)
 have aaO:=d9 n (j:=1023) (by decide)
 have s99:Sm (1+n % 99):=dM (by omega) (by omega)
 have w99:Wd (45::aM (1+n % 99)):=⟨by simp[(Ys (1+n % 99)).1],by simp[(Ys (1+n % 99)).2],by have:=bW s99;simp;omega⟩
 refine⟨by simp,?_,?_⟩
 ·unfold dN;split<;>simp
 ·intro w hw
  simp only[List.mem_cons]at hw
  rcases hw with rfl | rfl | hw
  ·exact⟨by decide,by decide,by decide⟩
  ·exact wn ha'
  ·unfold dN at hw
   split at hw<;>simp only[List.mem_cons,List.not_mem_nil,or_false]at hw
   ·subst hw;exact⟨by decide,by decide,by decide⟩
   ·rcases hw with rfl | rfl | rfl | rfl | rfl | rfl
    ·exact⟨by decide,by decide,by decide⟩
    ·exact⟨by decide,by decide,by decide⟩
    ·exact w99
    ·exact⟨by decide,by decide,by decide⟩
    ·exact⟨by decide,by decide,by decide⟩
    ·exact wn hm'
   ·rcases hw with rfl | rfl | rfl | rfl | rfl | rfl
    ·exact⟨by decide,by decide,by decide⟩
    ·exact wn (dM hn (by omega))
    all_goals exact⟨by decide,by decide,by decide⟩
   ·rcases hw with rfl | rfl | rfl | rfl | rfl | rfl | rfl
    all_goals first | exact⟨by decide,by decide,by decide⟩ | exact wn (dM (by omega) (by omega))
   ·rcases hw with rfl | rfl | rfl
    all_goals first | exact⟨by decide,by decide,by decide⟩ | exact wn (dM (by omega) (by omega))
   ·rcases hw with rfl | rfl | rfl
    all_goals first | exact⟨by decide,by decide,by decide⟩ | exact wn (dM (by omega) (by omega))
end
def aJ(ws:Rw):D:= .str (dw ws)
theorem aar(s:Str):dw [W s]=s:=by rw[dZ];simp[cg]
section
variable{M:Mem}{n c m T:Int}
theorem agI(hn:0≤n)(hm':Sm m):∃u v:Str,∀M:Mem,aX (.str "ask 3 -") (.str (aZ (aM (1+n % 99)))) M= .ok (.str u) M∧aX (.str u) (.str " put ab ") M= .ok (.str v) M∧aX (.str v) (.str (aZ (aM m))) M= .ok (aJ (dN 1 n m)) M:=by
 refine⟨aZ (W "ask 3 -" ++ aM (1+n % 99)),aZ (W "ask 3 -" ++ aM (1+n % 99)++W " put ab "),fun M=> ?_⟩
 have p99:=d9 n (j:=99) (by decide)
 have l1:=bW (n:=1+n % 99) (dM (by omega) (by omega))
 have l2:=bW hm'
 have w1:(W "ask 3 -").length=7:=by decide
 have w2:(W " put ab ").length=8:=by decide
 refine⟨addW (by omega) M,G8 (by simp;omega) M,?_⟩
 rw[QM (by simp;omega)]
 unfold aJ
 rw[dZ]
 congr 3
 all_goals rw[show W "ask 3 -" = W "ask" ++ 32::(W "3" ++ [32,45])from by decide,show W " put ab " = 32::(W "put" ++ 32::(W "ab" ++ [32]))from by decide]
 all_goals simp[dN,cg]
theorem agH(hn:Sm n):∃u:Str,∀M:Mem,aX (.str "ask ") (.str (aZ (aM n))) M= .ok (.str u) M∧aX (.str u) (.str " 0 add m -7") M= .ok (aJ (dN 2 n m)) M:=by
 refine⟨aZ (W "ask " ++ aM n),fun M=> ?_⟩
 have l1:=bW hn
 have w1:(W "ask ").length=4:=by decide
 have w2:(W " 0 add m -7").length=11:=by decide
 refine⟨addW (by omega) M,?_⟩
 rw[G8 (by simp;omega)]
 unfold aJ
 rw[dZ]
 congr 3
 all_goals rw[show W "ask " = W "ask" ++ [32]from by decide,show W " 0 add m -7" = 32::(W "0" ++ 32::(W "add" ++ 32::(W "m" ++ 32::W "-7")))from by decide]
 all_goals simp[dN,cg]
theorem agG(hn:0≤n):∀M:Mem,aX (.str "ask 0 1 swap abcdefgh 0 ") (.str (aZ (aM (n % 5)))) M= .ok (aJ (dN 3 n m)) M:=by
 intro M
 have p5:=d9 n (j:=5) (by decide)
 have l1:=bW (n:=n % 5) (dM (by omega) (by omega))
 have w1:(W "ask 0 1 swap abcdefgh 0 ").length=24:=by decide
 rw[addW (by omega)]
 unfold aJ
 rw[dZ]
 congr 3
 all_goals rw[show W "ask 0 1 swap abcdefgh 0 " = W "ask" ++ 32::(W "0" ++ 32::(W "1" ++ 32::(W "swap" ++ 32::(W "abcdefgh" ++ 32::(W "0" ++ [32])))))from by decide]
 all_goals simp[dN,cg]
theorem agF(hn:0≤n):∃u:Str,∀M:Mem,aX (.str "roll ") (.str (aZ (aM (1+n % 1023)))) M= .ok (.str u) M∧aX (.str u) (.str " 0") M= .ok (aJ (dN 4 n m)) M:=by
 refine⟨aZ (W "roll " ++ aM (1+n % 1023)),fun M=> ?_⟩
 have p5:=d9 n (j:=1023) (by decide)
 have l1:=bW (n:=1+n % 1023) (dM (by omega) (by omega))
 have w1:(W "roll ").length=5:=by decide
 have w2:(W " 0").length=2:=by decide
 refine⟨addW (by omega) M,?_⟩
 rw[G8 (by simp;omega)]
 unfold aJ
 rw[dZ]
 congr 3
 all_goals rw[show W "roll " = W "roll" ++ [32]from by decide,show W " 0" = 32::W "0" from by decide]
 all_goals simp[dN,cg]
theorem agE(hn:0≤n):∀M:Mem,aX (.str "roll 7 ") (.str (aZ (aM (n % 9)))) M= .ok (aJ (dN 5 n m)) M:=by
 intro M
 have p5:=d9 n (j:=9) (by decide)
 have l1:=bW (n:=n % 9) (dM (by omega) (by omega))
 have w1:(W "roll 7 ").length=7:=by decide
 rw[addW (by omega)]
 unfold aJ
 rw[dZ]
 congr 3
 all_goals rw[show W "roll 7 " = W "roll" ++ 32::(W "7" ++ [32])from by decide]
 all_goals simp[dN,cg]
theorem agJ{a:Int}{us:Rw}(ha:Sm a)(h0:us≠[])(hl:(cg 32 us).length≤500):∃u v:Str,∀M:Mem,aX (.str "at ") (.str (aZ (aM a))) M= .ok (.str u) M∧aX (.str u) (.str " ") M= .ok (.str v) M∧aX (.str v) (aJ us) M= .ok (aJ (W "at" :: aM a::us)) M:=by
 refine⟨aZ (W "at " ++ aM a),aZ (W "at " ++ aM a++W " "),fun M=> ?_⟩
 have l1:=bW ha
 have w1:(W "at ").length=3:=by decide
 have w2:(W " ").length=1:=by decide
 unfold aJ
 refine⟨addW (by omega) M,G8 (by simp;omega) M,?_⟩
 rw[dZ us,QM (by simp;omega),dZ]
 congr 3
 all_goals rw[show W "at " = W "at" ++ [32]from by decide,show W " " = [32]from by decide]
 cases us with
 | nil=>exact absurd rfl h0
 | cons x us=>simp[cg]
theorem abC(k:Nat)(hn:0≤n)(hn':n<2147483647)(hm:0≤m)(hm':Sm m):(cg 32 (dN k n m)).length≤500:=by
 have p99:=d9 n (j:=99) (by decide)
 have p5:=d9 n (j:=5) (by decide)
 have p9:=d9 n (j:=9) (by decide)
 have aaO:=d9 n (j:=1023) (by decide)
 have h1:=bW (n:=1+n % 99) (dM (by omega) (by omega))
 have h2:=bW (n:=n) (dM (by omega) (by omega))
 have h3:=bW (n:=n % 5) (dM (by omega) (by omega))
 have h4:=bW (n:=1+n % 1023) (dM (by omega) (by omega))
 have h5:=bW (n:=n % 9) (dM (by omega) (by omega))
 have h6:=bW hm'
 have w:(W "start").length=5∧(W "ask").length=3∧(W "3").length=1∧(W "put").length=3∧(W "ab").length=2∧(W "0").length=1∧(W "add").length=3∧(W "m").length=1∧(W "-7").length=2∧(W "1").length=1∧(W "swap").length=4∧(W "abcdefgh").length=8∧(W "roll").length=4∧(W "7").length=1:=by decide
 unfold dN
 split<;>simp[cg]<;>omega
theorem abx(hn:0≤n)(hn':n<2147483647)(hT:0<T)(hT1:T≤10 ^ 40)(pw:∀M:Mem,Lz (.int 10) (.int 40) M= .ok (.int T) M):∃k M',xQ [.int n,.int c] M= .ok (aJ (W "at" :: aM (n % 30)::dN k n (c % T))) M'∧Gr M M':=by
 obtain⟨m,hm⟩:∃m,m=c % T:=⟨_,rfl⟩
 have mb:=d9 c hT
 rw[←hm]at mb ⊢
 have sm:Sm m:=ae2 mb.1 mb.2 hT1
 have sn:Sm n:=dM hn (by omega)
 have p99:=d9 n (j:=99) (by decide)
 have p5:=d9 n (j:=5) (by decide)
 have p9:=d9 n (j:=9) (by decide)
 have aaO:=d9 n (j:=1023) (by decide)
 have p30:=d9 n (j:=30) (by decide)
 have cm:∀M:Mem,j_ (.int c) (.int T) M= .ok (.int m) M:=fun M=>by rw[md _ _ _ hT,hm]
 have s1:∀M:Mem,mD [.int (1+n % 99)] M= .ok (.str (aZ (aM (1+n % 99)))) M:=fun M=>BZ (dM (by omega) (by omega)) M
 have s2:∀M:Mem,mD [.int m] M= .ok (.str (aZ (aM m))) M:=fun M=>BZ sm M
 have s3:∀M:Mem,mD [.int n] M= .ok (.str (aZ (aM n))) M:=fun M=>BZ sn M
 have s4:∀M:Mem,mD [.int (n % 5)] M= .ok (.str (aZ (aM (n % 5)))) M:=fun M=>BZ (dM (by omega) (by omega)) M
 have s5:∀M:Mem,mD [.int (1+n % 1023)] M= .ok (.str (aZ (aM (1+n % 1023)))) M:=fun M=>BZ (dM (by omega) (by omega)) M
 have s6:∀M:Mem,mD [.int (n % 9)] M= .ok (.str (aZ (aM (n % 9)))) M:=fun M=>BZ (dM (by omega) (by omega)) M
 have s7:∀M:Mem,mD [.int (n % 30)] M= .ok (.str (aZ (aM (n % 30)))) M:=fun M=>BZ (dM (by omega) (by omega)) M
 obtain⟨M1,rB⟩:∃M1,M1=M++[MO.lst [D.str "start",aJ (dN 1 n m)]]:=⟨_,rfl⟩
 have h1:M1[M.length]? = some (.lst [D.str "start",aJ (dN 1 n m)]):=by rw[rB];exact aO
 have g1:Gr M M1:=by rw[rB];exact Gr.app
 obtain⟨M2,tQ⟩:∃M2,M2=M1++[MO.lst [aJ (dN 2 n m),aJ (dN 3 n m)]]:=⟨_,rfl⟩
 have h2:M2[M1.length]? = some (.lst [aJ (dN 2 n m),aJ (dN 3 n m)]):=by rw[tQ];exact aO
 have g2:Gr M1 M2:=by rw[tQ];exact Gr.app
 have c2:aX (.ref M.length) (.ref M1.length) M2= .ok (.ref M2.length) (M2++[.lst [D.str "start",aJ (dN 1 n m),aJ (dN 2 n m),aJ (dN 3 n m)]]):=by rw[Gd (g2 _ _ h1) h2 (by simp)];rfl
 obtain⟨M3,Jk⟩:∃M3,M3=M2++[MO.lst [D.str "start",aJ (dN 1 n m),aJ (dN 2 n m),aJ (dN 3 n m)]]:=⟨_,rfl⟩
 have h3:M3[M2.length]? = some (.lst [D.str "start",aJ (dN 1 n m),aJ (dN 2 n m),aJ (dN 3 n m)]):=by rw[Jk];exact aO
 have g3:Gr M2 M3:=by rw[Jk];exact Gr.app
 rw[←Jk]at c2
 obtain⟨M4,K1⟩:∃M4,M4=M3++[MO.lst [aJ (dN 4 n m),aJ (dN 5 n m)]]:=⟨_,rfl⟩
 have h4:M4[M3.length]? = some (.lst [aJ (dN 4 n m),aJ (dN 5 n m)]):=by rw[K1];exact aO
 have g4:Gr M3 M4:=by rw[K1];exact Gr.app
 have c4:aX (.ref M2.length) (.ref M3.length) M4= .ok (.ref M4.length) (M4++[.lst [D.str "start",aJ (dN 1 n m),aJ (dN 2 n m),aJ (dN 3 n m),aJ (dN 4 n m),aJ (dN 5 n m)]]):=by rw[Gd (g4 _ _ h3) h4 (by simp)];rfl
 obtain⟨M5,T9⟩:∃M5,M5=M4++[MO.lst [D.str "start",aJ (dN 1 n m),aJ (dN 2 n m),aJ (dN 3 n m),aJ (dN 4 n m),aJ (dN 5 n m)]]:=⟨_,rfl⟩
 have h5:M5[M4.length]? = some (.lst [D.str "start",aJ (dN 1 n m),aJ (dN 2 n m),aJ (dN 3 n m),aJ (dN 4 n m),aJ (dN 5 n m)]):=by rw[T9];exact aO
 have g5:Gr M4 M5:=by rw[T9];exact Gr.app
 rw[←T9]at c4
 have b0:D.str "start" = aJ (dN 0 n m):=by unfold aJ;simp[dN,aar]
 have pk:∃k,bJ (.ref M4.length) (.int (n / 30 % 6)) M5= .ok (aJ (dN k n m)) M5:=by
  have:n / 30 % 6=0∨n / 30 % 6=1∨n / 30 % 6=2∨n / 30 % 6=3∨n / 30 % 6=4∨n / 30 % 6=5:=by omega
  rcases this with e | e | e | e | e | e<;>rw[e]
  ·exact⟨0,by rw[←b0];exact b_ h5 (by decide) rfl⟩
  ·exact⟨1,b_ h5 (by decide) rfl⟩
  ·exact⟨2,b_ h5 (by decide) rfl⟩
  ·exact⟨3,b_ h5 (by decide) rfl⟩
  ·exact⟨4,b_ h5 (by decide) rfl⟩
  ·exact⟨5,b_ h5 (by decide) rfl⟩
 obtain⟨k,ek⟩:=pk
 refine⟨k,M5,?_,(((g1.trans g2).trans g3).trans g4).trans g5⟩
 obtain⟨u1,v1,t1⟩:=agI (n:=n) (m:=m) hn sm
 obtain⟨u2,t2⟩:=agH (n:=n) (m:=m) sn
 have t3:=agG (n:=n) (m:=m) hn
 obtain⟨u4,t4⟩:=agF (n:=n) (m:=m) hn
 have t5:=agE (n:=n) (m:=m) hn
 obtain⟨u6,v6,t6⟩:=agJ (a:=n % 30) (us:=dN k n m) (dM (by omega) (by omega)) (by unfold dN;split<;>simp) (abC k hn hn' mb.1 sm)
 simp only[xQ,oX]
 simp[md,dv,pw,cm,s1,s2,s3,s4,s5,s6,s7,fun M=>(t1 M).1,fun M=>(t1 M).2.1,fun M=>(t1 M).2.2,fun M=>(t2 M).1,fun M=>(t2 M).2,t3,fun M=>(t4 M).1,fun M=>(t4 M).2,t5,←rB,←tQ,c2,←K1,c4,ek,fun M=>(t6 M).1,fun M=>(t6 M).2.1,fun M=>(t6 M).2.2]
end
def agl(s:Str)(r t:Rw):Prop:=s= "book" ∧ t.length=2∨s= "base" ∧ t.length=4∨s= "value" ∧ t.length=2∨s= "answer" ∧ t.length=3∨(s= "at" ∧ (∀w,lg (r++[w])=none)∧lg r.dropLast=none)∨s= "end" ∧ t.length=1
structure iw(r:Rw):Prop where
 Ib:qW r
 len:r.length≤12
 sh:∃s t,r=W s::t∧t≠[]∧agl s r t
theorem Nt{s s':Str}{t:Rw}(h:fw (W s::t)=some s'):s=s':=by rw[Zi]at h;exact Option.some.inj h
theorem JK{s:Str}{t:Rw}(h1:s= "book" → t.length≠2)(h2:s= "base" → t.length≠4)(h3:s= "value" → t.length≠2)(h4:s= "answer" → t.length≠3)(h5:s= "at" → lg (W s::t)=none)(h6:s= "end" → t.length≠1):Mq (W s::t):=by
 refine adH (fun z=> ?_) (fun z=> ?_) (fun z=> ?_) (fun z=> ?_) (fun z=>h5 (Nt z)) (fun z=> ?_)
 ·have:=h1 (Nt z);simp;omega
 ·have:=h2 (Nt z);simp;omega
 ·have:=h3 (Nt z);simp;omega
 ·have:=h4 (Nt z);simp;omega
 ·have:=h6 (Nt z);simp;omega
theorem iw.more{r:Rw}(h:iw r)(w:List Nat):Mq (r++[w]):=by
 obtain⟨s,t,rfl,ht,hk⟩:=h.sh
 rw[List.cons_append]
 rcases hk with⟨rfl,e⟩ | ⟨rfl,e⟩ | ⟨rfl,e⟩ | ⟨rfl,e⟩ | ⟨rfl,e,_⟩ | ⟨rfl,e⟩
 all_goals refine JK (fun z=> ?_) (fun z=> ?_) (fun z=> ?_) (fun z=> ?_) (fun z=> ?_) (fun z=> ?_)
 all_goals first | exact absurd z (by decide) | (simp;omega) | exact e w
theorem iw.less{r:Rw}(h:iw r):Mq r.dropLast:=by
 obtain⟨s,t,rfl,ht,hk⟩:=h.sh
 have hd:(W s::t).dropLast=W s::t.dropLast:=by cases t with
  | nil=>exact absurd rfl ht
  | cons x t=>rfl
 have hl:t.dropLast.length+1=t.length:=by
  rw[List.length_dropLast]
  have:t.length≠0:=by simpa using ht
  omega
 rw[hd]
 rcases hk with⟨rfl,e⟩ | ⟨rfl,e⟩ | ⟨rfl,e⟩ | ⟨rfl,e⟩ | ⟨rfl,_,e⟩ | ⟨rfl,e⟩
 all_goals refine JK (fun z=> ?_) (fun z=> ?_) (fun z=> ?_) (fun z=> ?_) (fun z=> ?_) (fun z=> ?_)
 all_goals first | exact absurd z (by decide) | omega | (rw[←hd];exact e)
theorem iw.gap{r:Rw}{s:Str}{t:Rw}(h:iw r)(e:r=W s::t):Mq (W s::[]::t):=by
 obtain⟨s',t',e',ht,hk⟩:=h.sh
 have:s'=s∧t'=t:=by
  have z:=e.symm.trans e'
  injection z with z1 z2
  exact⟨by rw[←DW s,z1,DW],z2.symm⟩
 obtain⟨rfl,rfl⟩:=this
 have hn:yg []=none:=by decide
 rcases hk with⟨rfl,e⟩ | ⟨rfl,e⟩ | ⟨rfl,e⟩ | ⟨rfl,e⟩ | ⟨rfl,_,e⟩ | ⟨rfl,e⟩
 all_goals refine JK (fun z=> ?_) (fun z=> ?_) (fun z=> ?_) (fun z=> ?_) (fun z=> ?_) (fun z=> ?_)
 all_goals first | exact absurd z (by decide) | (simp;omega) | (simp[lg,Vs,hn])
theorem GZ{s:Str}{t:Rw}(h1:s≠ "book")(h2:s≠ "base")(h3:s≠ "value")(h4:s≠ "answer")(h5:s≠ "at")(h6:s≠ "end"):Mq (W s::t):=
 JK (fun z=>absurd z h1) (fun z=>absurd z h2) (fun z=>absurd z h3) (fun z=>absurd z h4) (fun z=>absurd z h5) (fun z=>absurd z h6)
theorem S_{t:Rw}:Mq ([]::t):=by
 have:([]:List Nat)=W "" := by decide
 rw[this]
 exact GZ (by decide) (by decide) (by decide) (by decide) (by decide) (by decide)
theorem agw{t:Int}{v:List Nat}(ht:Sm t)(hv:v.length≤50):∃u w:Str,∀M:Mem,aX (.str "book ") (.str (aZ (aM t))) M= .ok (.str u) M∧aX (.str u) (.str " ") M= .ok (.str w) M∧aX (.str w) (.str (aZ v)) M= .ok (aJ [W "book",aM t,v]) M:=by
 refine⟨aZ (W "book " ++ aM t),aZ (W "book " ++ aM t++W " "),fun M=> ?_⟩
 have l1:=bW ht
 have w1:(W "book ").length=5:=by decide
 have w2:(W " ").length=1:=by decide
 refine⟨addW (by omega) M,G8 (by simp;omega) M,?_⟩
 rw[QM (by simp;omega)]
 unfold aJ
 rw[dZ]
 congr 3
 all_goals rw[show W "book " = W "book" ++ [32]from by decide,show W " " = [32]from by decide]
 all_goals simp[cg]
theorem ah_{b g:List Nat}{m:Int}(hb:b.length≤50)(hg:g.length≤50)(hm:Sm m):∃u v w:Str,∀M:Mem,aX (.str "value ") (.str (aZ b)) M= .ok (.str u) M∧aX (.str u) (.str " ") M= .ok (.str v) M∧aX (.str v) (.str (aZ g)) M= .ok (.str w) M∧aX (.str w) (.str (aZ (aM m))) M= .ok (aJ [W "value",b,g++aM m]) M:=by
 refine⟨aZ (W "value " ++ b),aZ (W "value " ++ b++W " "),aZ (W "value " ++ b++W " " ++ g),fun M=> ?_⟩
 have l1:=bW hm
 have w1:(W "value ").length=6:=by decide
 have w2:(W " ").length=1:=by decide
 refine⟨addW (by omega) M,G8 (by simp;omega) M,QM (by simp;omega) M,?_⟩
 rw[QM (by simp;omega)]
 unfold aJ
 rw[dZ]
 congr 3
 all_goals rw[show W "value " = W "value" ++ [32]from by decide,show W " " = [32]from by decide]
 all_goals simp[cg]
theorem alU{a b c:Int}(ha:Sm a)(hb:Sm b)(hc:Sm c):∃u v w z:Str,∀M:Mem,aX (.str "answer ") (.str (aZ (aM a))) M= .ok (.str u) M∧aX (.str u) (.str " ") M= .ok (.str v) M∧aX (.str v) (.str (aZ (aM b))) M= .ok (.str w) M∧aX (.str w) (.str " ") M= .ok (.str z) M∧
  aX (.str z) (.str (aZ (aM c))) M= .ok (aJ [W "answer",aM a,aM b,aM c]) M:=by
 refine⟨aZ (W "answer " ++ aM a),aZ (W "answer " ++ aM a++W " "),aZ (W "answer " ++ aM a++W " " ++ aM b),aZ (W "answer " ++ aM a++W " " ++ aM b++W " "),fun M=> ?_⟩
 have l1:=bW ha
 have l2:=bW hb
 have l3:=bW hc
 have w1:(W "answer ").length=7:=by decide
 have w2:(W " ").length=1:=by decide
 refine⟨addW (by omega) M,G8 (by simp;omega) M,QM (by simp;omega) M,G8 (by simp;omega) M,?_⟩
 rw[QM (by simp;omega)]
 unfold aJ
 rw[dZ]
 congr 3
 all_goals rw[show W "answer " = W "answer" ++ [32]from by decide,show W " " = [32]from by decide]
 all_goals simp[cg]
theorem abD{n:Int}(h:Sm n)(M:Mem):aX (.str "end ") (.str (aZ (aM n))) M= .ok (aJ [W "end",aM n]) M:=by
 have l1:=bW h
 have w1:(W "end ").length=4:=by decide
 rw[addW (by omega)]
 unfold aJ
 rw[dZ]
 congr 3
theorem ahx{us:Rw}(h0:us≠[])(hl:(cg 32 us).length≤500)(M:Mem):aX (.str "base ") (.str (aZ (cg 32 us))) M= .ok (aJ (W "base" :: us)) M:=by
 have w1:(W "base ").length=5:=by decide
 rw[addW (by omega)]
 unfold aJ
 rw[dZ]
 cases us with
 | nil=>exact absurd rfl h0
 | cons x us=>
  congr 3
theorem ajF{k:Int}(h:0≤k)(h':k≤10)(M:Mem):LC (.str "b") (.int k) M= .ok (.str (aZ (List.replicate k.toNat 98))) M:=by
 rw[aai (by decide) (by omega) (by omega)]
 congr 2
 rw[show("b" : Str)=⟨#[98]⟩from by decide]
 apply qL
 rw[U6 _ _ h,bH]
def sgn(x:Int):List Nat:=if x % 2=0 then[45]else[]
def lim(i:Nat):Int:=match i with
 | 0=>9
 | 1=>99
 | _=>9999
def Ep(x:Int)(i:Nat):Rw:=[W "value",List.replicate (i+1) 98,sgn x++aM (1+x % lim i)]
def De(x:Int)(i:Nat):Rw:=[W "answer",aM (x % 5+(i:Int) / 2),aM (i:Int),aM (0 - x % 3)]
structure Zc(M0:Mem)(c:Int)(x r b:Nat)(f:Nat→List D)(i:Nat)(e:Sl)(M:Mem):Prop where
 e:∃a4 a5 a6 a7,e=[some (.int c),some (.ref x),some (.ref r),some (.ref b),a4,a5,a6,a7]
 l:M[r]? = some (.lst (f i))
 ch:Ch (· = r) M0 M
theorem Qd(i:Nat):0<lim i∧lim i≤9999:=by unfold lim;split<;>omega
section
variable{M0 M:Mem}{c:Int}{x r b i:Nat}{xs:List Int}{d:D}{e:Sl}{L0:List D}
theorem Yw{x5:Int}{nv:Nat}(hx:M0[x]? = some (.lst (xs.map D.int)))(Zh:x≠r)(p5:xs[5]? = some x5)(z5:0≤x5∧x5<2147483647)(hn:nv≤3)(hL:L0.length≤100)(hd:(Hs 0 nv)[i]? = some d)
  (h:Zc M0 c x r b (fun i=>L0++(List.range i).map fun k=>aJ (Ep x5 k)) i e M):∃e1,gN 4 d e=some e1∧(vG e1 M).to (Zc M0 c x r b (fun i=>L0++(List.range i).map fun k=>aJ (Ep x5 k)) (i+1)) fun _ _=>False:=by
 obtain⟨⟨a4,a5,a6,a7,rfl⟩,hl,hc⟩:=h
 obtain⟨hi,rfl⟩:=Jx hd
 refine⟨_,rfl,?_⟩
 rw[Int.zero_add]
 have hxM:=hc.2 x _ Zh hx
 obtain⟨M1,rB⟩:∃M1,M1=M++[MO.lst [D.str "-",D.str ""]]:=⟨_,rfl⟩
 have h1:M1[M.length]? = some (.lst [D.str "-",D.str ""]):=by rw[rB];exact aO
 have g1:Gr M M1:=by rw[rB];exact Gr.app
 have i5:bJ (.ref x) (.int 5) M1= .ok (.int x5) M1:=nG (g1 _ _ hxM) rfl p5
 have sg:bJ (.ref M.length) (.int (x5 % 2)) M1= .ok (.str (aZ (sgn x5))) M1:=by
  unfold sgn
  have:x5 % 2=0∨x5 % 2=1:=by omega
  rcases this with e | e
  ·rw[e,if_pos rfl];exact b_ h1 (by decide) rfl
  ·rw[e,if_neg (by decide)];exact b_ h1 (by decide) rfl
 obtain⟨M2,tQ⟩:∃M2,M2=M1++[MO.lst [D.int 9,D.int 99,D.int 9999]]:=⟨_,rfl⟩
 have h2:M2[M1.length]? = some (.lst [D.int 9,D.int 99,D.int 9999]):=by rw[tQ];exact aO
 have g2:Gr M1 M2:=by rw[tQ];exact Gr.app
 have li:bJ (.ref M1.length) (.int (i:Int)) M2= .ok (.int (lim i)) M2:=by
  have:i=0∨i=1∨i=2:=by omega
  rcases this with rfl | rfl | rfl<;>exact b_ h2 (by decide) rfl
 have lp:=Qd i
 have ml:∀M:Mem,j_ (.int x5) (.int (lim i)) M= .ok (.int (x5 % lim i)) M:=fun M=>md _ _ _ lp.1
 have bl:=d9 x5 lp.1
 have sm:Sm (1+x5 % lim i):=dM (by omega) (by omega)
 have st:∀M:Mem,mD [.int (1+x5 % lim i)] M= .ok (.str (aZ (aM (1+x5 % lim i)))) M:=fun M=>BZ sm M
 have mb:∀M:Mem,LC (.str "b") (.int ((i:Int)+1)) M= .ok (.str (aZ (List.replicate (i+1) 98))) M:=fun M=>by
  rw[ajF (by omega) (by omega),show((i:Int)+1).toNat=i+1 by omega]
 obtain⟨u,v,w,t⟩:=ah_ (b:=List.replicate (i+1) 98) (g:=sgn x5) (by simp;omega) (by unfold sgn;split<;>simp) sm
 have ty:I_ "list" (.ref r) M1=true:=ue (g1 _ _ hl)
 have hl2:=g2 _ _ (g1 _ _ hl)
 have ap:kJ (.ref r) [aJ (Ep x5 i)] M2= .ok .non (M2.set r (.lst (L0++(List.range (i+1)).map fun k=>aJ (Ep x5 k)))):=by
  rw[lC hl2 (by simp;omega),List.range_succ]
  simp
 simp only[vG]
 have t4:∀M:Mem,aX (.str w) (.str (aZ (aM (1+x5 % lim i)))) M= .ok (aJ (Ep x5 i)) M:=fun M=>(t M).2.2.2
 simp[←rB,i5,md,sg,ty,mb,fun M=>(t M).1,fun M=>(t M).2.1,fun M=>(t M).2.2.1,←tQ,li,ml,st,t4,ap]
 exact⟨⟨_,_,_,_,rfl⟩,get_set hl2,(hc.trans ((g1.trans g2).ch)).trans (Ch.set rfl)⟩
theorem YC{x7:Int}{nv:Nat}(hx:M0[x]? = some (.lst (xs.map D.int)))(Zh:x≠r)(p7:xs[7]? = some x7)(z7:0≤x7∧x7<2147483647)(hn:nv≤3)(hL:L0.length≤100)(hd:(Hs 0 nv)[i]? = some d)
  (h:Zc M0 c x r b (fun i=>L0++(List.range i).map fun k=>aJ (De x7 k)) i e M):∃e1,gN 4 d e=some e1∧(vD e1 M).to (Zc M0 c x r b (fun i=>L0++(List.range i).map fun k=>aJ (De x7 k)) (i+1)) fun _ _=>False:=by
 obtain⟨⟨a4,a5,a6,a7,rfl⟩,hl,hc⟩:=h
 obtain⟨hi,rfl⟩:=Jx hd
 refine⟨_,rfl,?_⟩
 rw[Int.zero_add]
 have hxM:=hc.2 x _ Zh hx
 have i7:bJ (.ref x) (.int 7) M= .ok (.int x7) M:=nG hxM rfl p7
 have b5:=d9 x7 (j:=5) (by decide)
 have b3:=d9 x7 (j:=3) (by decide)
 have m1:Sm (x7 % 5+(i:Int) / 2):=dM (by omega) (by omega)
 have m2:Sm (i:Int):=dM (by omega) (by omega)
 have m3:Sm (0 - x7 % 3):=by
  unfold Sm
  have:(2:Nat)<10 ^ 41:=by decide
  omega
 have s1:∀M:Mem,mD [.int (x7 % 5+(i:Int) / 2)] M= .ok (.str (aZ (aM (x7 % 5+(i:Int) / 2)))) M:=fun M=>BZ m1 M
 have s2:∀M:Mem,mD [.int (i:Int)] M= .ok (.str (aZ (aM (i:Int)))) M:=fun M=>BZ m2 M
 have s3:∀M:Mem,mD [.int (0 - x7 % 3)] M= .ok (.str (aZ (aM (0 - x7 % 3)))) M:=fun M=>BZ m3 M
 have sb:∀(z:Int) (M:Mem),Jd (.int 0) (.int z) M= .ok (.int (0 - z)) M:=fun _ _=>rfl
 obtain⟨z3,hz3⟩:∃z3,z3=0 - x7 % 3:=⟨_,rfl⟩
 rw[←hz3]at s3 m3
 have sb':∀M:Mem,Jd (.int 0) (.int (x7 % 3)) M= .ok (.int z3) M:=fun M=>by rw[hz3];rfl
 obtain⟨u,v,w,z,t⟩:=alU m1 m2 m3
 have ty:I_ "list" (.ref r) M=true:=ue hl
 have ap:kJ (.ref r) [aJ (De x7 i)] M= .ok .non (M.set r (.lst (L0++(List.range (i+1)).map fun k=>aJ (De x7 k)))):=by
  rw[lC hl (by simp;omega),List.range_succ]
  simp
 have t5:∀M:Mem,aX (.str z) (.str (aZ (aM z3))) M= .ok (aJ (De x7 i)) M:=fun M=>by
  have:=(t M).2.2.2.2
  rw[this,hz3];rfl
 simp only[vD]
 simp[i7,md,dv,s1,ty,fun M=>(t M).1,fun M=>(t M).2.1,fun M=>(t M).2.2.1,fun M=>(t M).2.2.2.1,s2,sb',s3,t5,ap]
 exact⟨⟨_,_,_,_,rfl⟩,get_set hl,hc.trans (Ch.set rfl)⟩
end
def ams(r:Rw):Prop:=∃(k:Nat) (n m a:Int),0≤n∧n<2147483647∧0≤m∧Sm m∧0≤a∧Sm a∧r=W "at" :: aM a::dN k n m
structure ahF(M0:Mem)(c:Int)(x r b:Nat)(L0:List D)(i:Nat)(e:Sl)(M:Mem):Prop where
 e:∃a4 a5 a6 a7,e=[some (.int c),some (.ref x),some (.ref r),some (.ref b),a4,a5,a6,a7]
 l:∃es:List Rw,es.length=i∧(∀r∈es,ams r)∧M[r]? = some (.lst (L0++es.map aJ))
 ch:Ch (· = r) M0 M
theorem Yz{M0 M:Mem}{c T:Int}{x r b i:Nat}{xs:List Int}{d:D}{e:Sl}{L0:List D}{nv:Nat}(hT:0<T)(hT1:T≤10 ^ 40)(pw:∀M:Mem,Lz (.int 10) (.int 40) M= .ok (.int T) M)
  (hx:M0[x]? = some (.lst (xs.map D.int))) (Zh:x≠r) (hxs:TF 12 xs) (hn:nv≤8) (hL:L0.length≤100) (hd:(Hs 0 nv)[i]? = some d)
  (h:ahF M0 c x r b L0 i e M):∃e1,gN 4 d e=some e1∧(vC e1 M).to (ahF M0 c x r b L0 (i+1)) fun _ _=>False:=by
 obtain⟨⟨a4,a5,a6,a7,rfl⟩,⟨es,hes,hok,hl⟩,hc⟩:=h
 obtain⟨hi,rfl⟩:=Jx hd
 refine⟨_,rfl,?_⟩
 rw[Int.zero_add]
 have hxM:=hc.2 x _ Zh hx
 obtain⟨y,py,y0,y1⟩:=o9 hxs (i:=9+i % 3) (by omega)
 have iy:bJ (.ref x) (.int (9+(i:Int) % 3)) M= .ok (.int y) M:=nG hxM (by omega) py
 have dd:Je (.int y) (.int (1+(i:Int))) M= .ok (.int (y / (1+(i:Int)))) M:=dv _ _ _ (by omega) (by omega)
 have q0:0≤y / (1+(i:Int)):=Int.ediv_nonneg y0 (by omega)
 have q1:y / (1+(i:Int))<2147483647:=Int.lt_of_le_of_lt (Int.ediv_le_self _ y0) y1
 obtain⟨n,hn'⟩:∃n,n=y / (1+(i:Int)):=⟨_,rfl⟩
 rw[←hn']at q0 q1 dd
 obtain⟨k,M1,e1,g1⟩:=abx (M:=M) (n:=n) (c:=c+i) q0 q1 hT hT1 pw
 have ty:I_ "list" (.ref r) M=true:=ue hl
 have mb:=d9 (c+i) hT
 have hl1:=g1 _ _ hl
 have b30:=d9 n (j:=30) (by decide)
 simp only[vC]
 simp[md,iy,dd,ty,e1,lC hl1 (show _<16777216 by simp;omega)]
 refine⟨⟨_,_,_,_,rfl⟩,⟨es++[W "at" :: aM (n % 30)::dN k n ((c+i) % T)],by simp[hes],fun r hr=> ?_,by rw[get_set hl1];simp⟩,(hc.trans g1.ch).trans (Ch.set rfl)⟩
 rcases List.mem_append.mp hr with hr | hr
 ·exact hok r hr
 ·rw[List.mem_singleton.mp hr]
  exact⟨k,n,_,_,q0,q1,mb.1,ae2 mb.1 mb.2 hT1,b30.1,dM b30.1 (by omega),rfl⟩
theorem acX{x:Int}(hx:0≤x){i:Nat}(hi:i<3):Yn (Ep x i):=by
 have lp:=Qd i
 have bl:=d9 x lp.1
 have sm:Sm (1+x % lim i):=dM (by omega) (by omega)
 have hn:nU (List.replicate (i+1) 98)=true:=by
  have:i=0∨i=1∨i=2:=by omega
  rcases this with rfl | rfl | rfl<;>decide
 unfold Ep sgn
 by_cases h:x % 2=0
 ·rw[if_pos h]
  exact⟨_,_,-(1+x % lim i),rfl,hn,WM (by omega) sm,by omega⟩
 ·rw[if_neg h]
  exact⟨_,_,1+x % lim i,rfl,hn,by simpa using iu sm,by omega⟩
theorem RT{x:Int}(hx:0≤x){i:Nat}(hi:i<3):pH [aM (x % 5+(i:Int) / 2),aM (i:Int),aM (0 - x % 3)]=some [x % 5+(i:Int) / 2,(i:Int),0 - x % 3]:=by
 have b5:=d9 x (j:=5) (by decide)
 have b3:=d9 x (j:=3) (by decide)
 have m1:Sm (x % 5+(i:Int) / 2):=dM (by omega) (by omega)
 have m2:Sm (i:Int):=dM (by omega) (by omega)
 have m3:Sm (0 - x % 3):=by
  unfold Sm
  have:(2:Nat)<10 ^ 41:=by decide
  omega
 simp only[pH,iu m1,iu m2,iu m3,Option.bind_some,Option.map_some]
theorem acY{x:Int}(hx:0≤x){i:Nat}(hi:i<3):U4 (De x i):=⟨_,_,_,_,rfl,RT hx hi⟩
theorem Xx{x:Int}(hx:0≤x){i:Nat}(hi:i<3):Mh (De x i)=[x % 5+(i:Int) / 2,(i:Int),0 - x % 3]:=by
 show(pH [aM (x % 5+(i:Int) / 2),aM (i:Int),aM (0 - x % 3)]).getD []=_
 rw[RT hx hi];rfl
theorem adb{x:Int}(hx:0≤x){i j:Nat}(hij:i<j)(hj:j<3):ltA (De x i) (De x j):=by
 unfold ltA
 rw[Xx hx hj,Xx hx (by omega)]
 simp only[List.take,Lh.Gx]
 by_cases h:x % 5+(j:Int) / 2=x % 5+(i:Int) / 2
 ·rw[if_pos h,if_neg (by omega)];simp;omega
 ·rw[if_neg h];simp;omega
theorem RG{P:Rw→Rw→Prop}{f:Nat→Rw}{n:Nat}(h:∀i j,i<j→j<n→P (f i) (f j)):((List.range n).map f).Pairwise P:=by
 rw[List.pairwise_map]
 refine List.Pairwise.imp_of_mem ?_ List.pairwise_lt_range
 intro a b _ hb hab
 exact h a b hab (List.mem_range.mp hb)
theorem afr{i j:Nat}(hij:i<j)(hj:j<3):List.replicate (i+1) 98<List.replicate (j+1) 98:=by
 have:(i=0∧j=1)∨(i=0∧j=2)∨(i=1∧j=2):=by omega
 rcases this with⟨rfl,rfl⟩ | ⟨rfl,rfl⟩ | ⟨rfl,rfl⟩<;>decide
theorem Yb{x:Int}(hx:0≤x){i:Nat}(hi:i<3):iw (Ep x i):=by
 have lp:=Qd i
 have bl:=d9 x lp.1
 have sm:Sm (1+x % lim i):=dM (by omega) (by omega)
 have wn:=dU sm
 refine⟨⟨by simp[Ep],by simp[Ep],fun w hw=> ?_⟩,by simp[Ep],"value",_,rfl,by simp,.inr (.inr (.inl ⟨rfl,rfl⟩))⟩
 simp only[Ep,List.mem_cons,List.not_mem_nil,or_false]at hw
 rcases hw with rfl | rfl | rfl
 ·exact⟨by decide,by decide,by decide⟩
 ·exact⟨by simp,by simp,by simp;omega⟩
 ·unfold sgn
  have l:=bW sm
  split
  ·exact⟨by simp[wn.1],by simp[wn.2.1],by simp;omega⟩
  ·exact wn
theorem Yd{x:Int}(hx:0≤x){i:Nat}(hi:i<3):iw (De x i):=by
 have b5:=d9 x (j:=5) (by decide)
 have b3:=d9 x (j:=3) (by decide)
 have m3:Sm (0 - x % 3):=by
  unfold Sm
  have:(2:Nat)<10 ^ 41:=by decide
  omega
 refine⟨⟨by simp[De],by simp[De],fun w hw=> ?_⟩,by simp[De],"answer",_,rfl,by simp,.inr (.inr (.inr (.inl ⟨rfl,rfl⟩)))⟩
 simp only[De,List.mem_cons,List.not_mem_nil,or_false]at hw
 rcases hw with rfl | rfl | rfl | rfl
 ·exact⟨by decide,by decide,by decide⟩
 ·exact dU (dM (by omega) (by omega))
 ·exact dU (dM (by omega) (by omega))
 ·exact dU m3
theorem adE(k:Nat)(n m:Int):(dN k n m).length≤7∧dN k n m≠[]:=by unfold dN;split<;>simp
theorem M_{r:Rw}(h:ams r):iw r∧okE r:=by
 obtain⟨k,n,m,a,h1,h2,h3,h4,h5,h6,rfl⟩:=h
 have hl:=(adE k n m).1
 exact⟨⟨adD h1 h2 h3 h4 k h6,by simp;omega,"at",_,rfl,by simp,.inr (.inr (.inr (.inr (.inl ⟨rfl,abz k a,abA k a⟩))))⟩,⟨_,_,rfl,aby h1 h2 h3 h4 k h5 h6⟩⟩
theorem Yc{n:Int}(h:Sm n):iw [W "end",aM n]:=by
 refine⟨⟨by simp,by simp,fun w hw=> ?_⟩,by simp,"end",_,rfl,by simp,.inr (.inr (.inr (.inr (.inr ⟨rfl,rfl⟩))))⟩
 simp only[List.mem_cons,List.not_mem_nil,or_false]at hw
 rcases hw with rfl | rfl
 ·exact⟨by decide,by decide,by decide⟩
 ·exact dU h
def aeK(v:List Nat):Prop:=v=W "-" ∨ ∃h:Int,0≤h∧h<60∧v=aM h
theorem JH{h:Int}(h0:0≤h)(h1:h<60):Sm h:=dM h0 (by omega)
theorem adx{t:Int}{v:List Nat}(h0:0≤t)(ht:Sm t)(hv:aeK v):(∃d,iQ [W "book",aM t,v]=some (t,d))∧iw [W "book",aM t,v]∧v.length≤50:=by
 have nt:yg (aM t)=some t:=by simp[yg,iu ht];omega
 have hw:Wd v∧v.length≤50:=by
  rcases hv with rfl | ⟨h,h0,h1,rfl⟩
  ·exact⟨⟨by decide,by decide,by decide⟩,by decide⟩
  ·exact⟨dU (JH h0 h1),by have:=bW (JH h0 h1);omega⟩
 refine⟨?_,⟨⟨by simp,by simp,fun w hm=> ?_⟩,by simp,"book",_,rfl,by simp,.inl ⟨rfl,rfl⟩⟩,hw.2⟩
 ·simp only[iQ,DW,if_true,W9,nt]
  rcases hv with rfl | ⟨h,h0,h1,rfl⟩
  ·exact⟨.non,by simp⟩
  ·refine⟨.int h,?_⟩
   have e:aZ (aM h)≠ "-" := by
    intro z
    have z2:=iu (JH h0 h1)
    have z3:aM h=W "-" := by rw[←Ed (aM h),z];rfl
    rw[z3]at z2
    have:num (W "-")=none:=by decide
    rw[this]at z2
    cases z2
   have b:Ak 60 (aM h)=some h:=by
    have q1:¬(h<0):=by omega
    have q2:¬(60≤h):=by omega
    simp[Ak,yg,iu (JH h0 h1),q1,q2]
   rw[if_neg e,b]
   simp
 ·simp only[List.mem_cons,List.not_mem_nil,or_false]at hm
  rcases hm with rfl | rfl | rfl
  ·exact⟨by decide,by decide,by decide⟩
  ·exact dU ht
  ·exact hw.1
theorem ad3{a b c d:Int}(ha:0≤a∧a<1000)(hb:0≤b∧b<1000)(hc:1≤c∧c<1000)(hd:0≤d∧d<1000):(∃z,gJ [W "base",aM a,aM b,aM c,aM d]=some z)∧iw [W "base",aM a,aM b,aM c,aM d]∧(cg 32 [aM a,aM b,aM c,aM d]).length≤500:=by
 have sa:Sm a:=dM (by omega) (by omega)
 have sb:Sm b:=dM (by omega) (by omega)
 have sc:Sm c:=dM (by omega) (by omega)
 have sd:Sm d:=dM (by omega) (by omega)
 refine⟨?_,⟨⟨by simp,by simp,fun w hm=> ?_⟩,by simp,"base",_,rfl,by simp,.inr (.inl ⟨rfl,rfl⟩)⟩,?_⟩
 ·have q1:¬(a<0):=by omega
  have q2:¬(b<0):=by omega
  have q3:¬(c<0):=by omega
  have q4:¬(d<0):=by omega
  have q5:¬(1152921504606846976≤c):=by omega
  have q6:¬(1152921504606846976≤d):=by omega
  have q7:¬(c=0):=by omega
  simp[gJ,Xv,Dc,Ak,yg,iu sa,iu sb,iu sc,iu sd,q1,q2,q3,q4,q5,q6,q7]
 ·simp only[List.mem_cons,List.not_mem_nil,or_false]at hm
  rcases hm with rfl | rfl | rfl | rfl | rfl
  ·exact⟨by decide,by decide,by decide⟩
  ·exact dU sa
  ·exact dU sb
  ·exact dU sc
  ·exact dU sd
 ·have l1:=bW sa
  have l2:=bW sb
  have l3:=bW sc
  have l4:=bW sd
  simp[cg]
  omega
def aeX:D→D
 | .int n=> .str (aZ (aM n))
 | d=>d
structure Rows(R:List Rw)(h:Int×D)(hd bs en:Rw)(vs as es:List Rw):Prop where
 G:Good R h hd bs en vs as es
 ok:∀r∈R,iw r
 len:R.length≤20
theorem acs{M:Mem}{c T:Int}(hT:0<T)(hT1:T≤10 ^ 40)(pw:∀M:Mem,Lz (.int 10) (.int 40) M= .ok (.int T) M):
  ∃R h hd bs en vs as es n M',Rows R h hd bs en vs as es∧h.1=c % T∧zQ [.int c] M= .ok (.ref n) M'∧M'[n]? = some (.lst (R.map aJ))∧Gr M M':=by
 obtain⟨xs,x,M1,hxs,e1,hx1,g1⟩:=JS (M:=M) c 12 (nn:=12) rfl (by decide)
 obtain⟨x0,p0,z0⟩:=o9 hxs (i:=0) (by decide)
 obtain⟨x1,p1,z1⟩:=o9 hxs (i:=1) (by decide)
 obtain⟨x2,p2,z2⟩:=o9 hxs (i:=2) (by decide)
 obtain⟨x3,p3,z3⟩:=o9 hxs (i:=3) (by decide)
 obtain⟨x4,p4,z4⟩:=o9 hxs (i:=4) (by decide)
 obtain⟨x5,p5,z5⟩:=o9 hxs (i:=5) (by decide)
 obtain⟨x6,p6,z6⟩:=o9 hxs (i:=6) (by decide)
 obtain⟨x7,p7,z7⟩:=o9 hxs (i:=7) (by decide)
 obtain⟨x8,p8,z8⟩:=o9 hxs (i:=8) (by decide)
 have hxl:=sW hx1
 obtain⟨t,ht⟩:∃t,t=c % T:=⟨_,rfl⟩
 have tb:=d9 c hT
 rw[←ht]at tb ⊢
 have st:Sm t:=ae2 tb.1 tb.2 hT1
 have cm:∀M:Mem,j_ (.int c) (.int T) M= .ok (.int t) M:=fun M=>by rw[md _ _ _ hT,ht]
 have b60:=d9 x0 (j:=60) (by decide)
 have s1:∀M:Mem,mD [.int t] M= .ok (.str (aZ (aM t))) M:=fun M=>BZ st M
 have s2:∀M:Mem,mD [.int (x0 % 60)] M= .ok (.str (aZ (aM (x0 % 60)))) M:=fun M=>BZ (dM (by omega) (by omega)) M
 have i0:∀M2,Gr M1 M2→bJ (.ref x) (.int 0) M2= .ok (.int x0) M2:=fun M2 g=>nG (g _ _ hx1) rfl p0
 obtain⟨M2,tQ⟩:∃M2,M2=M1++[MO.lst [D.str "-",D.str "0",D.str (aZ (aM (x0 % 60)))]]:=⟨_,rfl⟩
 have h2:M2[M1.length]? = some (.lst [D.str "-",D.str "0",D.str (aZ (aM (x0 % 60)))]):=by rw[tQ];exact aO
 have g2:Gr M1 M2:=by rw[tQ];exact Gr.app
 have i1:bJ (.ref x) (.int 1) M2= .ok (.int x1) M2:=nG (g2 _ _ hx1) rfl p1
 have pv:∃v,aeK v∧bJ (.ref M1.length) (.int (x1 % 3)) M2= .ok (.str (aZ v)) M2:=by
  have:x1 % 3=0∨x1 % 3=1∨x1 % 3=2:=by omega
  rcases this with e | e | e<;>rw[e]
  ·exact⟨W "-",.inl rfl,by rw[DW];exact b_ h2 (by decide) rfl⟩
  ·exact⟨W "0",.inr ⟨0,by decide,by decide,by decide⟩,by rw[DW];exact b_ h2 (by decide) rfl⟩
  ·exact⟨_,.inr ⟨x0 % 60,b60.1,b60.2,rfl⟩,b_ h2 (by decide) rfl⟩
 obtain⟨v,hv,ev⟩:=pv
 obtain⟨⟨dv0,eh⟩,okh,lv⟩:=adx tb.1 st hv
 obtain⟨u,w,th⟩:=agw (t:=t) (v:=v) st lv
 obtain⟨hd,hhd⟩:∃hd,hd=[W "book",aM t,v]:=⟨_,rfl⟩
 obtain⟨M3,Jk⟩:∃M3,M3=M2++[MO.lst [aJ hd]]:=⟨_,rfl⟩
 have h3:M3[M2.length]? = some (.lst [aJ hd]):=by rw[Jk];exact aO
 have g3:Gr M2 M3:=by rw[Jk];exact Gr.app
 have g13:=g2.trans g3
 have i2:bJ (.ref x) (.int 2) M3= .ok (.int x2) M3:=nG (g13 _ _ hx1) rfl p2
 have i3:bJ (.ref x) (.int 3) M3= .ok (.int x3) M3:=nG (g13 _ _ hx1) rfl p3
 have b9:=d9 x2 (j:=9) (by decide)
 have b7:=d9 x2 (j:=7) (by decide)
 have b31:=d9 x3 (j:=31) (by decide)
 have b4:=d9 (x3 / 31) (j:=4) (by decide)
 obtain⟨⟨zb,eb⟩,okb,lb⟩:=ad3 (a:=x2 % 9) (b:=x2 % 7) (c:=1+x3 % 31) (d:=x3 / 31 % 4) (by omega) (by omega) (by omega) (by omega)
 obtain⟨bs,hbs⟩:∃bs,bs=[W "base",aM (x2 % 9),aM (x2 % 7),aM (1+x3 % 31),aM (x3 / 31 % 4)]:=⟨_,rfl⟩
 obtain⟨M4,K1⟩:∃M4,M4=M3++[MO.lst [D.int (x2 % 9),D.int (x2 % 7),D.int (1+x3 % 31),D.int (x3 / 31 % 4)]]:=⟨_,rfl⟩
 have h4:M4[M3.length]? = some (.lst [D.int (x2 % 9),D.int (x2 % 7),D.int (1+x3 % 31),D.int (x3 / 31 % 4)]):=by rw[K1];exact aO
 have g4:Gr M3 M4:=by rw[K1];exact Gr.app
 have it:Vi (.ref M3.length) M4= .ok ⟨some (M3.length,[D.int (x2 % 9),D.int (x2 % 7),D.int (1+x3 % 31),D.int (x3 / 31 % 4)]),[D.int (x2 % 9),D.int (x2 % 7),D.int (1+x3 % 31),D.int (x3 / 31 % 4)]⟩ M4:=uy h4
 have cp:lu (some (M3.length,[D.int (x2 % 9),D.int (x2 % 7),D.int (1+x3 % 31),D.int (x3 / 31 % 4)])) Dz (pN mD (aq (az 0) aG)) [] [D.int (x2 % 9),D.int (x2 % 7),D.int (1+x3 % 31),D.int (x3 / 31 % 4)] [] M4= .ok (.ref M4.length) (M4++[.lst (ts [aM (x2 % 9),aM (x2 % 7),aM (1+x3 % 31),aM (x3 / 31 % 4)])]):=by
  refine Nz aeX (show uQ _ _ from eF h4) fun d hd=> ?_
  simp only[List.mem_cons,List.not_mem_nil,or_false]at hd
  have key:∀n:Int,0≤n→n<1000→pN mD (aq (az 0) aG) (some (D.int n)::[]) M4= .ok (aeX (D.int n)) M4:=fun n h0 h1=>by
   have:=BZ (n:=n) (dM h0 (by omega)) M4
   simp[this,aeX]
  rcases hd with rfl | rfl | rfl | rfl<;>exact key _ (by omega) (by omega)
 obtain⟨M5,T9⟩:∃M5,M5=M4++[MO.lst (ts [aM (x2 % 9),aM (x2 % 7),aM (1+x3 % 31),aM (x3 / 31 % 4)])]:=⟨_,rfl⟩
 have h5:M5[M4.length]? = some (.lst (ts [aM (x2 % 9),aM (x2 % 7),aM (1+x3 % 31),aM (x3 / 31 % 4)])):=by rw[T9];exact aO
 have g5:Gr M4 M5:=by rw[T9];exact Gr.app
 rw[←T9]at cp
 have jn:Aw (.str " ") [.ref M4.length] M5= .ok (.str (aZ (cg 32 [aM (x2 % 9),aM (x2 % 7),aM (1+x3 % 31),aM (x3 / 31 % 4)]))) M5:=aew h5 (by
  intro w hw
  simp only[List.mem_cons,List.not_mem_nil,or_false]at hw
  have key:∀n:Int,0≤n→n<1000→(aM n).length≤150:=fun n h0 h1=>by have:=bW (n:=n) (dM h0 (by omega));omega
  rcases hw with rfl | rfl | rfl | rfl<;>exact key _ (by omega) (by omega)) (by simp)
 have bt:∀M:Mem,aX (.str "base ") (.str (aZ (cg 32 [aM (x2 % 9),aM (x2 % 7),aM (1+x3 % 31),aM (x3 / 31 % 4)]))) M= .ok (aJ bs) M:=fun M=>by rw[hbs];exact ahx (by simp) lb M
 obtain⟨jt,hjt⟩:∃jt,jt=aZ (cg 32 [aM (x2 % 9),aM (x2 % 7),aM (1+x3 % 31),aM (x3 / 31 % 4)]):=⟨_,rfl⟩
 rw[←hjt]at jn bt
 have h35:=g5 _ _ (g4 _ _ h3)
 have ap:kJ (.ref M2.length) [aJ bs] M5= .ok .non (M5.set M2.length (.lst [aJ hd,aJ bs])):=by rw[lC h35 (by simp)];rfl
 have ty4:I_ "list" (.ref M2.length) M4=true:=ue (g4 _ _ h3)
 obtain⟨M6,hM6⟩:∃M6,M6=M5.set M2.length (.lst [aJ hd,aJ bs]):=⟨_,rfl⟩
 rw[←hM6]at ap
 have hr6:M6[M2.length]? = some (.lst [aJ hd,aJ bs]):=by rw[hM6];exact get_set h35
 have Zh:x≠M2.length:=by have:=g2.le;omega
 have hx6:M6[x]? = some (.lst (xs.map D.int)):=by rw[hM6,nY (Ne.symm Zh)];exact g5 _ _ (g4 _ _ (g13 _ _ hx1))
 have c16:∀j o,j<M2.length→M2[j]? = some o→M6[j]? = some o:=fun j o hj ho=>by
  rw[hM6,nY (by omega)]
  exact g5 _ _ (g4 _ _ (g3 _ _ ho))
 have n4:=d9 x4 (j:=4) (by decide)
 have n6:=d9 x6 (j:=4) (by decide)
 have n8:=d9 x8 (j:=9) (by decide)
 have i4:bJ (.ref x) (.int 4) M6= .ok (.int x4) M6:=nG hx6 rfl p4
 have r4:LK [.int (x4 % 4)] M6= .ok ⟨none,Hs 0 (x4 % 4).toNat⟩ M6:=Ge (by omega) (by omega)
 obtain⟨nv,hnv⟩:∃nv,nv=(x4 % 4).toNat:=⟨_,rfl⟩
 obtain⟨na,hna⟩:∃na,na=(x6 % 4).toNat:=⟨_,rfl⟩
 obtain⟨ne,hne⟩:∃ne,ne=(x8 % 9).toNat:=⟨_,rfl⟩
 rw[←hnv]at r4
 obtain⟨e7,M7,l7,⟨⟨a4,a5,a6,a7,rfl⟩,q7,c7⟩⟩:=yN (src:=none) (g:=gN 4) (b:=vG) (Zc M6 c x M2.length M3.length (fun i=>[aJ hd,aJ bs]++(List.range i).map fun k=>aJ (Ep x5 k))) (ds:=Hs 0 nv) (e:=[some (.int c),some (.ref x),some (.ref M2.length),some (.ref M3.length),none,none,none,none]) (M:=M6)
  ⟨⟨_,_,_,_,rfl⟩,by simpa using hr6,Ch.refl⟩ (fun _ _ _ _ _=>trivial) fun i d e M' hd' h=>Yw hx6 Zh p5 z5 (by omega) (by simp) hd' h
 rw[Jw]at q7
 have hx7:=c7.2 x _ Zh hx6
 have i6:bJ (.ref x) (.int 6) M7= .ok (.int x6) M7:=nG hx7 rfl p6
 have r6:LK [.int (x6 % 4)] M7= .ok ⟨none,Hs 0 na⟩ M7:=by rw[hna];exact Ge (by omega) (by omega)
 obtain⟨L1,hL1⟩:∃L1,L1=[aJ hd,aJ bs]++(List.range nv).map fun k=>aJ (Ep x5 k):=⟨_,rfl⟩
 have auZ:L1.length≤10:=by rw[hL1];simp;omega
 rw[←hL1]at q7
 obtain⟨e8,M8,l8,⟨⟨a4',a5',a6',a7',rfl⟩,q8,c8⟩⟩:=yN (src:=none) (g:=gN 4) (b:=vD) (Zc M7 c x M2.length M3.length (fun i=>L1++(List.range i).map fun k=>aJ (De x7 k))) (ds:=Hs 0 na) (e:=[some (.int c),some (.ref x),some (.ref M2.length),some (.ref M3.length),a4,a5,a6,a7]) (M:=M7)
  ⟨⟨_,_,_,_,rfl⟩,by simpa using q7,Ch.refl⟩ (fun _ _ _ _ _=>trivial) fun i d e M' hd' h=>YC hx7 Zh p7 z7 (by omega) (by omega) hd' h
 rw[Jw]at q8
 have hx8:=c8.2 x _ Zh hx7
 have i8:bJ (.ref x) (.int 8) M8= .ok (.int x8) M8:=nG hx8 rfl p8
 have r8:LK [.int (x8 % 9)] M8= .ok ⟨none,Hs 0 ne⟩ M8:=by rw[hne];exact Ge (by omega) (by omega)
 obtain⟨L2,hL2⟩:∃L2,L2=L1++(List.range na).map fun k=>aJ (De x7 k):=⟨_,rfl⟩
 have auY:L2.length≤20:=by rw[hL2];simp;omega
 rw[←hL2]at q8
 obtain⟨e9,M9,l9,⟨⟨b4,b5,b6,b7,rfl⟩,⟨es,les,oes,q9⟩,c9⟩⟩:=yN (src:=none) (g:=gN 4) (b:=vC) (ahF M8 c x M2.length M3.length L2) (ds:=Hs 0 ne) (e:=[some (.int c),some (.ref x),some (.ref M2.length),some (.ref M3.length),a4',a5',a6',a7']) (M:=M8)
  ⟨⟨_,_,_,_,rfl⟩,⟨[],rfl,(fun _ z=>nomatch z),by simpa using q8⟩,Ch.refl⟩ (fun _ _ _ _ _=>trivial) fun i d e M' hd' h=>Yz hT hT1 pw hx8 Zh hxs (by omega) (by omega) hd' h
 rw[Jw]at les
 obtain⟨vs,hvs⟩:∃vs,vs=(List.range nv).map fun k=>Ep x5 k:=⟨_,rfl⟩
 obtain⟨as,has⟩:∃as,as=(List.range na).map fun k=>De x7 k:=⟨_,rfl⟩
 obtain⟨K,hK⟩:∃K:Nat,K=(vs++as++es).length+2:=⟨_,rfl⟩
 have lvs:vs.length=nv:=by rw[hvs];simp
 have las:as.length=na:=by rw[has];simp
 have hKl:K≤18:=by rw[hK];simp;omega
 obtain⟨en,hen⟩:∃en,en=[W "end",aM (K:Int)]:=⟨_,rfl⟩
 have sk:Sm (K:Int):=dM (by omega) (by omega)
 have ll:L2++es.map aJ=(hd::bs::(vs++as++es)).map aJ:=by rw[hL2,hL1,hvs,has];simp[Function.comp_def]
 rw[ll]at q9
 have ln:j0 [.ref M2.length] M9= .ok (.int (K:Int)) M9:=by rw[jN q9,hK];simp;omega
 have et:∀M:Mem,aX (.str "end ") (.str (aZ (aM (K:Int)))) M= .ok (aJ en) M:=fun M=>by rw[hen];exact abD sk M
 have sK:∀M:Mem,mD [.int (K:Int)] M= .ok (.str (aZ (aM (K:Int)))) M:=fun M=>BZ sk M
 obtain⟨M10,agA⟩:∃M10,M10=M9++[MO.lst [aJ en]]:=⟨_,rfl⟩
 have h10:M10[M9.length]? = some (.lst [aJ en]):=by rw[agA];exact aO
 have g10:Gr M9 M10:=by rw[agA];exact Gr.app
 have ct:aX (.ref M2.length) (.ref M9.length) M10= .ok (.ref M10.length) (M10++[.lst ((hd::bs::(vs++as++es++[en])).map aJ)]):=by
  rw[Gd (g10 _ _ q9) h10 (by simp;omega)]
  simp
 refine⟨hd::bs::(vs++as++es++[en]),(t,dv0),hd,bs,en,vs,as,es,M10.length,M10++[.lst ((hd::bs::(vs++as++es++[en])).map aJ)],⟨⟨⟨?_,?_,?_,?_,?_⟩,?_,?_,?_,?_,?_,?_,?_,?_,rfl⟩,?_,?_⟩,rfl,?_,aO,?_⟩
 ·intro r hr
  rw[hvs]at hr
  obtain⟨k,hk,rfl⟩:=List.mem_map.mp hr
  exact acX z5.1 (by have:=List.mem_range.mp hk;omega)
 ·rw[hvs]
  exact RG fun i j hij hj=>afr hij (by omega)
 ·intro r hr
  rw[has]at hr
  obtain⟨k,hk,rfl⟩:=List.mem_map.mp hr
  exact acY z7.1 (by have:=List.mem_range.mp hk;omega)
 ·rw[has]
  exact RG fun i j hij hj=>adb z7.1 hij (by omega)
 ·exact fun r hr=>(M_ (oes r hr)).2
 ·rw[hhd];exact eh
 ·rw[hhd];rfl
 ·rw[hbs];exact⟨_,eb⟩
 ·rw[hbs];rfl
 ·rw[hbs];exact Zi
 ·rw[hhd];exact Zi
 ·exact⟨_,hen,by rw[iu sk,hK]⟩
 ·intro r hr
  rw[hvs]at hr
  obtain⟨k,hk,rfl⟩:=List.mem_map.mp hr
  have hk:=List.mem_range.mp hk
  show List.replicate (k+1) 98<W "zz"
  have:k=0∨k=1∨k=2:=by omega
  rcases this with rfl | rfl | rfl<;>decide
 ·intro r hr
  simp only[List.mem_cons,List.mem_append,List.not_mem_nil,or_false]at hr
  rcases hr with rfl | rfl | ((hr | hr) | hr) | rfl
  ·rw[hhd];exact okh
  ·rw[hbs];exact okb
  ·rw[hvs]at hr
   obtain⟨k,hk,rfl⟩:=List.mem_map.mp hr
   exact Yb z5.1 (by have:=List.mem_range.mp hk;omega)
  ·rw[has]at hr
   obtain⟨k,hk,rfl⟩:=List.mem_map.mp hr
   exact Yd z7.1 (by have:=List.mem_range.mp hk;omega)
  ·exact(M_ (oes r hr)).1
  ·rw[hen];exact Yc sk
 ·simp;omega
 ·have t3:∀M:Mem,aX (.str w) (.str (aZ v)) M= .ok (aJ hd) M:=fun M=>by rw[hhd];exact(th M).2.2
  have tyS:∀M:Mem,I_ "str" (.str " ") M=true:=fun _=>rfl
  have cE:∀e:Sl,Ff [] e=[]:=fun _=>rfl
  simp only[zQ,qT,GP,GK,GJ]
  simp[e1,pw,cm,s1,fun M=>(th M).1,fun M=>(th M).2.1,i0 M1 Gr.refl,md,s2,←tQ,i1,ev,t3,←Jk,i2,i3,dv,←K1,ty4,it,cE,cp,tyS,jn,bt,ap,i4,r4,l7,i6,r6,l8,i8,r8,l9,ln,sK,et,←agA,ct]
 ·intro j o hj
  have j1:=g1 _ _ hj
  have j2:=g2 _ _ j1
  have jl:j<M2.length:=by have:=sW j1;have:=g2.le;omega
  have j6:=c16 j o jl j2
  have hjr:j≠M2.length:=by omega
  exact Gr.app _ _ (g10 _ _ (c9.2 _ _ hjr (c8.2 _ _ hjr (c7.2 _ _ hjr j6))))
open Builtin.Str in
theorem ajB{w rest:List Nat}(h:32∉w):occurrences (aZ (w++32::rest)) " " 0 (aZ (w++32::rest)).length 1=[w.length]:=by
 rw[Tr]
 have hat:∀i,StrLaws.At (aZ (w++32::rest)) ⟨#[32]⟩ (aZ (w++32::rest)).length i↔(w++32::rest)[i]? = some 32:=fun i=>by
  have:=StrLaws.subAt_one (aZ (w++32::rest)) 32 i
  rw[bH]at this
  exact this
 have hle:=StrLaws.occ_length_le (aZ (w++32::rest)) ⟨#[32]⟩ 0 (aZ (w++32::rest)).length 1
 rcases StrLaws.occ_head (aZ (w++32::rest)) ⟨#[32]⟩ 1 (Nat.le_refl _)with⟨_,hn⟩ | ⟨i,r,e,hi,hk⟩
 ·exact absurd ((hat w.length).mpr (by simp)) (hn _)
 ·rw[e]at hle ⊢
  have hr:r=[]:=by
   cases r with
   | nil=>rfl
   | cons _ _=>simp at hle
  subst hr
  congr 1
  rcases Nat.lt_trichotomy i w.length with hl | hl | hl
  ·have:=(hat i).mp hi
   rw[List.getElem?_append_left hl]at this
   exact absurd (List.mem_of_getElem? this) h
  ·exact hl
  ·exact absurd ((hat w.length).mpr (by simp)) (hk _ hl)
theorem ZW(l:List Nat)(i j:Nat):Builtin.Str.strSub (aZ l) i j=aZ ((l.take j).drop i):=by
 apply qL
 rw[bH]
 show((aZ l).cps.extract i j).toList=_
 rw[Array.toList_extract,bH]
 simp[List.extract_eq_drop_take,List.drop_take]
theorem Xk(w rest:List Nat):((w++32::rest).take (w.length+(rest.length+1))).drop (w.length+1)=rest:=by
 rw[List.take_of_length_le (by simp),List.drop_append]
 simp
theorem aaN{w rest:List Nat}(h:32∉w):part3 (aZ (w++32::rest)) " " = [aZ w," ",aZ rest]:=by
 unfold part3
 rw[ajB h]
 have h1:(" " : Str).length=1:=by decide
 simp only[ZW,h1,wu]
 congr 1
 ·simp
 ·congr 1
  congr 1
  simp
  exact congrArg aZ (Xk _ _)
theorem YQ(g a b:Str):Builtin.Str.glued g [a,b]=a++g++b:=by
 apply qL
 simp[Builtin.Str.glued,Str.cps_append]
theorem acv{w rest:List Nat}(h:32∉w):rep1 (aZ (w++32::rest)) " " "  " = aZ (w++32::32::rest):=by
 unfold rep1
 rw[ajB h]
 have h1:(" " : Str).length=1:=by decide
 rw[if_neg (by rw[h1];simp)]
 simp only[Builtin.Str.partsBetween,h1]
 simp only[List.map_cons,List.map_nil,List.cons_append,List.nil_append,List.zip_cons_cons,List.zip_nil_right,ZW,wu,YQ]
 rw[show("  " : Str)=aZ [32,32]from by decide,Lf,Lf]
 congr 1
 simp
 exact Xk _ _
theorem join_snoc{c:Nat}{w:List Nat}:∀{r:List (List Nat)},r≠[]→cg c (r++[w])=cg c r++c::w
 | [],h=>absurd rfl h
 | [x],_=>by simp[cg]
 | x::y::r,_=>by
  have:=join_snoc (c:=c) (w:=w) (r:=y::r) (by simp)
  show x++c::cg c (y::r++[w])=(x++c::cg c (y::r))++c::w
  rw[this];simp
theorem join_cons{c:Nat}{w:List Nat}{t:List (List Nat)}(h:t≠[]):cg c (w::t)=w++c::cg c t:=by
 cases t with
 | nil=>exact absurd rfl h
 | cons x t=>rfl
section
variable{r t:Rw}{s:Str}{M:Mem}
theorem Pk(h:iw r):(cg 32 r).length≤1812:=by
 have:=HF (c:=32) r fun w hw=>(h.Ib.2.2 w hw).2.2
 have:=h.len
 omega
theorem abQ(h:iw r){w:List Nat}(hw:w.length≤10):aX (aJ r) (.str (aZ (32::w))) M= .ok (aJ (r++[w])) M:=by
 unfold aJ
 have:=Pk h
 rw[dZ,Kf (by rw[wu,wu];simp;omega),Lf,dZ,join_snoc h.Ib.1]
theorem Zw(h:iw r){w:List Nat}(hw:Wd w):qW (r++[w]):=
 ⟨by simp,by have:=h.len;simp;omega,fun x hx=>by
  rcases List.mem_append.mp hx with hx | hx
  ·exact h.Ib.2.2 x hx
  ·rw[List.mem_singleton.mp hx];exact hw⟩
theorem Zx(h:iw r):qW r.dropLast:=by
 obtain⟨s,t,rfl,ht,hk⟩:=h.sh
 refine⟨?_,?_,fun x hx=>h.Ib.2.2 x (List.dropLast_subset _ hx)⟩
 ·cases t with
  | nil=>exact absurd rfl ht
  | cons x t=>simp[List.dropLast]
 ·have:=h.len
  rw[List.length_dropLast]
  omega
theorem Zy{w:List Nat}(h:qW (W s::t))(hw:Wd w):qW (w::t):=⟨by simp,h.2.1,fun x hx=>by
 rcases List.mem_cons.mp hx with rfl | hx
 ·exact hw
 ·exact h.2.2 x (List.mem_cons_of_mem _ hx)⟩
theorem ab4(h:iw (W s::t)):qW (W s::[]::t):=⟨by simp,by have:=h.len;simp at this ⊢;omega,fun x hx=>by
 rcases List.mem_cons.mp hx with rfl | hx
 ·exact h.Ib.2.2 _ List.mem_cons_self
 ·rcases List.mem_cons.mp hx with rfl | hx
  ·exact⟨by simp,by simp,by simp⟩
  ·exact h.Ib.2.2 x (List.mem_cons_of_mem _ hx)⟩
theorem Wu(ht:t≠[]):dw (W s::t)=aZ (W s++32::cg 32 t):=by rw[dZ,join_cons ht]
theorem acu(h:iw (W s::t))(ht:t≠[]):rep1 (dw (W s::t)) " " "  " = dw (W s::[]::t):=by
 rw[Wu ht,acv (h.Ib.2.2 _ List.mem_cons_self).1,dZ,join_cons (by simp),join_cons ht]
 rfl
theorem aap(h:iw (W s::t))(ht:t≠[]):part3 (dw (W s::t)) " " = [s," ",aZ (cg 32 t)]:=by
 rw[Wu ht,aaN (h.Ib.2.2 _ List.mem_cons_self).1,DW]
end
theorem agN{α:Type}(xs:List α)(k:Nat):cut xs none (some (k:Int))=xs.take k:=by
 unfold cut
 rw[HT.Wn,HT.Kc]
 by_cases h:k≤xs.length
 ·rw[Nat.min_eq_left h];simp
 ·rw[Nat.min_eq_right (by omega),List.take_of_length_le (i:=k) (by omega)];simp
theorem abG{α:Type}(xs:List α)(k:Nat):cut xs (some (k:Int)) none=xs.drop k:=by
 unfold cut
 rw[HT.Wn,HT.Kc]
 by_cases h:k≤xs.length
 ·rw[Nat.min_eq_left h,List.take_of_length_le (by simp)]
 ·rw[Nat.min_eq_right (by omega)]
  simp
  omega
theorem Xm{α:Type}(xs:List α)(x:α):cut (xs++[x]) none (some (-1))=xs:=by
 have e:HT.bJ (xs++[x]).length (xs++[x]).length (some (-1))=xs.length:=by
  unfold HT.bJ
  simp
  omega
 unfold cut
 rw[e,HT.Kc]
 simp
def xY(M:Mem)(o:Out D):Prop:=∃(R':List Rw) (t m:Nat) (M':Mem),o= .ok (.tup [.ref m,.int (t:Int)]) M'∧M'[m]? = some (.lst (R'.map aJ))∧Jg R'= .error t∧R'≠[]∧R'.length≤300∧(∀r∈R',qW r)∧Gr M M'
section
variable{M:Mem}{n p q:Nat}{R A A' B B' mids:List Rw}{a z:Int}{r s:Rw}
theorem Wc(h:M[n]? = some (.lst (R.map aJ)))(e:R=A++A')(ha:a=A.length):Fp (.ref n) none (some a) M= .ok (.ref M.length) (M++[.lst (A.map aJ)]):=by
 rw[xK h,ha,agN,e]
 simp
theorem We(h:M[n]? = some (.lst (R.map aJ)))(e:R=B'++B)(hz:z=B'.length):Fp (.ref n) (some z) none M= .ok (.ref M.length) (M++[.lst (B.map aJ)]):=by
 rw[xK h,hz,abG,e]
 simp
theorem Z_(h:M[n]? = some (.lst (R.map aJ)))(e:R=A++[r]):Fp (.ref n) none (some (-1)) M= .ok (.ref M.length) (M++[.lst (A.map aJ)]):=by
 rw[xK h,e,List.map_append,List.map_singleton,Xm]
theorem Vw(h:M[p]? = some (.lst (A.map aJ)))(h':M[q]? = some (.lst (B.map aJ)))(hl:A.length+B.length≤1000):aX (.ref p) (.ref q) M= .ok (.ref M.length) (M++[.lst ((A++B).map aJ)]):=by
 rw[Gd h h' (by simp;omega),List.map_append]
theorem qP(h:M[n]? = some (.lst (R.map aJ)))(e:R=A++r::B)(ha:a=A.length):bJ (.ref n) (.int a) M= .ok (aJ r) M:=
 b_ h (by omega) (by rw[e,ha];simp)
theorem rO(h:M[n]? = some (.lst (R.map aJ))):j0 [.ref n] M= .ok (.int R.length) M:=by rw[jN h,List.length_map]
theorem aez(h:M[n]? = some (.lst (R.map aJ)))(e:R=A++A')(ha:a=A.length)(e':R=B'++B)(hz:z=B'.length)(hl:R.length≤20):
  ∃p M1 q M2 m M3,Fp (.ref n) none (some a) M= .ok (.ref p) M1∧Fp (.ref n) (some z) none M1= .ok (.ref q) M2∧aX (.ref p) (.ref q) M2= .ok (.ref m) M3∧M3[m]? = some (.lst ((A++B).map aJ))∧Gr M M3∧M3[n]? = some (.lst (R.map aJ)):=by
 have s1:=Wc h e ha
 obtain⟨M1,rB⟩:∃M1,M1=M++[.lst (A.map aJ)]:=⟨_,rfl⟩
 rw[←rB]at s1
 have g1:Gr M M1:=by rw[rB];exact Gr.app
 have h1:M1[M.length]? = some (.lst (A.map aJ)):=by rw[rB];exact aO
 have s2:=We (g1 _ _ h) e' hz
 obtain⟨M2,tQ⟩:∃M2,M2=M1++[.lst (B.map aJ)]:=⟨_,rfl⟩
 rw[←tQ]at s2
 have g2:Gr M1 M2:=by rw[tQ];exact Gr.app
 have h2:M2[M1.length]? = some (.lst (B.map aJ)):=by rw[tQ];exact aO
 have l1:A.length≤R.length:=by rw[e];simp
 have l2:B.length≤R.length:=by rw[e'];simp
 have s3:=Vw (g2 _ _ h1) h2 (by omega)
 exact⟨_,_,_,_,_,_,s1,s2,s3,aO,(g1.trans g2).trans Gr.app,Gr.app _ _ (g2 _ _ (g1 _ _ h))⟩
theorem abi(h:M[n]? = some (.lst (R.map aJ)))(hp:M[p]? = some (.lst (A.map aJ)))(hq:M[q]? = some (.lst (mids.map aJ)))(e':R=B'++B)(hz:z=B'.length)(hl:R.length≤20)(ha:A.length≤20)(hm:mids.length≤20):
  ∃u M1 v M2 m M3,aX (.ref p) (.ref q) M= .ok (.ref u) M1∧Fp (.ref n) (some z) none M1= .ok (.ref v) M2∧aX (.ref u) (.ref v) M2= .ok (.ref m) M3∧M3[m]? = some (.lst ((A++mids++B).map aJ))∧Gr M M3∧M3[n]? = some (.lst (R.map aJ)):=by
 have s1:=Vw hp hq (by omega)
 obtain⟨M1,rB⟩:∃M1,M1=M++[.lst ((A++mids).map aJ)]:=⟨_,rfl⟩
 rw[←rB]at s1
 have g1:Gr M M1:=by rw[rB];exact Gr.app
 have h1:M1[M.length]? = some (.lst ((A++mids).map aJ)):=by rw[rB];exact aO
 have s2:=We (g1 _ _ h) e' hz
 obtain⟨M2,tQ⟩:∃M2,M2=M1++[.lst (B.map aJ)]:=⟨_,rfl⟩
 rw[←tQ]at s2
 have g2:Gr M1 M2:=by rw[tQ];exact Gr.app
 have h2:M2[M1.length]? = some (.lst (B.map aJ)):=by rw[tQ];exact aO
 have l2:B.length≤R.length:=by rw[e'];simp
 have s3:=Vw (g2 _ _ h1) h2 (by simp;omega)
 exact⟨_,_,_,_,_,_,s1,s2,s3,aO,(g1.trans g2).trans Gr.app,Gr.app _ _ (g2 _ _ (g1 _ _ h))⟩
end
theorem air{a:List Nat}{n:Int}(h0:0≤n)(h1:n≤a.length)(hl:a.length≤3000)(M:Mem):Fp (.str (aZ a)) none (some n) M= .ok (.str (aZ (a.take n.toNat))) M:=by
 have e:=Z8 (w:=aZ a) h0 (by rw[wu];exact h1)
 rw[Ed]at e
 have hs:(aZ a).length≤16777216:=by rw[wu];omega
 rw[←e]
 simp only[Fp,B_,rN,hs,if_true]
theorem SQ{r t:Rw}{s:Str}{k:Nat}(h:iw r)(e:r=W s::t)(ht:t≠[])(hk:k≤(W s).length+1)(M:Mem):Fp (aJ r) none (some (k:Int)) M= .ok (.str (aZ ((W s++[32]).take k))) M:=by
 have hl:=Pk h
 subst e
 unfold aJ
 rw[dZ,air (by omega) (by rw[join_cons ht];simp;omega) (by omega),join_cons ht]
 congr 3
 rw[show W s++32::cg 32 t=(W s++[32])++cg 32 t by simp,Int.toNat_natCast,List.take_append_of_le_length (by simpa using hk)]
def apO(s:Str):Prop:=s= "book" ∨ s= "base" ∨ s= "value" ∨ s= "answer" ∨ s= "at" ∨ s= "end"
theorem iw.six{r:Rw}(h:iw r):∃s t,r=W s::t∧t≠[]∧apO s:=by
 obtain⟨s,t,e,ht,hk⟩:=h.sh
 refine⟨s,t,e,ht,?_⟩
 rcases hk with⟨h,_⟩ | ⟨h,_⟩ | ⟨h,_⟩ | ⟨h,_⟩ | ⟨h,_⟩ | ⟨h,_⟩
 ·exact .inl h
 ·exact .inr (.inl h)
 ·exact .inr (.inr (.inl h))
 ·exact .inr (.inr (.inr (.inl h)))
 ·exact .inr (.inr (.inr (.inr (.inl h))))
 ·exact .inr (.inr (.inr (.inr (.inr h))))
theorem Ow{r:Rw}(h:iw r):∃z:Str,(∀M,Fp (aJ r) none (some 2) M= .ok (.str z) M)∧(∀M,sIn (.str z) (.tup [.str "bo",.str "ba",.str "va",.str "an",.str "en"]) M= .ok (.bl (!decide (fw r=some ("at" : Str)))) M)∧(z= "en" ↔ fw r=some ("end" : Str))∧(z= "at" ↔ fw r=some ("at" : Str)):=by
 obtain⟨s,t,e,ht,hk⟩:=h.six
 have hf:fw r=some s:=by rw[e];exact Zi
 have f2:=fun M (hl:2≤(W s).length+1)=>SQ (k:=2) h e ht hl M
 refine⟨aZ ((W s++[32]).take 2),fun M=> ?_,fun M=> ?_,?_,?_⟩
 ·exact f2 M (by rcases hk with rfl | rfl | rfl | rfl | rfl | rfl<;>decide)
 ·rw[hf];rcases hk with rfl | rfl | rfl | rfl | rfl | rfl<;>rfl
 ·rw[hf];rcases hk with rfl | rfl | rfl | rfl | rfl | rfl<;>decide
 ·rw[hf];rcases hk with rfl | rfl | rfl | rfl | rfl | rfl<;>decide
theorem XN{r:Rw}(h:iw r):∃z:Str,(∀M,Fp (aJ r) none (some 3) M= .ok (.str z) M)∧(z= "val" ↔ fw r=some ("value" : Str)):=by
 obtain⟨s,t,e,ht,hk⟩:=h.six
 have hf:fw r=some s:=by rw[e];exact Zi
 have f2:=fun M (hl:3≤(W s).length+1)=>SQ (k:=3) h e ht hl M
 refine⟨aZ ((W s++[32]).take 3),fun M=> ?_,?_⟩
 ·exact f2 M (by rcases hk with rfl | rfl | rfl | rfl | rfl | rfl<;>decide)
 ·rw[hf];rcases hk with rfl | rfl | rfl | rfl | rfl | rfl<;>decide
section
variable{M:Mem}{n:Nat}{R:List Rw}{h:Int×D}{hd bs en r s:Rw}{vs as es P Q:List Rw}{a:Int}
theorem ady(G:Rows R h hd bs en vs as es)(hn:M[n]? = some (.lst (R.map aJ)))(e:R=P++r::Q)(ha:a=P.length):xY M (wC [.ref n,.int a] M):=by
 have hW:∀x∈R,qW x:=fun x hx=>(G.ok x hx).Ib
 have hl:R.length=P.length+Q.length+1:=by rw[e];simp;omega
 have hL:=G.len
 have e':R=(P++[r])++Q:=by rw[e];simp
 obtain⟨p,M1,q,M2,m,M3,s1,s2,s3,hm,g,hn3⟩:=aez (z:=a+1) hn e ha e' (by simp;omega) G.len
 have ln:=rO hn
 have ln3:=rO hn3
 have hne:P++Q≠[]:=by
  intro z
  have h3:=G.G.len
  have h4:(P++Q).length=0:=by rw[z];rfl
  rw[List.length_append]at h4
  omega
 have hW':∀x∈P++Q,qW x:=fun x hx=>hW x (by rw[e];simp at hx ⊢;rcases hx with hx | hx<;>simp[hx])
 have hgo:=G.G.gone e
 by_cases hc:P.length<2∨Q=[]
 ·rw[if_pos hc]at hgo
  refine⟨P++Q,P.length+1,m,M3,?_,hm,hgo,hne,by simp;omega,hW',g⟩
  simp only[wC,oW,z_]
  have hc':a<2∨a=(R.length:Int) - 1:=by
   rcases hc with hc | hc
   ·left;omega
   ·right;subst hc;simp at hl;omega
  have ca:((P.length+1:Nat):Int)=a+1:=by omega
  rw[ca]
  by_cases c1:a<2
  ·simp[c1,s1,s2,s3]
  ·have c2:=hc'.resolve_left c1
   simp[c1,ln,s1,s2,s3,eq_true c2]
 ·rw[if_neg hc]at hgo
  refine⟨P++Q,R.length - 1,m,M3,?_,hm,hgo,hne,by simp;omega,hW',g⟩
  have c1:¬a<2:=fun z=>hc (.inl (by omega))
  have c2:¬a=(R.length:Int) - 1:=fun z=>hc (.inr (by
   have:Q.length=0:=by omega
   exact List.length_eq_zero_iff.mp this))
  have c3:((R.length - 1:Nat):Int)=(R.length:Int) - 1:=by omega
  simp only[wC,oW,z_]
  simp[c1,c2,ln,ln3,s1,s2,s3,c3]
theorem ZD(G:Rows R h hd bs en vs as es)(hn:M[n]? = some (.lst (R.map aJ)))(e:R=P++r::Q)(ha:a=P.length):xY M (um [.ref n,.int a] M):=by
 have hW:∀x∈R,qW x:=fun x hx=>(G.ok x hx).Ib
 have hl:R.length=P.length+Q.length+1:=by rw[e];simp;omega
 have hL:=G.len
 have e':R=(P++[r])++Q:=by rw[e];simp
 obtain⟨p,M1,q,M2,m,M3,s1,s2,s3,hm,g,hn3⟩:=aez (a:=a+1) (z:=a) hn e' (by simp;omega) e ha G.len
 have ln3:=rO hn3
 have hne:P++r::r::Q≠[]:=by simp
 have hW':∀x∈P++r::r::Q,qW x:=fun x hx=>hW x (by rw[e];simp at hx ⊢;rcases hx with hx | hx | hx<;>simp[hx])
 have hr:iw r:=G.ok r (by rw[e];simp)
 have ix:=qP hn e ha
 obtain⟨z,t1,t2,-,-⟩:=Ow hr
 have htw:=G.G.twice e
 have em:P++[r]++(r::Q)=P++r::r::Q:=by simp
 rw[em]at hm
 by_cases hc:fw r=some ("at" : Str)
 ·rw[if_pos hc]at htw
  refine⟨_,R.length+1,m,M3,?_,hm,htw,hne,by simp;omega,hW',g⟩
  simp only[um,lF,yo]
  simp[ix,t1,t2,hc,s1,s2,s3,ln3]
 ·rw[if_neg hc]at htw
  refine⟨_,P.length+2,m,M3,?_,hm,htw,hne,by simp;omega,hW',g⟩
  have ca:((P.length+2:Nat):Int)=a+2:=by omega
  rw[ca]
  simp only[um,lF,yo]
  simp[ix,t1,t2,hc,s1,s2,s3]
theorem Good.low(G:Good R h hd bs en vs as es)(e:R=P++r::Q)(hp:P.length<2):fw r≠some ("at" : Str):=by
 rcases G.kinds e with⟨rfl,rfl,-⟩ | ⟨rfl,rfl,-⟩ | ⟨p,q,-,rfl,-⟩ | ⟨p,q,-,rfl,-⟩ | ⟨p,q,-,rfl,-⟩ | ⟨rfl,-,-⟩
 ·rw[G.hf];decide
 ·rw[G.bf];decide
 all_goals (simp at hp;omega)
theorem adB(G:Rows R h hd bs en vs as es)(hn:M[n]? = some (.lst (R.map aJ)))(h0:0≤a)(ha:a<R.length):xY M (mG [.ref n,.int a] M):=by
 have hW:∀x∈R,qW x:=fun x hx=>(G.ok x hx).Ib
 have hL:=G.len
 have hL3:=G.G.len
 obtain⟨b,hb⟩:∃b:Int,b=if(R.length:Int) - 2<a then(R.length:Int) - 2 else a:=⟨_,rfl⟩
 have hb1:0≤b∧b≤(R.length:Int) - 2:=by rw[hb];split<;>omega
 obtain⟨P,r,s,Q,e,hP⟩:∃P r s Q,R=P++r::s::Q∧b=(P.length:Nat):=by
  have hk:b.toNat+1<R.length:=by omega
  refine⟨R.take b.toNat,R[b.toNat],R[b.toNat+1],R.drop (b.toNat+2),?_,by rw[List.length_take];omega⟩
  rw[←List.drop_eq_getElem_cons hk,←List.drop_eq_getElem_cons (by omega),List.take_append_drop]
 have hl:R.length=P.length+Q.length+2:=by rw[e];simp;omega
 have e1:R=(P++[r])++s::Q:=by rw[e];simp
 have e2:R=(P++[r,s])++Q:=by rw[e];simp
 have ln:=rO hn
 have s1:=Wc hn e hP
 obtain⟨M1,rB⟩:∃M1,M1=M++[.lst (P.map aJ)]:=⟨_,rfl⟩
 rw[←rB]at s1
 have g1:Gr M M1:=by rw[rB];exact Gr.app
 have h1:M1[M.length]? = some (.lst (P.map aJ)):=by rw[rB];exact aO
 have i1:=qP (a:=b+1) (g1 _ _ hn) e1 (by simp;omega)
 have i2:=qP (a:=b) (g1 _ _ hn) e hP
 obtain⟨M2,tQ⟩:∃M2,M2=M1++[MO.lst [aJ s,aJ r]]:=⟨_,rfl⟩
 have g2:Gr M1 M2:=by rw[tQ];exact Gr.app
 have h2:M2[M1.length]? = some (.lst ([s,r].map aJ)):=by rw[tQ];exact aO
 obtain⟨u,M3,v,M4,m,M5,s3,s4,s5,hm,g5,hn5⟩:=abi (z:=b+2) (g2 _ _ (g1 _ _ hn)) (g2 _ _ h1) h2 e2 (by simp;omega) G.len (by omega) (by simp)
 have g15:=g1.trans (g2.trans g5)
 have hr:iw r:=G.ok r (by rw[e];simp)
 have hs:iw s:=G.ok s (by rw[e];simp)
 have i3:=qP (a:=b+1) hn5 e1 (by simp;omega)
 have i4:=qP (a:=b) hn5 e hP
 obtain⟨zr,r1,-,-,r4⟩:=Ow hr
 obtain⟨zs,t1,-,t3,-⟩:=Ow hs
 have em:P++[s,r]++Q=P++s::r::Q:=by simp
 rw[em]at hm
 have hW':∀x∈P++s::r::Q,qW x:=fun x hx=>hW x (by rw[e];simp at hx ⊢;rcases hx with hx | hx | hx | hx<;>simp[hx])
 have hlo:=G.G.low (r:=r) (Q:=s::Q) e
 obtain⟨rest,hrest⟩:∃rest:MS,rest=bx jU (bx jT (iB (rA (aq (az 2) (aq (aD aX (az 1) (mC (.int 2))) aG))))):=⟨_,rfl⟩
 have hpre:mG [.ref n,.int a] M=Uz (rest [some (.ref n),some (.int b),some (.ref m)] M5):=by
  simp only[mG,iC,←hrest]
  simp[ln,←hb,s1,i1,i2,←tQ,s3,s4,s5]
 rw[hpre,hrest]
 by_cases hc:P.length<2∨fw s=some ("end" : Str)
 ·have hsw:=G.G.swap e (fun z=>by
   rcases hc with hc | hc
   ·exact absurd z (hlo hc)
   ·exact hc)
  rw[if_pos hc]at hsw
  refine⟨_,P.length+1,m,M5,?_,hm,hsw,by simp,by simp;omega,hW',g15⟩
  have ca:((P.length+1:Nat):Int)=b+1:=by omega
  rw[ca]
  simp only[jU,jT]
  by_cases c1:b<2
  ·simp[c1]
  ·have c2:zs= "en" := t3.mpr (hc.resolve_left (by omega))
   simp[c1,i3,t1,c2]
 ·have c1:¬b<2:=fun z=>hc (.inl (by omega))
  have c2:¬zs= "en" := fun z=>hc (.inr (t3.mp z))
  by_cases hat:fw r=some ("at" : Str)
  ·have c3:zr= "at" := r4.mpr hat
   obtain⟨M6,hM6⟩:∃M6,M6=M5++[MO.lst [D.str "end"]]:=⟨_,rfl⟩
   have g6:Gr M5 M6:=by rw[hM6];exact Gr.app
   have eE:D.str "end" = aJ [W "end"]:=by unfold aJ;congr 1
   have h6:M6[M5.length]? = some (.lst ([[W "end"]].map aJ)):=by rw[hM6,eE];exact aO
   obtain⟨m7,M7,s6,h7,g7⟩:∃m7 M7,aX (.ref n) (.ref M5.length) M6= .ok (.ref m7) M7∧M7[m7]? = some (.lst ((R++[[W "end"]]).map aJ))∧Gr M6 M7:=⟨_,_,Vw (g6 _ _ hn5) h6 (by simp;omega),aO,Gr.app⟩
   have ln6:=rO (g7 _ _ (g6 _ _ hn5))
   refine⟨R++[[W "end"]],R.length+1,m7,M7,?_,h7,G.G.behind _,by simp,by simp;omega,?_,(g15.trans g6).trans g7⟩
   ·simp only[jU,jT]
    simp[c1,i3,t1,c2,i4,r1,c3,←hM6,s6,ln6]
   ·intro x hx
    rcases List.mem_append.mp hx with hx | hx
    ·exact hW x hx
    ·rw[List.mem_singleton.mp hx]
     exact⟨by simp,by simp,fun w hw=>by rw[List.mem_singleton.mp hw];exact⟨by decide,by decide,by decide⟩⟩
  ·have c3:¬zr= "at" := fun z=>hat (r4.mp z)
   have hsw:=G.G.swap e (fun z=>absurd z hat)
   rw[if_neg hc]at hsw
   refine⟨_,P.length+2,m,M5,?_,hm,hsw,by simp,by simp;omega,hW',g15⟩
   have ca:((P.length+2:Nat):Int)=b+2:=by omega
   rw[ca]
   simp only[jU,jT]
   simp[c1,i3,t1,c2,i4,r1,c3]
end
section
variable{M:Mem}{n:Nat}{R:List Rw}{h:Int×D}{hd bs en r:Rw}{vs as es P Q:List Rw}{a x k:Int}{v0 v1 v3 v4:Option D}
theorem DP(hk:k≠1):qK [v0,v1,some (.int k),v3,v4] M= .next [v0,v1,some (.int k),v3,v4] M:=by simp only[qK];simp[hk]
theorem DN(hk:k≠2):qJ [v0,v1,some (.int k),v3,v4] M= .next [v0,v1,some (.int k),v3,v4] M:=by simp only[qJ];simp[hk]
theorem DK(hk:k≠3):qI [v0,v1,some (.int k),v3,v4] M= .next [v0,v1,some (.int k),v3,v4] M:=by simp only[qI];simp[hk]
theorem FT(hk:k≠4):qH [v0,v1,some (.int k),v3,v4] M= .next [v0,v1,some (.int k),v3,v4] M:=by simp only[qH];simp[hk]
theorem Ig(hk:k≠5):qG [v0,v1,some (.int k),v3,v4] M= .next [v0,v1,some (.int k),v3,v4] M:=by simp only[qG];simp[hk]
theorem J2(hk:k≠6):qF [v0,v1,some (.int k),v3,v4] M= .next [v0,v1,some (.int k),v3,v4] M:=by simp only[qF];simp[hk]
theorem JZ(hk:k≠7):zJ 2 4 7 " " "  " [v0,v1,some (.int k),v3,v4] M= .next [v0,v1,some (.int k),v3,v4] M:=X6 rfl hk
theorem J0(hk:k≠8):qD [v0,v1,some (.int k),v3,v4] M= .next [v0,v1,some (.int k),v3,v4] M:=by simp only[qD];simp[hk]
theorem MK(hk:k≠9):qC [v0,v1,some (.int k),v3,v4] M= .next [v0,v1,some (.int k),v3,v4] M:=by simp only[qC];simp[hk]
theorem Wf(hk:k≠11)(hk':k≠0):qz [v0,v1,some (.int k),v3,v4] M= .next [v0,v1,some (.int k),v3,v4] M:=by simp only[qz];simp[hk,hk']
theorem Gf(G:Rows R h hd bs en vs as es)(hn:M[n]? = some (.lst (R.map aJ)))(e:R=P++r::Q)(ha:a=P.length)(r':Rw):
  ∃p M1 M2 u M3 v M4 m M5,Fp (.ref n) none (some a) M= .ok (.ref p) M1∧M2=M1++[MO.lst [aJ r']]∧aX (.ref p) (.ref M1.length) M2= .ok (.ref u) M3∧Fp (.ref n) (some (a+1)) none M3= .ok (.ref v) M4∧aX (.ref u) (.ref v) M4= .ok (.ref m) M5∧M5[m]? = some (.lst ((P++r'::Q).map aJ))∧Gr M M5:=by
 have hl:R.length=P.length+Q.length+1:=by rw[e];simp;omega
 have hL:=G.len
 have e':R=(P++[r])++Q:=by rw[e];simp
 have s1:=Wc hn e ha
 obtain⟨M1,rB⟩:∃M1,M1=M++[.lst (P.map aJ)]:=⟨_,rfl⟩
 rw[←rB]at s1
 have g1:Gr M M1:=by rw[rB];exact Gr.app
 have h1:M1[M.length]? = some (.lst (P.map aJ)):=by rw[rB];exact aO
 obtain⟨M2,tQ⟩:∃M2,M2=M1++[MO.lst [aJ r']]:=⟨_,rfl⟩
 have g2:Gr M1 M2:=by rw[tQ];exact Gr.app
 have h2:M2[M1.length]? = some (.lst ([r'].map aJ)):=by rw[tQ];exact aO
 obtain⟨u,M3,v,M4,m,M5,s3,s4,s5,hm,g5,_⟩:=abi (z:=a+1) (g2 _ _ (g1 _ _ hn)) (g2 _ _ h1) h2 e' (by simp;omega) G.len (by omega) (by simp)
 refine⟨_,M1,M2,u,M3,v,M4,m,M5,s1,tQ,s3,s4,s5,?_,(g1.trans g2).trans g5⟩
 rw[hm]
 simp
theorem Dl(G:Rows R h hd bs en vs as es)(e:R=P++r::Q){r':Rw}(hw:qW r'):(∀y∈P++r'::Q,qW y)∧(P++r'::Q).length≤300∧P++r'::Q≠[]:=by
 have hl:R.length=P.length+Q.length+1:=by rw[e];simp;omega
 have hL:=G.len
 refine⟨fun y hy=> ?_,by simp;omega,by simp⟩
 simp only[List.mem_append,List.mem_cons]at hy
 rcases hy with hy | rfl | hy
 ·exact(G.ok y (by rw[e];simp[hy])).Ib
 ·exact hw
 ·exact(G.ok y (by rw[e];simp[hy])).Ib
theorem ajG(x:Int):x % 4=0∨x % 4=1∨x % 4=2∨x % 4=3:=by omega
theorem ajH(x:Int):x % 3=0∨x % 3=1∨x % 3=2:=by omega
theorem mod2(x:Int):x % 2=0∨x % 2=1:=by omega
theorem ao3(G:Rows R h hd bs en vs as es)(hn:M[n]? = some (.lst (R.map aJ)))(e:R=P++r::Q)(ha:a=P.length):xY M (aY [.ref n,.int a,.int 1,.int x] M):=by
 have hr:iw r:=G.ok r (by rw[e];simp)
 have ix:=qP hn e ha
 obtain⟨M1,rB⟩:∃M1,M1=M++[MO.lst [.str " 1",.str " ",.str " x",.str " start"]]:=⟨_,rfl⟩
 have g1:Gr M M1:=by rw[rB];exact Gr.app
 have h1:M1[M.length]? = some (.lst [.str " 1",.str " ",.str " x",.str " start"]):=by rw[rB];exact aO
 obtain⟨w,i1,hw,hl⟩:∃w:List Nat,bJ (.ref M.length) (.int (x % 4)) M1= .ok (.str (aZ (32::w))) M1∧Wd w∧w.length≤10:=by
  rcases ajG x with e | e | e | e
  ·exact⟨W "1",by rw[e,show aZ (32::W "1")= " 1" from by decide];exact b_ h1 (by decide) rfl,⟨by decide,by decide,by decide⟩,by decide⟩
  ·exact⟨[],by rw[e,show aZ (32::[])= " " from by decide];exact b_ h1 (by decide) rfl,⟨by decide,by decide,by decide⟩,by decide⟩
  ·exact⟨W "x",by rw[e,show aZ (32::W "x")= " x" from by decide];exact b_ h1 (by decide) rfl,⟨by decide,by decide,by decide⟩,by decide⟩
  ·exact⟨W "start",by rw[e,show aZ (32::W "start")= " start" from by decide];exact b_ h1 (by decide) rfl,⟨by decide,by decide,by decide⟩,by decide⟩
 obtain⟨p,M2,M3,u,M4,v,M5,m,M6,s1,Jk,s2,s3,s4,hm,g6⟩:=Gf G (g1 _ _ hn) e ha (r++[w])
 obtain⟨q1,q2,q3⟩:=Dl G e (Zw hr hw)
 refine⟨_,P.length+1,m,M6,?_,hm,G.G.dead e (hr.more w),q3,q2,q1,g1.trans g6⟩
 have ca:((P.length+1:Nat):Int)=a+1:=by omega
 rw[ca]
 simp only[aY,bV,qK]
 simp[ix,←rB,md,i1,abQ hr hl,DN,DK,FT,Ig,J2,JZ,J0,MK,Wf,s1,←Jk,s2,s3,s4]
theorem ao2(G:Rows R h hd bs en vs as es)(hn:M[n]? = some (.lst (R.map aJ)))(e:R=P++r::Q)(ha:a=P.length):xY M (aY [.ref n,.int a,.int 2,.int x] M):=by
 have hr:iw r:=G.ok r (by rw[e];simp)
 have ix:=qP hn e ha
 have sp:yd (aJ r) [.str " "] M= .ok (.ref M.length) (M++[.lst (ts r)]):=by
  unfold aJ
  rw[Hr (by have:=yD hr.Ib;omega) (by decide),Kg hr.Ib,ZG]
 obtain⟨M1,rB⟩:∃M1,M1=M++[MO.lst (ts r)]:=⟨_,rfl⟩
 rw[←rB]at sp
 have g1:Gr M M1:=by rw[rB];exact Gr.app
 have h1:M1[M.length]? = some (.lst (ts r)):=by rw[rB];exact aO
 have hw:=Zx hr
 obtain⟨M2,tQ⟩:∃M2,M2=M1++[MO.lst (ts r.dropLast)]:=⟨_,rfl⟩
 have sl:Fp (.ref M.length) none (some (-1)) M1= .ok (.ref M1.length) M2:=by
  rw[xK h1,tQ]
  obtain⟨s,t,e2,ht,_⟩:=hr.six
  have hne:r≠[]:=by rw[e2];simp
  have:ts r=ts r.dropLast++[D.str (aZ (r.getLast hne))]:=by
   unfold ts
   rw[←List.map_singleton (f:=fun w=>D.str (aZ w)),←List.map_append,List.dropLast_concat_getLast hne]
  rw[this,Xm]
 have g2:Gr M1 M2:=by rw[tQ];exact Gr.app
 have h2:M2[M1.length]? = some (.lst (ts r.dropLast)):=by rw[tQ];exact aO
 have jn:Aw (.str " ") [.ref M1.length] M2= .ok (aJ r.dropLast) M2:=by
  rw[aew h2 (fun u hu=>(hw.2.2 u hu).2.2) hw.2.1]
  unfold aJ
  rw[dZ]
 have t1:∀M:Mem,I_ "str" (aJ r) M=true:=fun _=>rfl
 have t2:∀M:Mem,I_ "str" (.str " ") M=true:=fun _=>rfl
 obtain⟨p,M3,M4,u,M5,v,M6,m,M7,s1,K1,s2,s3,s4,hm,g7⟩:=Gf G (g2 _ _ (g1 _ _ hn)) e ha r.dropLast
 obtain⟨q1,q2,q3⟩:=Dl G e hw
 refine⟨_,P.length+1,m,M7,?_,hm,G.G.dead e hr.less,q3,q2,q1,(g1.trans g2).trans g7⟩
 have ca:((P.length+1:Nat):Int)=a+1:=by omega
 rw[ca]
 simp only[aY,bV,qJ]
 simp[ix,t1,t2,sp,sl,jn,DP,DK,FT,Ig,J2,JZ,J0,MK,Wf,s1,←K1,s2,s3,s4]
theorem ao1(G:Rows R h hd bs en vs as es)(hn:M[n]? = some (.lst (R.map aJ)))(e:R=P++r::Q)(ha:a=P.length):xY M (aY [.ref n,.int a,.int 3,.int x] M):=by
 obtain⟨R',t,m,M',e1,q⟩:=ady G hn e ha
 refine⟨R',t,m,M',?_,q⟩
 have ix:=qP hn e ha
 simp only[aY,bV,qI]
 simp[ix,DP,DN,e1]
theorem ao0(G:Rows R h hd bs en vs as es)(hn:M[n]? = some (.lst (R.map aJ)))(e:R=P++r::Q)(ha:a=P.length):xY M (aY [.ref n,.int a,.int 4,.int x] M):=by
 obtain⟨R',t,m,M',e1,q⟩:=ZD G hn e ha
 refine⟨R',t,m,M',?_,q⟩
 have ix:=qP hn e ha
 simp only[aY,bV,qH]
 simp[ix,DP,DN,DK,e1]
theorem ao4(hk:k=11∨k=0)(G:Rows R h hd bs en vs as es)(hn:M[n]? = some (.lst (R.map aJ)))(e:R=P++r::Q)(ha:a=P.length):xY M (aY [.ref n,.int a,.int k,.int x] M):=by
 obtain⟨R',t,m,M',e1,q⟩:=adB (a:=a) G hn (by omega) (by rw[e];simp;omega)
 refine⟨R',t,m,M',?_,q⟩
 have ix:=qP hn e ha
 simp only[aY,bV,qz]
 rcases hk with rfl | rfl
 ·simp[ix,DP,DN,DK,FT,Ig,J2,JZ,J0,MK,e1]
 ·simp[ix,DP,DN,DK,FT,Ig,J2,JZ,J0,MK,e1]
theorem aoZ(G:Rows R h hd bs en vs as es)(hn:M[n]? = some (.lst (R.map aJ)))(e:R=P++r::Q)(ha:a=P.length):xY M (aY [.ref n,.int a,.int 5,.int x] M):=by
 have hl:R.length=P.length+Q.length+1:=by rw[e];simp;omega
 have hL:=G.len
 have ix:=qP hn e ha
 have s1:=Wc hn e ha
 obtain⟨M1,rB⟩:∃M1,M1=M++[.lst (P.map aJ)]:=⟨_,rfl⟩
 rw[←rB]at s1
 have g1:Gr M M1:=by rw[rB];exact Gr.app
 have h1:M1[M.length]? = some (.lst (P.map aJ)):=by rw[rB];exact aO
 obtain⟨M2,tQ⟩:∃M2,M2=M1++[MO.lst [.str "",.str " "]]:=⟨_,rfl⟩
 have g2:Gr M1 M2:=by rw[tQ];exact Gr.app
 have h2:M2[M1.length]? = some (.lst [.str "",.str " "]):=by rw[tQ];exact aO
 obtain⟨r',i2,hw,hD⟩:∃r':Rw,bJ (.ref M1.length) (.int (x % 2)) M2= .ok (aJ r') M2∧qW r'∧Mq r':=by
  rcases mod2 x with e | e
  ·exact⟨[[]],by rw[e,show aJ [[]]= .str "" from by unfold aJ;congr 1];exact b_ h2 (by decide) rfl,⟨by simp,by simp,fun w hw=>by rw[List.mem_singleton.mp hw];exact⟨by decide,by decide,by decide⟩⟩,S_⟩
  ·refine⟨[[],[]],by rw[e,show aJ [[],[]]= .str " " from by unfold aJ;congr 1];exact b_ h2 (by decide) rfl,⟨by simp,by simp,fun w hw=> ?_⟩,S_⟩
   simp at hw
   rw[hw]
   exact⟨by decide,by decide,by decide⟩
 obtain⟨M3,Jk⟩:∃M3,M3=M2++[MO.lst [aJ r']]:=⟨_,rfl⟩
 have g3:Gr M2 M3:=by rw[Jk];exact Gr.app
 have h3:M3[M2.length]? = some (.lst ([r'].map aJ)):=by rw[Jk];exact aO
 have g13:=g1.trans (g2.trans g3)
 obtain⟨u,M4,v,M5,m,M6,s3,s4,s5,hm,g6,_⟩:=abi (z:=a) (g13 _ _ hn) (g3 _ _ (g2 _ _ h1)) h3 e ha G.len (by omega) (by simp)
 have em:P++[r']++(r::Q)=P++r'::r::Q:=by simp
 rw[em]at hm
 refine⟨_,P.length+1,m,M6,?_,hm,G.G.dead e hD,by simp,by simp;omega,?_,g13.trans g6⟩
 ·have ca:((P.length+1:Nat):Int)=a+1:=by omega
  rw[ca]
  simp only[aY,bV,qG]
  simp[ix,DP,DN,DK,FT,s1,←tQ,md,i2,←Jk,s3,s4,s5]
 ·intro y hy
  simp only[List.mem_append,List.mem_cons]at hy
  rcases hy with hy | rfl | rfl | hy
  ·exact(G.ok y (by rw[e];simp[hy])).Ib
  ·exact hw
  ·exact(G.ok y (by rw[e];simp)).Ib
  ·exact(G.ok y (by rw[e];simp[hy])).Ib
theorem aoY(G:Rows R h hd bs en vs as es)(hn:M[n]? = some (.lst (R.map aJ)))(e:R=P++r::Q)(ha:a=P.length):xY M (aY [.ref n,.int a,.int 6,.int x] M):=by
 have hr:iw r:=G.ok r (by rw[e];simp)
 have ix:=qP hn e ha
 obtain⟨s,t,er,ht,_⟩:=hr.six
 have hlr:=Pk hr
 obtain⟨M1,rB⟩:∃M1,M1=M++[MO.lst [.str "End",.str "row",.str "At",.str ""]]:=⟨_,rfl⟩
 have g1:Gr M M1:=by rw[rB];exact Gr.app
 have h1:M1[M.length]? = some (.lst [.str "End",.str "row",.str "At",.str ""]):=by rw[rB];exact aO
 obtain⟨z,i1,hw,hl,hD⟩:∃z:Str,bJ (.ref M.length) (.int (x % 4)) M1= .ok (.str z) M1∧Wd (W z)∧(W z).length≤10∧Mq (W z::t):=by
  rcases ajG x with e | e | e | e
  ·exact⟨"End",by rw[e];exact b_ h1 (by decide) rfl,⟨by decide,by decide,by decide⟩,by decide,GZ (by decide) (by decide) (by decide) (by decide) (by decide) (by decide)⟩
  ·exact⟨"row",by rw[e];exact b_ h1 (by decide) rfl,⟨by decide,by decide,by decide⟩,by decide,GZ (by decide) (by decide) (by decide) (by decide) (by decide) (by decide)⟩
  ·exact⟨"At",by rw[e];exact b_ h1 (by decide) rfl,⟨by decide,by decide,by decide⟩,by decide,GZ (by decide) (by decide) (by decide) (by decide) (by decide) (by decide)⟩
  ·exact⟨"",by rw[e];exact b_ h1 (by decide) rfl,⟨by decide,by decide,by decide⟩,by decide,GZ (by decide) (by decide) (by decide) (by decide) (by decide) (by decide)⟩
 have pt:MN (aJ r) [.str " "] M1= .ok (.tup [.str s,.str " ",.str (aZ (cg 32 t))]) M1:=by
  unfold aJ
  rw[aah (by have:=yD hr.Ib;omega) (by decide)]
  have:=aap (s:=s) (t:=t) (er▸hr) ht
  rw[er,this]
  rfl
 have ty:∀M:Mem,I_ "str" (aJ r) M=true:=fun _=>rfl
 have ljt:(cg 32 t).length≤1812:=by
  rw[er,join_cons ht]at hlr
  simp at hlr
  omega
 obtain⟨z1,a1,a2⟩:∃z1:Str,aX (.str z) (.str " ") M1= .ok (.str z1) M1∧aX (.str z1) (.str (aZ (cg 32 t))) M1= .ok (aJ (W z::t)) M1:=by
  have w1:(W " ").length=1:=by decide
  have q1:=G8 (s:= " ") (b:=W z) (by omega) M1
  rw[DW]at q1
  refine⟨aZ (W z++W " "),q1,?_⟩
  rw[Kf (by rw[wu,wu];simp;omega),Lf]
  unfold aJ
  rw[dZ,join_cons ht,show W " " = [32]from by decide]
  simp
 obtain⟨p,M2,M3,u,M4,v,M5,m,M6,s1,Jk,s2,s3,s4,hm,g6⟩:=Gf G (g1 _ _ hn) e ha (W z::t)
 obtain⟨q1,q2,q3⟩:=Dl G e (r':=W z::t) (Zy (er▸hr.Ib) hw)
 refine⟨_,P.length+1,m,M6,?_,hm,G.G.dead e hD,q3,q2,q1,g1.trans g6⟩
 have ca:((P.length+1:Nat):Int)=a+1:=by omega
 rw[ca]
 simp only[aY,bV,qF]
 simp[ix,DP,DN,DK,FT,Ig,←rB,md,i1,ty,pt,a1,a2,JZ,J0,MK,Wf,s1,←Jk,s2,s3,s4]
theorem aoX(G:Rows R h hd bs en vs as es)(hn:M[n]? = some (.lst (R.map aJ)))(e:R=P++r::Q)(ha:a=P.length):xY M (aY [.ref n,.int a,.int 7,.int x] M):=by
 have hr:iw r:=G.ok r (by rw[e];simp)
 have ix:=qP hn e ha
 obtain⟨s,t,er,ht,_⟩:=hr.six
 have hr':iw (W s::t):=er▸hr
 have w7:zJ 2 4 7 " " "  " [some (.ref n),some (.int a),some (.int 7),some (.int x),some (aJ r)] M= .next [some (.ref n),some (.int a),some (.int 7),some (.int x),some (aJ (W s::[]::t))] M:=by
  have l2:("  " : Str).length=2:=by decide
  rw[Uw (z:=dw r) rfl rfl (by have:=yD hr.Ib;omega),er,acu hr' ht]
  rfl
 obtain⟨p,M2,M3,u,M4,v,M5,m,M6,s1,Jk,s2,s3,s4,hm,g6⟩:=Gf G hn e ha (W s::[]::t)
 obtain⟨q1,q2,q3⟩:=Dl G e (ab4 hr')
 refine⟨_,P.length+1,m,M6,?_,hm,G.G.dead e (hr.gap er),q3,q2,q1,g6⟩
 have ca:((P.length+1:Nat):Int)=a+1:=by omega
 rw[ca]
 simp only[aY,bV]
 simp[ix,DP,DN,DK,FT,Ig,J2,w7,J0,MK,Wf,s1,←Jk,s2,s3,s4]
end
section
variable{M:Mem}{n:Nat}{R:List Rw}{h:Int×D}{hd bs en r:Rw}{vs as es P Q:List Rw}{a x k:Int}
theorem Good.fst(G:Good R h hd bs en vs as es):R=(hd::bs::(vs++as++es))++[en]:=by rw[G.eq];simp
theorem V5{c:List Nat}(hc:Wd c):qW [W "end",c]:=⟨by simp,by simp,fun w hw=>by
 simp at hw
 rcases hw with rfl | rfl
 ·exact⟨by decide,by decide,by decide⟩
 ·exact hc⟩
theorem aoW(G:Rows R h hd bs en vs as es)(hn:M[n]? = some (.lst (R.map aJ)))(e:R=P++r::Q)(ha:a=P.length):xY M (aY [.ref n,.int a,.int 8,.int x] M):=by
 have hL:=G.len
 have hL3:=G.G.len
 have ix:=qP hn e ha
 obtain⟨A,hA⟩:∃A,A=hd::bs::(vs++as++es):=⟨_,rfl⟩
 have eA:R=A++[en]:=by rw[hA];exact G.G.fst
 have lA:R.length=A.length+1:=by rw[eA];simp
 have s1:=Z_ hn eA
 obtain⟨M1,rB⟩:∃M1,M1=M++[.lst (A.map aJ)]:=⟨_,rfl⟩
 rw[←rB]at s1
 have g1:Gr M M1:=by rw[rB];exact Gr.app
 have h1:M1[M.length]? = some (.lst (A.map aJ)):=by rw[rB];exact aO
 have ln:=rO (g1 _ _ hn)
 obtain⟨L,hLL⟩:∃L:Int,L=R.length:=⟨_,rfl⟩
 rw[←hLL]at ln
 obtain⟨M2,tQ⟩:∃M2,M2=M1++[MO.lst [.int L,.int (L - 2),.int (-L+1)]]:=⟨_,rfl⟩
 have g2:Gr M1 M2:=by rw[tQ];exact Gr.app
 have h2:M2[M1.length]? = some (.lst [.int L,.int (L - 2),.int (-L+1)]):=by rw[tQ];exact aO
 obtain⟨y,i2,hy,hb⟩:∃y:Int,bJ (.ref M1.length) (.int (x % 3)) M2= .ok (.int y) M2∧y≠L - 1∧ -20≤y∧y≤20:=by
  rcases ajH x with e | e | e
  ·exact⟨L,by rw[e];exact b_ h2 (by decide) rfl,by omega,by omega⟩
  ·exact⟨L - 2,by rw[e];exact b_ h2 (by decide) rfl,by omega,by omega⟩
  ·exact⟨-L+1,by rw[e];exact b_ h2 (by decide) rfl,by omega,by omega⟩
 have sm:Sm y:=by
  unfold Sm
  have:(20:Nat)<10 ^ 41:=by decide
  omega
 have st:=BZ sm
 have et:=abD sm
 obtain⟨M3,Jk⟩:∃M3,M3=M2++[MO.lst [aJ [W "end",aM y]]]:=⟨_,rfl⟩
 have g3:Gr M2 M3:=by rw[Jk];exact Gr.app
 have h3:M3[M2.length]? = some (.lst ([[W "end",aM y]].map aJ)):=by rw[Jk];exact aO
 obtain⟨m,M4,s4,hm,g4⟩:∃m M4,aX (.ref M.length) (.ref M2.length) M3= .ok (.ref m) M4∧M4[m]? = some (.lst ((A++[[W "end",aM y]]).map aJ))∧Gr M3 M4:=⟨_,_,Vw (g3 _ _ (g2 _ _ h1)) h3 (by simp;omega),aO,Gr.app⟩
 have g14:=(g1.trans (g2.trans g3)).trans g4
 have ln4:=rO (g14 _ _ hn)
 have hc:num (aM y)≠some (((vs++as++es).length+2:Nat):Int):=by
  rw[iu sm]
  intro z
  injection z with z
  omega
 have akB:=G.G.count hc
 have em:hd::bs::(vs++as++es++[[W "end",aM y]])=A++[[W "end",aM y]]:=by rw[hA];simp
 rw[em]at akB
 refine⟨_,R.length,m,M4,?_,hm,akB,by simp,by simp;omega,?_,g14⟩
 ·simp only[aY,bV,qD]
  simp[ix,DP,DN,DK,FT,Ig,J2,JZ,s1,ln,←tQ,md,i2,st,et,←Jk,s4,ln4]
 ·intro y hy
  rcases List.mem_append.mp hy with hy | hy
  ·exact(G.ok y (by rw[eA];simp[hy])).Ib
  ·rw[List.mem_singleton.mp hy]
   exact V5 (dU sm)
theorem aoV(G:Rows R h hd bs en vs as es)(hn:M[n]? = some (.lst (R.map aJ)))(e:R=P++r::Q)(ha:a=P.length):xY M (aY [.ref n,.int a,.int 9,.int x] M):=by
 have hL:=G.len
 have ix:=qP hn e ha
 have ln:=rO hn
 obtain⟨L,hLL⟩:∃L:Int,L=R.length:=⟨_,rfl⟩
 rw[←hLL]at ln
 have sm:Sm L:=by
  unfold Sm
  have:(20:Nat)<10 ^ 41:=by decide
  omega
 have st:=BZ sm
 have et:=abD sm
 obtain⟨M2,tQ⟩:∃M2,M2=M++[MO.lst [.str "",aJ [W "end",aM L],.str "at 1 start"]]:=⟨_,rfl⟩
 have g2:Gr M M2:=by rw[tQ];exact Gr.app
 have h2:M2[M.length]? = some (.lst [.str "",aJ [W "end",aM L],.str "at 1 start"]):=by rw[tQ];exact aO
 obtain⟨r',i2,hw⟩:∃r':Rw,bJ (.ref M.length) (.int (x % 3)) M2= .ok (aJ r') M2∧qW r':=by
  rcases ajH x with e | e | e
  ·exact⟨[[]],by rw[e,show aJ [[]]= .str "" from by unfold aJ;congr 1];exact b_ h2 (by decide) rfl,⟨by simp,by simp,fun w hw=>by rw[List.mem_singleton.mp hw];exact⟨by decide,by decide,by decide⟩⟩⟩
  ·exact⟨[W "end",aM L],by rw[e];exact b_ h2 (by decide) rfl,V5 (dU sm)⟩
  ·refine⟨[W "at",W "1",W "start"],by rw[e,show aJ [W "at",W "1",W "start"]= .str "at 1 start" from by unfold aJ;rw[dZ];congr 1];exact b_ h2 (by decide) rfl,⟨by simp,by simp,fun w hw=> ?_⟩⟩
   simp at hw
   rcases hw with rfl | rfl | rfl<;>exact⟨by decide,by decide,by decide⟩
 obtain⟨M3,Jk⟩:∃M3,M3=M2++[MO.lst [aJ r']]:=⟨_,rfl⟩
 have g3:Gr M2 M3:=by rw[Jk];exact Gr.app
 have h3:M3[M2.length]? = some (.lst ([r'].map aJ)):=by rw[Jk];exact aO
 obtain⟨m,M4,s4,hm,g4⟩:∃m M4,aX (.ref n) (.ref M2.length) M3= .ok (.ref m) M4∧M4[m]? = some (.lst ((R++[r']).map aJ))∧Gr M3 M4:=⟨_,_,Vw (g3 _ _ (g2 _ _ hn)) h3 (by simp;omega),aO,Gr.app⟩
 have g14:=(g2.trans g3).trans g4
 have ln4:=rO (g14 _ _ hn)
 rw[←hLL]at ln4
 have ca:((R.length+1:Nat):Int)=L+1:=by omega
 refine⟨_,R.length+1,m,M4,?_,hm,G.G.behind r',by simp,by simp;omega,?_,g14⟩
 ·rw[ca]
  simp only[aY,bV,qC]
  simp[ix,DP,DN,DK,FT,Ig,J2,JZ,J0,ln,st,et,←tQ,md,i2,←Jk,s4,ln4]
 ·intro y hy
  rcases List.mem_append.mp hy with hy | hy
  ·exact(G.ok y hy).Ib
  ·rw[List.mem_singleton.mp hy]
   exact hw
theorem Up(G:Rows R h hd bs en vs as es)(hn:M[n]? = some (.lst (R.map aJ)))(h0:0≤a)(ha:a<R.length)(hk:0≤k)(hk1:k<12)(hk2:k≠10):xY M (aY [.ref n,.int a,.int k,.int x] M):=by
 obtain⟨P,r,Q,e,hP⟩:∃P r Q,R=P++r::Q∧a=(P.length:Nat):=by
  have hl:a.toNat<R.length:=by omega
  refine⟨R.take a.toNat,R[a.toNat],R.drop (a.toNat+1),?_,by rw[List.length_take];omega⟩
  rw[←List.drop_eq_getElem_cons hl,List.take_append_drop]
 by_cases k0:k=11∨k=0
 ·exact ao4 k0 G hn e hP
 by_cases k1:k=1
 ·subst k1
  exact ao3 G hn e hP
 by_cases k2:k=2
 ·subst k2
  exact ao2 G hn e hP
 by_cases k3:k=3
 ·subst k3
  exact ao1 G hn e hP
 by_cases k4:k=4
 ·subst k4
  exact ao0 G hn e hP
 by_cases k5:k=5
 ·subst k5
  exact aoZ G hn e hP
 by_cases k6:k=6
 ·subst k6
  exact aoY G hn e hP
 by_cases k7:k=7
 ·subst k7
  exact aoX G hn e hP
 by_cases k8:k=8
 ·subst k8
  exact aoW G hn e hP
 have k9:k=9:=by omega
 subst k9
 exact aoV G hn e hP
end
theorem X4{M:Mem}{n k:Nat}{ds:List D}{d:D}(hM:M[n]? = some (.lst ds))(hl:ds.length=k+2)(h:ds[k]? = some d):bJ (.ref n) (.int (-2)) M= .ok d M:=by
 have e:Le ds (-2)=ds[k]? := by
  unfold Le ixN
  rw[if_neg (by decide),if_pos (by omega),hl]
  show ds[(-2+((k+2:Nat):Int)).toNat]? = _
  congr 1
  omega
 exact nC (nC (by simp only[Ph,B_,eF hM,e,h]))
section
variable{M:Mem}{n x:Nat}{R:List Rw}{h:Int×D}{hd bs en:Rw}{vs as es:List Rw}{a k x2:Int}{v0 v2 v6 v7 v8:Option D}
theorem Good.pre(G:Good R h hd bs en vs as es):∃A r,R=A++[r,en]∧((R.length=3∨fw r=some ("value" : Str))↔(as=[]∧es=[])):=by
 have hl:=G.len
 rcases List.eq_nil_or_concat es with he | ⟨es',r,he⟩
 ·rcases List.eq_nil_or_concat as with ha | ⟨as',r,ha⟩
  ·rcases List.eq_nil_or_concat vs with hv | ⟨vs',r,hv⟩
   ·refine⟨[hd],bs,by rw[G.eq,he,ha,hv];simp,⟨fun _=>⟨ha,he⟩,fun _=> .inl (by rw[hl,he,ha,hv];simp)⟩⟩
   ·refine⟨hd::bs::vs',r,by rw[G.eq,he,ha,hv];simp,⟨fun _=>⟨ha,he⟩,fun _=> .inr ?_⟩⟩
    exact(G.B.v r (by rw[hv];simp)).fw
  ·have hne:as≠[]:=by rw[ha];simp
   refine⟨hd::bs::(vs++as'),r,by rw[G.eq,he,ha];simp,⟨fun z=> ?_,fun z=>absurd z.1 hne⟩⟩
   rcases z with z | z
   ·rw[hl,ha]at z;simp at z
   ·rw[(G.B.a r (by rw[ha];simp)).fw]at z
    exact absurd z (by decide)
 ·have hne:es≠[]:=by rw[he];simp
  refine⟨hd::bs::(vs++as++es'),r,by rw[G.eq,he];simp,⟨fun z=> ?_,fun z=>absurd z.2 hne⟩⟩
  rcases z with z | z
  ·rw[hl,he]at z;simp at z
  ·rw[(G.B.e r (by rw[he];simp)).fw]at z
   exact absurd z (by decide)
theorem ah7(G:Rows R h hd bs en vs as es)(hn:M[n]? = some (.lst (R.map aJ))):∃(R':List Rw) (t m:Nat) (M':Mem),Dq [v0,some (.ref n),v2,some (.ref x),some (.int a),some (.int 10),v6,v7,v8] M= .next [v0,some (.ref n),v2,some (.ref x),some (.int a),some (.int 10),some (.ref m),some (.int (t:Int)),v8] M'∧M'[m]? = some (.lst (R'.map aJ))∧Jg R'= .error t∧R'≠[]∧R'.length≤300∧(∀r∈R',qW r)∧Gr M M':=by
 have hL:=G.len
 have hL3:=G.G.len
 obtain⟨A,hA⟩:∃A,A=hd::bs::(vs++as++es):=⟨_,rfl⟩
 have eA:R=A++[en]:=by rw[hA];exact G.G.fst
 have lA:R.length=A.length+1:=by rw[eA];simp
 obtain⟨A2,r,eP,hiff⟩:=G.G.pre
 have hr:iw r:=G.ok r (by rw[eP];simp)
 obtain⟨z,t1,t2⟩:=XN hr
 have s1:=Z_ hn eA
 obtain⟨M1,rB⟩:∃M1,M1=M++[.lst (A.map aJ)]:=⟨_,rfl⟩
 rw[←rB]at s1
 have g1:Gr M M1:=by rw[rB];exact Gr.app
 have h1:M1[M.length]? = some (.lst (A.map aJ)):=by rw[rB];exact aO
 have i1:bJ (.ref n) (.int (-1)) M1= .ok (aJ en) M1:=Kd (k:=A.length) (g1 _ _ hn) (by simp;omega) (by rw[eA];simp)
 have eV:D.str "value zz 1" = aJ [W "value",W "zz",W "1"]:=by unfold aJ;rw[dZ];congr 1
 obtain⟨M2,tQ⟩:∃M2,M2=M1++[MO.lst [.str "value zz 1",aJ en]]:=⟨_,rfl⟩
 have g2:Gr M1 M2:=by rw[tQ];exact Gr.app
 have h2:M2[M1.length]? = some (.lst ([[W "value",W "zz",W "1"],en].map aJ)):=by rw[tQ,eV];exact aO
 obtain⟨m,M3,s3,hm,g3⟩:∃m M3,aX (.ref M.length) (.ref M1.length) M2= .ok (.ref m) M3∧M3[m]? = some (.lst ((A++[[W "value",W "zz",W "1"],en]).map aJ))∧Gr M2 M3:=⟨_,_,Vw (g2 _ _ h1) h2 (by simp;omega),aO,Gr.app⟩
 have g13:=(g1.trans g2).trans g3
 have ln:=rO (g13 _ _ hn)
 have i2:bJ (.ref n) (.int (-2)) M3= .ok (aJ r) M3:=X4 (k:=A2.length) (g13 _ _ hn) (by rw[eP];simp) (by rw[eP];simp)
 have hz:=G.G.zz
 have em:hd::bs::(vs++as++es++[[W "value",W "zz",W "1"],en])=A++[[W "value",W "zz",W "1"],en]:=by rw[hA];simp
 rw[em]at hz
 have hW:∀y∈A++[[W "value",W "zz",W "1"],en],qW y:=fun y hy=>by
  simp only[List.mem_append,List.mem_cons,List.not_mem_nil,or_false]at hy
  rcases hy with hy | rfl | rfl
  ·exact(G.ok y (by rw[eA];simp[hy])).Ib
  ·refine⟨by simp,by simp,fun w hw=> ?_⟩
   simp at hw
   rcases hw with rfl | rfl | rfl<;>exact⟨by decide,by decide,by decide⟩
  ·exact(G.ok y (by rw[eA];simp)).Ib
 have hpre:Dq [v0,some (.ref n),v2,some (.ref x),some (.int a),some (.int 10),v6,v7,v8] M=JG [v0,some (.ref n),v2,some (.ref x),some (.int a),some (.int 10),some (.ref m),some (.int (R.length:Int)),v8] M3:=by
  simp only[Dq]
  simp[s1,i1,←tQ,s3,ln]
 rw[hpre]
 by_cases hc:as=[]∧es=[]
 ·rw[if_pos hc]at hz
  refine⟨_,R.length+1,m,M3,?_,hm,hz,by simp,by simp;omega,hW,g13⟩
  have hd:=hiff.mpr hc
  simp only[JG]
  by_cases c1:(R.length:Int)=3
  ·simp[ln,c1]
  ·have c2:z= "val" := t2.mpr (hd.resolve_left (by omega))
   simp[ln,c1,i2,t1,c2]
 ·rw[if_neg hc]at hz
  refine⟨_,R.length,m,M3,?_,hm,hz,by simp,by simp;omega,hW,g13⟩
  have c1:¬(R.length:Int)=3:=fun y=>hc (hiff.mp (.inl (by omega)))
  have c2:¬z= "val" := fun y=>hc (hiff.mp (.inr (t2.mp y)))
  simp only[JG]
  simp[ln,c1,i2,t1,c2]
theorem ab5(G:Rows R h hd bs en vs as es)(hn:M[n]? = some (.lst (R.map aJ)))(ix:bJ (.ref x) (.int 2) M= .ok (.int x2) M)(h0:0≤a)(ha:a<R.length)(hk:0≤k)(hk1:k<12):∃(R':List Rw) (t m:Nat) (M':Mem),Dq [v0,some (.ref n),v2,some (.ref x),some (.int a),some (.int k),v6,v7,v8] M= .next [v0,some (.ref n),v2,some (.ref x),some (.int a),some (.int k),some (.ref m),some (.int (t:Int)),v8] M'∧M'[m]? = some (.lst (R'.map aJ))∧Jg R'= .error t∧R'≠[]∧R'.length≤300∧(∀r∈R',qW r)∧Gr M M':=by
 by_cases h10:k=10
 ·subst h10
  exact ah7 G hn
 ·obtain⟨R',t,m,M',e1,q⟩:=Up (x:=x2) G hn h0 ha hk hk1 h10
  refine⟨R',t,m,M',?_,q⟩
  simp only[Dq]
  simp[h10,ix,e1]
end
theorem join_rows{M:Mem}{m:Nat}{R:List Rw}(h:M[m]? = some (.lst (R.map aJ)))(hW:∀r∈R,qW r)(hl:R.length≤300):Aw (.str "\n") [.ref m] M= .ok (.str (Txt.join "\n" (R.map dw))) M:=by
 have e:R.map aJ=(R.map dw).map D.str:=by rw[List.map_map];rfl
 rw[e]at h
 refine Rz h ?_
 rw[show("\n" : Str)=⟨#[10]⟩from by decide]
 refine aba (n:=3020) (fun y hy=> ?_) (by simp;omega)
 obtain⟨w,hw,rfl⟩:=List.mem_map.mp hy
 exact yD (hW w hw)
theorem ab9{M:Mem}{R:List Rw}{t:Nat}{b:Bool}(h0:R≠[])(hl:R.length≤300)(hW:∀r∈R,qW r)(ht:Jg R= .error t):∃M',wB [.str (Txt.join "\n" (R.map dw)),.bl b] M= .ok (.tup [.int (t:Int),.bl true,.bl true,.bl false]) M'∧Gr M M':=by
 have hb:=Tq (M:=M) h0 hl hW
 rw[ht]at hb
 obtain⟨M',e1,g⟩:=hb
 refine⟨M',?_,g⟩
 obtain⟨z,hz⟩:∃z,z=Txt.join "\n" (R.map dw):=⟨_,rfl⟩
 rw[←hz]at e1 ⊢
 cases b with
 | true=>
  have et:z9 [some (.str z),some (.bl true),some .non,none] M= .next [some (.str z),some (.bl true),some (.tup [.int (t:Int),.bl true,.bl true,.bl false]),none] M':=by
   simp only[z9,Ft,Fx]
   simp[e1]
   rw[Rg (by rfl)]
   simp[List.lookup]
  simp only[wB,oV,zY]
  simp[et]
 | false=>
  have et:zZ [some (.str z),some (.bl false),some .non,none] M= .next [some (.str z),some (.bl false),some (.tup [.int (t:Int),.bl true,.bl true,.bl false]),none] M':=by
   simp only[zZ,Fq,Fw]
   simp[e1]
   rw[Rg (by rfl)]
   simp[List.lookup]
  simp only[wB,oV,zY]
  simp[et]
theorem ab8{M:Mem}{n:Nat}{R:List Rw}{h:Int×D}{hd bs en:Rw}{vs as es:List Rw}{c:Int}{v0 v3 v4 v5 v6 v7 v8:Option D}(G:Rows R h hd bs en vs as es)(hn:M[n]? = some (.lst (R.map aJ))):
  ∃w3 w4 w5 w6 w7 w8 M',FP [v0,some (.ref n),some (.int c),v3,v4,v5,v6,v7,v8] M= .next [v0,some (.ref n),some (.int c),w3,w4,w5,w6,w7,w8] M'∧Gr M M':=by
 have hL3:=G.G.len
 obtain⟨xs,x,M1,hxs,e1,hx1,g1⟩:=JS (M:=M) c 3 (nn:=3) rfl (by decide)
 obtain⟨x0,p0,z0,_⟩:=o9 hxs (i:=0) (by decide)
 obtain⟨x1,p1,z1,_⟩:=o9 hxs (i:=1) (by decide)
 obtain⟨x2,p2,z2,_⟩:=o9 hxs (i:=2) (by decide)
 have i0:bJ (.ref x) (.int 0) M1= .ok (.int x0) M1:=nG hx1 rfl p0
 have i1:bJ (.ref x) (.int 1) M1= .ok (.int x1) M1:=nG hx1 rfl p1
 have i2:bJ (.ref x) (.int 2) M1= .ok (.int x2) M1:=nG hx1 rfl p2
 have ln:=rO (g1 _ _ hn)
 have hp:(0:Int)<R.length:=by omega
 have m0:=md x0 (R.length:Int) M1 hp
 have b0:=d9 x0 hp
 have b1:=d9 x1 (j:=12) (by decide)
 obtain⟨R',t,m,M2,e2,hm,hrd,hne,hl,hW,g2⟩:=ab5 (v0:=v0) (v2:=some (.int c)) (v6:=v6) (v7:=v7) (v8:=v8) G (g1 _ _ hn) i2 b0.1 b0.2 b1.1 b1.2
 have i3:bJ (.ref x) (.int 2) M2= .ok (.int x2) M2:=nG (g2 _ _ hx1) rfl p2
 have jn:=join_rows hm hW hl
 obtain⟨M3,e3,g3⟩:=ab9 (M:=M2) (b:=decide (x2 / 12 % 2=0)) hne hl hW hrd
 have ty:∀M:Mem,I_ "str" (.str "\n") M=true:=fun _=>rfl
 have ne:sNe (.tup [.int (t:Int),.bl true,.bl true,.bl false]) (.tup [.int (t:Int),.bl true,.bl true,.bl false]) M3= .ok (.bl false) M3:=Pb (abt (t:= .tup [.int (t:Int),.bl true,.bl true,.bl false]) rfl)
 refine⟨some (.ref x),some (.int (x0 % (R.length:Int))),some (.int (x1 % 12)),some (.ref m),some (.int (t:Int)),some (.tup [.int (t:Int),.bl true,.bl true,.bl false]),M3,?_,(g1.trans g2).trans g3⟩
 simp only[FP,W6]
 simp[e1,i0,ln,m0,i1,md,e2,ty,jn,i3,dv,e3,ne]
theorem agk:∀ns:List Int,ns.length≤63→∃M,aa2 [.cl (ns.map D.int)] []= .ok (.bl true) M:=by
 intro ns hns
 obtain⟨T,hT⟩:∃T:Int,T=10 ^ 40:=⟨_,rfl⟩
 have hT0:0<T:=by rw[hT];decide
 have hT1:T≤10 ^ 40:=by rw[hT];exact Int.le_refl _
 have pw:∀M:Mem,Lz (.int 10) (.int 40) M= .ok (.int T) M:=fun M=>by rw[hT];exact aag (by decide)
 clear hT
 have c0:∀M:Mem,mX [.cl (ns.map D.int),.int 0] M= .ok (.int (cell ns 0)) M:=fun M=>adR ns 0 rfl
 obtain⟨R,h,hd,bs,en,vs,as,es,n,M1,G,hh,e1,hn,g1⟩:=acs (M:=[]) (c:=cell ns 0) hT0 hT1 pw
 have hW:∀r∈R,qW r:=fun r hr=>(G.ok r hr).Ib
 have hL:=G.len
 have hL3:=G.G.len
 have jn:=join_rows hn hW (by omega)
 have hb:=Tq (M:=M1) (cH:=R) (by intro z;rw[z]at hL3;simp at hL3) (by omega) hW
 obtain⟨⟨b,vs',as',es'⟩,hz⟩:=G.G.read
 rw[hz]at hb
 obtain⟨k,r,l,M2,e2,K2,g2⟩:=hb
 have ft:=K2.ft
 rw[hh]at ft
 have mT:=fun M=>md (cell ns 0) T M hT0
 have ty:∀M:Mem,I_ "str" (.str "\n") M=true:=fun _=>rfl
 obtain⟨cs,hcs⟩:∃cs,cs=cut ns (some 1) (some 25):=⟨_,rfl⟩
 have sl:cut (ns.map D.int) (some 1) (some 25)=cs.map D.int:=by rw[hcs];exact adJ D.int ns _ _
 obtain⟨M5,T9⟩:∃M5,M5=M2++[MO.lst (cs.map D.int)]:=⟨_,rfl⟩
 have u5:M5[M2.length]? = some (.lst (cs.map D.int)):=by rw[T9];exact aO
 have g5:Gr M2 M5:=by rw[T9];exact Gr.app
 have hn5:=g5 _ _ (g2 _ _ hn)
 obtain⟨e',M6,e6,g6,v2,v3,v4,v5,v6,v7,v8,he⟩:=yN (src:=some (M2.length,cs.map D.int)) (g:=gN 2) (b:=FP)
  (fun _ e M'=>Gr M5 M'∧∃v2 v3 v4 v5 v6 v7 v8:Option D,e=[some (.cl (ns.map D.int)),some (.ref n),v2,v3,v4,v5,v6,v7,v8]) (ds:=cs.map D.int) (e:=[some (.cl (ns.map D.int)),some (.ref n),none,none,none,none,none,none,none]) (M:=M5) ⟨Gr.refl,none,none,none,none,none,none,none,rfl⟩
  (fun i e M' _ h=>eF (h.1 _ _ u5)) (fun i d e M' hd h=>by
   obtain⟨g,v2,v3,v4,v5,v6,v7,v8,rfl⟩:=h
   rw[List.getElem?_map]at hd
   obtain⟨c,_,rfl⟩:=Option.map_eq_some_iff.mp hd
   refine⟨_,rfl,?_⟩
   obtain⟨w3,w4,w5,w6,w7,w8,M'',e,g'⟩:=ab8 (M:=M') (c:=c) (v0:=some (.cl (ns.map D.int))) (v3:=v3) (v4:=v4) (v5:=v5) (v6:=v6) (v7:=v7) (v8:=v8) G (g _ _ hn5)
   show(FP [some (.cl (ns.map D.int)),some (.ref n),some (.int c),v3,v4,v5,v6,v7,v8] M').to _ _
   rw[e]
   exact⟨g.trans g',_,w3,w4,w5,w6,w7,w8,rfl⟩)
 subst he
 refine⟨M6,?_⟩
 simp only[aa2,NZ,W7,Xe]
 simp[c0,e1,ty,jn,e2,ft,pw,mT,sl,←T9,uy u5,e6]
def top(i:Nat):Stmt:=PySem.Challenge.pw_chairvote_k22_torn_at_a_row.main.body.getD i (.Pass ⟨0,0,0,0⟩)
abbrev iM:Stmt:=top 31
abbrev jK:Stmt:=top 32
abbrev lQ:Stmt:=top 33
abbrev gC:Stmt:=top 30
abbrev gG:Stmt:=inClass (top 15) 0
abbrev dI:Stmt:=inClass (top 2) 0
abbrev fC:Stmt:=inClass (top 15) 1
abbrev cU:Stmt:=inClass (top 15) 3
abbrev vK:Stmt:=top 12
abbrev jL:Stmt:=top 13
abbrev fD:Stmt:=inClass (top 15) 5
abbrev bZ:Stmt:=inClass (top 15) 6
abbrev fH:Stmt:=inClass (top 15) 7
abbrev gH:Stmt:=inClass (top 15) 8
abbrev fG:Stmt:=inClass (top 15) 4
abbrev jF:Stmt:=top 21
abbrev cJ:Stmt:=inClass (top 15) 9
abbrev jH:Stmt:=top 22
abbrev eY:Stmt:=inClass (top 15) 2
abbrev o_:Stmt:=top 14
abbrev gF:Stmt:=inClass (top 15) 10
abbrev gA:Stmt:=top 23
abbrev fB:Stmt:=top 24
abbrev lV:Stmt:=inClass (top 17) 0
abbrev iK:Stmt:=top 25
abbrev jE:Stmt:=top 26
abbrev fu:Stmt:=top 27
abbrev eX:Stmt:=inClass (top 15) 11
abbrev lU:Stmt:=inClass (top 17) 17
abbrev jM:Stmt:=inClass (top 20) 0
abbrev jG:Stmt:=top 28
abbrev lR:Stmt:=top 35
abbrev jJ:Stmt:=top 34
abbrev eU:Stmt:=top 36
abbrev gB:Stmt:=top 37
abbrev lO:Stmt:=top 38
abbrev F_:Stmt:=top 39
set_option genInjectivity false in
structure Adr where
 rZ:Addr
 sy:FuncData
 uE:Addr
 uN:FuncData
 wK:Addr
 wW:FuncData
 pR:Addr
 p_:FuncData
 pW:Addr
 qe:FuncData
 gm:Addr
 pG:FuncData
 oh:Addr
 oH:FuncData
 jW:Addr
 jX:FuncData
 GQ:Addr
 G3:FuncData
 uF:Addr
 uO:FuncData
 ou:Addr
 oJ:FuncData
 g_:Addr
 h_:FuncData
 oE:Addr
 oM:FuncData
 pX:Addr
 qg:FuncData
 oA:Addr
 oK:FuncData
 uA:Addr
 uJ:FuncData
 jg:Addr
 jh:FuncData
 uC:Addr
 uL:FuncData
 mK:Addr
 mQ:FuncData
 yQ:Addr
 yS:FuncData
 pU:Addr
 qb:FuncData
 pP:Addr
 pY:FuncData
 n_:Addr
 oG:FuncData
 wN:Addr
 wZ:FuncData
 rY:Addr
 su:FuncData
 uz:Addr
 uI:FuncData
 nZ:Addr
 oF:FuncData
 mJ:Addr
 mO:FuncData
 wM:Addr
 wY:FuncData
 uG:Addr
 uP:FuncData
 uB:Addr
 uK:FuncData
 wL:Addr
 wX:FuncData
 uD:Addr
 uM:FuncData
 mH:Addr
 mL:FuncData
 pQ:Addr
 pZ:FuncData
 wJ:Addr
 wV:FuncData
 Nv:Addr
 Iw:FuncData
 fZ:Addr
 Eb:Addr
 Ai:Addr
 bw:Addr
 cD:Addr
 ie:Addr
 bR:Addr
 Nr:Tok
 Xc:Tok
 Nq:Tok
 Cz:Tok
 Cy:Tok
 yp:Addr
structure Txt(K:Frag)(mg:Str→Option Value)(t:Adr):Prop where
 t8:cF K "_law_stream" "_law_stream" iM .none t.rZ t.sy
 jZ:Binds K t.sy ["_law_cell","_law_size"] []
 yh:mg "_law_stream" = some (.ref t.rZ)
 Ae:cF K "_law_entry" "_law_entry" jK .none t.uE t.uN
 oX:Binds K t.uN ["_law_number","_law_cell"] []
 Gn:mg "_law_entry" = some (.ref t.uE)
 CK:cF K "_law_rows" "_law_rows" lQ .none t.wK t.wW
 qT:Binds K t.wW ["_law_cell"] []
 Ij:mg "_law_rows" = some (.ref t.wK)
 rW:cF K "_law_cell_at" "_law_cell_at" gC .none t.pR t.p_
 iY:Binds K t.p_ ["_law_script","_law_k"] []
 wz:mg "_law_cell_at" = some (.ref t.pR)
 CQ:cF K "__init__" "Reader.__init__" gG .none t.pW t.qe
 j8:Binds K t.qe ["self","text"] []
 vQ:Mk K t.fZ t.pW
 xW:cF K "__init__" "HallError.__init__" dI .none t.gm t.pG
 bL:Binds K t.pG ["self","at"] []
 Bf:cF K "words" "Reader.words" fC .none t.oh t.oH
 eN:Binds K t.oH ["self"] []
 qw:Meth K t.fZ "words" t.oh
 wI:cF K "words_of" "Reader.words_of" cU .none t.jW t.jX
 a_:Binds K t.jX ["self","first","count"] []
 gj:Meth K t.fZ "words_of" t.jW
 GD:cF K "is_of" "is_of" vK .none t.GQ t.G3
 t_:Binds K t.G3 ["word","signs","most"] []
 Kz:mg "is_of" = some (.ref t.GQ)
 Af:cF K "is_number" "is_number" jL .none t.uF t.uO
 oY:Binds K t.uO ["word"] []
 Gp:mg "is_number" = some (.ref t.uF)
 Bg:cF K "whole" "Reader.whole" fD .none t.ou t.oJ
 b8:Binds K t.oJ ["self","word"] []
 fP:Meth K t.fZ "whole" t.ou
 sZ:cF K "from_nought" "Reader.from_nought" bZ .none t.g_ t.h_
 bu:Binds K t.h_ ["self","word"] []
 d_:Meth K t.fZ "from_nought" t.g_
 Bj:cF K "below" "Reader.below" fH .none t.oE t.oM
 dD:Binds K t.oM ["self","word","bound"] []
 qx:Meth K t.fZ "below" t.oE
 CT:cF K "hand" "Reader.hand" gH .none t.pX t.qg
 iZ:Binds K t.qg ["self","word"] []
 Cr:Meth K t.fZ "hand" t.pX
 Bh:cF K "go_on" "Reader.go_on" fG .none t.oA t.oK
 dB:Binds K t.oK ["self"] []
 jw:Meth K t.fZ "go_on" t.oA
 Ab:cF K "read_head" "read_head" jF .none t.uA t.uJ
 iW:Binds K t.uJ ["reader"] []
 Gj:mg "read_head" = some (.ref t.uA)
 vz:cF K "both_sets" "Reader.both_sets" cJ .none t.jg t.jh
 bT:Binds K t.jh ["self","one","two"] []
 pI:Meth K t.fZ "both_sets" t.jg
 Ac:cF K "read_base" "read_base" jH .none t.uC t.uL
 fV:Binds K t.uL ["reader"] []
 Gk:mg "read_base" = some (.ref t.uC)
 yP:cF K "begins" "Reader.begins" eY .none t.mK t.mQ
 dH:Binds K t.mQ ["self","word"] []
 pA:Meth K t.fZ "begins" t.mK
 Fb:cF K "is_name" "is_name" o_ .none t.yQ t.yS
 tV:Binds K t.yS ["word"] []
 KC:mg "is_name" = some (.ref t.yQ)
 CP:cF K "name" "Reader.name" gF .none t.pU t.qb
 gO:Binds K t.qb ["self","word"] []
 wA:Meth K t.fZ "name" t.pU
 wG:cF K "read_values" "read_values" gA .none t.pP t.pY
 iV:Binds K t.pY ["reader"] []
 Cm:mg "read_values" = some (.ref t.pP)
 uY:cF K "read_answers" "read_answers" fB .none t.n_ t.oG
 ir:Binds K t.oG ["reader"] []
 Az:mg "read_answers" = some (.ref t.n_)
 Iv:cF K "__init__" "Row.__init__" lV .none t.wN t.wZ
 oZ:Binds K t.wZ ["self","base","base_term","base_roll","entries"] []
 Ez:Mk K t.Eb t.wN
 yq:cF K "read_order" "read_order" iK .none t.rY t.su
 gM:Binds K t.su ["reader","words"] []
 DX:mg "read_order" = some (.ref t.rY)
 Aa:cF K "read_what" "read_what" jE .none t.uz t.uI
 fU:Binds K t.uI ["reader","words"] []
 Gi:mg "read_what" = some (.ref t.uz)
 uX:cF K "read_entries" "read_entries" fu .none t.nZ t.oF
 ig:Binds K t.oF ["reader"] []
 Ay:mg "read_entries" = some (.ref t.nZ)
 yO:cF K "finish" "Reader.finish" eX .none t.mJ t.mO
 cM:Binds K t.mO ["self"] []
 yH:Meth K t.fZ "finish" t.mJ
 Iu:cF K "twin" "Row.twin" lU .none t.wM t.wY
 qU:Binds K t.wY ["self"] []
 Im:Meth K t.Eb "twin" t.wM
 GF:cF K "__init__" "Book.__init__" jM .none t.uG t.uP
 o4:Binds K t.uP ["self","term","vote","row","kept"] []
 Dn:Mk K t.Ai t.uG
 rT:cF K "read_book" "read_book" jG .none t.uB t.uK
 jY:Binds K t.uK ["text"] []
 vL:mg "read_book" = some (.ref t.uB)
 CN:cF K "_law_gone" "_law_gone" lR .none t.wL t.wX
 oW:Binds K t.wX ["_law_rows_here","_law_at"] []
 Ik:mg "_law_gone" = some (.ref t.wL)
 Ad:cF K "_law_twice" "_law_twice" jJ .none t.uD t.uM
 lF:Binds K t.uM ["_law_rows_here","_law_at"] []
 Gm:mg "_law_twice" = some (.ref t.uD)
 tR:cF K "_law_exchanged" "_law_exchanged" eU .none t.mH t.mL
 iC:Binds K t.mL ["_law_rows_here","_law_at"] []
 yG:mg "_law_exchanged" = some (.ref t.mH)
 wH:cF K "_law_spoiled" "_law_spoiled" gB .none t.pQ t.pZ
 bV:Binds K t.pZ ["_law_rows_here","_law_at","_law_way","_law_number"] []
 Cp:mg "_law_spoiled" = some (.ref t.pQ)
 CJ:cF K "_law_torn" "_law_torn" lO .none t.wJ t.wV
 oV:Binds K t.wV ["_law_text","_law_by_any"] []
 Ii:mg "_law_torn" = some (.ref t.wJ)
 Vo:cF K "law" "law" F_ .none t.Nv t.Iw
 NZ:Binds K t.Iw ["_law_script"] []
 aaZ:mg "law" = some (.ref t.Nv)
 aH:T7 K t.fZ
 Ng:mg "Reader" = some (.ref t.fZ)
 fJ:m9 K t.fZ "rows"
 aV:m9 K t.fZ "here"
 xj:T7 K t.Eb
 U7:mg "Row" = some (.ref t.Eb)
 nR:m9 K t.Eb "base"
 gf:m9 K t.Eb "base_term"
 gh:m9 K t.Eb "base_roll"
 lD:m9 K t.Eb "kept"
 xX:T7 K t.Ai
 WR:mg "Book" = some (.ref t.Ai)
 lX:m9 K t.Ai "term"
 pq:m9 K t.Ai "vote"
 q_:m9 K t.Ai "row"
 jO:m9 K t.Ai "kept"
 zO:mg "HallError" = some (.ref t.bw)
 Oh:XMk K t.bw t.gm
 iI:yr K t.bw "at"
 iH:Zk K t.bw
 rC:exmOne K (.ref t.bw) (.ref t.bw)=some true
 rP:kitOne K (.ref t.bw) (.ref t.bw)=some true
 Bw:exmOne K (.ref t.bw) (.ref t.cD)=some false
 uw:kitOne K (.ref t.bw) (.ref t.cD)=some false
 xF:exmOne K (.ref t.bw) (.ref t.ie)=some false
 xU:kitOne K (.ref t.bw) (.ref t.ie)=some false
 Bm:exmOne K (.ref t.bw) (.ref t.bR)=some false
 sX:kitOne K (.ref t.bw) (.ref t.bR)=some false
 lq:kitOne K (.ref t.bw) (.type "ValueError")=some true
 KD:mg "NoPlace" = some (.ref t.cD)
 Ud:XMk K t.cD t.gm
 lH:yr K t.cD "at"
 lG:Zk K t.cD
 ud:exmOne K (.ref t.cD) (.ref t.bw)=some true
 uv:kitOne K (.ref t.cD) (.ref t.bw)=some true
 Ej:exmOne K (.ref t.cD) (.ref t.cD)=some true
 wF:kitOne K (.ref t.cD) (.ref t.cD)=some true
 Ao:exmOne K (.ref t.cD) (.ref t.ie)=some false
 Bc:kitOne K (.ref t.cD) (.ref t.ie)=some false
 Dv:exmOne K (.ref t.cD) (.ref t.bR)=some false
 vh:kitOne K (.ref t.cD) (.ref t.bR)=some false
 m8:kitOne K (.ref t.cD) (.type "ValueError")=some true
 kO:mg "Torn" = some (.ref t.ie)
 ni:XMk K t.ie t.gm
 fW:yr K t.ie "at"
 vB:Zk K t.ie
 xx:exmOne K (.ref t.ie) (.ref t.bw)=some true
 xT:kitOne K (.ref t.ie) (.ref t.bw)=some true
 IW:exmOne K (.ref t.ie) (.ref t.cD)=some false
 Bb:kitOne K (.ref t.ie) (.ref t.cD)=some false
 Fv:exmOne K (.ref t.ie) (.ref t.ie)=some true
 Gy:kitOne K (.ref t.ie) (.ref t.ie)=some true
 G_:exmOne K (.ref t.ie) (.ref t.bR)=some false
 yJ:kitOne K (.ref t.ie) (.ref t.bR)=some false
 qO:kitOne K (.ref t.ie) (.type "ValueError")=some true
 Il:mg "BadPaper" = some (.ref t.bR)
 Q6:XMk K t.bR t.gm
 jz:yr K t.bR "at"
 jx:Zk K t.bR
 sS:exmOne K (.ref t.bR) (.ref t.bw)=some true
 sY:kitOne K (.ref t.bR) (.ref t.bw)=some true
 Dw:exmOne K (.ref t.bR) (.ref t.cD)=some false
 vm:kitOne K (.ref t.bR) (.ref t.cD)=some false
 yu:exmOne K (.ref t.bR) (.ref t.ie)=some false
 yK:kitOne K (.ref t.bR) (.ref t.ie)=some false
 Bx:exmOne K (.ref t.bR) (.ref t.bR)=some true
 ux:kitOne K (.ref t.bR) (.ref t.bR)=some true
 lZ:kitOne K (.ref t.bR) (.type "ValueError")=some true
 zT:mg "ValueError" = none
 aes:mg "all" = none
 aa3:mg "bool" = none
 aer:mg "int" = none
 jQ:mg "isinstance" = none
 j9:mg "len" = none
 aa1:mg "list" = none
 aeq:mg "min" = none
 Gu:mg "range" = none
 sV:mg "str" = none
 Gs:mg "tuple" = none
 KJ:mg "FIGURES" = some (.str "0123456789" t.Nr)
 Gq:mg "HANDS" = some (.int 60 t.Xc)
 KH:mg "LETTERS" = some (.str "abcdefghijklmnopqrstuvwxyz" t.Nq)
 Ba:mg "MOST_FIGURES" = some (.int 100 t.Cz)
 A_:mg "MOST_LETTERS" = some (.int 8 t.Cy)
 Cq:mg "ORDER_WORDS" = some (.ref t.yp)
 BX:ahB K t.yp [("put",3),("add",3),("swap",4)]
def cY(t:Adr):Nat→Addr:=fun k=>match k with
 | 4=>t.fZ
 | 5=>t.Eb
 | 6=>t.Ai
 | 0=>t.bw
 | 1=>t.cD
 | 2=>t.ie
 | 3=>t.bR
 | _=>0
section
variable{P:Program}{w:World}{K:Frag}{mg:Str→Option Value}{base:Heap}{t:Adr}
theorem pL:bA ["_law_cell","_law_size","_law_found","_law_number","_law_k"] ["_law_cell","_law_size"] (aA iM):=Bo
theorem vJ:bA ["_law_number","_law_cell","_law_some"] ["_law_number","_law_cell"] (aA jK):=Bo
theorem iT:bA ["_law_cell","_law_xs","_law_rows_here","_law_base","_law_k","_law_sign","_law_who","_law_number"] ["_law_cell"] (aA lQ):=Bo
theorem J6:bA ["_law_script","_law_k"] ["_law_script","_law_k"] (aA gC):=Bo
theorem J8:bA ["self","text"] ["self","text"] (aA gG):=Bo
theorem FZ:bA ["self","at"] ["self","at"] (aA dI):=Bo
theorem Ja:bA ["self"] ["self"] (aA fC):=Bo
theorem vX:bA ["self","first","count","words"] ["self","first","count"] (aA cU):=Bo
theorem aaf:bA ["word","signs","most"] ["word","signs","most"] (aA vK):=Bo
theorem zG:bA ["word","figures"] ["word"] (aA jL):=Bo
theorem Jb:bA ["self","word"] ["self","word"] (aA fD):=Bo
theorem sU:bA ["self","word","number"] ["self","word"] (aA bZ):=Bo
theorem Av:bA ["self","word","bound","number"] ["self","word","bound"] (aA fH):=Bo
theorem J9:bA ["self","word"] ["self","word"] (aA gH):=Bo
theorem Jc:bA ["self"] ["self"] (aA fG):=Bo
theorem rH:bA ["reader","words","vote","head"] ["reader"] (aA jF):=Bo
theorem vd:bA ["self","one","two","roll"] ["self","one","two"] (aA cJ):=Bo
theorem vI:bA ["reader","words","place","base"] ["reader"] (aA jH):=Bo
theorem Ho:bA ["self","word"] ["self","word"] (aA eY):=Bo
theorem Us:bA ["word"] ["word"] (aA o_):=Bo
theorem J7:bA ["self","word"] ["self","word"] (aA gF):=Bo
theorem rG:bA ["reader","values","words","value"] ["reader"] (aA gA):=Bo
theorem qt:bA ["reader","answers","words","answer"] ["reader"] (aA fB):=Bo
theorem Rv:bA ["self","base","base_term","base_roll","entries"] ["self","base","base_term","base_roll","entries"] (aA lV):=Bo
theorem DQ:bA ["reader","words","numbers"] ["reader","words"] (aA iK):=Bo
theorem O6:bA ["reader","words"] ["reader","words"] (aA jE):=Bo
theorem qp:bA ["reader","entries","words","what"] ["reader"] (aA fu):=Bo
theorem yC:bA ["self","words"] ["self"] (aA eX):=Bo
theorem Ru:bA ["self"] ["self"] (aA lU):=Bo
theorem O8:bA ["self","term","vote","row","kept"] ["self","term","vote","row","kept"] (aA jM):=Bo
theorem lN:bA ["text","reader","head","base","values","answers","row"] ["text"] (aA jG):=Bo
theorem Rt:bA ["_law_rows_here","_law_at"] ["_law_rows_here","_law_at"] (aA lR):=Bo
theorem O7:bA ["_law_rows_here","_law_at"] ["_law_rows_here","_law_at"] (aA jJ):=Bo
theorem tH:bA ["_law_rows_here","_law_at","_law_found"] ["_law_rows_here","_law_at"] (aA eU):=Bo
theorem k_:bA ["_law_rows_here","_law_at","_law_way","_law_number","_law_row"] ["_law_rows_here","_law_at","_law_way","_law_number"] (aA gB):=Bo
theorem qZ:bA ["_law_text","_law_by_any","_law_found","e"] ["_law_text","_law_by_any"] (aA lO):=Bo
theorem uT:bA ["_law_script","_law_rows_here","_law_cell","_law_xs","_law_at","_law_way","_law_spoiled_here","_law_due","_law_found"] ["_law_script"] (aA F_):=Bo
theorem DR(T:Txt K mg t):bF P w K mg base (jm P w) 1 t.rZ t.sy ["_law_cell","_law_size"] (spS K (cY t) pB 2):=by
 show bF P w K mg base (jm P w) (0+1) t.rZ t.sy ["_law_cell","_law_size"] (spS K (cY t) (cR 5 jZ) 2)
 refine nM (n:=5) (ar:=2) (k:=0) (b:=jZ) T.t8 pL rfl rfl ?_
 intro cdv A outer s H E W hr
 exact(aF (bz (i:=2) pL.nd rfl (Or.inl rfl) (gQ au))
  (aF (bz (i:=3) pL.nd rfl (Or.inl rfl) (aC dX (aC aU (aC Vy (ak 0) aB) aB) aB))
  (aF (JV (ug rfl rfl) rfl (Dk rfl T.Gu (aj (ak 1) au)) (zE (i:=4) pL.nd rfl (Or.inl rfl)) (aF (bz (i:=3) pL.nd rfl (Or.inl rfl) (aC dX (aC aU (aC aU (aC Vy (ak 3) (aC aU (aC HW (ak 3) aB) aB)) (ak 4)) aB) aB))
  (aP (kI (rF PySem.F.plainAttrs_list PySem.F.slot_list_append PySem.F.type_list_append rm (ak 2) (aj (ak 3) au))))))
  (aP (bO (ak 2))))))
theorem PK(T:Txt K mg t):bF P w K mg base (jm P w) 1 t.uE t.uN ["_law_number","_law_cell"] (spS K (cY t) xQ 2):=by
 show bF P w K mg base (jm P w) (0+1) t.uE t.uN ["_law_number","_law_cell"] (spS K (cY t) (cR 3 oX) 2)
 refine nM (n:=3) (ar:=2) (k:=0) (b:=oX) T.Ae vJ rfl rfl ?_
 intro cdv A outer s H E W hr
 exact(aF (bz (i:=2) vJ.nd rfl (Or.inl rfl) (gQ (aj aW (aj (aC aU (aC aU (aC aU aW (dj oN rfl T.sV oO (aj (aC aU aB (aC dX (ak 0) aB)) au))) aW) (dj oN rfl T.sV oO (aj (aC dX (ak 1) (aC Vx aB aB)) au))) au))))
  (aF (bz (i:=2) vJ.nd rfl (Or.inl rfl) (aC aU (ak 2) (gQ (aj (aC aU (aC aU aW (dj oN rfl T.sV oO (aj (ak 0) au))) aW) (aj (aC aU aW (dj oN rfl T.sV oO (aj (aC dX (ak 0) aB) au))) au)))))
  (aF (bz (i:=2) vJ.nd rfl (Or.inl rfl) (aC aU (ak 2) (gQ (aj (aC aU (aC aU aW (dj oN rfl T.sV oO (aj (aC aU aB (aC dX (ak 0) aB)) au))) aW) (aj (aC aU aW (dj oN rfl T.sV oO (aj (aC dX (ak 0) aB) au))) au)))))
  (aP (bO (aC aU (aC aU (aC aU aW (dj oN rfl T.sV oO (aj (aC dX (ak 0) aB) au))) aW) (bC hr.units (ak 2) (aC dX (aC HW (ak 0) aB) aB))))))))
theorem RM(T:Txt K mg t):bF P w K mg base (jm P w) 2 t.wK t.wW ["_law_cell"] (spS K (cY t) zQ 1):=by
 show bF P w K mg base (jm P w) (1+1) t.wK t.wW ["_law_cell"] (spS K (cY t) (cR 8 qT) 1)
 have An:= @DR P w K mg base t T
 have T4:= @PK P w K mg base t T
 refine nM (n:=8) (ar:=1) (k:=1) (b:=qT) T.CK iT rfl rfl ?_
 intro cdv A outer s H E W hr
 exact(aF (bz (i:=1) iT.nd rfl (Or.inl rfl) (eO An Tk.wish (hr.mono (by decide)) rfl T.yh T.t8.kp T.jZ .nil (aj (ak 0) (aj aB au))))
  (aF (bz (i:=2) iT.nd rfl (Or.inl rfl) (gQ (aj (aC aU (aC aU (aC aU aW (dj oN rfl T.sV oO (aj (aC dX (ak 0) (aC Vx aB aB)) au))) aW) (bC hr.units (gQ (aj aW (aj aW (aj (dj oN rfl T.sV oO (aj (aC dX (bC hr.units (ak 1) aB) aB) au)) au)))) (aC dX (bC hr.units (ak 1) aB) aB))) au)))
  (aF (bz (i:=3) iT.nd rfl (Or.inl rfl) (gQ (aj (aC dX (bC hr.units (ak 1) aB) aB) (aj (aC dX (bC hr.units (ak 1) aB) aB) (aj (aC aU aB (aC dX (bC hr.units (ak 1) aB) aB)) (aj (aC dX (aC HW (bC hr.units (ak 1) aB) aB) aB) au))))))
  (aF (kI (rF PySem.F.plainAttrs_list PySem.F.slot_list_append PySem.F.type_list_append rm (ak 2) (aj (aC aU aW (rF PySem.F.plainAttrs_str PySem.F.slot_str_join PySem.F.type_str_join Jz aW (aj (J4 Tk.wish rfl rfl rfl [] [] (O4 (ak 3)) True.intro (fun _ _ _ _ _ _=>Jt) (fun _ _ _ _ _ _=>(dj oN rfl T.sV oO (aj (ak 0) au))) (by decide +kernel) (by decide +kernel) (by decide +kernel) (by decide +kernel)) au))) au)))
  (aF (JV (ug rfl rfl) rfl (Dk rfl T.Gu (aj (aC dX (bC hr.units (ak 1) aB) aB) au)) (zE (i:=4) iT.nd rfl (Or.inl rfl)) (aF (bz (i:=5) iT.nd rfl (Or.inl rfl) (bC hr.units (gQ (aj aW (aj aW au))) (aC dX (bC hr.units (ak 1) aB) aB)))
  (aP (kI (rF PySem.F.plainAttrs_list PySem.F.slot_list_append PySem.F.type_list_append rm (ak 2) (aj (aC aU (aC aU (aC aU (aC aU aW (aC Vy aW (aC aU (ak 4) aB))) aW) (ak 5)) (dj oN rfl T.sV oO (aj (aC aU aB (aC dX (bC hr.units (ak 1) aB) (bC hr.units (gQ (aj aB (aj aB (aj aB au)))) (ak 4)))) au))) au))))))
  (aF (JV (ug rfl rfl) rfl (Dk rfl T.Gu (aj (aC dX (bC hr.units (ak 1) aB) aB) au)) (zE (i:=4) iT.nd rfl (Or.inl rfl)) (aF (bz (i:=6) iT.nd rfl (Or.inl rfl) (dj oN rfl T.sV oO (aj (aC aU (aC dX (bC hr.units (ak 1) aB) aB) (aC HW (ak 4) aB)) au)))
  (aP (kI (rF PySem.F.plainAttrs_list PySem.F.slot_list_append PySem.F.type_list_append rm (ak 2) (aj (aC aU (aC aU (aC aU (aC aU (aC aU aW (ak 6)) aW) (dj oN rfl T.sV oO (aj (ak 4) au))) aW) (dj oN rfl T.sV oO (aj (aC C_ aB (aC dX (bC hr.units (ak 1) aB) aB)) au))) au))))))
  (aF (JV (ug rfl rfl) rfl (Dk rfl T.Gu (aj (aC dX (bC hr.units (ak 1) aB) aB) au)) (zE (i:=4) iT.nd rfl (Or.inl rfl)) (aF (bz (i:=7) iT.nd rfl (Or.inl rfl) (aC HW (bC hr.units (ak 1) (aC aU aB (aC dX (ak 4) aB))) (aC aU aB (ak 4))))
  (aP (kI (rF PySem.F.plainAttrs_list PySem.F.slot_list_append PySem.F.type_list_append rm (ak 2) (aj (eO T4 Tk.wish (hr.mono (by decide)) rfl T.Gn T.Ae.kp T.oX .nil (aj (ak 7) (aj (aC aU (ak 0) (ak 4)) au))) au))))))
  (aP (bO (aC aU (ak 2) (gQ (aj (aC aU aW (dj oN rfl T.sV oO (aj (bD gq rfl T.j9 gw (aj (ak 2) au)) au))) au))))))))))))
theorem Kr(T:Txt K mg t):bF P w K mg base (jm P w) 1 t.pR t.p_ ["_law_script","_law_k"] (spS K (cY t) mX 2):=by
 show bF P w K mg base (jm P w) (0+1) t.pR t.p_ ["_law_script","_law_k"] (spS K (cY t) (cR 2 iY) 2)
 refine nM (n:=2) (ar:=2) (k:=0) (b:=iY) T.rW J6 rfl rfl ?_
 intro cdv A outer s H E W hr
 exact(aF (fY (cj (Ld hr.units) (ak 1) (bD gq rfl T.j9 gw (aj (ak 0) au)) (bU _)) (aP (bO (bC hr.units (ak 0) (ak 1)))) di)
  (aP (bO aB)))
theorem Ks(T:Txt K mg t):bF P w K mg base (jm P w) 1 t.pW t.qe ["self","text"] (spS K (cY t) tX 2):=by
 show bF P w K mg base (jm P w) (0+1) t.pW t.qe ["self","text"] (spS K (cY t) (cR 2 j8) 2)
 refine nM (n:=2) (ar:=2) (k:=0) (b:=j8) T.CQ J8 rfl rfl ?_
 intro cdv A outer s H E W hr
 exact(aF (vW (cs:=[4]) ⟨⟨T.aH,T.fJ⟩,True.intro⟩ (ak 0) (rF PySem.F.plainAttrs_str PySem.F.slot_str_split PySem.F.type_str_split Ky (ak 1) (aj aW au)))
  (aP (vW (cs:=[4]) ⟨⟨T.aH,T.aV⟩,True.intro⟩ (ak 0) aB)))
theorem bN(T:Txt K mg t):bF P w K mg base V3 1 t.gm t.pG ["self","at"] (Dj K "at"):=
 abn (k:=0) T.xW FZ rfl fun cdv A outer s H E=>Wx (acG (pv 0) (pv 1) rfl)
theorem uU(T:Txt K mg t):bF P w K mg base (jm P w) 3 t.oh t.oH ["self"] (spS K (cY t) fK 1):=by
 show bF P w K mg base (jm P w) (2+1) t.oh t.oH ["self"] (spS K (cY t) (cR 1 eN) 1)
 have aQ:= @bN P w K mg base t T
 refine nM (n:=1) (ar:=1) (k:=2) (b:=eN) T.Bf Ja rfl rfl ?_
 intro cdv A outer s H E W hr
 exact(aF (fY (cj Xr (gR (cs:=[4]) ⟨⟨T.aH,T.aV⟩,True.intro⟩ (ak 0)) (bD gq rfl T.j9 gw (aj (gR (cs:=[4]) ⟨⟨T.aH,T.fJ⟩,True.intro⟩ (ak 0)) au)) (bU _)) (aP (kZ (c:=2) T.ni T.fW aQ (hr.mono (by decide)) T.bL rfl T.kO rfl Tk.wish (aj (gR (cs:=[4]) ⟨⟨T.aH,T.aV⟩,True.intro⟩ (ak 0)) au))) di)
  (aP (bO (rF PySem.F.plainAttrs_str PySem.F.slot_str_split PySem.F.type_str_split Ky (bC hr.units (gR (cs:=[4]) ⟨⟨T.aH,T.fJ⟩,True.intro⟩ (ak 0)) (aC C_ (gR (cs:=[4]) ⟨⟨T.aH,T.aV⟩,True.intro⟩ (ak 0)) aB)) (aj aW au)))))
theorem jc(T:Txt K mg t):bF P w K mg base (jm P w) 4 t.jW t.jX ["self","first","count"] (spS K (cY t) aR 3):=by
 show bF P w K mg base (jm P w) (3+1) t.jW t.jX ["self","first","count"] (spS K (cY t) (cR 4 a_) 3)
 have o6:= @uU P w K mg base t T
 have aQ:= @bN P w K mg base t T
 refine nM (n:=4) (ar:=3) (k:=3) (b:=a_) T.wI vX rfl rfl ?_
 intro cdv A outer s H E W hr
 exact(aF (bz (i:=3) vX.nd rfl (Or.inl rfl) (pK (kc:=4) (ak 0) T.aH T.qw o6 Tk.wish (hr.mono (by decide)) T.eN .nil))
  (aF (fY (SW.pt (JQ (cj (Lb hr.units) (bC hr.units (ak 3) aB) (ak 1) (bU _)) (Et (cj (Lb hr.units) (bD gq rfl T.j9 gw (aj (ak 3) au)) (ak 2) (bU _))))) (aP (kZ (c:=2) T.ni T.fW aQ (hr.mono (by decide)) T.bL rfl T.kO rfl Tk.wish (aj (gR (cs:=[4]) ⟨⟨T.aH,T.aV⟩,True.intro⟩ (ak 0)) au))) di)
  (aP (bO (ak 3)))))
theorem RP(T:Txt K mg t):bF P w K mg base (jm P w) 1 t.GQ t.G3 ["word","signs","most"] (spS K (cY t) zR 3):=by
 show bF P w K mg base (jm P w) (0+1) t.GQ t.G3 ["word","signs","most"] (spS K (cY t) (cR 3 t_) 3)
 refine nM (n:=3) (ar:=3) (k:=0) (b:=t_) T.GD aaf rfl rfl ?_
 intro cdv A outer s H E W hr
 exact(aP (bO (aae (Hl abJ aB (bD gq rfl T.j9 gw (aj (ak 0) au)) (bU _)) (aae (Hl abJ (bD gq rfl T.j9 gw (aj (ak 0) au)) (ak 2) (bU _)) (aac (bD (agQ rfl) rfl T.aes ahm (aj (J4 Tk.wish rfl rfl rfl ["signs"] [1] (ae9 (ak 0)) ⟨⟨rfl,rfl,by first | exact .inl rfl | exact .inr rfl⟩,True.intro⟩ (fun _ _ _ _ _ _=>Jt) (fun _ _ _ _ _ _=>(Hl ahs (ak 0) (ak 1) (by with_unfolding_all rfl))) (by decide +kernel) (by decide +kernel) (by decide +kernel) (by decide +kernel)) au)))))))
theorem PL(T:Txt K mg t):bF P w K mg base (jm P w) 2 t.uF t.uO ["word"] (spS K (cY t) xR 1):=by
 show bF P w K mg base (jm P w) (1+1) t.uF t.uO ["word"] (spS K (cY t) (cR 2 oY) 1)
 have QX:= @RP P w K mg base t T
 refine nM (n:=2) (ar:=1) (k:=1) (b:=oY) T.Af zG rfl rfl ?_
 intro cdv A outer s H E W hr
 exact(aF (bz (i:=1) zG.nd rfl (Or.inl rfl) (ak 0))
  (aF (fY (zB (rF PySem.F.plainAttrs_str PySem.F.slot_str_startswith PySem.F.type_str_startswith Nf (ak 0) (aj aW au))) (aP (bz (i:=1) zG.nd rfl (Or.inl rfl) (jD (ak 0) (cO aB) dg))) di)
  (aF (fY (Uo (zB (eO QX Tk.wish (hr.mono (by decide)) rfl T.Kz T.GD.kp T.t_ .nil (aj (ak 1) (aj (Wg rfl T.KJ) (aj (FW rfl T.Ba) au)))))) (aP (bO J5)) di)
  (aP (bO (ait (Hl (mR hr.units) (ak 0) aW (bU _)) (aac (afa (rF PySem.F.plainAttrs_str PySem.F.slot_str_startswith PySem.F.type_str_startswith Nf (ak 1) (aj aW au))))))))))
theorem ju(T:Txt K mg t):bF P w K mg base (jm P w) 3 t.ou t.oJ ["self","word"] (spS K (cY t) bI 2):=by
 show bF P w K mg base (jm P w) (2+1) t.ou t.oJ ["self","word"] (spS K (cY t) (cR 2 b8) 2)
 have T5:= @PL P w K mg base t T
 have aQ:= @bN P w K mg base t T
 refine nM (n:=2) (ar:=2) (k:=2) (b:=b8) T.Bg Jb rfl rfl ?_
 intro cdv A outer s H E W hr
 exact(aF (fY (Uo (zB (eO T5 Tk.wish (hr.mono (by decide)) rfl T.Gp T.Af.kp T.oY .nil (aj (ak 1) au)))) (aP (kZ (c:=2) T.ni T.fW aQ (hr.mono (by decide)) T.bL rfl T.kO rfl Tk.wish (aj (gR (cs:=[4]) ⟨⟨T.aH,T.aV⟩,True.intro⟩ (ak 0)) au))) di)
  (aP (bO (dj agP rfl T.aer ahl (aj (ak 1) au)))))
theorem jk(T:Txt K mg t):bF P w K mg base (jm P w) 4 t.g_ t.h_ ["self","word"] (spS K (cY t) bM 2):=by
 show bF P w K mg base (jm P w) (3+1) t.g_ t.h_ ["self","word"] (spS K (cY t) (cR 3 bu) 2)
 have cN:= @ju P w K mg base t T
 have aQ:= @bN P w K mg base t T
 refine nM (n:=3) (ar:=2) (k:=3) (b:=bu) T.sZ sU rfl rfl ?_
 intro cdv A outer s H E W hr
 exact(aF (bz (i:=2) sU.nd rfl (Or.inl rfl) (dh (kc:=4) (ak 0) T.aH T.fP cN Tk.wish (hr.mono (by decide)) T.b8 .nil (aj (ak 1) au)))
  (aF (fY (cj (Ld hr.units) (ak 2) aB (bU _)) (aP (kZ (c:=2) T.ni T.fW aQ (hr.mono (by decide)) T.bL rfl T.kO rfl Tk.wish (aj (gR (cs:=[4]) ⟨⟨T.aH,T.aV⟩,True.intro⟩ (ak 0)) au))) di)
  (aP (bO (ak 2)))))
theorem Ax(T:Txt K mg t):bF P w K mg base (jm P w) 5 t.oE t.oM ["self","word","bound"] (spS K (cY t) gY 3):=by
 show bF P w K mg base (jm P w) (4+1) t.oE t.oM ["self","word","bound"] (spS K (cY t) (cR 4 dD) 3)
 have cI:= @jk P w K mg base t T
 have aQ:= @bN P w K mg base t T
 refine nM (n:=4) (ar:=3) (k:=4) (b:=dD) T.Bj Av rfl rfl ?_
 intro cdv A outer s H E W hr
 exact(aF (bz (i:=3) Av.nd rfl (Or.inl rfl) (dh (kc:=4) (ak 0) T.aH T.d_ cI Tk.wish (hr.mono (by decide)) T.bu .nil (aj (ak 1) au)))
  (aF (fY (cj alS (ak 3) (ak 2) (bU _)) (aP (kZ (c:=2) T.ni T.fW aQ (hr.mono (by decide)) T.bL rfl T.kO rfl Tk.wish (aj (gR (cs:=[4]) ⟨⟨T.aH,T.aV⟩,True.intro⟩ (ak 0)) au))) di)
  (aP (bO (ak 3)))))
theorem Ku(T:Txt K mg t):bF P w K mg base (jm P w) 6 t.pX t.qg ["self","word"] (spS K (cY t) pM 2):=by
 show bF P w K mg base (jm P w) (5+1) t.pX t.qg ["self","word"] (spS K (cY t) (cR 2 iZ) 2)
 have sG:= @Ax P w K mg base t T
 refine nM (n:=2) (ar:=2) (k:=5) (b:=iZ) T.CT J9 rfl rfl ?_
 intro cdv A outer s H E W hr
 exact(aP (bO (dh (kc:=4) (ak 0) T.aH T.qx sG Tk.wish (hr.mono (by decide)) T.dD .nil (aj (ak 1) (aj (FW rfl T.Gq) au)))))
theorem mF(T:Txt K mg t):bF P w K mg base (jm P w) 1 t.oA t.oK ["self"] (spS K (cY t) gW 1):=by
 show bF P w K mg base (jm P w) (0+1) t.oA t.oK ["self"] (spS K (cY t) (cR 1 dB) 1)
 refine nM (n:=1) (ar:=1) (k:=0) (b:=dB) T.Bh Jc rfl rfl ?_
 intro cdv A outer s H E W hr
 exact(aP (vW (cs:=[4]) ⟨⟨T.aH,T.aV⟩,True.intro⟩ (ak 0) (aC aU (gR (cs:=[4]) ⟨⟨T.aH,T.aV⟩,True.intro⟩ (ak 0)) aB)))
theorem Pz(T:Txt K mg t):bF P w K mg base (jm P w) 7 t.uA t.uJ ["reader"] (spS K (cY t) jP 1):=by
 show bF P w K mg base (jm P w) (6+1) t.uA t.uJ ["reader"] (spS K (cY t) (cR 4 iW) 1)
 have cW:= @jc P w K mg base t T
 have Mm:= @Ku P w K mg base t T
 have cI:= @jk P w K mg base t T
 have fL:= @mF P w K mg base t T
 refine nM (n:=4) (ar:=1) (k:=6) (b:=iW) T.Ab rH rfl rfl ?_
 intro cdv A outer s H E W hr
 exact(aF (bz (i:=1) rH.nd rfl (Or.inl rfl) (dh (kc:=4) (ak 0) T.aH T.gj cW Tk.wish (hr.mono (by decide)) T.a_ .nil (aj aW (aj aB au))))
  (aF (bz (i:=2) rH.nd rfl (Or.inl rfl) aad)
  (aF (fY (cj (Lb hr.units) (bC hr.units (ak 1) aB) aW (bU _)) (aP (bz (i:=2) rH.nd rfl (Or.inl rfl) (dh (kc:=4) (ak 0) T.aH T.Cr Mm Tk.wish (hr.mono (by decide)) T.iZ .nil (aj (bC hr.units (ak 1) aB) au)))) di)
  (aF (bz (i:=3) rH.nd rfl (Or.inl rfl) (iz (aj (dh (kc:=4) (ak 0) T.aH T.d_ cI Tk.wish (hr.mono (by decide)) T.bu .nil (aj (bC hr.units (ak 1) aB) au)) (aj (ak 2) au))))
  (aF (kI (pK (kc:=4) (ak 0) T.aH T.jw fL Tk.wish (hr.mono (by decide)) T.dB .nil))
  (aP (bO (ak 3))))))))
theorem vf(T:Txt K mg t):bF P w K mg base (jm P w) 6 t.jg t.jh ["self","one","two"] (spS K (cY t) dz 3):=by
 show bF P w K mg base (jm P w) (5+1) t.jg t.jh ["self","one","two"] (spS K (cY t) (cR 4 bT) 3)
 have sG:= @Ax P w K mg base t T
 have aQ:= @bN P w K mg base t T
 refine nM (n:=4) (ar:=3) (k:=5) (b:=bT) T.vz vd rfl rfl ?_
 intro cdv A outer s H E W hr
 exact(aF (bz (i:=3) vd.nd rfl (Or.inl rfl) (iz (aj (dh (kc:=4) (ak 0) T.aH T.qx sG Tk.wish (hr.mono (by decide)) T.dD .nil (aj (ak 1) (aj (aC abH aB (FW rfl T.Gq)) au))) (aj (dh (kc:=4) (ak 0) T.aH T.qx sG Tk.wish (hr.mono (by decide)) T.dD .nil (aj (ak 2) (aj (aC abH aB (FW rfl T.Gq)) au))) au))))
  (aF (fY (cj (mR hr.units) (bC hr.units (ak 3) aB) aB (bU _)) (aP (kZ (c:=2) T.ni T.fW aQ (hr.mono (by decide)) T.bL rfl T.kO rfl Tk.wish (aj (gR (cs:=[4]) ⟨⟨T.aH,T.aV⟩,True.intro⟩ (ak 0)) au))) di)
  (aP (bO (ak 3)))))
theorem PB(T:Txt K mg t):bF P w K mg base (jm P w) 7 t.uC t.uL ["reader"] (spS K (cY t) fQ 1):=by
 show bF P w K mg base (jm P w) (6+1) t.uC t.uL ["reader"] (spS K (cY t) (cR 4 fV) 1)
 have cW:= @jc P w K mg base t T
 have cI:= @jk P w K mg base t T
 have qX:= @vf P w K mg base t T
 have fL:= @mF P w K mg base t T
 refine nM (n:=4) (ar:=1) (k:=6) (b:=fV) T.Ac vI rfl rfl ?_
 intro cdv A outer s H E W hr
 exact(aF (bz (i:=1) vI.nd rfl (Or.inl rfl) (dh (kc:=4) (ak 0) T.aH T.gj cW Tk.wish (hr.mono (by decide)) T.a_ .nil (aj aW (aj aB au))))
  (aF (bz (i:=2) vI.nd rfl (Or.inl rfl) (dh (kc:=4) (ak 0) T.aH T.d_ cI Tk.wish (hr.mono (by decide)) T.bu .nil (aj (bC hr.units (ak 1) aB) au)))
  (aF (bz (i:=3) vI.nd rfl (Or.inl rfl) (iz (aj (ak 2) (aj (dh (kc:=4) (ak 0) T.aH T.d_ cI Tk.wish (hr.mono (by decide)) T.bu .nil (aj (bC hr.units (ak 1) aB) au)) (aj (dh (kc:=4) (ak 0) T.aH T.pI qX Tk.wish (hr.mono (by decide)) T.bT .nil (aj (bC hr.units (ak 1) aB) (aj (bC hr.units (ak 1) aB) au))) au)))))
  (aF (kI (pK (kc:=4) (ak 0) T.aH T.jw fL Tk.wish (hr.mono (by decide)) T.dB .nil))
  (aP (bO (ak 3)))))))
theorem tK(T:Txt K mg t):bF P w K mg base (jm P w) 4 t.mK t.mQ ["self","word"] (spS K (cY t) eZ 2):=by
 show bF P w K mg base (jm P w) (3+1) t.mK t.mQ ["self","word"] (spS K (cY t) (cR 2 dH) 2)
 have o6:= @uU P w K mg base t T
 refine nM (n:=2) (ar:=2) (k:=3) (b:=dH) T.yP Ho rfl rfl ?_
 intro cdv A outer s H E W hr
 exact(aP (bO (Hl (mR hr.units) (bC hr.units (pK (kc:=4) (ak 0) T.aH T.qw o6 Tk.wish (hr.mono (by decide)) T.eN .nil) aB) (ak 1) (bU _))))
theorem U3(T:Txt K mg t):bF P w K mg base (jm P w) 2 t.yQ t.yS ["word"] (spS K (cY t) Dp 1):=by
 show bF P w K mg base (jm P w) (1+1) t.yQ t.yS ["word"] (spS K (cY t) (cR 1 tV) 1)
 have QX:= @RP P w K mg base t T
 refine nM (n:=1) (ar:=1) (k:=1) (b:=tV) T.Fb Us rfl rfl ?_
 intro cdv A outer s H E W hr
 exact(aP (bO (eO QX Tk.wish (hr.mono (by decide)) rfl T.Kz T.GD.kp T.t_ .nil (aj (ak 0) (aj (Wg rfl T.KH) (aj (FW rfl T.A_) au))))))
theorem Ci(T:Txt K mg t):bF P w K mg base (jm P w) 3 t.pU t.qb ["self","word"] (spS K (cY t) mY 2):=by
 show bF P w K mg base (jm P w) (2+1) t.pU t.qb ["self","word"] (spS K (cY t) (cR 2 gO) 2)
 have Zd:= @U3 P w K mg base t T
 have aQ:= @bN P w K mg base t T
 refine nM (n:=2) (ar:=2) (k:=2) (b:=gO) T.CP J7 rfl rfl ?_
 intro cdv A outer s H E W hr
 exact(aF (fY (Uo (zB (eO Zd Tk.wish (hr.mono (by decide)) rfl T.KC T.Fb.kp T.tV .nil (aj (ak 1) au)))) (aP (kZ (c:=2) T.ni T.fW aQ (hr.mono (by decide)) T.bL rfl T.kO rfl Tk.wish (aj (gR (cs:=[4]) ⟨⟨T.aH,T.aV⟩,True.intro⟩ (ak 0)) au))) di)
  (aP (bO (ak 1))))
theorem Kp(T:Txt K mg t):bF P w K mg base (jm P w) 5 t.pP t.pY ["reader"] (spS K (cY t) j5 1):=by
 show bF P w K mg base (jm P w) (4+1) t.pP t.pY ["reader"] (spS K (cY t) (cR 4 iV) 1)
 have mW:= @tK P w K mg base t T
 have cW:= @jc P w K mg base t T
 have yt:= @Ci P w K mg base t T
 have cN:= @ju P w K mg base t T
 have aQ:= @bN P w K mg base t T
 have fL:= @mF P w K mg base t T
 refine nM (n:=4) (ar:=1) (k:=4) (b:=iV) T.wG rG rfl rfl ?_
 intro cdv A outer s H E W hr
 exact(aF (bz (i:=1) rG.nd rfl (Or.inl rfl) (gQ au))
  (aF (JT (ug rfl rfl) (zB (dh (kc:=4) (ak 0) T.aH T.pA mW Tk.wish (hr.mono (by decide)) T.dH .nil (aj aW au))) (aF (bz (i:=2) rG.nd rfl (Or.inl rfl) (dh (kc:=4) (ak 0) T.aH T.gj cW Tk.wish (hr.mono (by decide)) T.a_ .nil (aj aW (aj aB au))))
  (aF (bz (i:=3) rG.nd rfl (Or.inl rfl) (iz (aj (dh (kc:=4) (ak 0) T.aH T.wA yt Tk.wish (hr.mono (by decide)) T.gO .nil (aj (bC hr.units (ak 2) aB) au)) (aj (dh (kc:=4) (ak 0) T.aH T.fP cN Tk.wish (hr.mono (by decide)) T.b8 .nil (aj (bC hr.units (ak 2) aB) au)) au))))
  (aF (fY (SW.pt (JQ (cj (mR hr.units) (bC hr.units (ak 3) aB) aB (bU _)) (Et (SW.pt (OJ (cj Xr (bD gq rfl T.j9 gw (aj (ak 1) au)) aB (bU _)) (Js (cj (abI hr.units) (bC hr.units (ak 3) aB) (bC hr.units (bC hr.units (ak 1) (J3 Es aB)) aB) (bU _)))))))) (aP (kZ (c:=2) T.ni T.fW aQ (hr.mono (by decide)) T.bL rfl T.kO rfl Tk.wish (aj (gR (cs:=[4]) ⟨⟨T.aH,T.aV⟩,True.intro⟩ (ak 0)) au))) di)
  (aF (kI (rF PySem.F.plainAttrs_list PySem.F.slot_list_append PySem.F.type_list_append rm (ak 1) (aj (ak 3) au)))
  (aP (kI (pK (kc:=4) (ak 0) T.aH T.jw fL Tk.wish (hr.mono (by decide)) T.dB .nil))))))))
  (aP (bO (dj G4 rfl T.Gs G6 (aj (ak 1) au))))))
theorem Ji(T:Txt K mg t):bF P w K mg base (jm P w) 5 t.n_ t.oG ["reader"] (spS K (cY t) je 1):=by
 show bF P w K mg base (jm P w) (4+1) t.n_ t.oG ["reader"] (spS K (cY t) (cR 4 ir) 1)
 have mW:= @tK P w K mg base t T
 have cW:= @jc P w K mg base t T
 have cN:= @ju P w K mg base t T
 have aQ:= @bN P w K mg base t T
 have fL:= @mF P w K mg base t T
 refine nM (n:=4) (ar:=1) (k:=4) (b:=ir) T.uY qt rfl rfl ?_
 intro cdv A outer s H E W hr
 exact(aF (bz (i:=1) qt.nd rfl (Or.inl rfl) (gQ au))
  (aF (JT (ug rfl rfl) (zB (dh (kc:=4) (ak 0) T.aH T.pA mW Tk.wish (hr.mono (by decide)) T.dH .nil (aj aW au))) (aF (bz (i:=2) qt.nd rfl (Or.inl rfl) (dh (kc:=4) (ak 0) T.aH T.gj cW Tk.wish (hr.mono (by decide)) T.a_ .nil (aj aW (aj aB au))))
  (aF (bz (i:=3) qt.nd rfl (Or.inl rfl) (dj G4 rfl T.Gs G6 (aj (J4 Tk.wish rfl rfl rfl ["reader"] [0] (O4 (jD (ak 2) (cO aB) dg)) ⟨⟨rfl,rfl,by first | exact .inl rfl | exact .inr rfl⟩,True.intro⟩ (fun _ _ _ _ _ _=>Jt) (fun _ _ _ _ _ _=>(dh (kc:=4) (ak 1) T.aH T.fP cN Tk.wish (hr.mono (by decide)) T.b8 .nil (aj (ak 0) au))) (by decide +kernel) (by decide +kernel) (by decide +kernel) (by decide +kernel)) au)))
  (aF (fY (SW.pt (OJ (cj Xr (bD gq rfl T.j9 gw (aj (ak 1) au)) aB (bU _)) (Js (cj (abI hr.units) (jD (ak 3) dg (cO aB)) (jD (bC hr.units (ak 1) (J3 Es aB)) dg (cO aB)) (bU _))))) (aP (kZ (c:=2) T.ni T.fW aQ (hr.mono (by decide)) T.bL rfl T.kO rfl Tk.wish (aj (gR (cs:=[4]) ⟨⟨T.aH,T.aV⟩,True.intro⟩ (ak 0)) au))) di)
  (aF (kI (rF PySem.F.plainAttrs_list PySem.F.slot_list_append PySem.F.type_list_append rm (ak 1) (aj (ak 3) au)))
  (aP (kI (pK (kc:=4) (ak 0) T.aH T.jw fL Tk.wish (hr.mono (by decide)) T.dB .nil))))))))
  (aP (bO (dj G4 rfl T.Gs G6 (aj (ak 1) au))))))
theorem Ih(T:Txt K mg t):bF P w K mg base (jm P w) 1 t.wN t.wZ ["self","base","base_term","base_roll","entries"] (spS K (cY t) qN 5):=by
 show bF P w K mg base (jm P w) (0+1) t.wN t.wZ ["self","base","base_term","base_roll","entries"] (spS K (cY t) (cR 5 oZ) 5)
 refine nM (n:=5) (ar:=5) (k:=0) (b:=oZ) T.Iv Rv rfl rfl ?_
 intro cdv A outer s H E W hr
 exact(aF (vW (cs:=[5]) ⟨⟨T.xj,T.nR⟩,True.intro⟩ (ak 0) (ak 1))
  (aF (vW (cs:=[5]) ⟨⟨T.xj,T.gf⟩,True.intro⟩ (ak 0) (ak 2))
  (aF (vW (cs:=[5]) ⟨⟨T.xj,T.gh⟩,True.intro⟩ (ak 0) (ak 3))
  (aP (vW (cs:=[5,6]) ⟨⟨T.xj,T.lD⟩,⟨⟨T.xX,T.jO⟩,True.intro⟩⟩ (ak 0) (dj adL rfl T.aa1 adT (aj (ak 4) au)))))))
theorem LQ(T:Txt K mg t):bF P w K mg base (jm P w) 4 t.rY t.su ["reader","words"] (spS K (cY t) lY 2):=by
 show bF P w K mg base (jm P w) (3+1) t.rY t.su ["reader","words"] (spS K (cY t) (cR 3 gM) 2)
 have aQ:= @bN P w K mg base t T
 have cN:= @ju P w K mg base t T
 have yt:= @Ci P w K mg base t T
 refine nM (n:=3) (ar:=2) (k:=3) (b:=gM) T.yq DQ rfl rfl ?_
 intro cdv A outer s H E W hr
 exact(aF (fY (cj (Lb hr.units) (acn [("put",3),("add",3),("swap",4)] rfl T.Cq T.BX (bC hr.units (ak 1) aB)) (bD gq rfl T.j9 gw (aj (ak 1) au)) (bU _)) (aP (kZ (c:=2) T.ni T.fW aQ (hr.mono (by decide)) T.bL rfl T.kO rfl Tk.wish (aj (gR (cs:=[4]) ⟨⟨T.aH,T.aV⟩,True.intro⟩ (ak 0)) au))) di)
  (aF (Z7 (k:=2) Tk.wish rfl rfl rfl ["reader"] [0] DQ.nd rfl rfl (O4 (jD (ak 1) (cO aB) dg)) ⟨⟨rfl,rfl,by first | exact .inl rfl | exact .inr rfl⟩,True.intro⟩ (fun _ _ _ _ _ _=>Jt) (fun _ _ _ _ _ _=>(dh (kc:=4) (ak 1) T.aH T.fP cN Tk.wish (hr.mono (by decide)) T.b8 .nil (aj (ak 0) au))) (by decide +kernel) (by decide +kernel) (by decide +kernel) (by decide +kernel))
  (aP (bO (aC aU (iz (aj (bC hr.units (ak 1) aB) (aj (dh (kc:=4) (ak 0) T.aH T.wA yt Tk.wish (hr.mono (by decide)) T.gO .nil (aj (bC hr.units (ak 1) aB) au)) au))) (dj G4 rfl T.Gs G6 (aj (ak 2) au)))))))
theorem Py(T:Txt K mg t):bF P w K mg base (jm P w) 7 t.uz t.uI ["reader","words"] (spS K (cY t) fc 2):=by
 show bF P w K mg base (jm P w) (6+1) t.uz t.uI ["reader","words"] (spS K (cY t) (cR 2 fU) 2)
 have qX:= @vf P w K mg base t T
 have cN:= @ju P w K mg base t T
 have QW:= @LQ P w K mg base t T
 have aQ:= @bN P w K mg base t T
 refine nM (n:=2) (ar:=2) (k:=6) (b:=fU) T.Aa O6 rfl rfl ?_
 intro cdv A outer s H E W hr
 exact(aF (fY (cj (mR hr.units) (ak 1) (gQ (aj aW au)) (bU _)) (aP (bO (iz (aj aW au)))) di)
  (aF (fY (SW.pt (OJ (cj (mR hr.units) (bD gq rfl T.j9 gw (aj (ak 1) au)) aB (bU _)) (Js (cj (mR hr.units) (bC hr.units (ak 1) aB) aW (bU _))))) (aP (bO (aC aU (iz (aj aW au)) (dh (kc:=4) (ak 0) T.aH T.pI qX Tk.wish (hr.mono (by decide)) T.bT .nil (aj (bC hr.units (ak 1) aB) (aj (bC hr.units (ak 1) aB) au)))))) di)
  (aF (fY (SW.pt (OJ (cj Xr (bD gq rfl T.j9 gw (aj (ak 1) au)) aB (bU _)) (Js (cj (mR hr.units) (bC hr.units (ak 1) aB) aW (bU _))))) (aP (bO (iz (aj aW (aj (dh (kc:=4) (ak 0) T.aH T.fP cN Tk.wish (hr.mono (by decide)) T.b8 .nil (aj (bC hr.units (ak 1) aB) au)) (aj (dh (kc:=4) (ak 0) T.aH T.fP cN Tk.wish (hr.mono (by decide)) T.b8 .nil (aj (bC hr.units (ak 1) aB) au)) (aj (eO QW Tk.wish (hr.mono (by decide)) rfl T.DX T.yq.kp T.gM .nil (aj (ak 0) (aj (jD (ak 1) (cO aB) dg) au))) au))))))) di)
  (aP (kZ (c:=2) T.ni T.fW aQ (hr.mono (by decide)) T.bL rfl T.kO rfl Tk.wish (aj (gR (cs:=[4]) ⟨⟨T.aH,T.aV⟩,True.intro⟩ (ak 0)) au))))))
theorem Jh(T:Txt K mg t):bF P w K mg base (jm P w) 8 t.nZ t.oF ["reader"] (spS K (cY t) jd 1):=by
 show bF P w K mg base (jm P w) (7+1) t.nZ t.oF ["reader"] (spS K (cY t) (cR 4 ig) 1)
 have mW:= @tK P w K mg base t T
 have o6:= @uU P w K mg base t T
 have TV:= @Py P w K mg base t T
 have cI:= @jk P w K mg base t T
 have fL:= @mF P w K mg base t T
 refine nM (n:=4) (ar:=1) (k:=7) (b:=ig) T.uX qp rfl rfl ?_
 intro cdv A outer s H E W hr
 exact(aF (bz (i:=1) qp.nd rfl (Or.inl rfl) (gQ au))
  (aF (JT (ug rfl rfl) (zB (dh (kc:=4) (ak 0) T.aH T.pA mW Tk.wish (hr.mono (by decide)) T.dH .nil (aj aW au))) (aF (bz (i:=2) qp.nd rfl (Or.inl rfl) (pK (kc:=4) (ak 0) T.aH T.qw o6 Tk.wish (hr.mono (by decide)) T.eN .nil))
  (aF (bz (i:=3) qp.nd rfl (Or.inl rfl) (eO TV Tk.wish (hr.mono (by decide)) rfl T.Gi T.Aa.kp T.fU .nil (aj (ak 0) (aj (jD (ak 2) (cO aB) dg) au))))
  (aF (kI (rF PySem.F.plainAttrs_list PySem.F.slot_list_append PySem.F.type_list_append rm (ak 1) (aj (iz (aj (dh (kc:=4) (ak 0) T.aH T.d_ cI Tk.wish (hr.mono (by decide)) T.bu .nil (aj (bC hr.units (ak 2) aB) au)) (aj (ak 3) au))) au)))
  (aP (kI (pK (kc:=4) (ak 0) T.aH T.jw fL Tk.wish (hr.mono (by decide)) T.dB .nil)))))))
  (aP (bO (ak 1)))))
theorem Hx(T:Txt K mg t):bF P w K mg base (jm P w) 5 t.mJ t.mO ["self"] (spS K (cY t) dG 1):=by
 show bF P w K mg base (jm P w) (4+1) t.mJ t.mO ["self"] (spS K (cY t) (cR 2 cM) 1)
 have cW:= @jc P w K mg base t T
 have cN:= @ju P w K mg base t T
 have aQ:= @bN P w K mg base t T
 refine nM (n:=2) (ar:=1) (k:=4) (b:=cM) T.yO yC rfl rfl ?_
 intro cdv A outer s H E W hr
 exact(aF (bz (i:=1) yC.nd rfl (Or.inl rfl) (dh (kc:=4) (ak 0) T.aH T.gj cW Tk.wish (hr.mono (by decide)) T.a_ .nil (aj aW (aj aB au))))
  (aF (fY (cj (Lb hr.units) (dh (kc:=4) (ak 0) T.aH T.fP cN Tk.wish (hr.mono (by decide)) T.b8 .nil (aj (bC hr.units (ak 1) aB) au)) (aC C_ (gR (cs:=[4]) ⟨⟨T.aH,T.aV⟩,True.intro⟩ (ak 0)) aB) (bU _)) (aP (kZ (c:=2) T.ni T.fW aQ (hr.mono (by decide)) T.bL rfl T.kO rfl Tk.wish (aj (gR (cs:=[4]) ⟨⟨T.aH,T.aV⟩,True.intro⟩ (ak 0)) au))) di)
  (aP (fY (cj (Ld hr.units) (gR (cs:=[4]) ⟨⟨T.aH,T.aV⟩,True.intro⟩ (ak 0)) (bD gq rfl T.j9 gw (aj (gR (cs:=[4]) ⟨⟨T.aH,T.fJ⟩,True.intro⟩ (ak 0)) au)) (bU _)) (aP (kZ (c:=2) T.ni T.fW aQ (hr.mono (by decide)) T.bL rfl T.kO rfl Tk.wish (aj (aC aU (gR (cs:=[4]) ⟨⟨T.aH,T.aV⟩,True.intro⟩ (ak 0)) aB) au))) di))))
theorem RQ(T:Txt K mg t):bF P w K mg base (jm P w) 3 t.wM t.wY ["self"] (spS K (cY t) zU 1):=by
 show bF P w K mg base (jm P w) (2+1) t.wM t.wY ["self"] (spS K (cY t) (cR 1 qU) 1)
 have Fo:= @Ih P w K mg base t T
 refine nM (n:=1) (ar:=1) (k:=2) (b:=qU) T.Iu Ru rfl rfl ?_
 intro cdv A outer s H E W hr
 exact(aP (bO (Jv (kc:=5) T.Ez Fo Tk.wish (hr.mono (by decide)) rfl T.U7 T.oZ .nil (aj (gR (cs:=[5]) ⟨⟨T.xj,T.nR⟩,True.intro⟩ (ak 0)) (aj (gR (cs:=[5]) ⟨⟨T.xj,T.gf⟩,True.intro⟩ (ak 0)) (aj (gR (cs:=[5]) ⟨⟨T.xj,T.gh⟩,True.intro⟩ (ak 0)) (aj (gR (cs:=[5,6]) ⟨⟨T.xj,T.lD⟩,⟨⟨T.xX,T.jO⟩,True.intro⟩⟩ (ak 0)) au)))))))
theorem PN(T:Txt K mg t):bF P w K mg base (jm P w) 4 t.uG t.uP ["self","term","vote","row","kept"] (spS K (cY t) uo 5):=by
 show bF P w K mg base (jm P w) (3+1) t.uG t.uP ["self","term","vote","row","kept"] (spS K (cY t) (cR 5 o4) 5)
 have V1:= @RQ P w K mg base t T
 refine nM (n:=5) (ar:=5) (k:=3) (b:=o4) T.GF O8 rfl rfl ?_
 intro cdv A outer s H E W hr
 exact(aF (vW (cs:=[6]) ⟨⟨T.xX,T.lX⟩,True.intro⟩ (ak 0) (ak 1))
  (aF (vW (cs:=[6]) ⟨⟨T.xX,T.pq⟩,True.intro⟩ (ak 0) (ak 2))
  (aF (vW (cs:=[6]) ⟨⟨T.xX,T.q_⟩,True.intro⟩ (ak 0) (pK (kc:=5) (ak 3) T.xj T.Im V1 Tk.wish (hr.mono (by decide)) T.qU .nil))
  (aP (vW (cs:=[5,6]) ⟨⟨T.xj,T.lD⟩,⟨⟨T.xX,T.jO⟩,True.intro⟩⟩ (ak 0) (ak 4))))))
theorem Gh(T:Txt K mg t):bF P w K mg base (jm P w) 9 t.uB t.uK ["text"] (spS K (cY t) lE 1):=by
 show bF P w K mg base (jm P w) (8+1) t.uB t.uK ["text"] (spS K (cY t) (cR 7 jY) 1)
 have Ml:= @Ks P w K mg base t T
 have TX:= @Pz P w K mg base t T
 have TY:= @PB P w K mg base t T
 have Mi:= @Kp P w K mg base t T
 have Ln:= @Ji P w K mg base t T
 have Fo:= @Ih P w K mg base t T
 have Lk:= @Jh P w K mg base t T
 have Jp:= @Hx P w K mg base t T
 have T6:= @PN P w K mg base t T
 refine nM (n:=7) (ar:=1) (k:=8) (b:=jY) T.rT lN rfl rfl ?_
 intro cdv A outer s H E W hr
 exact(aF (bz (i:=1) lN.nd rfl (Or.inl rfl) (Jv (kc:=4) T.vQ Ml Tk.wish (hr.mono (by decide)) rfl T.Ng T.j8 .nil (aj (ak 0) au)))
  (aF (bz (i:=2) lN.nd rfl (Or.inl rfl) (eO TX Tk.wish (hr.mono (by decide)) rfl T.Gj T.Ab.kp T.iW .nil (aj (ak 1) au)))
  (aF (bz (i:=3) lN.nd rfl (Or.inl rfl) (eO TY Tk.wish (hr.mono (by decide)) rfl T.Gk T.Ac.kp T.fV .nil (aj (ak 1) au)))
  (aF (bz (i:=4) lN.nd rfl (Or.inl rfl) (eO Mi Tk.wish (hr.mono (by decide)) rfl T.Cm T.wG.kp T.iV .nil (aj (ak 1) au)))
  (aF (bz (i:=5) lN.nd rfl (Or.inl rfl) (eO Ln Tk.wish (hr.mono (by decide)) rfl T.Az T.uY.kp T.ir .nil (aj (ak 1) au)))
  (aF (bz (i:=6) lN.nd rfl (Or.inl rfl) (Jv (kc:=5) T.Ez Fo Tk.wish (hr.mono (by decide)) rfl T.U7 T.oZ .nil (aj (bC hr.units (ak 3) aB) (aj (bC hr.units (ak 3) aB) (aj (bC hr.units (ak 3) aB) (aj (eO Lk Tk.wish (hr.mono (by decide)) rfl T.Ay T.uX.kp T.ig .nil (aj (ak 1) au)) au))))))
  (aF (kI (pK (kc:=4) (ak 1) T.aH T.yH Jp Tk.wish (hr.mono (by decide)) T.cM .nil))
  (aP (bO (Jv (kc:=6) T.Dn T6 Tk.wish (hr.mono (by decide)) rfl T.WR T.o4 .nil (aj (bC hr.units (ak 2) aB) (aj (bC hr.units (ak 2) aB) (aj (ak 6) (aj (iz (aj (ak 4) (aj (ak 5) au))) au))))))))))))))
theorem RN(T:Txt K mg t):bF P w K mg base (jm P w) 1 t.wL t.wX ["_law_rows_here","_law_at"] (spS K (cY t) wC 2):=by
 show bF P w K mg base (jm P w) (0+1) t.wL t.wX ["_law_rows_here","_law_at"] (spS K (cY t) (cR 2 oW) 2)
 refine nM (n:=2) (ar:=2) (k:=0) (b:=oW) T.CN Rt rfl rfl ?_
 intro cdv A outer s H E W hr
 exact(aF (fY (SW.pt (JQ (cj (Ld hr.units) (ak 1) aB (bU _)) (Et (cj (mR hr.units) (ak 1) (aC C_ (bD gq rfl T.j9 gw (aj (ak 0) au)) aB) (bU _))))) (aP (bO (iz (aj (aC aU (jD (ak 0) dg (cO (ak 1))) (jD (ak 0) (cO (aC aU (ak 1) aB)) dg)) (aj (aC aU (ak 1) aB) au))))) di)
  (aP (bO (iz (aj (aC aU (jD (ak 0) dg (cO (ak 1))) (jD (ak 0) (cO (aC aU (ak 1) aB)) dg)) (aj (aC C_ (bD gq rfl T.j9 gw (aj (ak 0) au)) aB) au))))))
theorem PJ(T:Txt K mg t):bF P w K mg base (jm P w) 1 t.uD t.uM ["_law_rows_here","_law_at"] (spS K (cY t) um 2):=by
 show bF P w K mg base (jm P w) (0+1) t.uD t.uM ["_law_rows_here","_law_at"] (spS K (cY t) (cR 2 lF) 2)
 refine nM (n:=2) (ar:=2) (k:=0) (b:=lF) T.Ad O7 rfl rfl ?_
 intro cdv A outer s H E W hr
 exact(@aF _ _ _ _ _ _ _ (@fY _ _ _ _ _ _ _ _ _ _ (@cj _ _ _ _ _ _ _ _ _ _ (alR hr.units) (jD (bC hr.units (ak 0) (ak 1)) dg (cO aB)) (@iz _ _ _ _ _ _ _ (@Ca _ _ _ _ _ _ _ aW (@Ca _ _ _ _ _ _ _ aW (@Ca _ _ _ _ _ _ _ aW (@Ca _ _ _ _ _ _ _ aW (@Ca _ _ _ _ _ _ _ aW au rfl) rfl) rfl) rfl) rfl)) (by with_unfolding_all rfl)) (aP (bO (iz (aj (aC aU (jD (ak 0) dg (cO (aC aU (ak 1) aB))) (jD (ak 0) (cO (ak 1)) dg)) (aj (aC aU (ak 1) aB) au))))) di) (aP (bO (iz (aj (aC aU (jD (ak 0) dg (cO (aC aU (ak 1) aB))) (jD (ak 0) (cO (ak 1)) dg)) (aj (aC aU (bD gq rfl T.j9 gw (aj (ak 0) au)) aB) au))))))
theorem Hw(T:Txt K mg t):bF P w K mg base (jm P w) 1 t.mH t.mL ["_law_rows_here","_law_at"] (spS K (cY t) mG 2):=by
 show bF P w K mg base (jm P w) (0+1) t.mH t.mL ["_law_rows_here","_law_at"] (spS K (cY t) (cR 3 iC) 2)
 refine nM (n:=3) (ar:=2) (k:=0) (b:=iC) T.tR tH rfl rfl ?_
 intro cdv A outer s H E W hr
 exact(aF (bz (i:=1) tH.nd rfl (Or.inl rfl) (bD (adK rfl) rfl T.aeq ahk (aj (ak 1) (aj (aC C_ (bD gq rfl T.j9 gw (aj (ak 0) au)) aB) au))))
  (aF (bz (i:=2) tH.nd rfl (Or.inl rfl) (aC aU (aC aU (jD (ak 0) dg (cO (ak 1))) (gQ (aj (bC hr.units (ak 0) (aC aU (ak 1) aB)) (aj (bC hr.units (ak 0) (ak 1)) au)))) (jD (ak 0) (cO (aC aU (ak 1) aB)) dg)))
  (aF (fY (SW.pt (JQ (cj (Ld hr.units) (ak 1) aB (bU _)) (Et (cj (mR hr.units) (jD (bC hr.units (ak 0) (aC aU (ak 1) aB)) dg (cO aB)) aW (bU _))))) (aP (bO (iz (aj (ak 2) (aj (aC aU (ak 1) aB) au))))) di)
  (aF (fY (cj (mR hr.units) (jD (bC hr.units (ak 0) (ak 1)) dg (cO aB)) aW (bU _)) (aP (bO (iz (aj (aC aU (ak 0) (gQ (aj aW au))) (aj (aC aU (bD gq rfl T.j9 gw (aj (ak 0) au)) aB) au))))) di)
  (aP (bO (iz (aj (ak 2) (aj (aC aU (ak 1) aB) au)))))))))
theorem Kq(T:Txt K mg t):bF P w K mg base (jm P w) 2 t.pQ t.pZ ["_law_rows_here","_law_at","_law_way","_law_number"] (spS K (cY t) aY 4):=by
 show bF P w K mg base (jm P w) (1+1) t.pQ t.pZ ["_law_rows_here","_law_at","_law_way","_law_number"] (spS K (cY t) (cR 5 bV) 4)
 have V0:= @RN P w K mg base t T
 have T3:= @PJ P w K mg base t T
 have Jo:= @Hw P w K mg base t T
 refine nM (n:=5) (ar:=4) (k:=1) (b:=bV) T.wH k_ rfl rfl ?_
 intro cdv A outer s H E W hr
 exact(aF (bz (i:=4) k_.nd rfl (Or.inl rfl) (bC hr.units (ak 0) (ak 1)))
  (aF (fY (cj (mR hr.units) (ak 2) aB (bU _)) (aP (bz (i:=4) k_.nd rfl (Or.inl rfl) (aC aU (ak 4) (bC hr.units (gQ (aj aW (aj aW (aj aW (aj aW au))))) (aC dX (ak 3) aB))))) di)
  (aF (fY (cj (mR hr.units) (ak 2) aB (bU _)) (aP (bz (i:=4) k_.nd rfl (Or.inl rfl) (rF PySem.F.plainAttrs_str PySem.F.slot_str_join PySem.F.type_str_join Jz aW (aj (jD (rF PySem.F.plainAttrs_str PySem.F.slot_str_split PySem.F.type_str_split Ky (ak 4) (aj aW au)) dg (cO (J3 Es aB))) au)))) di)
  (aF (fY (cj (mR hr.units) (ak 2) aB (bU _)) (aP (bO (eO V0 Tk.wish (hr.mono (by decide)) rfl T.Ik T.CN.kp T.oW .nil (aj (ak 0) (aj (ak 1) au))))) di)
  (aF (fY (cj (mR hr.units) (ak 2) aB (bU _)) (aP (bO (eO T3 Tk.wish (hr.mono (by decide)) rfl T.Gm T.Ad.kp T.lF .nil (aj (ak 0) (aj (ak 1) au))))) di)
  (aF (fY (cj (mR hr.units) (ak 2) aB (bU _)) (aP (bO (iz (aj (aC aU (aC aU (jD (ak 0) dg (cO (ak 1))) (gQ (aj (bC hr.units (gQ (aj aW (aj aW au))) (aC dX (ak 3) aB)) au))) (jD (ak 0) (cO (ak 1)) dg)) (aj (aC aU (ak 1) aB) au))))) di)
  (aF (fY (cj (mR hr.units) (ak 2) aB (bU _)) (aP (bz (i:=4) k_.nd rfl (Or.inl rfl) (aC aU (aC aU (bC hr.units (gQ (aj aW (aj aW (aj aW (aj aW au))))) (aC dX (ak 3) aB)) (bC hr.units (rF PySem.F.plainAttrs_str PySem.F.slot_str_partition PySem.F.type_str_partition WN (ak 4) (aj aW au)) aB)) (bC hr.units (rF PySem.F.plainAttrs_str PySem.F.slot_str_partition PySem.F.type_str_partition WN (ak 4) (aj aW au)) aB)))) di)
  (aF (Z6 2 4 k_.nd)
  (aF (fY (cj (mR hr.units) (ak 2) aB (bU _)) (aP (bO (iz (aj (aC aU (jD (ak 0) dg (cO (J3 Es aB))) (gQ (aj (aC aU aW (dj oN rfl T.sV oO (aj (bC hr.units (gQ (aj (bD gq rfl T.j9 gw (aj (ak 0) au)) (aj (aC C_ (bD gq rfl T.j9 gw (aj (ak 0) au)) aB) (aj (aC aU (aC C_ aB (bD gq rfl T.j9 gw (aj (ak 0) au))) aB) au)))) (aC dX (ak 3) aB)) au))) au))) (aj (bD gq rfl T.j9 gw (aj (ak 0) au)) au))))) di)
  (aF (fY (cj (mR hr.units) (ak 2) aB (bU _)) (aP (bO (iz (aj (aC aU (ak 0) (gQ (aj (bC hr.units (gQ (aj aW (aj (aC aU aW (dj oN rfl T.sV oO (aj (bD gq rfl T.j9 gw (aj (ak 0) au)) au))) (aj aW au)))) (aC dX (ak 3) aB)) au))) (aj (aC aU (bD gq rfl T.j9 gw (aj (ak 0) au)) aB) au))))) di)
  (aF (fY (SW.pt (JQ (cj (mR hr.units) (ak 2) aB (bU _)) (Et (cj (mR hr.units) (ak 2) aB (bU _))))) (aP (bO (eO Jo Tk.wish (hr.mono (by decide)) rfl T.yG T.tR.kp T.iC .nil (aj (ak 0) (aj (ak 1) au))))) di)
  (aP (bO (iz (aj (aC aU (aC aU (jD (ak 0) dg (cO (ak 1))) (gQ (aj (ak 4) au))) (jD (ak 0) (cO (aC aU (ak 1) aB)) dg)) (aj (aC aU (ak 1) aB) au))))))))))))))))
theorem RL(T:Txt K mg t):bF P w K mg base (jm P w) 10 t.wJ t.wV ["_law_text","_law_by_any"] (spS K (cY t) wB 2):=by
 show bF P w K mg base (jm P w) (9+1) t.wJ t.wV ["_law_text","_law_by_any"] (spS K (cY t) (cR 4 oV) 2)
 have xZ:= @Gh P w K mg base t T
 refine nM (n:=4) (ar:=2) (k:=9) (b:=oV) T.CJ qZ rfl rfl ?_
 intro cdv A outer s H E W hr
 exact(aF (bz (i:=2) qZ.nd rfl (Or.inl rfl) aad)
  (aF (fY (zB (ak 1)) (aP (Rp (i:=3) (cl:=[(0,true),(1,true),(2,true),(3,true)]) (v:= .ref t.bw) (cv:= .ref t.bw) rfl rfl Tk.wish (fun _ z=>z) (fun _=>Dm (v:= .ref t.bw) rfl T.zO rfl) ⟨T.rC,⟨T.ud,⟨T.xx,⟨T.sS,True.intro⟩⟩⟩⟩ qZ.nd rfl rfl rfl (fun _ _=>(aP (kI (eO xZ Tk.wish (hr.mono (by decide)) rfl T.vL T.rT.kp T.jY .nil (aj (ak 0) au))))) (fun _=>(aP (bz (i:=2) qZ.nd rfl (Or.inl rfl) (iz (aj (aaa (cs:=[0,1,2,3]) ⟨⟨T.iI,T.iH⟩,⟨⟨T.lH,T.lG⟩,⟨⟨T.fW,T.vB⟩,⟨⟨T.jz,T.jx⟩,True.intro⟩⟩⟩⟩ (ak 3)) (aj (bD (QB (k:=2) (cl:=[(0,false),(1,false),(2,true),(3,false)]) ⟨⟨T.xU,T.iI,T.iH⟩,⟨⟨T.Bc,T.lH,T.lG⟩,⟨⟨T.Gy,T.fW,T.vB⟩,⟨⟨T.yK,T.jz,T.jx⟩,True.intro⟩⟩⟩⟩) rfl T.jQ j7 (aj (ak 3) (aj (O5 (k:=2) rfl T.kO) au))) (aj (bD (Xo (n:= "ValueError") (cl:=[(0,true),(1,true),(2,true),(3,true)]) ⟨⟨T.lq,T.iI,T.iH⟩,⟨⟨T.m8,T.lH,T.lG⟩,⟨⟨T.qO,T.fW,T.vB⟩,⟨⟨T.lZ,T.jz,T.jx⟩,True.intro⟩⟩⟩⟩) rfl T.jQ j7 (aj (ak 3) (aj (aab rfl T.zT Ec) au))) (aj (bD (QB (k:=1) (cl:=[(0,false),(1,true),(2,false),(3,false)]) ⟨⟨T.uw,T.iI,T.iH⟩,⟨⟨T.wF,T.lH,T.lG⟩,⟨⟨T.Bb,T.fW,T.vB⟩,⟨⟨T.vm,T.jz,T.jx⟩,True.intro⟩⟩⟩⟩) rfl T.jQ j7 (aj (ak 3) (aj (O5 (k:=1) rfl T.KD) au))) au)))))))))) (aP (Rp (i:=3) (cl:=[(0,false),(1,false),(2,true),(3,false)]) (v:= .ref t.ie) (cv:= .ref t.ie) rfl rfl Tk.wish (fun _ z=>z) (fun _=>Dm (v:= .ref t.ie) rfl T.kO rfl) ⟨T.xF,⟨T.Ao,⟨T.Fv,⟨T.yu,True.intro⟩⟩⟩⟩ qZ.nd rfl rfl rfl (fun _ _=>(aP (kI (eO xZ Tk.wish (hr.mono (by decide)) rfl T.vL T.rT.kp T.jY .nil (aj (ak 0) au))))) (fun _=>(aP (bz (i:=2) qZ.nd rfl (Or.inl rfl) (iz (aj (aaa (cs:=[0,1,2,3]) ⟨⟨T.iI,T.iH⟩,⟨⟨T.lH,T.lG⟩,⟨⟨T.fW,T.vB⟩,⟨⟨T.jz,T.jx⟩,True.intro⟩⟩⟩⟩ (ak 3)) (aj (bD (QB (k:=0) (cl:=[(0,true),(1,true),(2,true),(3,true)]) ⟨⟨T.rP,T.iI,T.iH⟩,⟨⟨T.uv,T.lH,T.lG⟩,⟨⟨T.xT,T.fW,T.vB⟩,⟨⟨T.sY,T.jz,T.jx⟩,True.intro⟩⟩⟩⟩) rfl T.jQ j7 (aj (ak 3) (aj (O5 (k:=0) rfl T.zO) au))) (aj (bD (Xo (n:= "ValueError") (cl:=[(0,true),(1,true),(2,true),(3,true)]) ⟨⟨T.lq,T.iI,T.iH⟩,⟨⟨T.m8,T.lH,T.lG⟩,⟨⟨T.qO,T.fW,T.vB⟩,⟨⟨T.lZ,T.jz,T.jx⟩,True.intro⟩⟩⟩⟩) rfl T.jQ j7 (aj (ak 3) (aj (aab rfl T.zT Ec) au))) (aj (bD (QB (k:=3) (cl:=[(0,false),(1,false),(2,false),(3,true)]) ⟨⟨T.sX,T.iI,T.iH⟩,⟨⟨T.vh,T.lH,T.lG⟩,⟨⟨T.yJ,T.fW,T.vB⟩,⟨⟨T.ux,T.jz,T.jx⟩,True.intro⟩⟩⟩⟩) rfl T.jQ j7 (aj (ak 3) (aj (O5 (k:=3) rfl T.Il) au))) au)))))))))))
  (aP (bO (ak 2)))))
theorem af9(T:Txt K mg t):bF P w K mg base (jm P w) 11 t.Nv t.Iw ["_law_script"] (spS K (cY t) aa2 1):=by
 show bF P w K mg base (jm P w) (10+1) t.Nv t.Iw ["_law_script"] (spS K (cY t) (cR 9 NZ) 1)
 have VV:= @RM P w K mg base t T
 have Ef:= @Kr P w K mg base t T
 have xZ:= @Gh P w K mg base t T
 have An:= @DR P w K mg base t T
 have Mj:= @Kq P w K mg base t T
 have VR:= @RL P w K mg base t T
 refine nM (n:=9) (ar:=1) (k:=10) (b:=NZ) T.Vo uT rfl rfl ?_
 intro cdv A outer s H E W hr
 exact(aF (bz (i:=1) uT.nd rfl (Or.inl rfl) (eO VV Tk.wish (hr.mono (by decide)) rfl T.Ij T.CK.kp T.qT .nil (aj (eO Ef Tk.wish (hr.mono (by decide)) rfl T.wz T.rW.kp T.iY .nil (aj (ak 0) (aj aB au))) au)))
  (aF (fY (cj (Lb hr.units) (gR (cs:=[6]) ⟨⟨T.xX,T.lX⟩,True.intro⟩ (eO xZ Tk.wish (hr.mono (by decide)) rfl T.vL T.rT.kp T.jY .nil (aj (rF PySem.F.plainAttrs_str PySem.F.slot_str_join PySem.F.type_str_join Jz aW (aj (ak 1) au)) au))) (aC dX (eO Ef Tk.wish (hr.mono (by decide)) rfl T.wz T.rW.kp T.iY .nil (aj (ak 0) (aj aB au))) (aC Vx aB aB)) (bU _)) (aP (bO J5)) di)
  (aF (JV (ug rfl rfl) rfl (O4 (jD (ak 0) (cO aB) (cO aB))) (zE (i:=2) uT.nd rfl (Or.inl rfl)) (aF (bz (i:=3) uT.nd rfl (Or.inl rfl) (eO An Tk.wish (hr.mono (by decide)) rfl T.yh T.t8.kp T.jZ .nil (aj (ak 2) (aj aB au))))
  (aF (bz (i:=4) uT.nd rfl (Or.inl rfl) (aC dX (bC hr.units (ak 3) aB) (bD gq rfl T.j9 gw (aj (ak 1) au))))
  (aF (bz (i:=5) uT.nd rfl (Or.inl rfl) (aC dX (bC hr.units (ak 3) aB) aB))
  (aF (fY (cj (mR hr.units) (ak 5) aB (bU _)) (aF (bz (i:=6) uT.nd rfl (Or.inl rfl) (aC aU (jD (ak 1) dg (cO (J3 Es aB))) (gQ (aj aW (aj (bC hr.units (ak 1) (J3 Es aB)) au)))))
  (aF (bz (i:=7) uT.nd rfl (Or.inl rfl) (bD gq rfl T.j9 gw (aj (ak 1) au)))
  (aP (fY (SW.pt (JQ (cj (mR hr.units) (bD gq rfl T.j9 gw (aj (ak 1) au)) aB (bU _)) (Et (cj (mR hr.units) (jD (bC hr.units (ak 1) (J3 Es aB)) dg (cO aB)) aW (bU _))))) (aP (bz (i:=7) uT.nd rfl (Or.inl rfl) (aC aU (bD gq rfl T.j9 gw (aj (ak 1) au)) aB))) di)))) (aP (ae1 (eO Mj Tk.wish (hr.mono (by decide)) rfl T.Cp T.wH.kp T.bV .nil (aj (ak 1) (aj (ak 4) (aj (ak 5) (aj (bC hr.units (ak 3) aB) au))))) (ae_ rfl (Rr (zE (i:=6) uT.nd rfl (Or.inl rfl)) (Rr (zE (i:=7) uT.nd rfl (Or.inl rfl)) acj))))))
  (aF (bz (i:=8) uT.nd rfl (Or.inl rfl) (eO VR Tk.wish (hr.mono (by decide)) rfl T.Ii T.CJ.kp T.oV .nil (aj (rF PySem.F.plainAttrs_str PySem.F.slot_str_join PySem.F.type_str_join Jz aW (aj (ak 6) au)) (aj (Hl (mR hr.units) (aC dX (aC HW (bC hr.units (ak 3) aB) aB) aB) aB (bU _)) au))))
  (aP (fY (SW.pt (JQ (cj (Lb hr.units) (ak 8) (iz (aj (ak 7) (aj J5 (aj J5 (aj J5 au))))) (bU _)) (Et (zB (bD agO rfl T.jQ j7 (aj (bC hr.units (ak 8) aB) (aj (aab rfl T.aa3 adU) au))))))) (aP (bO J5)) di))))))))
  (aP (bO J5)))))
theorem YB(T:Txt K mg t)(s:Shared)(u:Value):BindsTo s t.Iw ⟨[u],[]⟩ [("_law_script",u)]:=by
 obtain⟨oc,od,kV,doc,pm,an,cdv,ct,osl,e,_⟩:=T.Vo.ex
 rw[e]
 exact .of_eq rfl
theorem acW(T:Txt K mg t):bF P w K mg base V3 11 t.Nv t.Iw ["_law_script"] (spL K):=ajY (af9 T) agk
end
set_option autoImplicit true in
theorem all_mk{K:Frag}{h:Heap}{mg:Str→Option Value}(X:K.In h)(G:h.Ns mainGlobals mg){wk:Obj}{K5:Nat}{N7 XD N6 Dh Dg:Tok}{CW:Array DictEntry}{Qa Pr:Str}{TJ:Addr}{QH mq:List Value}{O2:List Str}{O9:List Value}{QS:Bool}{QC:Option Bool}{Qx:Option Addr}{Ql Qk Qi Qh Qg:Option Value}{U5 UG:Str}{Zb:Addr}{Vz qR:List Value}{Uq:List Str}{Ut:List Value}{VJ:Bool}{Vv:Option Bool}{Vu:Option Addr}{Vh Vg Vf Vd Vc:Option Value}{ac2 acB:Str}{ahC:Addr}{ad0 Aj:List Value}{ach:List Str}{aco:List Value}{ad6:Bool}{adP:Option Bool}{adI:Option Addr}{adn adm adl adk adi:Option Value}{RX RD:Str}{VP:Addr}{Tp oU:List Value}{Rq:List Str}{Rx:List Value}{Tw:Bool}{Ti:Option Bool}{Tc:Option Addr}{Su Ss Sq Sh Sg:Option Value}(HY:nsIn K mainGlobals "Reader" = some (some (.ref dR)))(VL:nsIn K mainGlobals "Row" = some (some (.ref x_)))(QV:nsIn K mainGlobals "Book" = some (some (.ref tW)))(Al:nsIn K mainGlobals "HallError" = some (some (.ref bB)))(Fl:nsIn K mainGlobals "NoPlace" = some (some (.ref cX)))(QT:nsIn K mainGlobals "Torn" = some (some (.ref lz)))(Df:nsIn K mainGlobals "BadPaper" = some (some (.ref cG)))(a0:nsIn K mainGlobals "_law_stream" = some (some (.ref f0)))(l0:K.lookup f0=some ⟨oc0,od0,.func (fnOf "_law_stream" "_law_stream" (aL iM) (aK iM) (aA iM) .none kV0 dc0 pm0 an0 cd0 ct0),sl0⟩)(c0:codeIn K cd0 "_law_stream" = true)(k0:keepIn K (.ref f0)=true)(a1:nsIn K mainGlobals "_law_entry" = some (some (.ref f1)))(l1:K.lookup f1=some ⟨oc1,od1,.func (fnOf "_law_entry" "_law_entry" (aL jK) (aK jK) (aA jK) .none kV1 dc1 pm1 an1 cd1 ct1),sl1⟩)(c1:codeIn K cd1 "_law_entry" = true)(k1:keepIn K (.ref f1)=true)(a2:nsIn K mainGlobals "_law_rows" = some (some (.ref f2)))(l2:K.lookup f2=some ⟨oc2,od2,.func (fnOf "_law_rows" "_law_rows" (aL lQ) (aK lQ) (aA lQ) .none kV2 dc2 pm2 an2 cd2 ct2),sl2⟩)(c2:codeIn K cd2 "_law_rows" = true)(k2:keepIn K (.ref f2)=true)(a3:nsIn K mainGlobals "_law_cell_at" = some (some (.ref f3)))(l3:K.lookup f3=some ⟨oc3,od3,.func (fnOf "_law_cell_at" "_law_cell_at" (aL gC) (aK gC) (aA gC) .none kV3 dc3 pm3 an3 cd3 ct3),sl3⟩)(c3:codeIn K cd3 "_law_cell_at" = true)(k3:keepIn K (.ref f3)=true)(a4:findIn K (.ref dR) "__init__" = some (some (.ref f4)))(i4:isFn K (.ref f4)=true)(l4:K.lookup f4=some ⟨oc4,od4,.func (fnOf "__init__" "Reader.__init__" (aL gG) (aK gG) (aA gG) .none kV4 dc4 pm4 an4 cd4 ct4),sl4⟩)(c4:codeIn K cd4 "Reader.__init__" = true)(k4:keepIn K (.ref f4)=true)(a5:findIn K (.ref bB) "__init__" = some (some (.ref f5)))(i5:isFn K (.ref f5)=true)(l5:K.lookup f5=some ⟨oc5,od5,.func (fnOf "__init__" "HallError.__init__" (aL dI) (aK dI) (aA dI) .none kV5 dc5 pm5 an5 cd5 ct5),sl5⟩)(c5:codeIn K cd5 "HallError.__init__" = true)(k5:keepIn K (.ref f5)=true)(a6:findIn K (.ref dR) "words" = some (some (.ref f6)))(i6:isFn K (.ref f6)=true)(l6:K.lookup f6=some ⟨oc6,od6,.func (fnOf "words" "Reader.words" (aL fC) (aK fC) (aA fC) .none kV6 dc6 pm6 an6 cd6 ct6),sl6⟩)(c6:codeIn K cd6 "Reader.words" = true)(k6:keepIn K (.ref f6)=true)(a7:findIn K (.ref dR) "words_of" = some (some (.ref f7)))(i7:isFn K (.ref f7)=true)(l7:K.lookup f7=some ⟨oc7,od7,.func (fnOf "words_of" "Reader.words_of" (aL cU) (aK cU) (aA cU) .none kV7 dc7 pm7 an7 cd7 ct7),sl7⟩)(c7:codeIn K cd7 "Reader.words_of" = true)(k7:keepIn K (.ref f7)=true)(a8:nsIn K mainGlobals "is_of" = some (some (.ref f8)))(l8:K.lookup f8=some ⟨oc8,od8,.func (fnOf "is_of" "is_of" (aL vK) (aK vK) (aA vK) .none kV8 dc8 pm8 an8 cd8 ct8),sl8⟩)(c8:codeIn K cd8 "is_of" = true)(k8:keepIn K (.ref f8)=true)(a9:nsIn K mainGlobals "is_number" = some (some (.ref f9)))(l9:K.lookup f9=some ⟨oc9,od9,.func (fnOf "is_number" "is_number" (aL jL) (aK jL) (aA jL) .none kV9 dc9 pm9 an9 cd9 ct9),sl9⟩)(c9:codeIn K cd9 "is_number" = true)(k9:keepIn K (.ref f9)=true)(a10:findIn K (.ref dR) "whole" = some (some (.ref f10)))(i10:isFn K (.ref f10)=true)(l10:K.lookup f10=some ⟨aq0,aqz,.func (fnOf "whole" "Reader.whole" (aL fD) (aK fD) (aA fD) .none ako alk ajm aml ahh alP),apM⟩)(c10:codeIn K ahh "Reader.whole" = true)(k10:keepIn K (.ref f10)=true)(a11:findIn K (.ref dR) "from_nought" = some (some (.ref f11)))(i11:isFn K (.ref f11)=true)(l11:K.lookup f11=some ⟨aqZ,aqy,.func (fnOf "from_nought" "Reader.from_nought" (aL bZ) (aK bZ) (aA bZ) .none akn alj ajl amk ahg alO),apL⟩)(c11:codeIn K ahg "Reader.from_nought" = true)(k11:keepIn K (.ref f11)=true)(a12:findIn K (.ref dR) "below" = some (some (.ref f12)))(i12:isFn K (.ref f12)=true)(l12:K.lookup f12=some ⟨aqY,aqx,.func (fnOf "below" "Reader.below" (aL fH) (aK fH) (aA fH) .none akm ali ajk amj ahf alN),apK⟩)(c12:codeIn K ahf "Reader.below" = true)(k12:keepIn K (.ref f12)=true)(a13:findIn K (.ref dR) "hand" = some (some (.ref f13)))(i13:isFn K (.ref f13)=true)(l13:K.lookup f13=some ⟨aqX,aqw,.func (fnOf "hand" "Reader.hand" (aL gH) (aK gH) (aA gH) .none akl alh ajj ami ahe alM),apJ⟩)(c13:codeIn K ahe "Reader.hand" = true)(k13:keepIn K (.ref f13)=true)(a14:findIn K (.ref dR) "go_on" = some (some (.ref f14)))(i14:isFn K (.ref f14)=true)(l14:K.lookup f14=some ⟨aqW,aqv,.func (fnOf "go_on" "Reader.go_on" (aL fG) (aK fG) (aA fG) .none akk alg aji amh ahd alL),apI⟩)(c14:codeIn K ahd "Reader.go_on" = true)(k14:keepIn K (.ref f14)=true)(a15:nsIn K mainGlobals "read_head" = some (some (.ref f15)))(l15:K.lookup f15=some ⟨aqV,aqu,.func (fnOf "read_head" "read_head" (aL jF) (aK jF) (aA jF) .none akj alf ajh amg ahc alK),apH⟩)(c15:codeIn K ahc "read_head" = true)(k15:keepIn K (.ref f15)=true)(a16:findIn K (.ref dR) "both_sets" = some (some (.ref f16)))(i16:isFn K (.ref f16)=true)(l16:K.lookup f16=some ⟨aqU,aqt,.func (fnOf "both_sets" "Reader.both_sets" (aL cJ) (aK cJ) (aA cJ) .none aki ale ajg amf ahb alJ),apG⟩)(c16:codeIn K ahb "Reader.both_sets" = true)(k16:keepIn K (.ref f16)=true)(a17:nsIn K mainGlobals "read_base" = some (some (.ref f17)))(l17:K.lookup f17=some ⟨aqT,aqs,.func (fnOf "read_base" "read_base" (aL jH) (aK jH) (aA jH) .none akh ald ajf ame aha alI),apF⟩)(c17:codeIn K aha "read_base" = true)(k17:keepIn K (.ref f17)=true)(a18:findIn K (.ref dR) "begins" = some (some (.ref f18)))(i18:isFn K (.ref f18)=true)(l18:K.lookup f18=some ⟨aqS,aqr,.func (fnOf "begins" "Reader.begins" (aL eY) (aK eY) (aA eY) .none akg alc aje amd ag9 alH),apE⟩)(c18:codeIn K ag9 "Reader.begins" = true)(k18:keepIn K (.ref f18)=true)(a19:nsIn K mainGlobals "is_name" = some (some (.ref f19)))(l19:K.lookup f19=some ⟨aqR,aqq,.func (fnOf "is_name" "is_name" (aL o_) (aK o_) (aA o_) .none akf alb ajd amc ag8 alG),apD⟩)(c19:codeIn K ag8 "is_name" = true)(k19:keepIn K (.ref f19)=true)(a20:findIn K (.ref dR) "name" = some (some (.ref f20)))(i20:isFn K (.ref f20)=true)(l20:K.lookup f20=some ⟨aqQ,aqp,.func (fnOf "name" "Reader.name" (aL gF) (aK gF) (aA gF) .none ake ala ajc amb ag7 alF),apC⟩)(c20:codeIn K ag7 "Reader.name" = true)(k20:keepIn K (.ref f20)=true)(a21:nsIn K mainGlobals "read_values" = some (some (.ref f21)))(l21:K.lookup f21=some ⟨aqP,aqo,.func (fnOf "read_values" "read_values" (aL gA) (aK gA) (aA gA) .none akd ak_ ajb ama ag6 alE),apB⟩)(c21:codeIn K ag6 "read_values" = true)(k21:keepIn K (.ref f21)=true)(a22:nsIn K mainGlobals "read_answers" = some (some (.ref f22)))(l22:K.lookup f22=some ⟨aqO,aqn,.func (fnOf "read_answers" "read_answers" (aL fB) (aK fB) (aA fB) .none akc ak9 aja al_ ag5 alD),apA⟩)(c22:codeIn K ag5 "read_answers" = true)(k22:keepIn K (.ref f22)=true)(a23:findIn K (.ref x_) "__init__" = some (some (.ref f23)))(i23:isFn K (.ref f23)=true)(l23:K.lookup f23=some ⟨aqN,aqm,.func (fnOf "__init__" "Row.__init__" (aL lV) (aK lV) (aA lV) .none akb ak8 ai_ al9 ag4 alC),apz⟩)(c23:codeIn K ag4 "Row.__init__" = true)(k23:keepIn K (.ref f23)=true)(a24:nsIn K mainGlobals "read_order" = some (some (.ref f24)))(l24:K.lookup f24=some ⟨aqM,aql,.func (fnOf "read_order" "read_order" (aL iK) (aK iK) (aA iK) .none aka ak7 ai9 al8 ag3 alB),apy⟩)(c24:codeIn K ag3 "read_order" = true)(k24:keepIn K (.ref f24)=true)(a25:nsIn K mainGlobals "read_what" = some (some (.ref f25)))(l25:K.lookup f25=some ⟨aqL,aqk,.func (fnOf "read_what" "read_what" (aL jE) (aK jE) (aA jE) .none aj_ ak6 ai8 al7 ag2 alA),apx⟩)(c25:codeIn K ag2 "read_what" = true)(k25:keepIn K (.ref f25)=true)(a26:nsIn K mainGlobals "read_entries" = some (some (.ref f26)))(l26:K.lookup f26=some ⟨aqK,aqj,.func (fnOf "read_entries" "read_entries" (aL fu) (aK fu) (aA fu) .none aj9 ak5 ai7 al6 ag1 alz),apw⟩)(c26:codeIn K ag1 "read_entries" = true)(k26:keepIn K (.ref f26)=true)(a27:findIn K (.ref dR) "finish" = some (some (.ref f27)))(i27:isFn K (.ref f27)=true)(l27:K.lookup f27=some ⟨aqJ,aqi,.func (fnOf "finish" "Reader.finish" (aL eX) (aK eX) (aA eX) .none aj8 ak4 ai6 al5 ag0 aly),apv⟩)(c27:codeIn K ag0 "Reader.finish" = true)(k27:keepIn K (.ref f27)=true)(a28:findIn K (.ref x_) "twin" = some (some (.ref f28)))(i28:isFn K (.ref f28)=true)(l28:K.lookup f28=some ⟨aqI,aqh,.func (fnOf "twin" "Row.twin" (aL lU) (aK lU) (aA lU) .none aj7 ak3 ai5 al4 agZ alx),apu⟩)(c28:codeIn K agZ "Row.twin" = true)(k28:keepIn K (.ref f28)=true)(a29:findIn K (.ref tW) "__init__" = some (some (.ref f29)))(i29:isFn K (.ref f29)=true)(l29:K.lookup f29=some ⟨aqH,aqg,.func (fnOf "__init__" "Book.__init__" (aL jM) (aK jM) (aA jM) .none aj6 ak2 ai4 al3 agY alw),apt⟩)(c29:codeIn K agY "Book.__init__" = true)(k29:keepIn K (.ref f29)=true)(a30:nsIn K mainGlobals "read_book" = some (some (.ref f30)))(l30:K.lookup f30=some ⟨aqG,aqf,.func (fnOf "read_book" "read_book" (aL jG) (aK jG) (aA jG) .none aj5 ak1 ai3 al2 agX alv),aps⟩)(c30:codeIn K agX "read_book" = true)(k30:keepIn K (.ref f30)=true)(a31:nsIn K mainGlobals "_law_gone" = some (some (.ref f31)))(l31:K.lookup f31=some ⟨aqF,aqe,.func (fnOf "_law_gone" "_law_gone" (aL lR) (aK lR) (aA lR) .none aj4 ak0 ai2 al1 agW alu),apr⟩)(c31:codeIn K agW "_law_gone" = true)(k31:keepIn K (.ref f31)=true)(a32:nsIn K mainGlobals "_law_twice" = some (some (.ref f32)))(l32:K.lookup f32=some ⟨aqE,aqd,.func (fnOf "_law_twice" "_law_twice" (aL jJ) (aK jJ) (aA jJ) .none aj3 akZ ai1 al0 agV als),apq⟩)(c32:codeIn K agV "_law_twice" = true)(k32:keepIn K (.ref f32)=true)(a33:nsIn K mainGlobals "_law_exchanged" = some (some (.ref f33)))(l33:K.lookup f33=some ⟨aqD,aqc,.func (fnOf "_law_exchanged" "_law_exchanged" (aL eU) (aK eU) (aA eU) .none aj2 akY ai0 alZ agU alr),apo⟩)(c33:codeIn K agU "_law_exchanged" = true)(k33:keepIn K (.ref f33)=true)(a34:nsIn K mainGlobals "_law_spoiled" = some (some (.ref f34)))(l34:K.lookup f34=some ⟨aqC,aqb,.func (fnOf "_law_spoiled" "_law_spoiled" (aL gB) (aK gB) (aA gB) .none aj1 akX aiZ alY agT alq),apn⟩)(c34:codeIn K agT "_law_spoiled" = true)(k34:keepIn K (.ref f34)=true)(a35:nsIn K mainGlobals "_law_torn" = some (some (.ref f35)))(l35:K.lookup f35=some ⟨aqB,aqa,.func (fnOf "_law_torn" "_law_torn" (aL lO) (aK lO) (aA lO) .none aj0 akW aiY alX agS alp),apm⟩)(c35:codeIn K agS "_law_torn" = true)(k35:keepIn K (.ref f35)=true)(a36:nsIn K mainGlobals "law" = some (some (.ref f36)))(l36:K.lookup f36=some ⟨aqA,ap_,.func (fnOf "law" "law" (aL F_) (aK F_) (aA F_) .none ajZ akV aiX alW agR alo),apl⟩)(c36:codeIn K agR "law" = true)(k36:keepIn K (.ref f36)=true)(Hv:PySem.W.plainGet K dR Str.empty=true)(HH:PySem.W.hasDictIn K dR=true)(Hu:PySem.W.plainOver K dR=true)(Hq:findIn K (.ref dR) "__setattr__" = some (some (.builtin "object.__setattr__")))(vQ:PySem.W.makesIn K dR=true)(HB:keepIn K (.ref dR)=true)(fJ:findIn K (.ref dR) "rows" = some none)(aV:findIn K (.ref dR) "here" = some none)(UT:PySem.W.plainGet K x_ Str.empty=true)(Vk:PySem.W.hasDictIn K x_=true)(UJ:PySem.W.plainOver K x_=true)(Uu:findIn K (.ref x_) "__setattr__" = some (some (.builtin "object.__setattr__")))(Ez:PySem.W.makesIn K x_=true)(Ve:keepIn K (.ref x_)=true)(nR:findIn K (.ref x_) "base" = some none)(gf:findIn K (.ref x_) "base_term" = some none)(gh:findIn K (.ref x_) "base_roll" = some none)(lD:findIn K (.ref x_) "kept" = some none)(Px:PySem.W.plainGet K tW Str.empty=true)(Qs:PySem.W.hasDictIn K tW=true)(Pu:PySem.W.plainOver K tW=true)(O_:findIn K (.ref tW) "__setattr__" = some (some (.builtin "object.__setattr__")))(Dn:PySem.W.makesIn K tW=true)(Qj:keepIn K (.ref tW)=true)(lX:findIn K (.ref tW) "term" = some none)(pq:findIn K (.ref tW) "vote" = some none)(q_:findIn K (.ref tW) "row" = some none)(jO:findIn K (.ref tW) "kept" = some none)(hn_:PySem.W.specialIn K (.builtin "object.__class__") "__get__" = some (some (.builtin "getset_descriptor.__get__")))(tk_:PySem.W.takesIn K (.builtin "object.__class__")=some true)(dJ:K.lookup bB=some (excClassObj Qa Pr bB TJ QH mq true O2 O9 QS QC Qx Ql Qk Qi Qh Qg "ValueError.__new__"))(zx:mq.contains (.type "ValueError")=true)(zu:mq.contains (.type "AttributeError")=false)(zj:mq.contains (.type "NameError")=false)(jy:mq.contains (.type "BaseException")=true)(vA:mq.contains (.type "object")=true)(zL:mq=[].map Value.ref++[.type "ValueError",.type "Exception",.type "BaseException",.type "object"])(zN:findIn K (.ref bB) "__init__" = some (some (.ref f5)))(zW:keepIn K (.ref bB)=true)(zc:findIn K (.ref bB) "__setattr__" = some (some (.builtin "object.__setattr__")))(zq:findIn K (.ref bB) "__getattribute__" = some (some (.builtin "BaseException.__getattribute__")))(za:findIn K (.ref bB) "at" = some none)(zp:findIn K (.ref bB) "__getattr__" = some none)(zm:findIn K (.ref bB) "__class__" = some (some (.builtin "object.__class__")))(gk:K.lookup cX=some (excClassObj U5 UG cX Zb Vz qR true Uq Ut VJ Vv Vu Vh Vg Vf Vd Vc "ValueError.__new__"))(Eo:qR.contains (.type "ValueError")=true)(En:qR.contains (.type "AttributeError")=false)(Ei:qR.contains (.type "NameError")=false)(nO:qR.contains (.type "BaseException")=true)(zf:qR.contains (.type "object")=true)(Ex:qR=[bB].map Value.ref++[.type "ValueError",.type "Exception",.type "BaseException",.type "object"])(Ey:findIn K (.ref cX) "__init__" = some (some (.ref f5)))(E_:keepIn K (.ref cX)=true)(Eh:findIn K (.ref cX) "__setattr__" = some (some (.builtin "object.__setattr__")))(Em:findIn K (.ref cX) "__getattribute__" = some (some (.builtin "BaseException.__getattribute__")))(Eg:findIn K (.ref cX) "at" = some none)(El:findIn K (.ref cX) "__getattr__" = some none)(Ek:findIn K (.ref cX) "__class__" = some (some (.builtin "object.__class__")))(pC:K.lookup lz=some (excClassObj ac2 acB lz ahC ad0 Aj true ach aco ad6 adP adI adn adm adl adk adi "ValueError.__new__"))(Oo:Aj.contains (.type "ValueError")=true)(Om:Aj.contains (.type "AttributeError")=false)(Oc:Aj.contains (.type "NameError")=false)(xG:Aj.contains (.type "BaseException")=true)(Jq:Aj.contains (.type "object")=true)(Pn:Aj=[bB].map Value.ref++[.type "ValueError",.type "Exception",.type "BaseException",.type "object"])(P_:findIn K (.ref lz) "__init__" = some (some (.ref f5)))(Qf:keepIn K (.ref lz)=true)(Ob:findIn K (.ref lz) "__setattr__" = some (some (.builtin "object.__setattr__")))(Ol:findIn K (.ref lz) "__getattribute__" = some (some (.builtin "BaseException.__getattribute__")))(Oa:findIn K (.ref lz) "at" = some none)(Oj:findIn K (.ref lz) "__getattr__" = some none)(Og:findIn K (.ref lz) "__class__" = some (some (.builtin "object.__class__")))(fj:K.lookup cG=some (excClassObj RX RD cG VP Tp oU true Rq Rx Tw Ti Tc Su Ss Sq Sh Sg "ValueError.__new__"))(BR:oU.contains (.type "ValueError")=true)(BP:oU.contains (.type "AttributeError")=false)(Bv:oU.contains (.type "NameError")=false)(lB:oU.contains (.type "BaseException")=true)(xu:oU.contains (.type "object")=true)(Cd:oU=[bB].map Value.ref++[.type "ValueError",.type "Exception",.type "BaseException",.type "object"])(Ck:findIn K (.ref cG) "__init__" = some (some (.ref f5)))(Cv:keepIn K (.ref cG)=true)(Bu:findIn K (.ref cG) "__setattr__" = some (some (.builtin "object.__setattr__")))(BL:findIn K (.ref cG) "__getattribute__" = some (some (.builtin "BaseException.__getattribute__")))(Bt:findIn K (.ref cG) "at" = some none)(BK:findIn K (.ref cG) "__getattr__" = some none)(BJ:findIn K (.ref cG) "__class__" = some (some (.builtin "object.__class__")))(iJ:subIn K (.ref bB) (.ref bB)=some true)(jB:subIn K (.ref bB) (.ref cX)=some false)(nA:subIn K (.ref bB) (.ref lz)=some false)(ji:subIn K (.ref bB) (.ref cG)=some false)(kY:subIn K (.ref bB) (.type "ValueError")=some true)(jA:subIn K (.ref cX) (.ref bB)=some true)(lK:subIn K (.ref cX) (.ref cX)=some true)(qm:subIn K (.ref cX) (.ref lz)=some false)(kh:subIn K (.ref cX) (.ref cG)=some false)(m6:subIn K (.ref cX) (.type "ValueError")=some true)(nu:subIn K (.ref lz) (.ref bB)=some true)(ql:subIn K (.ref lz) (.ref cX)=some false)(vH:subIn K (.ref lz) (.ref lz)=some true)(o7:subIn K (.ref lz) (.ref cG)=some false)(qM:subIn K (.ref lz) (.type "ValueError")=some true)(jj:subIn K (.ref cG) (.ref bB)=some true)(kj:subIn K (.ref cG) (.ref cX)=some false)(o8:subIn K (.ref cG) (.ref lz)=some false)(jC:subIn K (.ref cG) (.ref cG)=some true)(lJ:subIn K (.ref cG) (.type "ValueError")=some true)(Fj:nsIn K mainGlobals "FIGURES" = some (some (.str "0123456789" N7)))(Lg:nsIn K mainGlobals "HANDS" = some (some (.int 60 XD)))(Fi:nsIn K mainGlobals "LETTERS" = some (some (.str "abcdefghijklmnopqrstuvwxyz" N6)))(u9:nsIn K mainGlobals "MOST_FIGURES" = some (some (.int 100 Dh)))(uZ:nsIn K mainGlobals "MOST_LETTERS" = some (some (.int 8 Dg)))(xm:nsIn K mainGlobals "ORDER_WORDS" = some (some (.ref uc)))(vY:(uc==sysModules)=false)(wD:K.lookup uc=some wk)(vU:wk.ExactDict)(xg:wk.data= .dict CW K5)(wg:PyProof.Rows.KTD.Rows (fun i v=>∃t,v=Value.int i t) CW.toList [("put",3),("add",3),("swap",4)])(y_:nsIn K mainGlobals "ValueError" = some none)(Zv:nsIn K mainGlobals "all" = some none)(Uc:nsIn K mainGlobals "bool" = some none)(Zu:nsIn K mainGlobals "int" = some none)(yZ:nsIn K mainGlobals "isinstance" = some none)(Zt:nsIn K mainGlobals "len" = some none)(Ub:nsIn K mainGlobals "list" = some none)(Zr:nsIn K mainGlobals "min" = some none)(N_:nsIn K mainGlobals "range" = some none)(Zq:nsIn K mainGlobals "str" = some none)(N8:nsIn K mainGlobals "tuple" = some none):
  ∃t,Txt K mg t:=
 ⟨{fZ:=dR,
   Eb:=x_,
   Ai:=tW,
   bw:=bB,
   cD:=cX,
   ie:=lz,
   bR:=cG,
   rZ:=f0,sy:=fnOf "_law_stream" "_law_stream" (aL iM) (aK iM) (aA iM) .none kV0 dc0 pm0 an0 cd0 ct0,
   uE:=f1,uN:=fnOf "_law_entry" "_law_entry" (aL jK) (aK jK) (aA jK) .none kV1 dc1 pm1 an1 cd1 ct1,
   wK:=f2,wW:=fnOf "_law_rows" "_law_rows" (aL lQ) (aK lQ) (aA lQ) .none kV2 dc2 pm2 an2 cd2 ct2,
   pR:=f3,p_:=fnOf "_law_cell_at" "_law_cell_at" (aL gC) (aK gC) (aA gC) .none kV3 dc3 pm3 an3 cd3 ct3,
   pW:=f4,qe:=fnOf "__init__" "Reader.__init__" (aL gG) (aK gG) (aA gG) .none kV4 dc4 pm4 an4 cd4 ct4,
   gm:=f5,pG:=fnOf "__init__" "HallError.__init__" (aL dI) (aK dI) (aA dI) .none kV5 dc5 pm5 an5 cd5 ct5,
   oh:=f6,oH:=fnOf "words" "Reader.words" (aL fC) (aK fC) (aA fC) .none kV6 dc6 pm6 an6 cd6 ct6,
   jW:=f7,jX:=fnOf "words_of" "Reader.words_of" (aL cU) (aK cU) (aA cU) .none kV7 dc7 pm7 an7 cd7 ct7,
   GQ:=f8,G3:=fnOf "is_of" "is_of" (aL vK) (aK vK) (aA vK) .none kV8 dc8 pm8 an8 cd8 ct8,
   uF:=f9,uO:=fnOf "is_number" "is_number" (aL jL) (aK jL) (aA jL) .none kV9 dc9 pm9 an9 cd9 ct9,
   ou:=f10,oJ:=fnOf "whole" "Reader.whole" (aL fD) (aK fD) (aA fD) .none ako alk ajm aml ahh alP,
   g_:=f11,h_:=fnOf "from_nought" "Reader.from_nought" (aL bZ) (aK bZ) (aA bZ) .none akn alj ajl amk ahg alO,
   oE:=f12,oM:=fnOf "below" "Reader.below" (aL fH) (aK fH) (aA fH) .none akm ali ajk amj ahf alN,
   pX:=f13,qg:=fnOf "hand" "Reader.hand" (aL gH) (aK gH) (aA gH) .none akl alh ajj ami ahe alM,
   oA:=f14,oK:=fnOf "go_on" "Reader.go_on" (aL fG) (aK fG) (aA fG) .none akk alg aji amh ahd alL,
   uA:=f15,uJ:=fnOf "read_head" "read_head" (aL jF) (aK jF) (aA jF) .none akj alf ajh amg ahc alK,
   jg:=f16,jh:=fnOf "both_sets" "Reader.both_sets" (aL cJ) (aK cJ) (aA cJ) .none aki ale ajg amf ahb alJ,
   uC:=f17,uL:=fnOf "read_base" "read_base" (aL jH) (aK jH) (aA jH) .none akh ald ajf ame aha alI,
   mK:=f18,mQ:=fnOf "begins" "Reader.begins" (aL eY) (aK eY) (aA eY) .none akg alc aje amd ag9 alH,
   yQ:=f19,yS:=fnOf "is_name" "is_name" (aL o_) (aK o_) (aA o_) .none akf alb ajd amc ag8 alG,
   pU:=f20,qb:=fnOf "name" "Reader.name" (aL gF) (aK gF) (aA gF) .none ake ala ajc amb ag7 alF,
   pP:=f21,pY:=fnOf "read_values" "read_values" (aL gA) (aK gA) (aA gA) .none akd ak_ ajb ama ag6 alE,
   n_:=f22,oG:=fnOf "read_answers" "read_answers" (aL fB) (aK fB) (aA fB) .none akc ak9 aja al_ ag5 alD,
   wN:=f23,wZ:=fnOf "__init__" "Row.__init__" (aL lV) (aK lV) (aA lV) .none akb ak8 ai_ al9 ag4 alC,
   rY:=f24,su:=fnOf "read_order" "read_order" (aL iK) (aK iK) (aA iK) .none aka ak7 ai9 al8 ag3 alB,
   uz:=f25,uI:=fnOf "read_what" "read_what" (aL jE) (aK jE) (aA jE) .none aj_ ak6 ai8 al7 ag2 alA,
   nZ:=f26,oF:=fnOf "read_entries" "read_entries" (aL fu) (aK fu) (aA fu) .none aj9 ak5 ai7 al6 ag1 alz,
   mJ:=f27,mO:=fnOf "finish" "Reader.finish" (aL eX) (aK eX) (aA eX) .none aj8 ak4 ai6 al5 ag0 aly,
   wM:=f28,wY:=fnOf "twin" "Row.twin" (aL lU) (aK lU) (aA lU) .none aj7 ak3 ai5 al4 agZ alx,
   uG:=f29,uP:=fnOf "__init__" "Book.__init__" (aL jM) (aK jM) (aA jM) .none aj6 ak2 ai4 al3 agY alw,
   uB:=f30,uK:=fnOf "read_book" "read_book" (aL jG) (aK jG) (aA jG) .none aj5 ak1 ai3 al2 agX alv,
   wL:=f31,wX:=fnOf "_law_gone" "_law_gone" (aL lR) (aK lR) (aA lR) .none aj4 ak0 ai2 al1 agW alu,
   uD:=f32,uM:=fnOf "_law_twice" "_law_twice" (aL jJ) (aK jJ) (aA jJ) .none aj3 akZ ai1 al0 agV als,
   mH:=f33,mL:=fnOf "_law_exchanged" "_law_exchanged" (aL eU) (aK eU) (aA eU) .none aj2 akY ai0 alZ agU alr,
   pQ:=f34,pZ:=fnOf "_law_spoiled" "_law_spoiled" (aL gB) (aK gB) (aA gB) .none aj1 akX aiZ alY agT alq,
   wJ:=f35,wV:=fnOf "_law_torn" "_law_torn" (aL lO) (aK lO) (aA lO) .none aj0 akW aiY alX agS alp,
   Nv:=f36,Iw:=fnOf "law" "law" (aL F_) (aK F_) (aA F_) .none ajZ akV aiX alW agR alo,
   Nr:=N7,
   Xc:=XD,
   Nq:=N6,
   Cz:=Dh,
   Cy:=Dg,
   yp:=uc},
  {t8:=aN l0 c0 k0,
   jZ:=(aN l0 c0 k0:cF K _ _ iM .none _ _).binds (ps:=["_law_cell","_law_size"]) fun _ _ _ _ _ _ us hl=>by obtain⟨u0,u1,rfl⟩:=kW hl;rfl,
   yh:=PySem.W.mg_of X G a0,
   Ae:=aN l1 c1 k1,
   oX:=(aN l1 c1 k1:cF K _ _ jK .none _ _).binds (ps:=["_law_number","_law_cell"]) fun _ _ _ _ _ _ us hl=>by obtain⟨u0,u1,rfl⟩:=kW hl;rfl,
   Gn:=PySem.W.mg_of X G a1,
   CK:=aN l2 c2 k2,
   qT:=(aN l2 c2 k2:cF K _ _ lQ .none _ _).binds (ps:=["_law_cell"]) fun _ _ _ _ _ _ us hl=>by obtain⟨u0,rfl⟩:=nF hl;rfl,
   Ij:=PySem.W.mg_of X G a2,
   rW:=aN l3 c3 k3,
   iY:=(aN l3 c3 k3:cF K _ _ gC .none _ _).binds (ps:=["_law_script","_law_k"]) fun _ _ _ _ _ _ us hl=>by obtain⟨u0,u1,rfl⟩:=kW hl;rfl,
   wz:=PySem.W.mg_of X G a3,
   CQ:=aN l4 c4 k4,
   j8:=(aN l4 c4 k4:cF K _ _ gG .none _ _).binds (ps:=["self","text"]) fun _ _ _ _ _ _ us hl=>by obtain⟨u0,u1,rfl⟩:=kW hl;rfl,
   vQ:=⟨vQ,a4,i4,HB⟩,
   xW:=aN l5 c5 k5,
   bL:=(aN l5 c5 k5:cF K _ _ dI .none _ _).binds (ps:=["self","at"]) fun _ _ _ _ _ _ us hl=>by obtain⟨u0,u1,rfl⟩:=kW hl;rfl,
   Bf:=aN l6 c6 k6,
   eN:=(aN l6 c6 k6:cF K _ _ fC .none _ _).binds (ps:=["self"]) fun _ _ _ _ _ _ us hl=>by obtain⟨u0,rfl⟩:=nF hl;rfl,
   qw:=⟨a6,i6,k6⟩,
   wI:=aN l7 c7 k7,
   a_:=(aN l7 c7 k7:cF K _ _ cU .none _ _).binds (ps:=["self","first","count"]) fun _ _ _ _ _ _ us hl=>by obtain⟨u0,u1,u2,rfl⟩:=Gw hl;rfl,
   gj:=⟨a7,i7,k7⟩,
   GD:=aN l8 c8 k8,
   t_:=(aN l8 c8 k8:cF K _ _ vK .none _ _).binds (ps:=["word","signs","most"]) fun _ _ _ _ _ _ us hl=>by obtain⟨u0,u1,u2,rfl⟩:=Gw hl;rfl,
   Kz:=PySem.W.mg_of X G a8,
   Af:=aN l9 c9 k9,
   oY:=(aN l9 c9 k9:cF K _ _ jL .none _ _).binds (ps:=["word"]) fun _ _ _ _ _ _ us hl=>by obtain⟨u0,rfl⟩:=nF hl;rfl,
   Gp:=PySem.W.mg_of X G a9,
   Bg:=aN l10 c10 k10,
   b8:=(aN l10 c10 k10:cF K _ _ fD .none _ _).binds (ps:=["self","word"]) fun _ _ _ _ _ _ us hl=>by obtain⟨u0,u1,rfl⟩:=kW hl;rfl,
   fP:=⟨a10,i10,k10⟩,
   sZ:=aN l11 c11 k11,
   bu:=(aN l11 c11 k11:cF K _ _ bZ .none _ _).binds (ps:=["self","word"]) fun _ _ _ _ _ _ us hl=>by obtain⟨u0,u1,rfl⟩:=kW hl;rfl,
   d_:=⟨a11,i11,k11⟩,
   Bj:=aN l12 c12 k12,
   dD:=(aN l12 c12 k12:cF K _ _ fH .none _ _).binds (ps:=["self","word","bound"]) fun _ _ _ _ _ _ us hl=>by obtain⟨u0,u1,u2,rfl⟩:=Gw hl;rfl,
   qx:=⟨a12,i12,k12⟩,
   CT:=aN l13 c13 k13,
   iZ:=(aN l13 c13 k13:cF K _ _ gH .none _ _).binds (ps:=["self","word"]) fun _ _ _ _ _ _ us hl=>by obtain⟨u0,u1,rfl⟩:=kW hl;rfl,
   Cr:=⟨a13,i13,k13⟩,
   Bh:=aN l14 c14 k14,
   dB:=(aN l14 c14 k14:cF K _ _ fG .none _ _).binds (ps:=["self"]) fun _ _ _ _ _ _ us hl=>by obtain⟨u0,rfl⟩:=nF hl;rfl,
   jw:=⟨a14,i14,k14⟩,
   Ab:=aN l15 c15 k15,
   iW:=(aN l15 c15 k15:cF K _ _ jF .none _ _).binds (ps:=["reader"]) fun _ _ _ _ _ _ us hl=>by obtain⟨u0,rfl⟩:=nF hl;rfl,
   Gj:=PySem.W.mg_of X G a15,
   vz:=aN l16 c16 k16,
   bT:=(aN l16 c16 k16:cF K _ _ cJ .none _ _).binds (ps:=["self","one","two"]) fun _ _ _ _ _ _ us hl=>by obtain⟨u0,u1,u2,rfl⟩:=Gw hl;rfl,
   pI:=⟨a16,i16,k16⟩,
   Ac:=aN l17 c17 k17,
   fV:=(aN l17 c17 k17:cF K _ _ jH .none _ _).binds (ps:=["reader"]) fun _ _ _ _ _ _ us hl=>by obtain⟨u0,rfl⟩:=nF hl;rfl,
   Gk:=PySem.W.mg_of X G a17,
   yP:=aN l18 c18 k18,
   dH:=(aN l18 c18 k18:cF K _ _ eY .none _ _).binds (ps:=["self","word"]) fun _ _ _ _ _ _ us hl=>by obtain⟨u0,u1,rfl⟩:=kW hl;rfl,
   pA:=⟨a18,i18,k18⟩,
   Fb:=aN l19 c19 k19,
   tV:=(aN l19 c19 k19:cF K _ _ o_ .none _ _).binds (ps:=["word"]) fun _ _ _ _ _ _ us hl=>by obtain⟨u0,rfl⟩:=nF hl;rfl,
   KC:=PySem.W.mg_of X G a19,
   CP:=aN l20 c20 k20,
   gO:=(aN l20 c20 k20:cF K _ _ gF .none _ _).binds (ps:=["self","word"]) fun _ _ _ _ _ _ us hl=>by obtain⟨u0,u1,rfl⟩:=kW hl;rfl,
   wA:=⟨a20,i20,k20⟩,
   wG:=aN l21 c21 k21,
   iV:=(aN l21 c21 k21:cF K _ _ gA .none _ _).binds (ps:=["reader"]) fun _ _ _ _ _ _ us hl=>by obtain⟨u0,rfl⟩:=nF hl;rfl,
   Cm:=PySem.W.mg_of X G a21,
   uY:=aN l22 c22 k22,
   ir:=(aN l22 c22 k22:cF K _ _ fB .none _ _).binds (ps:=["reader"]) fun _ _ _ _ _ _ us hl=>by obtain⟨u0,rfl⟩:=nF hl;rfl,
   Az:=PySem.W.mg_of X G a22,
   Iv:=aN l23 c23 k23,
   oZ:=(aN l23 c23 k23:cF K _ _ lV .none _ _).binds (ps:=["self","base","base_term","base_roll","entries"]) fun _ _ _ _ _ _ us hl=>by obtain⟨u0,u1,u2,u3,u4,rfl⟩:=WX hl;rfl,
   Ez:=⟨Ez,a23,i23,Ve⟩,
   yq:=aN l24 c24 k24,
   gM:=(aN l24 c24 k24:cF K _ _ iK .none _ _).binds (ps:=["reader","words"]) fun _ _ _ _ _ _ us hl=>by obtain⟨u0,u1,rfl⟩:=kW hl;rfl,
   DX:=PySem.W.mg_of X G a24,
   Aa:=aN l25 c25 k25,
   fU:=(aN l25 c25 k25:cF K _ _ jE .none _ _).binds (ps:=["reader","words"]) fun _ _ _ _ _ _ us hl=>by obtain⟨u0,u1,rfl⟩:=kW hl;rfl,
   Gi:=PySem.W.mg_of X G a25,
   uX:=aN l26 c26 k26,
   ig:=(aN l26 c26 k26:cF K _ _ fu .none _ _).binds (ps:=["reader"]) fun _ _ _ _ _ _ us hl=>by obtain⟨u0,rfl⟩:=nF hl;rfl,
   Ay:=PySem.W.mg_of X G a26,
   yO:=aN l27 c27 k27,
   cM:=(aN l27 c27 k27:cF K _ _ eX .none _ _).binds (ps:=["self"]) fun _ _ _ _ _ _ us hl=>by obtain⟨u0,rfl⟩:=nF hl;rfl,
   yH:=⟨a27,i27,k27⟩,
   Iu:=aN l28 c28 k28,
   qU:=(aN l28 c28 k28:cF K _ _ lU .none _ _).binds (ps:=["self"]) fun _ _ _ _ _ _ us hl=>by obtain⟨u0,rfl⟩:=nF hl;rfl,
   Im:=⟨a28,i28,k28⟩,
   GF:=aN l29 c29 k29,
   o4:=(aN l29 c29 k29:cF K _ _ jM .none _ _).binds (ps:=["self","term","vote","row","kept"]) fun _ _ _ _ _ _ us hl=>by obtain⟨u0,u1,u2,u3,u4,rfl⟩:=WX hl;rfl,
   Dn:=⟨Dn,a29,i29,Qj⟩,
   rT:=aN l30 c30 k30,
   jY:=(aN l30 c30 k30:cF K _ _ jG .none _ _).binds (ps:=["text"]) fun _ _ _ _ _ _ us hl=>by obtain⟨u0,rfl⟩:=nF hl;rfl,
   vL:=PySem.W.mg_of X G a30,
   CN:=aN l31 c31 k31,
   oW:=(aN l31 c31 k31:cF K _ _ lR .none _ _).binds (ps:=["_law_rows_here","_law_at"]) fun _ _ _ _ _ _ us hl=>by obtain⟨u0,u1,rfl⟩:=kW hl;rfl,
   Ik:=PySem.W.mg_of X G a31,
   Ad:=aN l32 c32 k32,
   lF:=(aN l32 c32 k32:cF K _ _ jJ .none _ _).binds (ps:=["_law_rows_here","_law_at"]) fun _ _ _ _ _ _ us hl=>by obtain⟨u0,u1,rfl⟩:=kW hl;rfl,
   Gm:=PySem.W.mg_of X G a32,
   tR:=aN l33 c33 k33,
   iC:=(aN l33 c33 k33:cF K _ _ eU .none _ _).binds (ps:=["_law_rows_here","_law_at"]) fun _ _ _ _ _ _ us hl=>by obtain⟨u0,u1,rfl⟩:=kW hl;rfl,
   yG:=PySem.W.mg_of X G a33,
   wH:=aN l34 c34 k34,
   bV:=(aN l34 c34 k34:cF K _ _ gB .none _ _).binds (ps:=["_law_rows_here","_law_at","_law_way","_law_number"]) fun _ _ _ _ _ _ us hl=>by obtain⟨u0,u1,u2,u3,rfl⟩:=adg hl;rfl,
   Cp:=PySem.W.mg_of X G a34,
   CJ:=aN l35 c35 k35,
   oV:=(aN l35 c35 k35:cF K _ _ lO .none _ _).binds (ps:=["_law_text","_law_by_any"]) fun _ _ _ _ _ _ us hl=>by obtain⟨u0,u1,rfl⟩:=kW hl;rfl,
   Ii:=PySem.W.mg_of X G a35,
   Vo:=aN l36 c36 k36,
   NZ:=(aN l36 c36 k36:cF K _ _ F_ .none _ _).binds (ps:=["_law_script"]) fun _ _ _ _ _ _ us hl=>by obtain⟨u0,rfl⟩:=nF hl;rfl,
   aaZ:=PySem.W.mg_of X G a36,
   aH:=⟨Hv,HH,Hu,Hq⟩,
   Ng:=PySem.W.mg_of X G HY,
   fJ:=fJ,
   aV:=aV,
   xj:=⟨UT,Vk,UJ,Uu⟩,
   U7:=PySem.W.mg_of X G VL,
   nR:=nR,
   gf:=gf,
   gh:=gh,
   lD:=lD,
   xX:=⟨Px,Qs,Pu,O_⟩,
   WR:=PySem.W.mg_of X G QV,
   lX:=lX,
   pq:=pq,
   q_:=q_,
   jO:=jO,
   zO:=PySem.W.mg_of X G Al,
   Oh:=Oe dJ zx zu zj jy zN i5 zW,
   iI:=Jr dJ vA jy (xP zL) zc zq za,
   iH:=Oi dJ vA zp zm hn_ tk_,
   KD:=PySem.W.mg_of X G Fl,
   Ud:=Oe gk Eo En Ei nO Ey i5 E_,
   lH:=Jr gk zf nO (xP Ex) Eh Em Eg,
   lG:=Oi gk zf El Ek hn_ tk_,
   kO:=PySem.W.mg_of X G QT,
   ni:=Oe pC Oo Om Oc xG P_ i5 Qf,
   fW:=Jr pC Jq xG (xP Pn) Ob Ol Oa,
   vB:=Oi pC Jq Oj Og hn_ tk_,
   Il:=PySem.W.mg_of X G Df,
   Q6:=Oe fj BR BP Bv lB Ck i5 Cv,
   jz:=Jr fj xu lB (xP Cd) Bu BL Bt,
   jx:=Oi fj xu BK BJ hn_ tk_,
   rC:=u_ dJ jy iJ,
   rP:=vg dJ iJ,
   Bw:=u_ gk nO jB,
   uw:=vg gk jB,
   xF:=u_ pC xG nA,
   xU:=vg pC nA,
   Bm:=u_ fj lB ji,
   sX:=vg fj ji,
   lq:=W2 l_ kY,
   ud:=u_ dJ jy jA,
   uv:=vg dJ jA,
   Ej:=u_ gk nO lK,
   wF:=vg gk lK,
   Ao:=u_ pC xG qm,
   Bc:=vg pC qm,
   Dv:=u_ fj lB kh,
   vh:=vg fj kh,
   m8:=W2 l_ m6,
   xx:=u_ dJ jy nu,
   xT:=vg dJ nu,
   IW:=u_ gk nO ql,
   Bb:=vg gk ql,
   Fv:=u_ pC xG vH,
   Gy:=vg pC vH,
   G_:=u_ fj lB o7,
   yJ:=vg fj o7,
   qO:=W2 l_ qM,
   sS:=u_ dJ jy jj,
   sY:=vg dJ jj,
   Dw:=u_ gk nO kj,
   vm:=vg gk kj,
   yu:=u_ pC xG o8,
   yK:=vg pC o8,
   Bx:=u_ fj lB jC,
   ux:=vg fj jC,
   lZ:=W2 l_ lJ,
   KJ:=PySem.W.mg_of X G Fj,
   Gq:=PySem.W.mg_of X G Lg,
   KH:=PySem.W.mg_of X G Fi,
   Ba:=PySem.W.mg_of X G u9,
   A_:=PySem.W.mg_of X G uZ,
   Cq:=PySem.W.mg_of X G xm,
   BX:=⟨vY,_,_,_,wD,vU,xg,wg⟩,
   zT:=PySem.W.mg_none_of X G y_,
   aes:=PySem.W.mg_none_of X G Zv,
   aa3:=PySem.W.mg_none_of X G Uc,
   aer:=PySem.W.mg_none_of X G Zu,
   jQ:=PySem.W.mg_none_of X G yZ,
   j9:=PySem.W.mg_none_of X G Zt,
   aa1:=PySem.W.mg_none_of X G Ub,
   aeq:=PySem.W.mg_none_of X G Zr,
   Gu:=PySem.W.mg_none_of X G N_,
   sV:=PySem.W.mg_none_of X G Zq,
   Gs:=PySem.W.mg_none_of X G N8}⟩
end My
open PySem PySem.W PyProof.Rows
namespace PySem.W.Fast
def tw1786388444370813152:=0
def tw7969423533183194368:=0
def tw1207312480541440288:=0
def tw4617567615696425312:=0
def tw1894290584048988672:=0
def tw2634857245486103168:=0
def tw2647863096403899072:=0
def tw13471049398510488288:=0
def tw17331676487073273632:=0
def tw11089872819951767360:=0
def tw17179366224527175520:=0
def tw10123718799408020352:=0
def tw15846895868853106592:=0
def tw4491788817206704064:=0
def tw16886383366862710849:=0
def tw16224528659886908513:=0
def tw7744226920911934657:=0
def tw11794166321907041473:=0
def tw10464497196592808161:=0
def tw393254114328530209:=0
def tw15969198399707539777:=0
def tw16073719462298708353:=0
def tw4714085227871569345:=0
def tw4843076090230538881:=0
def tw2012615005288593025:=0
def tw2884918869549228705:=0
def tw5477629320408301281:=0
def tw3310005316008279841:=0
def tw16981372152470187969:=0
def tw2608411047270387649:=0
def tw12283457479707664353:=0
def tw18027853809137630177:=0
def tw13263248720574584866:=0
def tw6737136179806173314:=0
def tw2844685534104945858:=0
def tw5158851528141999490:=0
def tw6142222795903929762:=0
def tw3694893039545101794:=0
def tw11315242704401664578:=0
def tw5494427120793379394:=0
def tw92706226828295778:=0
def tw10382050829743861378:=0
def tw4350380562449871490:=0
def tw1256950166782191266:=0
def tw7132917309070358242:=0
def tw8865135954068913986:=0
def tw4394839789074805698:=0
def tw9864409662135489571:=0
def tw7642029870348803331:=0
def tw16848969469702710915:=0
def tw17877178514407645827:=0
def tw8013867437316580003:=0
def tw5866908702170327843:=0
def tw18358582695872428835:=0
def tw4962050580857463619:=0
def tw5387501104950166403:=0
def tw311123862795198403:=0
def tw10600392869344817123:=0
def tw6952260976815834180:=0
def tw1284817124750376036:=0
def tw9802651862365722820:=0
def tw16757782202004613348:=0
def tw9712407345402824996:=0
def tw16198080815631936932:=0
def tw15468534367463615012:=0
def tw16036322320135059012:=0
def tw18123641652927138372:=0
def tw10206713213804712612:=0
def tw2121580841261601540:=0
def tw7329684192313540388:=0
def tw11240610895008333861:=0
def tw14470206004262924357:=0
def tw3221998898734045317:=0
def tw11723750143238181125:=0
def tw12937384881664962949:=0
def tw14304942048249618853:=0
def tw11320475789197355461:=0
def tw9296363366497725957:=0
def tw14548266695860108869:=0
def tw15114032186041965157:=0
def tw3089275829509820037:=0
def tw14871538122311504677:=0
def tw11853133402599444389:=0
def tw78149792680225830:=0
def tw16543638643716427910:=0
def tw10459220445223383270:=0
def tw2823513942219276646:=0
def tw2525363490843894150:=0
def tw15234787897421262246:=0
def tw17721742196446768582:=0
def tw2508766771204281830:=0
def tw665507474331686406:=0
def tw12958883607337757286:=0
def tw1015627905669882534:=0
def tw16448793237874435750:=0
def tw15395760641386295078:=0
def tw10553443004893492198:=0
def tw9045122243973299207:=0
def tw12371437365365828679:=0
def tw16299802990428273767:=0
def tw12186009035170966791:=0
def tw12822948051420636455:=0
def tw3656635533189343527:=0
def tw12062786433508162983:=0
def tw9936008654798499367:=0
def tw15441712569435576967:=0
def tw4582071879800318631:=0
def tw18198867771243481927:=0
def tw16223348715897090023:=0
def tw3699033756808657895:=0
def tw1559826244674136104:=0
def tw11238088401057307848:=0
def tw1810623934697897416:=0
def tw13664855657796120008:=0
def tw318842528279599592:=0
def tw9236073698734082760:=0
def tw2362198432888121032:=0
def tw4692710129892466408:=0
def tw3951657070413338504:=0
def tw15275697000010987496:=0
def tw1632938445025388520:=0
def tw7095470748867436553:=0
def tw15698514204611931177:=0
def tw13438918199548903561:=0
def tw17416126718452341897:=0
def tw16996542650800952457:=0
def tw16910307103071662249:=0
def tw13215339472887176393:=0
def tw5509091715550805257:=0
def tw16129573464934023465:=0
def tw8351737112491486729:=0
def tw11443604744490510985:=0
def tw12819590270288568969:=0
def tw9546018986079676137:=0
def tw9628344959813990121:=0
def tw3510447853776481161:=0
def tw4810436623551945705:=0
def tw15572808016888792074:=0
def tw1918518376276393066:=0
def tw7016521689228136778:=0
def tw14772302904730045930:=0
def tw16216389439106640394:=0
def tw1253579910704657930:=0
def tw16973421940361768522:=0
def tw1980935024441106026:=0
def tw13284894422151262858:=0
def tw17273296607814853322:=0
def tw11773738070230597322:=0
def tw9386700070968619754:=0
def tw3130519667093290794:=0
def tw15371956879821502346:=0
def tw3021937469425013706:=0
def tw1023662453858183114:=0
def tw8529437762327865355:=0
def tw2633078387329944587:=0
def tw3627961361826946155:=0
def tw3749095858228791691:=0
def tw15384181524576275947:=0
def tw14883940905218245195:=0
def tw15390442321724839627:=0
def tw2700275817940965099:=0
def tw8207664102453076779:=0
def tw17370883254182269803:=0
def tw5418331502525252491:=0
def tw1541755515808013227:=0
def tw12382775505573096395:=0
def tw7029929686028439531:=0
def tw7860323249488527404:=0
def tw5628336171660217420:=0
def tw8839824018671025260:=0
def tw10406083865953465516:=0
def tw16732008299656434956:=0
def tw18328512149404563916:=0
def tw5805546612400914892:=0
def tw16566671264667338316:=0
def tw3364181681075352140:=0
def tw7359256488944674412:=0
def tw5410889158705721964:=0
def tw15449794354373119628:=0
def tw5720418861234330284:=0
def tw10144508950056354572:=0
def tw16693074916064928524:=0
def tw1832923008088603661:=0
def tw18320709299588258861:=0
def tw2650427226698869805:=0
def tw3106172280654588013:=0
def tw16386652872916466861:=0
def tw14788082630594484429:=0
def tw6719127728729933197:=0
def tw15094761952639696365:=0
def tw17097278127763516909:=0
def tw5914734449797864973:=0
def tw3963702288368046701:=0
def tw14354148765070371469:=0
def tw804456463471145645:=0
def tw5757073288564074317:=0
def tw15141517734999865229:=0
def tw16586438038946206605:=0
def tw850622629041231853:=0
def tw4745132248217074958:=0
def tw17164361304276635150:=0
def tw16680001919723823726:=0
def tw7679601369812627086:=0
def tw3531561194222282414:=0
def tw3732440820817436494:=0
def tw15072584913790586766:=0
def tw13252462676646515823:=0
def tw1302831844548097231:=0
def tw2434194449453367503:=0
def tw18214891272622634191:=0
def tw15457508343864854767:=0
def tw4243595646399757679:=0
def tw8842904135026040271:=0
def tw16739401763482751567:=0
def tw11803897639859198575:=0
def tw5794920726307660655:=0
def tw4443133477554503535:=0
def tw16183427420025601040:=0
def tw13048284243042418736:=0
def tw7292106898131550288:=0
def tw1432978539722067184:=0
def tw3987290215377518896:=0
def tw8634399717783886192:=0
def tw12142874914872226256:=0
def tw3208306144169295376:=0
def tw14391443424730485456:=0
def tw13029676438208167664:=0
def tw4394105669326522160:=0
def tw14647984959302515536:=0
def tw2021891898731553616:=0
def tw12497381949405599632:=0
def tw18152415275803076496:=0
def tw13216307957567469585:=0
def tw3799896819109262417:=0
def tw12346025471786386545:=0
def tw9846783862341749873:=0
def tw14487929906807683217:=0
def tw9096328024844125329:=0
def tw229548549050681585:=0
def tw8234927136024280401:=0
def tw419911903107359121:=0
def tw9859850404393679441:=0
def tw12490007523219537521:=0
def tw575053471902480145:=0
def tw8813500727540125457:=0
def tw13625982588773869361:=0
def tw5504065277350453073:=0
def tw9302686426756880273:=0
def tw6285629607064062929:=0
def tw1015524771528672209:=0
def tw5099003557953054738:=0
def tw14715386838567819282:=0
def tw10214738769030541362:=0
def tw244862403540675698:=0
def tw14069084143026206866:=0
def tw12599745013380736178:=0
def tw128813650481052914:=0
def tw3736240517972158834:=0
def tw13596359966094932498:=0
def tw1516272511801791218:=0
def tw6763355351562976082:=0
def tw7970265197565029330:=0
def tw4198794727685576755:=0
def tw12919645588706445747:=0
def tw17561084846471261651:=0
def tw14729306600629550547:=0
def tw7270799247464560083:=0
def tw12121396711711068691:=0
def tw16181185583582195315:=0
def tw4153487600014871283:=0
def tw17667080057850869651:=0
def tw3203644485834761107:=0
def tw14241740186590537715:=0
def tw16765135660172391508:=0
def tw16459793324258415700:=0
def tw7311923933512364436:=0
def tw14629607280629872116:=0
def tw14432067825176367636:=0
def tw13395560185780394676:=0
def tw17210479845969649364:=0
def tw8486479652899185428:=0
def tw5744095866035212276:=0
def tw11137442277579894933:=0
def tw7064629054799529173:=0
def tw2712991025188552021:=0
def tw12800430879895143829:=0
def tw14415674139039905237:=0
def tw5879838204520835573:=0
def tw16806286133147898677:=0
def tw6224470211667745685:=0
def tw9326566098417692726:=0
def tw867124365004760182:=0
def tw1579814755299682422:=0
def tw7669547831396874422:=0
def tw4831865396133013750:=0
def tw13287523238812260630:=0
def tw2520498207645773174:=0
def tw17566113610409513366:=0
def tw6629302134094189974:=0
def tw6172568529539252790:=0
def tw772792043877167734:=0
def tw18127580040304783190:=0
def tw7663846051768884279:=0
def tw17945226957783114839:=0
def tw12718023876107698327:=0
def tw6976349478970683767:=0
def tw8021785133492407735:=0
def tw14186755503136684855:=0
def tw2516409347200967511:=0
def tw14920923773883422551:=0
def tw3336266069858036727:=0
def tw6154824830970569816:=0
def tw7804204415313177688:=0
def tw14412946115176683608:=0
def tw9261182662963593336:=0
def tw7071627683616927896:=0
def tw17934405562757615992:=0
def tw8831283873322651064:=0
def tw15320262728986273272:=0
def tw4285927693194400312:=0
def tw16405554685621113432:=0
def tw301212281737728696:=0
def tw2082699626157882136:=0
def tw5868338507222506264:=0
def tw17939883423936985976:=0
def tw14076629876491789176:=0
def tw6440646195233057752:=0
def tw7036346594269769720:=0
def tw13331224608195167224:=0
def tw12478546447368885273:=0
def tw432740067522208889:=0
def tw12492425450813501657:=0
def tw1929213532842448185:=0
def tw5360713046334733785:=0
def tw10666298794559915513:=0
def tw14790236223105190457:=0
def tw7958956524019968601:=0
def tw17045406424224013945:=0
def tw5507412887906836121:=0
def tw5818149290085826233:=0
def tw6793627627660419833:=0
def tw4994646979842835225:=0
def tw10214941197589708633:=0
def tw7722418592691231609:=0
def tw15093545858977888185:=0
def tw12299690696711064569:=0
def tw9037117271769168922:=0
def tw6653191918490213466:=0
def tw13632067389310984282:=0
def tw5073006443877000282:=0
def tw2411104384524232826:=0
def tw4235154260160872698:=0
def tw2944384629335775706:=0
def tw272112318912539130:=0
def tw17011496817907385850:=0
def tw7664382464249737786:=0
def tw17093849799685105274:=0
def tw9856196459638592154:=0
def tw9051169066270299994:=0
def tw17739816883232916442:=0
def tw197028011948171387:=0
def tw2754462113467368571:=0
def tw11829271553065350267:=0
def tw7994805829895783579:=0
def tw1551818625336754331:=0
def tw12724820375036523675:=0
def tw2074899854199515355:=0
def tw5860930466652319963:=0
def tw1315833538636922203:=0
def tw16494184997207063035:=0
def tw4413722388598697595:=0
def tw10971863221212605115:=0
def tw4280974392898927451:=0
def tw16470534886400146267:=0
def tw1521499207263268763:=0
def tw3430694486597797851:=0
def tw1680360887593706491:=0
def tw6693446501690848284:=0
def tw5209980722788899196:=0
def tw3529894412606198332:=0
def tw987699010030513788:=0
def tw12439168125943687100:=0
def tw13272382685744432317:=0
def tw6635223217582340317:=0
def tw355934614466306365:=0
def tw2372877147826412861:=0
def tw10103067712749228349:=0
def tw13338121985504892349:=0
def tw2536513042607959581:=0
def tw12395649223184199389:=0
def tw13468003104227341021:=0
def tw17001352344350978909:=0
def tw13434948508702754717:=0
def tw11944504453878935582:=0
def tw6488063153279361406:=0
def tw2002741121797646718:=0
def tw14778478069586947486:=0
def tw14844242200362211806:=0
def tw3162647826490466814:=0
def tw3991248075312259614:=0
def tw8011377911599362878:=0
def tw6342375222541573950:=0
def tw6660922804186852222:=0
def tw10998342488541705150:=0
def tw7523455193518108638:=0
def tw8281127600153617503:=0
def tw15962315891755926687:=0
def tw1218261409928296671:=0
def tw9211483684552243455:=0
def tw6313871029789151583:=0
def tw1669639900778839519:=0
def tw16578854976019190367:=0
def tw9662560368260988575:=0
def tw7371100030390612639:=0
def tw4543023181864803039:=0
def tw10763969022735503071:=0
def tw7062866870483842783:=0
def tw12716589064446100351:=0
def tw6390461620792803683:=0
end PySem.W.Fast
theorem PySem.Challenge.cw_chairvote_k22_torn_at_a_row_holds : PySem.Challenge.rw_chairvote_k22_torn_at_a_row.Holds := by
 w_on;o_law;k_head;(case hw=>w_witness2)
 k_fill
 refine S.ah8 (l:=PySem.Challenge.rw_chairvote_k22_torn_at_a_row) (x:= "_law_script") (k:=11) rfl rfl ⟨rfl,by decide,by decide⟩ (fun w h Y=>PySem.W.kIn_of Y) ?F
 case F=>
  intro w mg fa h KX G hmg
  have T:∃t,My.Txt (L2.KOf KX) mg t:=by
   dsimp only[L2.KOf]
   refine' My.all_mk KX G ?HY ?VL ?QV ?Al ?Fl ?QT ?Df ?a0 ?l0 ?c0 ?k0 ?a1 ?l1 ?c1 ?k1 ?a2 ?l2 ?c2 ?k2 ?a3 ?l3 ?c3 ?k3 ?a4 ?i4 ?l4 ?c4 ?k4 ?a5 ?i5 ?l5 ?c5 ?k5 ?a6 ?i6 ?l6 ?c6 ?k6 ?a7 ?i7 ?l7 ?c7 ?k7 ?a8 ?l8 ?c8 ?k8 ?a9 ?l9 ?c9 ?k9 ?a10 ?i10 ?l10 ?c10 ?k10 ?a11 ?i11 ?l11 ?c11 ?k11 ?a12 ?i12 ?l12 ?c12 ?k12 ?a13 ?i13 ?l13 ?c13 ?k13 ?a14 ?i14 ?l14 ?c14 ?k14 ?a15 ?l15 ?c15 ?k15 ?a16 ?i16 ?l16 ?c16 ?k16 ?a17 ?l17 ?c17 ?k17 ?a18 ?i18 ?l18 ?c18 ?k18 ?a19 ?l19 ?c19 ?k19 ?a20 ?i20 ?l20 ?c20 ?k20 ?a21 ?l21 ?c21 ?k21 ?a22 ?l22 ?c22 ?k22 ?a23 ?i23 ?l23 ?c23 ?k23 ?a24 ?l24 ?c24 ?k24 ?a25 ?l25 ?c25 ?k25 ?a26 ?l26 ?c26 ?k26 ?a27 ?i27 ?l27 ?c27 ?k27 ?a28 ?i28 ?l28 ?c28 ?k28 ?a29 ?i29 ?l29 ?c29 ?k29 ?a30 ?l30 ?c30 ?k30 ?a31 ?l31 ?c31 ?k31 ?a32 ?l32 ?c32 ?k32 ?a33 ?l33 ?c33 ?k33 ?a34 ?l34 ?c34 ?k34 ?a35 ?l35 ?c35 ?k35 ?a36 ?l36 ?c36 ?k36 ?Hv ?HH ?Hu ?Hq ?vQ ?HB ?fJ ?aV ?UT ?Vk ?UJ ?Uu ?Ez ?Ve ?nR ?gf ?gh ?lD ?Px ?Qs ?Pu ?O_ ?Dn ?Qj ?lX ?pq ?q_ ?jO ?hn_ ?tk_ ?dJ ?zx ?zu ?zj ?jy ?vA ?zL ?zN ?zW ?zc ?zq ?za ?zp ?zm ?gk ?Eo ?En ?Ei ?nO ?zf ?Ex ?Ey ?E_ ?Eh ?Em ?Eg ?El ?Ek ?pC ?Oo ?Om ?Oc ?xG ?Jq ?Pn ?P_ ?Qf ?Ob ?Ol ?Oa ?Oj ?Og ?fj ?BR ?BP ?Bv ?lB ?xu ?Cd ?Ck ?Cv ?Bu ?BL ?Bt ?BK ?BJ ?iJ ?jB ?nA ?ji ?kY ?jA ?lK ?qm ?kh ?m6 ?nu ?ql ?vH ?o7 ?qM ?jj ?kj ?o8 ?jC ?lJ ?Fj ?Lg ?Fi ?u9 ?uZ ?xm ?vY ?wD ?vU ?xg ?wg ?y_ ?Zv ?Uc ?Zu ?yZ ?Zt ?Ub ?Zr ?N_ ?Zq ?N8
   case HY | VL | QV | Al | Fl | QT | Df | a0 | l0 | c0 | k0 | a1 | l1 | c1 | k1 | a2 | l2 | c2 | k2 | a3 | l3 | c3 | k3 | a4 | i4 | l4 | c4 | k4 | a5 | i5 | l5 | c5 | k5 | a6 | i6 | l6 | c6 | k6 | a7 | i7 | l7 | c7 | k7 | a8 | l8 | c8 | k8 | a9 | l9 | c9 | k9 | a10 | i10 | l10 | c10 | k10 | a11 | i11 | l11 | c11 | k11 | a12 | i12 | l12 | c12 | k12 | a13 | i13 | l13 | c13 | k13 | a14 | i14 | l14 | c14 | k14 | a15 | l15 | c15 | k15 | a16 | i16 | l16 | c16 | k16 | a17 | l17 | c17 | k17 | a18 | i18 | l18 | c18 | k18 | a19 | l19 | c19 | k19 | a20 | i20 | l20 | c20 | k20 | a21 | l21 | c21 | k21 | a22 | l22 | c22 | k22 | a23 | i23 | l23 | c23 | k23 | a24 | l24 | c24 | k24 | a25 | l25 | c25 | k25 | a26 | l26 | c26 | k26 | a27 | i27 | l27 | c27 | k27 | a28 | i28 | l28 | c28 | k28 | a29 | i29 | l29 | c29 | k29 | a30 | l30 | c30 | k30 | a31 | l31 | c31 | k31 | a32 | l32 | c32 | k32 | a33 | l33 | c33 | k33 | a34 | l34 | c34 | k34 | a35 | l35 | c35 | k35 | a36 | l36 | c36 | k36 | Hv | HH | Hu | Hq | vQ | HB | fJ | aV | UT | Vk | UJ | Uu | Ez | Ve | nR | gf | gh | lD | Px | Qs | Pu | O_ | Dn | Qj | lX | pq | q_ | jO | hn_ | tk_ | dJ=>k_is
   case zx | zu | zj | jy | vA=>decide +kernel
   case zL=>rfl
   case zN | zW | zc | zq | za | zp | zm | gk=>k_is
   case Eo | En | Ei | nO | zf=>decide +kernel
   case Ex=>rfl
   case Ey | E_ | Eh | Em | Eg | El | Ek | pC=>k_is
   case Oo | Om | Oc | xG | Jq=>decide +kernel
   case Pn=>rfl
   case P_ | Qf | Ob | Ol | Oa | Oj | Og | fj=>k_is
   case BR | BP | Bv | lB | xu=>decide +kernel
   case Cd=>rfl
   case Ck | Cv | Bu | BL | Bt | BK | BJ | iJ | jB | nA | ji | kY | jA | lK | qm | kh | m6 | nu | ql | vH | o7 | qM | jj | kj | o8 | jC | lJ | Fj | Lg | Fi | u9 | uZ | xm=>k_is
   case vY=>decide
   case wD=>k_is
   case vU=>exact⟨rfl,rfl,rfl⟩
   case xg=>rfl
   case wg=>exact .cons rfl ⟨_,rfl⟩ (.cons rfl ⟨_,rfl⟩ (.cons rfl ⟨_,rfl⟩ (.nil)))
   case y_ | Zv | Uc | Zu | yZ | Zt | Ub | Zr | N_ | Zq | N8=>k_is
  obtain⟨t,T⟩:=T
  have e0:=hmg.symm.trans T.aaZ
  cases e0
  exact⟨t.Iw,fun s u=>My.YB T s u,fun base _ _=>My.acW T⟩

