import PyProof.Rows.All
import Wide.All
import OpenK.AllK
import Wide.FinOn
import Lean
import PyProof.EqAt
import PyProof.EqKinds
import PyProof.TupleCall
import PySem.Challenge.RW_chairvote_k23_words_of_a_book
noncomputable section
set_option Elab.async false
set_option linter.all false
set_option maxRecDepth 100000
namespace L2
open PySem PySem.Spec PyProof.Rows
abbrev Key:=Sum Int Str
def Jj:Key→Value→Bool
 | .inl k,v=>Value.isInt k v
 | .inr x,v=>Value.isStrOf x v
def aod(w:World):Key→Int
 | .inl k=>hashInt k
 | .inr x=>hashStr w x
theorem jg:∀{k:Key} {v:Value},Jj k v=true→(∃i t,k=Sum.inl i∧v=Value.int i t)∨(∃x t,k=Sum.inr x∧v=Value.str x t)
 | .inl i,v,h=>by
  obtain⟨t,e⟩:=Value.isInt_shape (k:=i) (v:=v) h
  exact .inl ⟨i,t,rfl,e⟩
 | .inr x,v,h=>by
  obtain⟨t,e⟩:=Value.isStrOf_shape (x:=x) (v:=v) h
  exact .inr ⟨x,t,rfl,e⟩
theorem Vf(i:Int)(t:Tok):Jj (.inl i) (.int i t)=true:=by simp[Jj,Value.isInt]
theorem Ve(x:Str)(t:Tok):Jj (.inr x) (.str x t)=true:=by simp[Jj,Value.isStrOf]
theorem ady(a b:Int):decide ((Sum.inl a:Key)=Sum.inl b)=(a==b):=by
 by_cases e:a=b
 ·subst e;simp
 ·have h:¬(Sum.inl a:Key)=Sum.inl b:=fun q=>e (Sum.inl.inj q)
  rw[decide_eq_false h]
  exact(beq_eq_false_iff_ne.mpr e).symm
theorem adv(a b:Str):decide ((Sum.inr a:Key)=Sum.inr b)=decide (a=b):=by
 by_cases e:a=b
 ·subst e;simp
 ·have h:¬(Sum.inr a:Key)=Sum.inr b:=fun q=>e (Sum.inr.inj q)
  rw[decide_eq_false h,decide_eq_false e]
theorem adx(a:Int)(b:Str):decide ((Sum.inl a:Key)=Sum.inr b)=false:=decide_eq_false (fun q=>nomatch q)
theorem adw(a:Str)(b:Int):decide ((Sum.inr a:Key)=Sum.inl b)=false:=decide_eq_false (fun q=>nomatch q)
def oW(prog:Program)(w:World):PySem.KeyKind prog w Key where
 is:=Jj
 hash:=aod w
 inj:=fun v a b ha hb=>by
  rcases jg ha with⟨i,t,rfl,rfl⟩ | ⟨x,t,rfl,rfl⟩
  ·rcases jg hb with⟨j,u,rfl,e⟩ | ⟨y,u,rfl,e⟩
   ·injection e with e1 _;rw[e1]
   ·exact nomatch e
  ·rcases jg hb with⟨j,u,rfl,e⟩ | ⟨y,u,rfl,e⟩
   ·exact nomatch e
   ·injection e with e1 _;rw[e1]
 byValue:=fun k v h=>by
  rcases jg h with⟨i,t,rfl,rfl⟩ | ⟨x,t,rfl,rfl⟩<;>rfl
 pyHash:=fun hv h=>by
  rcases jg hv with⟨i,t,rfl,rfl⟩ | ⟨x,t,rfl,rfl⟩
  ·exact wpAny_pyHash_int h
  ·exact wpAny_pyHash_str h
 eqBool:=fun hu hv h=>by
  rcases jg hu with⟨i,t,rfl,rfl⟩ | ⟨x,t,rfl,rfl⟩
  ·rcases jg hv with⟨j,u,rfl,rfl⟩ | ⟨y,u,rfl,rfl⟩
   ·rw[ady]at h;exact wpAny_eqBool_int h
   ·rw[adx]at h;exact SeqAt.EqAt.int_str i t y u _ _ _ _ h
  ·rcases jg hv with⟨j,u,rfl,rfl⟩ | ⟨y,u,rfl,rfl⟩
   ·rw[adw]at h;exact SeqAt.EqAt.str_int x t j u _ _ _ _ h
   ·rw[adv]at h;exact wpAny_eqBool_str h
 «strs» := fun k x t v h=>by
  rcases jg h with⟨i,u,rfl,e⟩ | ⟨y,u,rfl,e⟩
  ·exact nomatch e
  ·injection e with e1 _
   subst e1
   cases v<;>rfl
theorem Om(prog:Program)(w:World)(i:Int)(t:Tok):(oW prog w).is (.inl i) (.int i t)=true:=Vf i t
theorem Ol(prog:Program)(w:World)(x:Str)(t:Tok):(oW prog w).is (.inr x) (.str x t)=true:=Ve x t
end L2
namespace L2
open PySem PySem.Spec PyProof.Rows
inductive V where
 | non | bl (b:Bool) | int (i:Int) | str (x:Str) | byt (b:Array UInt8) | flt (b:UInt64) | ref (a:Addr) | ty (n:String)
 deriving DecidableEq
def RelV:V→Value→Prop
 | .non,u=>u=Value.none
 | .bl b,u=>u=Value.bool b
 | .int i,u=>∃t,u=Value.int i t
 | .str x,u=>∃t,u=Value.str x t
 | .byt b,u=>∃t,u=Value.bytes b t
 | .flt b,u=>∃t,u=Value.float b t
 | .ref a,u=>u=Value.ref a
 | .ty n,u=>u=Value.type n
abbrev Vals:List V→List Value→Prop:=Paired RelV
theorem Vals.length{xs:List V}{us:List Value}(r:Vals xs us):xs.length=us.length:=Paired.length r
theorem Vals.get:∀{xs:List V} {us:List Value} {i:Nat} {x:V},Vals xs us→xs[i]? = some x→∃u,us[i]? = some u∧RelV x u
 | _,_,_,_,.nil,e=>by simp at e
 | _,_,0,_,.cons r _,e=>by simp at e;subst e;exact⟨_,rfl,r⟩
 | _,_,i+1,x,.cons _ t,e=>by
  obtain⟨u,h1,h2⟩:=Vals.get (i:=i) (x:=x) t (by simpa using e)
  exact⟨u,by simpa using h1,h2⟩
theorem Vals.set{x:V}{u:Value}(r:RelV x u):∀{xs:List V} {us:List Value} (i:Nat),Vals xs us→Vals (xs.set i x) (us.set i u)
 | _,_,_,.nil=> .nil
 | _,_,0,.cons _ t=> .cons r t
 | _,_,i+1,.cons q t=> .cons q (Vals.set r i t)
theorem Vals.append:∀{xs ys:List V} {us ws:List Value},Vals xs us→Vals ys ws→Vals (xs++ys) (us++ws)
 | _,_,_,_,.nil,s=>s
 | _,_,_,_,.cons r t,s=> .cons r (Vals.append t s)
theorem Vals.take:∀{xs:List V} {us:List Value} (n:Nat),Vals xs us→Vals (xs.take n) (us.take n)
 | _,_,0,_=> .nil
 | _,_,_+1,.nil=> .nil
 | _,_,n+1,.cons r t=> .cons r (Vals.take n t)
theorem Vals.drop:∀{xs:List V} {us:List Value} (n:Nat),Vals xs us→Vals (xs.drop n) (us.drop n)
 | _,_,0,r=>r
 | _,_,_+1,.nil=> .nil
 | _,_,n+1,.cons _ t=>Vals.drop n t
def yW:Option V→Option Value→Prop
 | some v,some u=>RelV v u
 | none,none=>True
 | _,_=>False
def KV{κ:Type}:List (κ×V)→List (κ×Value)→Prop:=Paired fun(p:κ×V) (q:κ×Value)=>p.1=q.1∧RelV p.2 q.2
def kV:Key→V
 | .inl i=> .int i
 | .inr x=> .str x
inductive HO where
 | lst (xs:List V)
 | tup (xs:List V)
 | dK (kvs:List (Key×V)) | dT (kvs:List (List Key×V))
 | set (S:Int→Bool) (n:Nat)
 | ins (C dx:Addr) (fs:List (Str×V))
 | own (x:Addr)
 | xd (fs:List (Str×V))
 | met (f x:Addr)
 | Jf (lo hi:Int)
 | Af (o:Obj) (u:HO)
 | V_ (ps:Array Value)
 | ext (φ:Heap→Prop)
abbrev Hp:=Addr→Option HO
def upd(H:Hp)(a:Addr)(o:HO):Hp:=fun b=>if b=a then some o else H b
theorem dm{H:Hp}{a:Addr}{o:HO}:upd H a o a=some o:=by unfold upd;rw[if_pos rfl]
theorem bw{H:Hp}{a b:Addr}{o:HO}(h:b≠a):upd H a o b=H b:=by unfold upd;rw[if_neg h]
theorem dD{H:Hp}{a b:Addr}{o:HO}(h:H a=some o)(h':H b=none):a≠b:=by
 intro e;subst e;rw[h]at h';cases h'
section
variable(P:Program)(w:World)
def gP(H:Hp)(h:Heap)(a:Addr):HO→Prop
 | .lst xs=>xs.length≤sizeLine∧∃(its:List Value) (n:Nat),Vals xs its∧h.get? a=some {cls:= .type "list",data:= .seq its.toArray n}
 | .tup xs=>xs.length≤sizeLine∧∃its:List Value,Vals xs its∧IsTup h a its.toArray
 | .dK kvs=>kvs.length≤sizeLine∧(a==sysModules)=false∧∃vs,KV kvs vs∧h.DictOf (oW P w) a vs
 | .dT kvs=>kvs.length≤sizeLine∧(a==sysModules)=false∧∃xs:List (List Key×Addr×Value),
   Paired (fun(p:List Key×V) (q:List Key×Addr×Value)=>p.1=q.1∧H q.2.1=some (.tup (p.1.map kV))∧RelV p.2 q.2.2) kvs xs∧
   ∃o es ep,h.get? a=some o∧o.ExactDict∧o.data= .dict es ep∧es.toList=xs.map (entryOfKey (tupleKind (oW P w)))∧(xs.map (·.1)).Nodup
 | .set S n=>h.SetOf (intKind P w) a S n
 | .ins C dx fs=>H dx=some (.own a)∧fs.length≤1000∧dx≠a∧h.get? a=some (PySem.W.instObj C dx)∧
   ∃mA,h.Ns1 dx mA∧(∀f,yW (fs.lookup f) (mA f))∧PySem.Within mA (fs.map (·.1))
 | .own _=>∃o,h.get? a=some o
 | .xd fs=>∃mA,h.Ns1 a mA∧∀f,yW (fs.lookup f) (mA f)
 | .Jf lo hi=>∃t u v,h.get? a=some {cls:= .type "range",data:= .fields #[.int lo t,.int hi u,.int 1 v]}
 | .Af o u=>h.get? a=some o∧gP H h a u
 | .V_ ps=>h.get? a=some {cls:= .none,data:= .fields ps}
 | .met f x=>h.get? a=some (PySem.W.methodObj (.ref f) (.ref x))
 | .ext φ=>φ h∧(∃o,h.get? a=some o)∧∀h1 h2:Heap,φ h1→(∀o,h1.get? a=some o→h2.get? a=some o)→φ h2
def vq(H:Hp)(h:Heap):Prop:=∀a o,H a=some o→gP P w H h a o
end
section
variable{P:Program}{w:World}{H H':Hp}{h h':Heap}{a:Addr}{o:HO}
theorem gP.lt(x:gP P w H h a o):a<h.objs.size:=by
 cases o with
 | lst xs=>obtain⟨_,_,_,_,e⟩:=x;exact Heap.lt_size e
 | tup xs=>obtain⟨_,_,_,p⟩:=x;exact p.lt
 | dK kvs=>obtain⟨_,_,_,_,o,_,_,e,_⟩:=x;exact Heap.lt_size e
 | dT kvs=>obtain⟨_,_,_,_,o,_,_,e,_⟩:=x;exact Heap.lt_size e
 | set S n=>obtain⟨o,_,_,_,e,_⟩:=x;exact Heap.lt_size e
 | ins C dx fs=>obtain⟨_,_,_,e,_⟩:=x;exact Heap.lt_size e
 | own y=>obtain⟨_,e⟩:=x;exact Heap.lt_size e
 | xd fs=>obtain⟨_,⟨_,_,_,e,_⟩,_⟩:=x;exact Heap.lt_size e
 | Jf lo hi=>obtain⟨_,_,_,e⟩:=x;exact Heap.lt_size e
 | Af ob u=>obtain⟨e,_⟩:=x;exact Heap.lt_size e
 | V_ ps=>exact Heap.lt_size (show h.get? a=some _ from x)
 | met f y=>exact Heap.lt_size (show h.get? a=some _ from x)
 | ext φ=>obtain⟨_,⟨_,e⟩,_⟩:=x;exact Heap.lt_size e
theorem Paired.adl{α β:Type}{F G:α→β→Prop}:∀{l₁:List α} {l₂:List β},Paired F l₁ l₂→(∀a b,F a b→G a b)→Paired G l₁ l₂
 | _,_,.nil,_=> .nil
 | _,_,.cons r t,f=> .cons (f _ _ r) (Paired.adl t f)
theorem gP.stay(x:gP P w H h a o)(k:∀b u,(b=a∨H b=some (.own a))→h.get? b=some u→h'.get? b=some u)
  (ho:∀b,H b=some (.own a)→H' b=some (.own a)) (ht:∀b xs,H b=some (.tup xs)→H' b=some (.tup xs)):gP P w H' h' a o:=by
 induction o with
 | lst xs=>obtain⟨z,its,n,r,e⟩:=x;exact⟨z,its,n,r,k _ _ (.inl rfl) e⟩
 | tup xs=>obtain⟨z,its,r,ob,e,c⟩:=x;exact⟨z,its,r,ob,k _ _ (.inl rfl) e,c⟩
 | dK kvs=>obtain⟨z,y,vs,r,ob,es,ep,e,c⟩:=x;exact⟨z,y,vs,r,ob,es,ep,k _ _ (.inl rfl) e,c⟩
 | dT kvs=>
  obtain⟨z,y,xs,r,ob,es,ep,e,c⟩:=x
  exact⟨z,y,xs,Paired.adl r fun p q z=>⟨z.1,ht _ _ z.2.1,z.2.2⟩,ob,es,ep,k _ _ (.inl rfl) e,c⟩
 | set S n=>obtain⟨ob,es,ep,t,e,c⟩:=x;exact⟨ob,es,ep,t,k _ _ (.inl rfl) e,c⟩
 | ins C dx fs=>
  obtain⟨d,z,ne,e,mA,⟨od,es,ep,e2,c⟩,r⟩:=x
  exact⟨ho _ d,z,ne,k _ _ (.inl rfl) e,mA,⟨od,es,ep,k _ _ (.inr d) e2,c⟩,r⟩
 | own y=>obtain⟨ob,e⟩:=x;exact⟨ob,k _ _ (.inl rfl) e⟩
 | xd fs=>obtain⟨mA,⟨od,es,ep,e,c⟩,r⟩:=x;exact⟨mA,⟨od,es,ep,k _ _ (.inl rfl) e,c⟩,r⟩
 | Jf lo hi=>obtain⟨t,u,v,e⟩:=x;exact⟨t,u,v,k _ _ (.inl rfl) e⟩
 | Af ob u ih=>obtain⟨e,q⟩:=x;exact⟨k _ _ (.inl rfl) e,ih q⟩
 | V_ ps=>
  have e:h.get? a=some {cls:= .none,data:= .fields ps}:=x
  show h'.get? a=some {cls:= .none,data:= .fields ps}
  exact k a _ (.inl rfl) e
 | met f y=>
  have e:h.get? a=some (PySem.W.methodObj (.ref f) (.ref y)):=x
  show h'.get? a=some (PySem.W.methodObj (.ref f) (.ref y))
  exact k a _ (.inl rfl) e
 | ext φ=>obtain⟨p,⟨o,e⟩,st⟩:=x;exact⟨st _ _ p fun o q=>k _ _ (.inl rfl) q,⟨o,k _ _ (.inl rfl) e⟩,st⟩
theorem vq.lt(x:vq P w H h)(e:H a=some o):a<h.objs.size:=(x a o e).lt
theorem vq.fresh(x:vq P w H h)(e:h.objs.size≤a):H a=none:=by
 cases q:H a with
 | none=>rfl
 | some u=>exact absurd (Nat.lt_of_lt_of_le (x.lt q) e) (Nat.lt_irrefl _)
theorem vq.kept(x:vq P w H h)(k:∀b u,h.get? b=some u→h'.get? b=some u):vq P w H h':=fun a o e=>
 (x a o e).stay (fun b u _ q=>k b u q) (fun _ q=>q) fun _ _ q=>q
theorem vq.laid(x:vq P w H h)(k:∀b u,h.get? b=some u→h'.get? b=some u)(hp:h.objs.size≤a)(new:gP P w (upd H a o) h' a o):vq P w (upd H a o) h':=fun b u e=>by
 have hn:=x.fresh hp
 by_cases hb:b=a
 ·subst hb;rw[dm]at e;cases e;exact new
 ·rw[bw hb]at e
  exact(x b u e).stay (fun c v _ q=>k c v q) (fun c q=>by rw[bw (dD q hn)];exact q) fun c xs q=>by rw[bw (dD q hn)];exact q
end
def Rd(H:Hp)(a:Addr)(u:HO):Prop:=H a=some u∨∃o,H a=some (.Af o u)
theorem Rd.ok{P:Program}{w:World}{H:Hp}{h:Heap}{a:Addr}{u:HO}(r:Rd H a u)(x:vq P w H h):gP P w H h a u:=by
 rcases r with r | ⟨o,r⟩
 ·exact x a u r
 ·obtain⟨_,q⟩:=x a _ r
  exact q
def Mut:Option HO→Prop
 | some (.lst _)=>True
 | some (.dK _)=>True
 | some (.dT _)=>True
 | some (.set _ _)=>True
 | some (.ins _ _ _)=>True
 | some (.ext _)=>True
 | _=>False
section
variable{P:Program}{w:World}{H:Hp}{h h':Heap}{x e:Addr}{o':HO}
theorem vq.write(ok:vq P w H h)(mu:Mut (H x))(he:e=x∨H e=some (.own x))(k:∀b u,b≠e→h.get? b=some u→h'.get? b=some u)(heo:∃u,h'.get? e=some u)
  (new:gP P w (upd H x o') h' x o'):vq P w (upd H x o') h':=fun b u q=>by
 have agH:∀c y,H c=some (.own y)→c≠x:=fun c y r z=>by subst z;rw[r]at mu;exact mu
 have anR:∀c xs,H c=some (.tup xs)→c≠x:=fun c xs r z=>by subst z;rw[r]at mu;exact mu
 by_cases hb:b=x
 ·subst hb;rw[dm]at q;cases q;exact new
 ·rw[bw hb]at q
  by_cases hbe:b=e
  ·have q':H b=some (.own x):=by
    rcases he with z | z
    ·exact absurd (hbe.trans z) hb
    ·rw[hbe];exact z
   rw[q]at q';cases q'
   obtain⟨v,hv⟩:=heo
   exact⟨v,by rw[hbe];exact hv⟩
  ·refine(ok b u q).stay (fun c v hc r=>k c v ?_ r) (fun c r=>by rw[bw (agH c b r)];exact r) fun c xs r=>by rw[bw (anR c xs r)];exact r
   rcases hc with rfl | hc
   ·exact hbe
   ·rintro rfl
    rcases he with z | z
    ·exact agH c b hc z
    ·rw[hc]at z;cases z;exact hb rfl
end
structure Un(fs ex:List Addr)(H H':Hp)(h h':Heap):Prop where
 keep:∀b o,h.get? b=some o→H b=none→b∉fs→b∉ex→h'.get? b=some o
 slot:∀b o,h.get? b=some o→H b=none→b∈fs→b∉ex→∃sl,h'.get? b=some {o with slots:=sl}
 free:∀b o,h.get? b=some o→H b=none→b∉ex→H' b=none
 there:∀b o,h.get? b=some o→b∉ex→∃o',h'.get? b=some o'
 tups:∀b xs,H b=some (.tup xs)→H' b=some (.tup xs)
 yS:∀b o u,H b=some (.Af o u)→H' b=some (.Af o u)
 y_:∀b ps,H b=some (.V_ ps)→∃more,H' b=some (.V_ (ps++more))
section
variable{fs fs' ex ex':List Addr}{H H1 H2:Hp}{h h1 h2 h':Heap}{a x e:Addr}{o:HO}
theorem Un.any(u:Un fs ex H H1 h h1){b:Addr}{ob:Obj}(q:h.get? b=some ob)(n:H b=none)(hx:b∉ex):∃sl,h1.get? b=some {ob with slots:=sl}:=by
 by_cases hb:b∈fs
 ·exact u.slot b ob q n hb hx
 ·exact⟨ob.slots,u.keep b ob q n hb hx⟩
theorem Un.trans(a:Un fs ex H H1 h h1)(b:Un fs ex H1 H2 h1 h2):Un fs ex H H2 h h2 where
 keep:=fun c ob q n hc hx=>b.keep c ob (a.keep c ob q n hc hx) (a.free c ob q n hx) hc hx
 slot:=fun c ob q n hc hx=>by
  obtain⟨sl,e1⟩:=a.slot c ob q n hc hx
  obtain⟨sl',e2⟩:=b.slot c _ e1 (a.free c ob q n hx) hc hx
  exact⟨sl',e2⟩
 free:=fun c ob q n hx=>by
  obtain⟨o',e1⟩:=a.there c ob q hx
  exact b.free c o' e1 (a.free c ob q n hx) hx
 there:=fun c ob q hx=>by
  obtain⟨o',e1⟩:=a.there c ob q hx
  exact b.there c o' e1 hx
 tups:=fun c xs q=>b.tups c xs (a.tups c xs q)
 yS:=fun c ob xs q=>b.yS c ob xs (a.yS c ob xs q)
 y_:=fun c ps q=>by
  obtain⟨m1,e1⟩:=a.y_ c ps q
  obtain⟨m2,e2⟩:=b.y_ c _ e1
  exact⟨m1++m2,by rw[e2,Array.append_assoc]⟩
theorem Un.kept(k:∀b u,h.get? b=some u→h'.get? b=some u):Un fs ex H H h h':=
 ⟨fun b ob q _ _ _=>k b ob q,fun b ob q _ _ _=>⟨ob.slots,k b ob q⟩,fun _ _ _ n _=>n,fun b ob q _=>⟨ob,k b ob q⟩,fun _ _ q=>q,fun _ _ _ q=>q,fun _ ps q=>⟨#[],by rw[q];simp⟩⟩
theorem Un.refl:Un fs ex H H h h:=Un.kept fun _ _ q=>q
theorem Un.laid(k:∀b u,h.get? b=some u→h'.get? b=some u)(hp:h.objs.size≤a)(hn:H a=none):Un fs ex H (upd H a o) h h' where
 keep:=fun b u q _ _ _=>k b u q
 slot:=fun b u q _ _ _=>⟨u.slots,k b u q⟩
 free:=fun b u q n _=>by rw[bw (Nat.ne_of_lt (Nat.lt_of_lt_of_le (Heap.lt_size q) hp))];exact n
 there:=fun b u q _=>⟨u,k b u q⟩
 tups:=fun b xs q=>by rw[bw (dD q hn)];exact q
 yS:=fun b u xs q=>by rw[bw (dD q hn)];exact q
 y_:=fun b ps q=>⟨#[],by rw[bw (dD q hn),q];simp⟩
theorem Un.write(mu:Mut (H x))(he:e=x∨H e=some (.own x))(k:∀b u,b≠e→h.get? b=some u→h'.get? b=some u)(heo:∃u,h'.get? e=some u):Un fs ex H (upd H x o) h h':=by
 have hx:∀b,H b=none→b≠x:=fun b n z=>by subst z;rw[n]at mu;exact mu
 have hb:∀b,H b=none→b≠e:=fun b n z=>by
  subst z
  rcases he with r | r
  ·exact hx b n r
  ·rw[n]at r;cases r
 have hm:∀b u,H b=some u→¬Mut (some u)→b≠x:=fun b u q nm z=>by subst z;rw[q]at mu;exact nm mu
 refine⟨fun b u q n _ _=>k b u (hb b n) q,fun b u q n _ _=>⟨u.slots,k b u (hb b n) q⟩,fun b u q n _=>by rw[bw (hx b n)];exact n,fun b u q _=> ?_,
  fun b xs q=>by rw[bw (hm b _ q fun z=>z)];exact q,fun b u xs q=>by rw[bw (hm b _ q fun z=>z)];exact q,fun b ps q=>⟨#[],by rw[bw (hm b _ q fun z=>z),q];simp⟩⟩
 by_cases hbe:b=e
 ·subst hbe;exact heo
 ·exact⟨u,k b u hbe q⟩
end
def trk(h:Heap)(H:Hp):List Addr:=(List.range h.objs.size).filter fun a=>(H a).isSome
def Ls(h:Heap)(H:Hp):Heap:=PySem.W.hideAll h (trk h H)
theorem Vk(h:Heap)(H:Hp):(Ls h H).objs.size=h.objs.size:=PySem.W.hideAll_size _ _
theorem X_{h:Heap}{H:Hp}{b:Addr}{o:Obj}(e:h.get? b=some o)(n:H b=none):(Ls h H).get? b=some o:=
 PySem.W.hideAll_get _ e fun hm=>by
  have q:(H b).isSome=true:=(List.mem_filter.mp hm).2
  rw[n]at q;simp at q
theorem aag{h:Heap}{H:Hp}{b:Addr}{o:Obj}(e:(Ls h H).get? b=some o):h.get? b=some o∧H b=none:=by
 have e':h.get? b=some o:=PySem.W.of_hideAll (trk h H) e
 refine⟨e',?_⟩
 cases q:H b with
 | none=>rfl
 | some x=>
  have hm:b∈trk h H:=List.mem_filter.mpr ⟨List.mem_range.mpr (Heap.lt_size e'),by simp[q]⟩
  have z:(Ls h H).get? b=none:=PySem.W.hideAll_none (trk h H) hm
  rw[z]at e;cases e
def aaZ(g h:Heap)(L:Addr):List (Addr×Obj):=(List.range h.objs.size).filterMap fun a=>if a=L∨(g.get? a).isSome=true then none else(h.get? a).map fun o=>(a,o)
def rest(g h:Heap)(L d:Addr):List (Addr×Obj):=(aaZ g h L).filter fun p=>decide (p.1≠d)
end L2
namespace L2
open PySem PySem.Spec PyProof.Rows
structure Mod(K:PySem.W.Frag)(mg:Str→Option Value)(base:Heap):Prop where
 kin:K.In base
 glob:base.Ns mainGlobals mg
 blt:∃mb,base.Ns builtinsNs mb∧∀x:Str,x≠ "__name__" → mb x=bootBuiltins x
 nolimit:base.NoLimit
structure Cx where
 prog:Program
 w:World
 K:PySem.W.Frag
 mg:Str→Option Value
 base:Heap
 A:Around
 N:List Str
 s₀:Shared
 H₀:Hp
 env:Env
 outer:List Env
 stack:List Env
 ex:List Addr
 fn:Str→Bool
 calm:Bool
 pn:List (Addr×Obj)
 xe:Value→Shared→Prop
def frs(l:List Env):List Addr:=l.filterMap (·.frame)
abbrev Cx.fs(X:Cx):List Addr:=frs X.outer
def Vis(sc:Scope)(x:Str):Prop:=sc.names.lookup x=some .local∨sc.names.lookup x=some .cell∨sc.names.lookup x=some .free
def Loc(sc:Scope)(x:Str):Prop:=sc.names.lookup x=some .local∨sc.names.lookup x=some .cell
def Look(env:Env)(h:Heap)(m:Str→Option Value)(x:Str)(u:Value):Prop:=
 (env.kindOf x=some .local∧m x=some u)∨((env.kindOf x=some .cell∨env.kindOf x=some .free)∧∃c,env.cells.lookup x=some c∧h.IsCell c (some u))
structure Cx.Ok(X:Cx):Prop where
 mod:Mod X.K X.mg X.base
 kind:X.env.scope.kind= .function
 glob:X.env.globals=mainGlobals
 blt:X.env.builtins=builtinsNs
 above:X.s₀.heap.objs.size≤X.env.locals
 inj:∀x y c,X.env.cells.lookup x=some c→X.env.cells.lookup y=some c→x=y
 has:∀x,(X.env.kindOf x=some .cell∨X.env.kindOf x=some .free)→∃c,X.env.cells.lookup x=some c
 cab:∀x c,X.fn x=true→X.env.cells.lookup x=some c→X.s₀.heap.objs.size≤c
 hd:X.calm=true→X.A.handled=none
 frames:X.A.frames=some X.stack
 stk:X.stack=X.outer∨(X.stack=X.env::X.outer∧X.env.frame=some X.env.locals)
 exf:∀b∈X.ex,b≠X.env.locals∧∀x c,X.env.cells.lookup x=some c→c≠b
 bs:∀b o,X.base.get? b=some o→X.s₀.heap.get? b=some o∧X.H₀ b=none
 PL:X.base.objs.size≤X.s₀.heap.objs.size
 K3:∀b o,X.base.get? b=some o→b∉X.ex
 Lz:∀b∈X.ex,b∉X.fs
 zJ:X.s₀.heap.FunFrames X.base X.outer
 Ye:∀b∈X.fs,X.H₀ b=none
structure Inv(X:Cx)(pins:List (Addr×Obj))(σ:List (Option V))(H:Hp)(s:Shared):Prop where
 ok:X.Ok
 os:s.os=X.s₀.os
 bare:AllBare s.gens
 base:Un X.fs X.ex X.H₀ H X.s₀.heap s.heap
 loc:∃m,s.heap.Ns X.env.locals m∧∀(i:Nat) (x:Str) (v:V),X.N[i]? = some x→σ[i]? = some (some v)→Vis X.env.scope x→∃u,RelV v u∧Look X.env s.heap m x u
 cell:∀x c,X.env.cells.lookup x=some c→∃v,s.heap.IsCell c v
 free:H X.env.locals=none
 pB:∀x c,X.env.cells.lookup x=some c→H c=none
 pin:∀p∈X.pn++pins,s.heap.get? p.1=some p.2∧H p.1=none∧p.1≠X.env.locals∧p.1∉X.fs∧∀v,p.2.data≠ .cell v
 hok:vq X.prog X.w H s.heap
 len:σ.length=X.N.length
section
variable{X:Cx}{pins:List (Addr×Obj)}{σ:List (Option V)}{H H':Hp}{s:Shared}{h':Heap}
theorem Cx.Ok.anT(ok:X.Ok){b:Addr}{o:Obj}(e:X.base.get? b=some o):b∉X.fs:=fun hb=>by
 have:=(ok.zJ.mem hb).1
 rw[e]at this;cases this
theorem Inv.bs(I:Inv X pins σ H s):∀b o,X.base.get? b=some o→s.heap.get? b=some o∧H b=none:=fun b o e=>
 ⟨I.base.keep b o (I.ok.bs b o e).1 (I.ok.bs b o e).2 (I.ok.anT e) (I.ok.K3 b o e),I.base.free b o (I.ok.bs b o e).1 (I.ok.bs b o e).2 (I.ok.K3 b o e)⟩
theorem Inv.bk(I:Inv X pins σ H s):∀b o,X.base.get? b=some o→s.heap.get? b=some o:=fun b o e=>(I.bs b o e).1
theorem Inv.mod(I:Inv X pins σ H s):Mod X.K X.mg X.base:=I.ok.mod
theorem Inv.ye(I:Inv X pins σ H s):X.K.In s.heap:=I.ok.mod.kin.keeps I.bk
theorem Inv.nolimit(I:Inv X pins σ H s):s.heap.NoLimit:=I.ok.mod.nolimit.keeps I.bk
theorem Inv.fr(I:Inv X pins σ H s):∃m,Fr X.base X.env.locals s.heap m:=
 let⟨m,hn,_⟩:=I.loc
 ⟨m,hn,I.bk,Nat.le_trans I.ok.PL I.ok.above⟩
theorem Inv.lt(I:Inv X pins σ H s):X.env.locals<s.heap.objs.size:=let⟨_,hn,_⟩:=I.loc;hn.lt
theorem Inv.sz(I:Inv X pins σ H s):X.s₀.heap.objs.size≤s.heap.objs.size:=Nat.le_trans I.ok.above (Nat.le_of_lt I.lt)
theorem Inv.anS(I:Inv X pins σ H s){a:Addr}(h:s.heap.objs.size≤a):a∉X.fs:=fun hb=>by
 obtain⟨_,o,ho,_⟩:=I.ok.zJ.mem hb
 exact absurd (Nat.lt_of_lt_of_le (Heap.lt_size ho) (Nat.le_trans I.sz h)) (Nat.lt_irrefl _)
theorem Inv.cne(I:Inv X pins σ H s):∀x c,X.env.cells.lookup x=some c→c≠X.env.locals:=fun x c e z=>by
 obtain⟨v,o,ho,hd⟩:=I.cell x c e
 obtain⟨m,⟨o',es,ep,ho',hd',_⟩,_⟩:=I.loc
 rw[z,ho']at ho;cases ho;rw[hd']at hd;cases hd
theorem Inv.zJ(I:Inv X pins σ H s):s.heap.FunFrames X.base X.outer:=by
 have all:∀(l:List Env),(∀b∈frs l,b∈X.fs)→X.s₀.heap.FunFrames X.base l→s.heap.FunFrames X.base l:=by
  intro l
  induction l with
  | nil=>intro _ _;trivial
  | cons env r ih=>
   intro hs hl
   obtain⟨hk,⟨L,o,hf,hn,ho,hd⟩,hr⟩:=hl
   have hL:L∈X.fs:=hs L (by unfold frs;rw[List.filterMap_cons,hf];exact List.mem_cons_self)
   obtain⟨sl,e⟩:=I.base.slot L o ho (I.ok.Ye L hL) hL fun z=>I.ok.Lz L z hL
   exact⟨hk,⟨L,_,hf,hn,e,hd⟩,ih (fun b hb=>hs b (by unfold frs;rw[List.filterMap_cons,hf];exact List.mem_cons_of_mem _ hb)) hr⟩
 exact all X.outer (fun _ hb=>hb) I.ok.zJ
theorem Inv.stack(I:Inv X pins σ H s):s.heap.FunFrames X.base X.stack:=by
 rcases I.ok.stk with e | ⟨e,hf⟩
 ·rw[e];exact I.zJ
 ·rw[e]
  obtain⟨m,hn,_⟩:=I.loc
  refine .cons (by rw[I.ok.kind];decide) hf hn ?_ I.zJ
  exact Heap.get?_none_of_le (Nat.le_trans I.ok.PL I.ok.above)
theorem Inv.Gn(I:Inv X pins σ H s):∀b∈frs X.stack,b∈X.env.locals::X.fs:=fun b hb=>by
 rcases I.ok.stk with e | ⟨e,hf⟩
 ·rw[e]at hb;exact List.mem_cons_of_mem _ hb
 ·rw[e]at hb
  unfold frs at hb
  rw[List.filterMap_cons,hf]at hb
  exact hb
theorem Inv.Bw(I:Inv X pins σ H s):∀b∈frs X.stack,H b=none:=fun b hb=>by
 rcases List.mem_cons.mp (I.Gn b hb)with e | hb
 ·rw[e];exact I.free
 ·obtain⟨_,o,ho,_⟩:=I.ok.zJ.mem hb
  exact I.base.free b o ho (I.ok.Ye b hb) fun z=>I.ok.Lz b z hb
theorem Inv.step{g':Array GenState}{t':Nat}{d':Drawn}{ch:List Addr}(I:Inv X pins σ H s)
  (hch:∀b∈ch,(b∈X.ex∨X.s₀.heap.objs.size≤b)∧b≠X.env.locals∧(∀x c,X.env.cells.lookup x=some c→c≠b)∧∀p∈X.pn++pins,p.1≠b)
  (keep:∀b o,b≠X.env.locals→b∉X.fs→b∉ch→s.heap.get? b=some o→H b=none→h'.get? b=some o)
  (slot:∀b o,b≠X.env.locals→b∈X.fs→b∉ch→s.heap.get? b=some o→H b=none→∃sl,h'.get? b=some {o with slots:=sl}) (free:∀b o,b∉ch→s.heap.get? b=some o→H b=none→H' b=none)
  (there:∀b o,b∉ch→s.heap.get? b=some o→∃o',h'.get? b=some o')
  (tups:∀b xs,H b=some (.tup xs)→H' b=some (.tup xs)) (yS:∀b o u,H b=some (.Af o u)→H' b=some (.Af o u)) (y_:∀b ps,H b=some (.V_ ps)→∃more,H' b=some (.V_ (ps++more)))
  (ns:∀m,s.heap.Ns X.env.locals m→h'.Ns X.env.locals m) (hok:vq X.prog X.w H' h') (hg:AllBare g'):
  Inv X pins σ H' {s with heap:=h',gens:=g',drawn:=d',toks:=t'}:=by
 have neL:∀b o,X.s₀.heap.get? b=some o→b≠X.env.locals:=fun b o e=>Nat.ne_of_lt (Nat.lt_of_lt_of_le (Heap.lt_size e) I.ok.above)
 have Xv:∀b o,X.s₀.heap.get? b=some o→b∉X.ex→b∉ch:=fun b o e hx hb=>by
  rcases(hch b hb).1 with z | z
  ·exact hx z
  ·exact absurd (Nat.lt_of_lt_of_le (Heap.lt_size e) z) (Nat.lt_irrefl _)
 have cellK:∀x c,X.env.cells.lookup x=some c→∀v,s.heap.IsCell c v→h'.IsCell c v:=fun x c e v ⟨o,ho,hd⟩=>by
  have nch:c∉ch:=fun z=>(hch c z).2.2.1 x c e rfl
  by_cases hc:c∈X.fs
  ·obtain⟨sl,q⟩:=slot c o (I.cne x c e) hc nch ho (I.pB x c e)
   exact⟨_,q,hd⟩
  ·exact⟨o,keep c o (I.cne x c e) hc nch ho (I.pB x c e),hd⟩
 refine⟨I.ok,I.os,hg,⟨fun b o e n hb hx=> ?_,fun b o e n hb hx=> ?_,fun b o e n hx=> ?_,fun b o e hx=> ?_,fun b xs e=>tups b xs (I.base.tups b xs e),fun b o xs e=>yS b o xs (I.base.yS b o xs e),fun b ps e=> ?_⟩,?_,fun x c e=> ?_,?_,fun x c e=> ?_,fun p hp=> ?_,hok,I.len⟩
 ·exact keep b o (neL b o e) hb (Xv b o e hx) (I.base.keep b o e n hb hx) (I.base.free b o e n hx)
 ·obtain⟨sl,e1⟩:=I.base.slot b o e n hb hx
  obtain⟨sl',e2⟩:=slot b _ (neL b o e) hb (Xv b o e hx) e1 (I.base.free b o e n hx)
  exact⟨sl',e2⟩
 ·obtain⟨o',e1⟩:=I.base.there b o e hx
  exact free b o' (Xv b o e hx) e1 (I.base.free b o e n hx)
 ·obtain⟨o',e1⟩:=I.base.there b o e hx
  exact there b o' (Xv b o e hx) e1
 ·obtain⟨m1,e1⟩:=I.base.y_ b ps e
  obtain⟨m2,e2⟩:=y_ b _ e1
  exact⟨m1++m2,by rw[e2,Array.append_assoc]⟩
 ·obtain⟨m,hn,hl⟩:=I.loc
  refine⟨m,ns m hn,fun i x v e1 e2 e3=> ?_⟩
  obtain⟨u,r,l⟩:=hl i x v e1 e2 e3
  refine⟨u,r,?_⟩
  rcases l with l | ⟨k,c,e,z⟩
  ·exact .inl l
  ·exact .inr ⟨k,c,e,cellK x c e _ z⟩
 ·obtain⟨v,z⟩:=I.cell x c e
  exact⟨v,cellK x c e v z⟩
 ·obtain⟨m,⟨o,_,_,ho,_⟩,_⟩:=I.loc
  exact free _ o (fun z=>(hch _ z).2.1 rfl) ho I.free
 ·obtain⟨v,o,ho,hd⟩:=I.cell x c e
  exact free c o (fun z=>(hch c z).2.2.1 x c e rfl) ho (I.pB x c e)
 ·obtain⟨e,n,ne,nf,d⟩:=I.pin p hp
  have nch:p.1∉ch:=fun z=>(hch p.1 z).2.2.2 p hp rfl
  exact⟨keep p.1 p.2 ne nf nch e n,free p.1 p.2 nch e n,ne,nf,d⟩
theorem Inv.un{t':Nat}(I:Inv X pins σ H s)(u:Un X.fs [] H H' s.heap h')(hok:vq X.prog X.w H' h'):Inv X pins σ H' {s with heap:=h',toks:=t'}:=by
 obtain⟨m,⟨o,es,ep,ho,r⟩,_⟩:=id I.loc
 obtain⟨sl,hL⟩:=u.any ho I.free (by simp)
 exact I.step (g':=s.gens) (d':=s.drawn) (ch:=[]) (fun _ z=>nomatch z) (fun b o _ hb _ e n=>u.keep b o e n hb (by simp)) (fun b o _ hb _ e n=>u.slot b o e n hb (by simp)) (fun b o _ e n=>u.free b o e n (by simp)) (fun b o _ e=>u.there b o e (by simp)) u.tups u.yS u.y_ (fun m' hm=>by
  obtain⟨o',es',ep',ho',r'⟩:=hm
  rw[ho]at ho';cases ho'
  exact⟨_,es',ep',hL,r'⟩) hok I.bare
theorem Inv.call{g':Array GenState}{t':Nat}{d':Drawn}{ch:List Addr}(I:Inv X pins σ H s)(u:Un (frs X.stack) ch H H' s.heap h')(hok:vq X.prog X.w H' h')(hg:AllBare g')
  (hch:∀b∈ch,(b∈X.ex∨X.s₀.heap.objs.size≤b)∧b≠X.env.locals∧(∀x c,X.env.cells.lookup x=some c→c≠b)∧∀p∈X.pn++pins,p.1≠b):
  Inv X pins σ H' {s with heap:=h',gens:=g',drawn:=d',toks:=t'}:=by
 obtain⟨m,⟨o,es,ep,ho,r⟩,_⟩:=id I.loc
 obtain⟨sl,hL⟩:=u.any ho I.free fun z=>(hch _ z).2.1 rfl
 exact I.step (ch:=ch) hch (fun b o hL hb hc e n=>u.keep b o e n (fun z=>(List.mem_cons.mp (I.Gn b z)).elim hL hb) hc) (fun b o _ _ hc e n=>u.any e n hc) (fun b o hc e n=>u.free b o e n hc) (fun b o hc e=>u.there b o e hc) u.tups u.yS u.y_ (fun m' hm=>by
  obtain⟨o',es',ep',ho',r'⟩:=hm
  rw[ho]at ho';cases ho'
  exact⟨_,es',ep',hL,r'⟩) hok hg
theorem Inv.turned{t':Nat}{it:Addr}(I:Inv X pins σ H s)(k:∀b o,b≠it→s.heap.get? b=some o→h'.get? b=some o)(hn:H it=none)(hL:it≠X.env.locals)
  (h1:it∈X.ex∨X.s₀.heap.objs.size≤it) (h2:∀x c,X.env.cells.lookup x=some c→c≠it) (h3:∀p∈X.pn++pins,p.1≠it):Inv X pins σ H {s with heap:=h',toks:=t'}:=by
 have nit:∀b u,H b=some u→b≠it:=fun b u e z=>by rw[z,hn]at e;cases e
 refine I.step (g':=s.gens) (d':=s.drawn) (ch:=[it]) (fun b hb=> ?_) (fun b o _ _ hc e _=>k b o (fun z=>hc (by simp[z])) e) (fun b o _ _ hc e _=>⟨o.slots,k b o (fun z=>hc (by simp[z])) e⟩) (fun _ _ _ _ n=>n)
  (fun b o hc e=>⟨o,k b o (fun z=>hc (by simp[z])) e⟩) (fun _ _ e=>e) (fun _ _ _ e=>e) (fun b ps e=>⟨#[],by rw[e];simp⟩) (fun m hm=> ?_) (fun b u e=> ?_) I.bare
 ·have e:b=it:=by simpa using hb
  subst e
  exact⟨h1,hL,h2,h3⟩
 ·obtain⟨o,es,ep,ho,r⟩:=hm
  exact⟨o,es,ep,k _ o (Ne.symm hL) ho,r⟩
 ·refine(I.hok b u e).stay (fun c v hc q=>k c v ?_ q) (fun _ q=>q) fun _ _ q=>q
  rcases hc with z | z
  ·rw[z];exact nit b u e
  ·exact nit c _ z
theorem Inv.tok(I:Inv X pins σ H s)(t:Nat):Inv X pins σ H {s with toks:=t}:=I.un (h':=s.heap) (t':=t) Un.refl I.hok
theorem Inv.kept{t':Nat}(I:Inv X pins σ H s)(k:∀b u,s.heap.get? b=some u→h'.get? b=some u):Inv X pins σ H {s with heap:=h',toks:=t'}:=I.un (Un.kept k) (I.hok.kept k)
theorem Inv.laid{a:Addr}{o:HO}{t':Nat}(I:Inv X pins σ H s)(k:∀b u,s.heap.get? b=some u→h'.get? b=some u)(hp:s.heap.objs.size≤a)(new:gP X.prog X.w (upd H a o) h' a o):
  Inv X pins σ (upd H a o) {s with heap:=h',toks:=t'}:=I.un (Un.laid k hp (I.hok.fresh hp)) (I.hok.laid k hp new)
theorem Inv.write{x e:Addr}{o:HO}{t':Nat}(I:Inv X pins σ H s)(mu:Mut (H x))(he:e=x∨H e=some (.own x))(k:∀b u,b≠e→s.heap.get? b=some u→h'.get? b=some u)(heo:∃u,h'.get? e=some u)
  (new:gP X.prog X.w (upd H x o) h' x o):Inv X pins σ (upd H x o) {s with heap:=h',toks:=t'}:=I.un (Un.write mu he k heo) (I.hok.write mu he k heo new)
theorem Inv.weak{σ':List (Option V)}(I:Inv X pins σ H s)(hl:σ'.length=σ.length)(w:∀(i:Nat) v,σ'[i]? = some (some v)→σ[i]? = some (some v)):Inv X pins σ' H s:=
 ⟨I.ok,I.os,I.bare,I.base,let⟨m,hn,hl'⟩:=I.loc;⟨m,hn,fun i x v e1 e2 e3=>hl' i x v e1 (w i v e2) e3⟩,I.cell,I.free,I.pB,I.pin,I.hok,hl.trans I.len⟩
theorem Inv.xU{vI:List (Addr×Obj)}(I:Inv X pins σ H s)(h:∀p∈vI,s.heap.get? p.1=some p.2∧H p.1=none∧p.1≠X.env.locals∧p.1∉X.fs∧∀v,p.2.data≠ .cell v):Inv X vI σ H s:=
 ⟨I.ok,I.os,I.bare,I.base,I.loc,I.cell,I.free,I.pB,fun p hp=>(List.mem_append.mp hp).elim (fun z=>I.pin p (List.mem_append_left _ z)) (h p),I.hok,I.len⟩
theorem G7{N:List Str}(hN:N.Nodup){i j:Nat}{x:Str}(a:N[i]? = some x)(b:N[j]? = some x):i=j:=by
 obtain⟨h1,e1⟩:=List.getElem?_eq_some_iff.mp a
 obtain⟨h2,e2⟩:=List.getElem?_eq_some_iff.mp b
 exact(List.getElem_inj hN).mp (e1.trans e2.symm)
theorem Dk{M:Model}{A:Around}{E:Value→Shared→Prop}{i:Nat}{x:Str}{v:V}{u:Value}{Q:Unit→Shared→Prop}(I:Inv X pins σ H s)(hN:X.N.Nodup)(hi:X.N[i]? = some x)(hx:Loc X.env.scope x)(r:RelV v u)
  (h:∀s',Inv X pins (σ.set i (some v)) H s'→(∃a,Heap.SameBut a s.heap s'.heap∧(a=X.env.locals∨X.env.cells.lookup x=some a))→Q () s') (hf:X.fn x=true∨X.env.scope.names.lookup x=some .local:=by first | exact .inl rfl | exact .inr rfl | assumption):wpAny M A (storeName X.env x u) Q E s:=by
 obtain⟨m,hn,hl⟩:=id I.loc
 have hcls:(X.env.scope.kind== .class||(X.env.scope.kind== .module&&X.env.locals != X.env.globals))=false:=by rw[I.ok.kind];rfl
 have ahC:i<σ.length:=by rw[I.len];exact(List.getElem?_eq_some_iff.mp hi).1
 have cne:=I.cne
 have tracked:∀{a:Addr} {h':Heap},(∃o,s.heap.get? a=some o∧H a=none)→Heap.SameBut a s.heap h'→vq X.prog X.w H h':=fun{a h'} ha hs b ob e=>by
  obtain⟨_,_,hfree⟩:=ha
  refine(I.hok b ob e).stay (fun c w' hc q=>(hs.2 c ?_).trans q) (fun _ q=>q) fun _ _ q=>q
  rintro rfl
  rcases hc with rfl | hc
  ·rw[hfree]at e;cases e
  ·rw[hfree]at hc;cases hc
 rcases hx with hk | hk
 ·refine wpAny_storeName_local hk hn (fun h' hn' hs=> ?_) hcls
  obtain⟨oL,_,_,hoL,_⟩:=id hn
  refine h _ ⟨I.ok,I.os,I.bare,⟨fun b o e n hb hx=> ?_,fun b o e n hb hx=> ?_,I.base.free,fun b o e hx=> ?_,I.base.tups,I.base.yS,I.base.y_⟩,⟨_,hn',fun j y v' e1 e2 e3=> ?_⟩,fun y c e=> ?_,I.free,I.pB,fun p hp=> ?_,tracked ⟨oL,hoL,I.free⟩ hs,by simpa using I.len⟩ ⟨_,hs,.inl rfl⟩
  ·exact(hs.2 b (Nat.ne_of_lt (Nat.lt_of_lt_of_le (Heap.lt_size e) I.ok.above))).trans (I.base.keep b o e n hb hx)
  ·obtain⟨sl,e1⟩:=I.base.slot b o e n hb hx
   exact⟨sl,(hs.2 b (Nat.ne_of_lt (Nat.lt_of_lt_of_le (Heap.lt_size e) I.ok.above))).trans e1⟩
  ·obtain⟨o',e1⟩:=I.base.there b o e hx
   exact⟨o',(hs.2 b (Nat.ne_of_lt (Nat.lt_of_lt_of_le (Heap.lt_size e) I.ok.above))).trans e1⟩
  ·by_cases hj:j=i
   ·subst hj
    rw[hi]at e1;cases e1
    rw[List.getElem?_set_self ahC]at e2
    cases e2
    exact⟨u,r,.inl ⟨hk,by simp⟩⟩
   ·rw[List.getElem?_set_ne (Ne.symm hj)]at e2
    obtain⟨u',r',q⟩:=hl j y v' e1 e2 e3
    refine⟨u',r',?_⟩
    rcases q with⟨k,e⟩ | ⟨k,c,e,z⟩
    ·refine .inl ⟨k,?_⟩
     have:y≠x:=fun e=>hj (G7 hN e1 (e▸hi))
     simp[this,e]
    ·exact .inr ⟨k,c,e,z.sameBut hs (cne y c e)⟩
  ·obtain⟨w',z⟩:=I.cell y c e
   exact⟨w',z.sameBut hs (cne y c e)⟩
  ·obtain⟨e,n,ne,nf,d⟩:=I.pin p hp
   exact⟨(hs.2 p.1 ne).trans e,n,ne,nf,d⟩
 ·have hfn:X.fn x=true:=by
   rcases hf with z | z
   ·exact z
   ·rw[z]at hk;cases hk
  obtain⟨c,hc⟩:=I.ok.has x (.inl hk)
  obtain⟨w',z⟩:=I.cell x c hc
  refine wpAny_storeName_cell I.ok.kind hk hc z (fun h' hc' hs=> ?_)
  obtain⟨oc,hoc,aoo⟩:=id z
  refine h {s with heap:=h'} ⟨I.ok,I.os,I.bare,⟨fun b o e n hb hx=> ?_,fun b o e n hb hx=> ?_,I.base.free,fun b o e hx=> ?_,I.base.tups,I.base.yS,I.base.y_⟩,⟨m,hn.sameBut hs (Ne.symm (cne x c hc)),fun j y v' e1 e2 e3=> ?_⟩,fun y c' e=> ?_,I.free,I.pB,fun p hp=> ?_,tracked ⟨oc,hoc,I.pB x c hc⟩ hs,by simpa using I.len⟩ ⟨c,hs,.inr hc⟩
  ·exact(hs.2 b (Nat.ne_of_lt (Nat.lt_of_lt_of_le (Heap.lt_size e) (I.ok.cab x c hfn hc)))).trans (I.base.keep b o e n hb hx)
  ·obtain⟨sl,e1⟩:=I.base.slot b o e n hb hx
   exact⟨sl,(hs.2 b (Nat.ne_of_lt (Nat.lt_of_lt_of_le (Heap.lt_size e) (I.ok.cab x c hfn hc)))).trans e1⟩
  ·obtain⟨o',e1⟩:=I.base.there b o e hx
   exact⟨o',(hs.2 b (Nat.ne_of_lt (Nat.lt_of_lt_of_le (Heap.lt_size e) (I.ok.cab x c hfn hc)))).trans e1⟩
  ·by_cases hj:j=i
   ·subst hj
    rw[hi]at e1;cases e1
    rw[List.getElem?_set_self ahC]at e2
    cases e2
    exact⟨u,r,.inr ⟨.inl hk,c,hc,hc'⟩⟩
   ·rw[List.getElem?_set_ne (Ne.symm hj)]at e2
    obtain⟨u',r',q⟩:=hl j y v' e1 e2 e3
    refine⟨u',r',?_⟩
    rcases q with q | ⟨k,c',e,z'⟩
    ·exact .inl q
    ·refine .inr ⟨k,c',e,z'.sameBut hs ?_⟩
     rintro rfl
     exact hj (G7 hN e1 (I.ok.inj _ _ _ e hc▸hi))
  ·by_cases hcc:c'=c
   ·subst hcc;exact⟨_,hc'⟩
   ·obtain⟨w2,z2⟩:=I.cell y c' e
    exact⟨w2,z2.sameBut hs hcc⟩
  ·obtain⟨e,n,ne,nf,d⟩:=I.pin p hp
   refine⟨(hs.2 p.1 ?_).trans e,n,ne,nf,d⟩
   intro q
   rw[q,hoc]at e
   have q':oc=p.2:=Option.some.inj e
   exact d w' (by rw[←q'];exact aoo)
theorem wC{M:Model}{A:Around}{E:Value→Shared→Prop}{i:Nat}{x:Str}{v:V}{u:Value}{Q:Unit→Shared→Prop}(I:Inv X pins σ H s)(hN:X.N.Nodup)(hi:X.N[i]? = some x)(hx:Loc X.env.scope x)(r:RelV v u)
  (h:∀s',Inv X pins (σ.set i (some v)) H s'→Q () s') (hf:X.fn x=true∨X.env.scope.names.lookup x=some .local:=by first | exact .inl rfl | exact .inr rfl | assumption):wpAny M A (storeName X.env x u) Q E s:=
 Dk I hN hi hx r (fun s' I' _=>h s' I') hf
theorem Inv.call'{s':Shared}{ch:List Addr}(I:Inv X pins σ H s)(ho:s'.os=s.os)(u:Un (frs X.stack) ch H H' s.heap s'.heap)(hok:vq X.prog X.w H' s'.heap)(hg:AllBare s'.gens)
  (hch:∀b∈ch,(b∈X.ex∨X.s₀.heap.objs.size≤b)∧b≠X.env.locals∧(∀x c,X.env.cells.lookup x=some c→c≠b)∧∀p∈X.pn++pins,p.1≠b):Inv X pins σ H' s':=by
 obtain⟨h',g',d',t',o'⟩:=s'
 have e:o'=s.os:=ho
 subst e
 exact I.call (g':=g') (t':=t') (d':=d') u hok hg hch
end
abbrev XK:=Value→Option Addr→Hp→Prop
abbrev St:=List (Option V)
abbrev VK:=V→Hp→Prop
abbrev TE:=St→Hp→VK→Prop
abbrev TT:=St→Hp→(Bool→Hp→Prop)→Prop
abbrev TA:=St→Hp→(List V→Hp→Prop)→Prop
structure Ends where
 nx:St→Hp→Prop
 rt:VK
 bk:St→Hp→Prop:=fun _ _=>False
 ct:St→Hp→Prop:=fun _ _=>False
abbrev TS:=Ends→St→Hp→Prop
def EP(X:Cx)(pins:List (Addr×Obj))(σ:St)(Q:VK)(u:Value)(s':Shared):Prop:=∃v H',Inv X pins σ H' s'∧RelV v u∧Q v H'
def TP(X:Cx)(pins:List (Addr×Obj))(σ:St)(Q:Bool→Hp→Prop)(b:Bool)(s':Shared):Prop:=∃H',Inv X pins σ H' s'∧Q b H'
def AP(X:Cx)(pins:List (Addr×Obj))(σ:St)(Q:List V→Hp→Prop)(us:List Value)(s':Shared):Prop:=∃vs H',Inv X pins σ H' s'∧Vals vs us∧Q vs H'
def SP(X:Cx)(pins:List (Addr×Obj))(D:Ends)(f:Flow)(s':Shared):Prop:=
 match f with
 | .next=>∃σ' H',Inv X pins σ' H' s'∧D.nx σ' H'
 | .brk=>∃σ' H',Inv X pins σ' H' s'∧D.bk σ' H'
 | .cont=>∃σ' H',Inv X pins σ' H' s'∧D.ct σ' H'
 | .ret u=>∃v σ' H',Inv X pins σ' H' s'∧RelV v u∧D.rt v H'
def PE(X:Cx)(e:Expr)(t:TE):Prop:=
 ∀(pins:List (Addr×Obj)) (s:Shared) (σ:St) (H:Hp) (Q:VK),Inv X pins σ H s→t σ H Q→wpAny (model X.prog X.w) X.A (eval e X.env) (EP X pins σ Q) X.xe s
def PT(X:Cx)(e:Expr)(t:TT):Prop:=
 ∀(pins:List (Addr×Obj)) (s:Shared) (σ:St) (H:Hp) (Q:Bool→Hp→Prop),Inv X pins σ H s→t σ H Q→wpAny (model X.prog X.w) X.A (isTrue e X.env (eval e X.env)) (TP X pins σ Q) X.xe s
def PW(X:Cx)(e:Expr)(t:TT):Prop:=
 ∀(whole:Sem Value) (pins:List (Addr×Obj)) (s:Shared) (σ:St) (H:Hp) (Q:Bool→Hp→Prop),Inv X pins σ H s→t σ H Q→wpAny (model X.prog X.w) X.A (isTrue e X.env whole) (TP X pins σ Q) X.xe s
theorem PW.pt{X:Cx}{e:Expr}{t:TT}(h:PW X e t):PT X e t:=h _
def PA(X:Cx)(es:List Expr)(t:TA):Prop:=
 ∀(pos:Pos) (pins:List (Addr×Obj)) (s:Shared) (σ:St) (H:Hp) (Q:List V→Hp→Prop),Inv X pins σ H s→t σ H Q→wpAny (model X.prog X.w) X.A (spliced (backTo pos (starEach es X.env))) (AP X pins σ Q) X.xe s
def PS(X:Cx)(st:Stmt)(t:TS):Prop:=
 ∀(pins:List (Addr×Obj)) (s:Shared) (σ:St) (H:Hp) (D:Ends),Inv X pins σ H s→t D σ H→wpAny (model X.prog X.w) X.A (exec st X.env) (SP X pins D) X.xe s
def Fv(X:Cx)(st:List Stmt)(t:TS):Prop:=
 ∀(pins:List (Addr×Obj)) (s:Shared) (σ:St) (H:Hp) (D:Ends),Inv X pins σ H s→t D σ H→wpAny (model X.prog X.w) X.A (execs st X.env) (SP X pins D) X.xe s
theorem iw{α:Type}{t:Sem α}{Q Q':α→Shared→Prop}{M:Model}{A:Around}{E:Value→Shared→Prop}{s:Shared}(h:wpAny M A t Q E s)(hQ:∀a s,Q a s→Q' a s):wpAny M A t Q' E s:=wpAny_mono h hQ fun _ _ x=>x
end L2
namespace L2
open PySem PySem.Spec PyProof.Rows
section
variable{X:Cx}
theorem bin{a b:Expr}{ta tb:TE}(ha:PE X a ta)(hb:PE X b tb){pins:List (Addr×Obj)}{s:Shared}{σ:St}{H:Hp}{R:V→V→Hp→Prop}(I:Inv X pins σ H s)(h:ta σ H fun x H1=>tb σ H1 fun y H2=>R x y H2)
  {α:Type} {Q:α→Shared→Prop} {f:Value→Value→Sem α}
  (hf:∀v u s2 x y H2,Inv X pins σ H2 s2→RelV x v→RelV y u→R x y H2→wpAny (model X.prog X.w) X.A (f v u) Q X.xe s2):
  wpAny (model X.prog X.w) X.A (eval a X.env) (fun v s₁=>wpAny (model X.prog X.w) X.A (eval b X.env) (fun u s₂=>wpAny (model X.prog X.w) X.A (f v u) Q X.xe s₂) X.xe s₁) X.xe s:=by
 refine iw (ha pins s σ H _ I h) fun v s1 ⟨x,H1,I1,r1,q1⟩=> ?_
 refine iw (hb pins s1 σ H1 _ I1 q1) fun u s2 ⟨y,H2,I2,r2,q2⟩=> ?_
 exact hf v u s2 x y H2 I2 r1 r2 q2
def Za(i:Nat):TE:=fun σ H Q=>∃v,σ[i]? = some (some v)∧Q v H
def tC(v:V):TE:=fun _ H Q=>Q v H
theorem Xf{i:Nat}{x:Str}{pos:Pos}(hN:X.N[i]? = some x)(hv:Vis X.env.scope x)(hd:(x==("__debug__" : Str))=false:=by decide)(hcd:(x==("__classdict__" : Str))=false:=by decide):PE X (.Name x pos) (Za i):=by
 intro pins s σ H Q I h
 obtain⟨v,e,h⟩:=h
 obtain⟨m,hn,hl⟩:=I.loc
 obtain⟨u,r,l⟩:=hl i x v hN e hv
 have fin:EP X pins σ Q u s:=⟨v,H,I,r,h⟩
 rcases l with⟨hk,hm⟩ | ⟨hk,c,hc,hcell⟩
 ·exact wpAny_Name (wpAny_loadName_local I.ok.kind hk hn hm fin) hd
 ·rcases hk with hk | hk
  ·exact wpAny_Name (wpAny_loadName_cell I.ok.kind hk hc hcell fin) hd
  ·exact wpAny_Name (wpAny_loadName_free I.ok.kind hk hc hcell fin hcd) hd
theorem acI{i j pos}:PE X (.Constant (.int i) j pos) (tC (.int i)):=fun _ _ _ H _ I h=>wpAny_Constant_int ⟨.int i,H,I.tok _,⟨_,rfl⟩,h⟩
theorem agy{b j pos}:PE X (.Constant (.bool b) j pos) (tC (.bl b)):=fun _ _ _ H _ I h=>Constant_bool ⟨.bl b,H,I,rfl,h⟩
theorem acG{j pos}:PE X (.Constant .none j pos) (tC .non):=fun _ _ _ H _ I h=>Constant_none ⟨.non,H,I,rfl,h⟩
theorem acD{x j pos}:PE X (.Constant (.str x) j pos) (tC (.str x)):=fun _ _ _ H _ I h=>Calls.Constant_str ⟨.str x,H,I.tok _,⟨_,rfl⟩,h⟩
def Gl(X:Cx)(x:Str):Prop:=X.env.kindOf x=some .globalImplicit
theorem Ga{E:Value→Shared→Prop}{pins:List (Addr×Obj)}{s:Shared}{σ:St}{H:Hp}{x:Str}{u:Value}{pos:Pos}{Q:Value→Shared→Prop}(I:Inv X pins σ H s)(hg:Gl X x)(hm:X.mg x=some u)(h:Q u s)
  (hd:(x==("__debug__" : Str))=false:=by decide):wpAny (model X.prog X.w) X.A (eval (.Name x pos) X.env) Q E s:=
 Calls.Name_function_global I.ok.kind hg (Calls.loadGlobal_global (by rw[I.ok.glob];exact I.mod.glob.keeps I.bk) hm h) hd
theorem Lb{E:Value→Shared→Prop}{pins:List (Addr×Obj)}{s:Shared}{σ:St}{H:Hp}{x:Str}{u:Value}{pos:Pos}{Q:Value→Shared→Prop}(I:Inv X pins σ H s)(hg:Gl X x)(hm:X.mg x=none)(hv:bootBuiltins x=some u)(h:Q u s)
  (hn:x≠ "__name__" := by decide) (hd:(x==("__debug__" : Str))=false:=by decide):wpAny (model X.prog X.w) X.A (eval (.Name x pos) X.env) Q E s:=by
 obtain⟨mb,h1,h2⟩:=I.mod.blt
 exact Calls.Name_function_global I.ok.kind hg (Calls.loadGlobal_builtin (by rw[I.ok.glob];exact I.mod.glob.keeps I.bk) hm (by rw[I.ok.blt];exact h1.keeps I.bk) ((h2 x hn).trans hv) h) hd
theorem B_{x:Str}{v:V}{u:Value}{pos:Pos}(hg:Gl X x)(hm:X.mg x=some u)(r:RelV v u)(hd:(x==("__debug__" : Str))=false:=by decide):PE X (.Name x pos) (tC v):=
 fun _ _ _ H _ I h=>Ga I hg hm ⟨v,H,I,r,h⟩ hd
theorem Z8{x:Str}{v:V}{u:Value}{pos:Pos}(hg:Gl X x)(hm:X.mg x=none)(hv:bootBuiltins x=some u)(r:RelV v u)(hn:x≠ "__name__" := by decide)(hd:(x==("__debug__" : Str))=false:=by decide):PE X (.Name x pos) (tC v):=
 fun _ _ _ H _ I h=>Lb I hg hm hv ⟨v,H,I,r,h⟩ hn hd
variable{a b:Expr}{ta tb:TE}{pos:Pos}
def PC(X:Cx)(op:CmpOp)(a b:Expr)(t:TE):Prop:=
 ∀(pins:List (Addr×Obj)) (s:Shared) (σ:St) (H:Hp) (Q:VK),Inv X pins σ H s→t σ H Q→
  wpAny (model X.prog X.w) X.A (eval a X.env) (fun v s₁=>wpAny (model X.prog X.w) X.A (eval b X.env) (fun u s₂=>wpAny (model X.prog X.w) X.A (compareOp op v u) (EP X pins σ Q) X.xe s₂) X.xe s₁) X.xe s
theorem Xr(b:Expr){op:CmpOp}(h:op≠ .In)(h2:op≠ .NotIn):behindInMarks op b=false:=by
 have e1:(op==CmpOp.In)=false:=by cases op<;>first | rfl | exact absurd rfl h
 have e2:(op==CmpOp.NotIn)=false:=by cases op<;>first | rfl | exact absurd rfl h2
 cases b<;>simp[behindInMarks,e1,e2]
def tB(t:TE):TT:=fun σ H Q=>t σ H fun x H1=>∃c,x= .bl c∧Q c H1
theorem amK{op:CmpOp}{t:TE}(h:PC X op a b t)(h1:behindInMarks op b=false:=by first | exact Xr _ (by decide) (by decide) | rfl):PT X (.Compare a [op] [b] pos) (tB t):=by
 intro pins s σ H Q I hw
 refine wpAny_isTrue_Compare1 (iw (h pins s σ H _ I hw) fun v s1 h1=>iw h1 fun u s2 h2=>iw h2 fun c s3 ⟨x,H1,I1,r1,q1⟩=> ?_) h1
 obtain⟨d,rfl,q⟩:=q1
 cases r1
 exact wpAny_truthy_bool ⟨H1,I1,q⟩
theorem acp{e:Expr}{t:TE}(h:PE X e t)(he:∀whole,isTrue e X.env whole=(do let v ←whole;standAt e.pos;holding [v] (truthy v)):=by intro _;rfl):PT X e (tB t):=by
 intro pins s σ H Q I hw
 refine isTrue_plain (iw (h pins s σ H _ I hw) fun v s1 ⟨x,H1,I1,r1,q1⟩=> ?_) (he _)
 obtain⟨d,rfl,q⟩:=q1
 cases r1
 exact wpAny_truthy_bool ⟨H1,I1,q⟩
variable{tA tB':TT}{rest:List Expr}
def al3(t u:TT):TT:=fun σ H Q=>t σ H fun c H1=>if c=true then u σ H1 Q else Q false H1
def tOr(t u:TT):TT:=fun σ H Q=>t σ H fun c H1=>if c=true then Q true H1 else u σ H1 Q
def alX(t:TT):TT:=fun σ H Q=>t σ H fun c H1=>Q (!c) H1
theorem ZM(ha:PT X a tA):PW X (.BoolOp .And [a] pos) tA:=by
 intro wh pins s σ H Q I h
 refine isTrue_and (iw (ha pins s σ H Q I h) fun c s1 e=> ?_)
 cases c with
 | true=>exact isTrue_and_nil e
 | false=>exact e
theorem acn(ha:PT X a tA):PW X (.BoolOp .Or [a] pos) tA:=by
 intro wh pins s σ H Q I h
 refine isTrue_or (iw (ha pins s σ H Q I h) fun c s1 e=> ?_)
 cases c with
 | false=>exact isTrue_or_nil e
 | true=>exact e
theorem aco(ha:PT X a tA)(hb:PW X (.BoolOp .And (b::rest) pos) tB'):PW X (.BoolOp .And (a::b::rest) pos) (al3 tA tB'):=by
 intro wh pins s σ H Q I h
 refine isTrue_and (iw (ha pins s σ H _ I h) fun c s1 ⟨H1,I1,q1⟩=> ?_)
 cases c with
 | true=>exact hb wh pins s1 σ H1 Q I1 q1
 | false=>exact⟨H1,I1,q1⟩
theorem afZ(ha:PT X a tA)(hb:PW X (.BoolOp .Or (b::rest) pos) tB'):PW X (.BoolOp .Or (a::b::rest) pos) (tOr tA tB'):=by
 intro wh pins s σ H Q I h
 refine isTrue_or (iw (ha pins s σ H _ I h) fun c s1 ⟨H1,I1,q1⟩=> ?_)
 cases c with
 | true=>exact⟨H1,I1,q1⟩
 | false=>exact hb wh pins s1 σ H1 Q I1 q1
theorem acq(ha:PT X a tA):PT X (.UnaryOp .Not a pos) (alX tA):=by
 intro pins s σ H Q I h
 exact isTrue_not (ha pins s σ H (fun c H1=>Q (!c) H1) I h)
def afy(ta tb:TE):TE:=fun σ H Q=>ta σ H fun x H1=>∃c,x= .bl c∧if c=true then tb σ H1 Q else Q (.bl false) H1
def alW(ta tb:TE):TE:=fun σ H Q=>ta σ H fun x H1=>∃c,x= .bl c∧if c=true then Q (.bl true) H1 else tb σ H1 Q
def afr(ta:TE):TE:=fun σ H Q=>ta σ H fun x H1=>∃c,x= .bl c∧Q (.bl (!c)) H1
theorem acE{op}{t:TE}(h:PE X a t):PE X (.BoolOp op [a] pos) t:=fun pins s σ H Q I hw=>BoolOp_one (h pins s σ H Q I hw)
theorem acK(ha:PE X a ta)(hb:PE X (.BoolOp .And (b::rest) pos) tb):PE X (.BoolOp .And (a::b::rest) pos) (afy ta tb):=by
 intro pins s σ H Q I h
 refine BoolOp_and (iw (ha pins s σ H _ I h) fun v s1 ⟨x,H1,I1,r1,q1⟩=> ?_)
 obtain⟨c,rfl,q1⟩:=q1
 cases r1
 refine wpAny_truthy_bool ?_
 cases c with
 | true=>exact hb pins s1 σ H1 Q I1 q1
 | false=>exact⟨.bl false,H1,I1,rfl,q1⟩
theorem agu(ha:PE X a ta)(hb:PE X (.BoolOp .Or (b::rest) pos) tb):PE X (.BoolOp .Or (a::b::rest) pos) (alW ta tb):=by
 intro pins s σ H Q I h
 refine BoolOp_or (iw (ha pins s σ H _ I h) fun v s1 ⟨x,H1,I1,r1,q1⟩=> ?_)
 obtain⟨c,rfl,q1⟩:=q1
 cases r1
 refine wpAny_truthy_bool ?_
 cases c with
 | false=>exact hb pins s1 σ H1 Q I1 q1
 | true=>exact⟨.bl true,H1,I1,rfl,q1⟩
theorem acF(ha:PE X a ta):PE X (.UnaryOp .Not a pos) (afr ta):=by
 intro pins s σ H Q I h
 refine UnaryOp_ (iw (ha pins s σ H _ I h) fun v s1 ⟨x,H1,I1,r1,q1⟩=> ?_)
 obtain⟨c,rfl,q1⟩:=q1
 cases r1
 exact not_of (wpAny_truthy_bool ⟨.bl (!c),H1,I1,rfl,q1⟩)
end
end L2
namespace L2
open PySem PySem.Spec PyProof.Rows
def yC(K:PySem.W.Frag)(H:Hp)(a:Addr)(xs:List V):Prop:=
 Rd H a (.lst xs)∨
  ∃(o:Obj) (its:Array Value) (n:Nat),K.lookup a=some o∧o.cls= .type "list" ∧ o.dict=none∧o.data= .seq its n∧its.size≤sizeLine∧Vals xs its.toList
def vh(K:PySem.W.Frag)(H:Hp)(a:Addr)(xs:List V):Prop:=
 Rd H a (.tup xs)∨
  ∃(o:Obj) (its:Array Value) (n:Nat),K.lookup a=some o∧o.cls= .type "tuple" ∧ o.data= .seq its n∧its.size≤sizeLine∧Vals xs its.toList
def aoQ:Value→Option V
 | .none=>some .non
 | .bool b=>some (.bl b)
 | .int i _=>some (.int i)
 | .str x _=>some (.str x)
 | .bytes b _=>some (.byt b)
 | .float b _=>some (.flt b)
 | .ref a=>some (.ref a)
 | .type n=>some (.ty n)
 | _=>none
theorem RelV.abs{x:V}{u:Value}(r:RelV x u):aoQ u=some x:=by
 cases x with
 | non=>cases r;rfl
 | bl _=>cases r;rfl
 | int _=>obtain⟨t,rfl⟩:=r;rfl
 | str _=>obtain⟨t,rfl⟩:=r;rfl
 | byt _=>obtain⟨t,rfl⟩:=r;rfl
 | flt _=>obtain⟨t,rfl⟩:=r;rfl
 | ref _=>cases r;rfl
 | ty _=>cases r;rfl
theorem RelV.inj{x y:V}{u:Value}(r:RelV x u)(q:RelV y u):x=y:=Option.some.inj (r.abs.symm.trans q.abs)
theorem Vals.inj:∀{xs ys:List V} {us:List Value},Vals xs us→Vals ys us→xs=ys
 | _,_,_,.nil,.nil=>rfl
 | _,_,_,.cons r t,.cons r' t'=>by rw[r.inj r',Vals.inj t t']
section
variable{X:Cx}{pins:List (Addr×Obj)}{σ:St}{H:Hp}{s:Shared}{a:Addr}{xs ys:List V}
theorem yC.of{K:PySem.W.Frag}(h:H a=some (.lst xs)):yC K H a xs:= .inl (.inl h)
theorem vh.of{K:PySem.W.Frag}(h:H a=some (.tup xs)):vh K H a xs:= .inl (.inl h)
theorem Inv.list(I:Inv X pins σ H s)(h:yC X.K H a xs):∃its:List Value,Vals xs its∧PlainL s.heap a its.toArray∧xs.length≤sizeLine:=by
 rcases h with h | ⟨o,its,n,hk,hc,hd,hs,hz,r⟩
 ·obtain⟨z,its,n,r,e⟩:=h.ok I.hok
  exact⟨its,r,⟨_,n,e,rfl,rfl,rfl⟩,z⟩
 ·refine⟨its.toList,r,⟨o,n,I.ye a o hk,hc,hd,by simpa using hs⟩,?_⟩
  have e:=r.length
  simp only[Array.length_toList]at e
  omega
theorem Inv.tuple(I:Inv X pins σ H s)(h:vh X.K H a xs):∃its:List Value,Vals xs its∧IsTup s.heap a its.toArray∧xs.length≤sizeLine:=by
 rcases h with h | ⟨o,its,n,hk,hc,hs,hz,r⟩
 ·obtain⟨z,its,r,p⟩:=h.ok I.hok
  exact⟨its,r,p,z⟩
 ·refine⟨its.toList,r,⟨o,I.ye a o hk,hc,n,by simpa using hs⟩,?_⟩
  have e:=r.length
  simp only[Array.length_toList]at e
  omega
theorem Inv.Oq(I:Inv X pins σ H s)(h:yC X.K H a xs)(h':yC X.K H a ys):xs=ys:=by
 obtain⟨its,r,⟨o,n,e,_,_,d⟩,_⟩:=I.list h
 obtain⟨its',r',⟨o',n',e',_,_,d'⟩,_⟩:=I.list h'
 rw[e]at e';cases e'
 rw[d]at d'
 injection d' with d1 _
 have:its=its':=by simpa using congrArg Array.toList d1
 subst this
 exact r.inj r'
theorem Inv.IV(I:Inv X pins σ H s)(h:vh X.K H a xs)(h':vh X.K H a ys):xs=ys:=by
 obtain⟨its,r,⟨o,e,_,n,d⟩,_⟩:=I.tuple h
 obtain⟨its',r',⟨o',e',_,n',d'⟩,_⟩:=I.tuple h'
 rw[e]at e';cases e'
 rw[d]at d'
 injection d' with d1 _
 have:its=its':=by simpa using congrArg Array.toList d1
 subst this
 exact r.inj r'
end
abbrev Cx.wish(X:Cx)(E:Value→Shared→Prop):Cx:={X with xe:=E}
abbrev Cx.Xp(X:Cx):Cx:=X.wish fun _ _=>False
theorem Cx.Ok.wish{X:Cx}(ok:X.Ok)(E:Value→Shared→Prop):(X.wish E).Ok:=
 ⟨ok.mod,ok.kind,ok.glob,ok.blt,ok.above,ok.inj,ok.has,ok.cab,ok.hd,ok.frames,ok.stk,ok.exf,ok.bs,ok.PL,ok.K3,ok.Lz,ok.zJ,ok.Ye⟩
theorem Cx.Ok.lO{X:Cx}{E:Value→Shared→Prop}(ok:(X.wish E).Ok):X.Ok:=
 ⟨ok.mod,ok.kind,ok.glob,ok.blt,ok.above,ok.inj,ok.has,ok.cab,ok.hd,ok.frames,ok.stk,ok.exf,ok.bs,ok.PL,ok.K3,ok.Lz,ok.zJ,ok.Ye⟩
section
variable{X:Cx}{pins:List (Addr×Obj)}{σ:St}{H:Hp}{s:Shared}{E:Value→Shared→Prop}
theorem Inv.wish(I:Inv X pins σ H s)(E:Value→Shared→Prop):Inv (X.wish E) pins σ H s:=⟨I.ok.wish E,I.os,I.bare,I.base,I.loc,I.cell,I.free,I.pB,I.pin,I.hok,I.len⟩
theorem Inv.lO(I:Inv (X.wish E) pins σ H s):Inv X pins σ H s:=⟨I.ok.lO,I.os,I.bare,I.base,I.loc,I.cell,I.free,I.pB,I.pin,I.hok,I.len⟩
theorem SP.lO{D:Ends}{f:Flow}{s':Shared}(h:SP (X.wish E) pins D f s'):SP X pins D f s':=by
 cases f with
 | next=>obtain⟨σ',H',I,q⟩:=h;exact⟨σ',H',I.lO,q⟩
 | brk=>obtain⟨σ',H',I,q⟩:=h;exact⟨σ',H',I.lO,q⟩
 | cont=>obtain⟨σ',H',I,q⟩:=h;exact⟨σ',H',I.lO,q⟩
 | ret u=>obtain⟨v,σ',H',I,r,q⟩:=h;exact⟨v,σ',H',I.lO,r,q⟩
theorem PE.Xp{e:Expr}{t:TE}(h:PE X.Xp e t):PE X e t:=fun pins s σ H Q I hw=>
 wpAny_mono (h pins s σ H Q (I.wish _) hw) (fun _ _ ⟨v,H',I',r,q⟩=>⟨v,H',I'.lO,r,q⟩) fun _ _ z=>False.elim z
theorem PT.Xp{e:Expr}{t:TT}(h:PT X.Xp e t):PT X e t:=fun pins s σ H Q I hw=>
 wpAny_mono (h pins s σ H Q (I.wish _) hw) (fun _ _ ⟨H',I',q⟩=>⟨H',I'.lO,q⟩) fun _ _ z=>False.elim z
theorem Fv.Xp{st:List Stmt}{t:TS}(h:Fv X.Xp st t):Fv X st t:=fun pins s σ H D I hw=>
 wpAny_mono (h pins s σ H D (I.wish _) hw) (fun _ _ q=>q.lO) fun _ _ z=>False.elim z
end
section
variable{X:Cx}{st:Stmt}{rest:List Stmt}{t u:TS}{e:Expr}{te:TE}{pos:Pos}
def abe:TS:=fun D σ H=>D.nx σ H
def alU(t u:TS):TS:=fun D σ H=>t {D with nx:=u D} σ H
theorem ZS:Fv X [] abe:=fun _ _ σ H _ I h=>wpAny_execs_nil ⟨σ,H,I,h⟩
theorem W9(h1:PS X st t)(h2:Fv X rest u):Fv X (st::rest) (alU t u):=by
 intro pins s σ H D I h
 refine wpAny_execs_cons (iw (h1 pins s σ H {D with nx:=u D} I h) fun f s1 q=> ?_)
 cases f with
 | next=>
  obtain⟨σ',H',I',q⟩:=q
  exact h2 pins s1 σ' H' D I' q
 | ret v=>exact q
 | brk=>exact q
 | cont=>exact q
theorem Su(h1:PS X st t):Fv X [st] t:=by
 intro pins s σ H D I h
 refine wpAny_execs_cons (iw (h1 pins s σ H D I h) fun f s1 q=> ?_)
 cases f with
 | next=>exact wpAny_execs_nil q
 | ret v=>exact q
 | brk=>exact q
 | cont=>exact q
theorem Inv.quiet{pins:List (Addr×Obj)}{σ:St}{H:Hp}{s:Shared}(I:Inv X pins σ H s):interactive X.env=false:=by simp[interactive,I.ok.kind]
def afv(te:TE):TS:=fun D σ H=>te σ H fun _ H1=>D.nx σ H1
theorem ZZ(he:PE X e te)(hs:swapsWith e none pos.line X.env=pure false:=by rfl):PS X (.Expr e pos) (afv te):=by
 intro pins s σ H D I h
 exact wpAny_Expr_any (iw (he pins s σ H _ I h) fun v s1 ⟨x,H1,I1,r1,q1⟩=>⟨σ,H1,I1,q1⟩) I.quiet hs
def alV(te:TE):TS:=fun D σ H=>te σ H D.rt
theorem acs(he:PE X e te):PS X (.Return (some e) pos) (alV te):=by
 intro pins s σ H D I h
 exact wpAny_Return_some (iw (he pins s σ H _ I h) fun v s1 ⟨x,H1,I1,r1,q1⟩=>⟨x,σ,H1,I1,r1,q1⟩)
def alZ(c:TT)(t u:TS):TS:=fun D σ H=>c σ H fun b H1=>if b=true then t D σ H1 else u D σ H1
theorem af1{c:Expr}{a b:List Stmt}{tc:TT}(hc:PT X c tc)(ha:Fv X a t)(hb:Fv X b u):PS X (.If c a b pos) (alZ tc t u):=by
 intro pins s σ H D I h
 refine wpAny_If (iw (hc pins s σ H _ I h) fun d s1 ⟨H1,I1,q1⟩=> ?_)
 cases d with
 | true=>exact ha pins s1 σ H1 D I1 q1
 | false=>exact hb pins s1 σ H1 D I1 q1
end
abbrev TG:=V→St→Hp→(St→Hp→Prop)→Prop
abbrev TGs:=List V→St→Hp→(St→Hp→Prop)→Prop
def PG(X:Cx)(target:Expr)(t:TG):Prop:=
 ∀(pins:List (Addr×Obj)) (s:Shared) (σ:St) (H:Hp) (v:V) (u:Value) (Q:St→Hp→Prop),Inv X pins σ H s→RelV v u→t v σ H Q→
  wpAny (model X.prog X.w) X.A (assign target X.env u) (fun _ s'=>∃σ' H',Inv X pins σ' H' s'∧Q σ' H') X.xe s
def YW(X:Cx)(ts:List Expr)(t:TGs):Prop:=
 ∀(pins:List (Addr×Obj)) (s:Shared) (σ:St) (H:Hp) (vs:List V) (us:List Value) (Q:St→Hp→Prop),Inv X pins σ H s→Vals vs us→t vs σ H Q→
  wpAny (model X.prog X.w) X.A (assignInOrder ((assignEach ts X.env).map (·.2)) us) (fun _ s'=>∃σ' H',Inv X pins σ' H' s'∧Q σ' H') X.xe s
abbrev aoS:=V→V→V→Hp→(Hp→Prop)→Prop
def aoU(X:Cx)(t:aoS):Prop:=
 ∀(pins:List (Addr×Obj)) (s:Shared) (σ:St) (H:Hp) (o i v:V) (ov iv u:Value) (Q:Hp→Prop),Inv X pins σ H s→RelV o ov→RelV i iv→RelV v u→t o i v H Q→
  wpAny (model X.prog X.w) X.A (setItem ov iv u) (fun _ s'=>∃H',Inv X pins σ H' s'∧Q H') X.xe s
section
variable{X:Cx}{pos:Pos}
def Jv(i:Nat):TG:=fun v σ H Q=>Q (σ.set i (some v)) H
theorem Z4{i:Nat}{x:Str}(hN:X.N.Nodup)(hi:X.N[i]? = some x)(hx:Loc X.env.scope x)(hf:X.fn x=true∨X.env.scope.names.lookup x=some .local:=by first | exact .inl rfl | exact .inr rfl | assumption):PG X (.Name x pos) (Jv i):=by
 intro pins s σ H v u Q I r h
 exact wpAny_assign_Name (wC I hN hi hx r (fun s' I'=>⟨_,H,I',h⟩) hf)
def aoy:TGs:=fun vs σ H Q=>vs=[]∧Q σ H
def ahH(t:TG)(u:TGs):TGs:=fun vs σ H Q=>∃v r,vs=v::r∧t v σ H fun σ' H'=>u r σ' H' Q
theorem Z3:YW X [] aoy:=by
 intro pins s σ H vs us Q I r h
 obtain⟨e,h⟩:=h
 subst e
 cases r
 exact assignInOrder_nil ⟨σ,H,I,h⟩
theorem Xe{e:Expr}{es:List Expr}{t:TG}{u:TGs}(h1:PG X e t)(h2:YW X es u)
  (hs:(assignEach (e::es) X.env).map (·.2)=assign e X.env::(assignEach es X.env).map (·.2):=by rfl):YW X (e::es) (ahH t u):=by
 intro pins s σ H vs us Q I r h
 obtain⟨v,vr,e1,h⟩:=h
 subst e1
 cases r with
 | cons r rr=>
  rw[hs]
  refine assignInOrder_cons (iw (h1 pins s σ H _ _ _ I r h) fun _ s1 ⟨σ1,H1,I1,q1⟩=> ?_)
  exact h2 pins s1 σ1 H1 _ _ Q I1 rr q1
def aox(K:PySem.W.Frag)(n:Nat)(t:TGs):TG:=fun v σ H Q=>∃a xs,v= .ref a∧vh K H a xs∧xs.length=n∧t xs σ H Q
theorem acA{es:List Expr}{k:Nat}{t:TGs}{n:Nat}(hc:X.calm=true)(h:YW X es t)
  (hn:(assignEach es X.env).length=n:=by rfl) (hst:(assignEach es X.env).findIdx? (·.1)=none:=by rfl):PG X (.Tuple es k pos) (aox X.K n t):=by
 intro pins s σ H v u Q I r hw
 obtain⟨a,xs,e1,hq,hl,hw⟩:=hw
 subst e1
 cases r
 obtain⟨its,rv,ht,hz⟩:=I.tuple hq
 refine assign_Tuple_tuple (I.ok.hd hc) ht (by simp[hn,←hl,rv.length]) hst fun h' hx=> ?_
 have I1:Inv X pins σ H {s with heap:=h'}:=I.kept (t':=s.toks) fun b o e=>hx b o (Nat.ne_of_lt (Heap.lt_size e)) e
 exact h pins _ σ H xs _ Q I1 (by simpa using rv) hw
def Wk(te:TE)(g:TG):TS:=fun D σ H=>te σ H fun x H1=>g x σ H1 D.nx
theorem acw{tg e:Expr}{te:TE}{g:TG}(he:PE X e te)(hg:PG X tg g)(hs:swapsWithSole [tg] e pos.line X.env=pure false:=by rfl)(hw:swappedStores [tg] e X.env=pure none:=by rfl)
  (h1:(assignEach [tg] X.env).map (·.2)=[assign tg X.env]:=by rfl):PS X (.Assign [tg] e pos) (Wk te g):=by
 intro pins s σ H D I h
 refine wpAny_Assign_stores (iw (he pins s σ H _ I h) fun v s1 ⟨x,H1,I1,r1,q1⟩=> ?_) hs hw
 rw[h1]
 exact iw (hg pins s1 σ H1 x v _ I1 r1 q1) fun _ s2 q=>q
theorem acr{i:Nat}{x:Str}{e:Expr}{te:TE}{pos':Pos}(hN:X.N.Nodup)(hi:X.N[i]? = some x)(hx:Loc X.env.scope x)(he:PE X e te)(hs:swapsWith e (some (.Name x pos')) pos.line X.env=pure false:=by rfl)(hf:X.fn x=true∨X.env.scope.names.lookup x=some .local:=by first | exact .inl rfl | exact .inr rfl | assumption):
  PS X (.Assign [.Name x pos'] e pos) (Wk te (Jv i)):=by
 intro pins s σ H D I h
 refine wpAny_Assign_Name (iw (he pins s σ H _ I h) fun v s1 ⟨y,H1,I1,r1,q1⟩=> ?_) hs
 exact wC I1 hN hi hx r1 (fun s2 I2=>⟨_,H1,I2,q1⟩) hf
end
section
variable{X:Cx}{pos:Pos}
def abN(c:TT)(tb:TS):TS:=fun D σ H=>∃W:Nat→St→Hp→Prop,(∃m,W m σ H)∧∀m σ H,W m σ H→
 c σ H fun b H1=>if b=true then ∃N:St→Hp→Prop,(∀σ' H',N σ' H'→∃m',m'<m∧W m' σ' H')∧tb {D with nx:=N,ct:=N,bk:=D.nx} σ H1 else D.nx σ H1
theorem W_{c:Expr}{body:List Stmt}{tc:TT}{tb:TS}(hp:PassesOwn (model X.prog X.w) X.A X.env X.xe)(hc:PT X c tc)(hb:Fv X body tb):PS X (.While c body [] pos) (abN tc tb):=by
 intro pins s σ H D I h
 obtain⟨W,⟨m0,w0⟩,turn⟩:=h
 refine wpAny_While (codeAny_whileLoop (fun n s'=>∃σ' H',Inv X pins σ' H' s'∧W n σ' H') ?_ m0 ⟨σ,H,I,w0⟩)
 rintro n s1 ⟨σ1,H1,I1,w1⟩
 refine wpAny_passesOwn hp (iw (hc pins s1 σ1 H1 _ I1 (turn n σ1 H1 w1)) fun b s2 ⟨H2,I2,q2⟩=> ?_)
 cases b with
 | true=>
  obtain⟨N,hN,q2⟩:=q2
  rw[if_pos rfl]
  refine wpAny_passesOwn hp (iw (hb pins s2 σ1 H2 _ I2 q2) fun f s3 q3=> ?_)
  cases f with
  | next=>
   obtain⟨σ3,H3,I3,n3⟩:=q3
   obtain⟨m',hm,w3⟩:=hN σ3 H3 n3
   exact⟨m',hm,σ3,H3,I3,w3⟩
  | cont=>
   obtain⟨σ3,H3,I3,n3⟩:=q3
   obtain⟨m',hm,w3⟩:=hN σ3 H3 n3
   exact⟨m',hm,σ3,H3,I3,w3⟩
  | brk=>exact q3
  | ret v=>exact q3
 | false=>
  rw[if_neg Bool.false_ne_true]
  exact wpAny_execs_nil ⟨σ1,H2,I2,q2⟩
end
structure It where
 go:Nat→Hp→Prop
 YJ:Nat→Hp→V→Hp→Prop
 stop:Nat→Hp→Prop
def HX(X:Cx)(pins:List (Addr×Obj))(H:Hp)(b:Addr):Prop:=
 H b=none∧b≠X.env.locals∧b∉X.fs∧(b∈X.ex∨X.s₀.heap.objs.size≤b)∧(∀x c,X.env.cells.lookup x=some c→c≠b)∧∀p∈X.pn++pins,p.1≠b
theorem Inv.aaC{X:Cx}{pins:List (Addr×Obj)}{σ:St}{H H':Hp}{s:Shared}{b:Addr}(I:Inv X pins σ H s)(hb:s.heap.objs.size≤b)(hn:H' b=none):HX X pins H' b:=by
 refine⟨hn,Nat.ne_of_gt (Nat.lt_of_lt_of_le I.lt hb),I.anS hb,.inr (Nat.le_trans I.sz hb),fun x c e z=> ?_,fun p hp z=> ?_⟩
 ·obtain⟨v,q⟩:=I.cell x c e
  exact absurd (Nat.lt_of_lt_of_le q.lt (by rw[z];exact hb)) (Nat.lt_irrefl _)
 ·exact absurd (Nat.lt_of_lt_of_le (Heap.lt_size (I.pin p hp).1) (by rw[z];exact hb)) (Nat.lt_irrefl _)
structure Turn(P:Program)(w:World)(K:PySem.W.Frag)(tg:Expr)(J:It)(fp:List Addr)(it:Addr)(tn:Nat→Heap→Prop):Prop where
 mem:it∈fp
 obj:∀i h,tn i h→∀b∈fp,∃o,h.get? b=some o∧∀v,o.data≠ .cell v
 keep:∀i h h',tn i h→(∀b∈fp,∀o,h.get? b=some o→h'.get? b=some o)→tn i h'
 item:∀(X:Cx),X.prog=P→X.w=w→X.K=K→X.calm=true→∀(i:Nat) (pins:List (Addr×Obj)) (s:Shared) (σ:St) (H:Hp) (E:Value→Shared→Prop),Inv X pins σ H s→(∀b∈fp,HX X pins H b)→tn i s.heap→J.go i H→
  wpAny (model P w) X.A (pyNext (.ref it)) (fun r s1=>∃u,r=some u∧
   wpAny (model P w) X.A (letOwnedTupleGo tg (.ref it) u) (fun _ s2=>∃x H',Inv X pins σ H' s2∧RelV x u∧J.YJ i H x H'∧tn (i+1) s2.heap∧∀b∈fp,H' b=none) E s1) E s
 done:∀(X:Cx),X.prog=P→X.w=w→X.K=K→X.calm=true→∀(i:Nat) (pins:List (Addr×Obj)) (s:Shared) (σ:St) (H:Hp) (E:Value→Shared→Prop),Inv X pins σ H s→(∀b∈fp,HX X pins H b)→tn i s.heap→J.stop i H→
  wpAny (model P w) X.A (pyNext (.ref it)) (fun r s1=>r=none∧Inv X pins σ H s1) E s
 self:∀(A:Around) (i:Nat) (s:Shared) (Q:Value→Shared→Prop) (E:Value→Shared→Prop),tn i s.heap→Q (.ref it) s→wpAny (model P w) A (pyIter (.ref it)) Q E s
abbrev TI:=St→Hp→(It→Hp→Prop)→Prop
def PIE(X:Cx)(pins:List (Addr×Obj))(σ:St)(tg:Expr)(R:It→Hp→Prop)(itv:Value)(s2:Shared):Prop:=
 ∃(it:Addr) (fp:List Addr) (tn:Nat→Heap→Prop) (J:It) (H':Hp),itv= .ref it∧Inv X pins σ H' s2∧Turn X.prog X.w X.K tg J fp it tn∧tn 0 s2.heap∧(∀b∈fp,HX X pins H' b)∧R J H'
def PI(X:Cx)(tg iter:Expr)(wi:TI):Prop:=
 ∀(pins:List (Addr×Obj)) (s:Shared) (σ:St) (H:Hp) (R:It→Hp→Prop),Inv X pins σ H s→wi σ H R→
  wpAny (model X.prog X.w) X.A (eval iter X.env) (fun v s1=>wpAny (model X.prog X.w) X.A (pyIter v) (PIE X pins σ tg R) X.xe s1) X.xe s
theorem Tj{M:Model}{A:Around}{E:Value→Shared→Prop}{s:Shared}{tg:Expr}{it:Addr}{u:Value}{o:Obj}{n:String}{vs:Array Value}{Q:Unit→Shared→Prop}(ho:s.heap.get? it=some o)(hc:o.cls= .type n)(hd:o.data= .fields vs)
  (hn:["enumerate","zip","dict_itemiterator","dict_reverseitemiterator","odict_iterator","itertools.zip_longest","itertools.pairwise"].contains n=false) (hQ:Q () s):wpAny M A (letOwnedTupleGo tg (.ref it) u) Q E s:=by
 unfold letOwnedTupleGo
 cases tg<;>first
  | exact wpAny_pure hQ
  | (cases u<;>first
    | exact wpAny_pure hQ
    | (refine wpAny_bind (wpAny_load ho ?_)
       rw[hc,hd]
       show wpAny M A (if(["enumerate","zip","dict_itemiterator","dict_reverseitemiterator","odict_iterator","itertools.zip_longest","itertools.pairwise"].contains n&&vs[0]? == some (rawInt _))=true then _ else _) Q E s
       rw[if_neg (by intro h;rw[hn,Bool.false_and]at h;cases h)]
       exact wpAny_pure hQ))
def Itl(K:PySem.W.Frag)(a:Addr):It:=
 ⟨fun i H=>∃xs x,yC K H a xs∧xs[i]? = some x,fun i H x H'=>H'=H∧∀xs,yC K H a xs→xs[i]? = some x,fun i H=>∃xs,yC K H a xs∧xs.length≤i⟩
def Itt(K:PySem.W.Frag)(a:Addr):It:=
 ⟨fun i H=>∃xs x,vh K H a xs∧xs[i]? = some x,fun i H x H'=>H'=H∧∀xs,vh K H a xs→xs[i]? = some x,fun i H=>∃xs,vh K H a xs∧xs.length≤i⟩
def Itr(lo:Int)(n:Nat):It:=⟨fun i _=>i<n,fun i H x H'=>H'=H∧x= .int (lo+i),fun i _=>n≤i⟩
theorem Ui{P:Program}{w:World}{K:PySem.W.Frag}{tg:Expr}(a it:Addr):Turn P w K tg (Itl K a) [it] it (fun i h=>h.IsListIter it a i) where
 mem:=by simp
 obj:=fun i h st b hb=>by
  have e:b=it:=by simpa using hb
  subst e
  obtain⟨o,e,c,d⟩:=st
  exact⟨o,e,fun v z=>by rw[d]at z;cases z⟩
 keep:=fun i h h' st k=>st.at fun o e=>k it (by simp) o e
 item:=by
  intro X hP hw hK hc i pins s σ H E I hf st hg
  subst hP hw hK
  obtain⟨xs,x,hq,hx⟩:=hg
  obtain⟨its,rv,p,hz⟩:=I.list hq
  obtain⟨u,hu,ru⟩:=rv.get hx
  obtain⟨f0,f1,f2,f3,f4,f5⟩:=hf it (by simp)
  refine wpAny_pyNext_list_item st p.isList (x:=u) (by simpa using hu) fun h' st' sb=> ?_
  have I1:Inv X pins σ H {s with heap:=h'}:=I.turned (t':=s.toks) (fun b o hb e=>(sb.2 b hb).trans e) f0 f1 f3 f4 f5
  obtain⟨o,e,c,d⟩:=id st'
  exact⟨u,rfl,Tj (s:={s with heap:=h'}) e c d (by decide) ⟨x,H,I1,ru,⟨rfl,fun ys hy=>by rw[I.Oq hy hq];exact hx⟩,st',fun b hb=>(hf b hb).1⟩⟩
 done:=by
  intro X hP hw hK hc i pins s σ H E I hf st hg
  subst hP hw hK
  obtain⟨xs,hq,hx⟩:=hg
  obtain⟨its,rv,p,hz⟩:=I.list hq
  obtain⟨f0,f1,f2,f3,f4,f5⟩:=hf it (by simp)
  have hl:=rv.length
  exact wpAny_pyNext_list_end (I.ok.hd hc) st p.isList (by simp;omega) fun h' eb=>⟨rfl,I.turned (t':=s.toks) (fun b o hb e=>eb b o hb e) f0 f1 f3 f4 f5⟩
 self:=fun _ _ _ _ _ st h=>wpAny_pyIter_listiter st h
theorem Qd{P:Program}{w:World}{K:PySem.W.Frag}{tg:Expr}(a it:Addr):Turn P w K tg (Itt K a) [it] it (fun i h=>h.IsTupleIter it a i) where
 mem:=by simp
 obj:=fun i h st b hb=>by
  have e:b=it:=by simpa using hb
  subst e
  obtain⟨o,e,c,d⟩:=st
  exact⟨o,e,fun v z=>by rw[d]at z;cases z⟩
 keep:=fun i h h' st k=>st.at fun o e=>k it (by simp) o e
 item:=by
  intro X hP hw hK hc i pins s σ H E I hf st hg
  subst hP hw hK
  obtain⟨xs,x,hq,hx⟩:=hg
  obtain⟨its,rv,p,hz⟩:=I.tuple hq
  obtain⟨u,hu,ru⟩:=rv.get hx
  obtain⟨f0,f1,f2,f3,f4,f5⟩:=hf it (by simp)
  refine wpAny_pyNext_tuple_item st (show s.heap.IsTuple a its.toArray from p) (x:=u) (by simpa using hu) fun h' st' sb=> ?_
  have I1:Inv X pins σ H {s with heap:=h'}:=I.turned (t':=s.toks) (fun b o hb e=>(sb.2 b hb).trans e) f0 f1 f3 f4 f5
  obtain⟨o,e,c,d⟩:=id st'
  exact⟨u,rfl,Tj (s:={s with heap:=h'}) e c d (by decide) ⟨x,H,I1,ru,⟨rfl,fun ys hy=>by rw[I.IV hy hq];exact hx⟩,st',fun b hb=>(hf b hb).1⟩⟩
 done:=by
  intro X hP hw hK hc i pins s σ H E I hf st hg
  subst hP hw hK
  obtain⟨xs,hq,hx⟩:=hg
  obtain⟨its,rv,p,hz⟩:=I.tuple hq
  obtain⟨f0,f1,f2,f3,f4,f5⟩:=hf it (by simp)
  have hl:=rv.length
  exact wpAny_pyNext_tuple_end (I.ok.hd hc) st (show s.heap.IsTuple a its.toArray from p) (by simp;omega) fun h' eb=>⟨rfl,I.turned (t':=s.toks) (fun b o hb e=>eb b o hb e) f0 f1 f3 f4 f5⟩
 self:=fun _ _ _ _ _ st h=>wpAny_pyIter_tupleiter st h
theorem Qe{P:Program}{w:World}{K:PySem.W.Frag}{tg:Expr}(it:Addr)(lo:Int)(n:Nat):Turn P w K tg (Itr lo n) [it] it (fun i h=>IsRangeIter h it (lo+(i:Nat)*1) ((n:Int) - (i:Nat)) 1) where
 mem:=by simp
 obj:=fun i h st b hb=>by
  have e:b=it:=by simpa using hb
  subst e
  exact⟨_,st,fun v z=>by
   have z':Data.fields _=Data.cell v:=z
   cases z'⟩
 keep:=fun i h h' st k=>k it (by simp) _ st
 item:=by
  intro X hP hw hK hc i pins s σ H E I hf st hg
  subst hP hw hK
  obtain⟨f0,f1,f2,f3,f4,f5⟩:=hf it (by simp)
  have W:=Walks.range (prog:=X.prog) (w:=X.w) (I.ok.hd hc) it lo 1 n
  refine W.item i s _ _ hg st fun v h' tk hv st' kk=> ?_
  obtain⟨t,rfl⟩:=hv
  have I1:Inv X pins σ H {s with heap:=h',toks:=tk}:=I.turned (fun b o hb e=>kk b o (by simpa using hb) e) f0 f1 f3 f4 f5
  refine⟨_,rfl,Tj (s:={s with heap:=h',toks:=tk}) (n:= "range_iterator") st' rfl rfl (by decide) ⟨.int (lo+i),H,I1,⟨t,?_⟩,⟨rfl,rfl⟩,st',fun b hb=>(hf b hb).1⟩⟩
  rw[Int.mul_one]
 done:=by
  intro X hP hw hK hc i pins s σ H E I hf st hg
  subst hP hw hK
  obtain⟨f0,f1,f2,f3,f4,f5⟩:=hf it (by simp)
  exact wpAny_pyNext_range_end (I.ok.hd hc) st (by have:n≤i:=hg;omega) fun h' eb=>⟨rfl,I.turned (t':=s.toks) (fun b o hb e=>eb b o hb e) f0 f1 f3 f4 f5⟩
 self:=fun _ _ _ _ _ st h=>wpAny_pyIter_rangeiter st h
end L2
namespace L2
open PySem PySem.Spec PyProof.Rows
section
variable{X:Cx}{tg:Expr}
theorem W7{pins:List (Addr×Obj)}{σ:St}{H:Hp}{s:Shared}{R:It→Hp→Prop}{E:Value→Shared→Prop}{lo hi:Int}{t u v:Tok}{tk:Nat}(I:Inv X pins σ H s)(h1: -(2 ^ 62)≤lo)(h2:lo<2 ^ 62)(h3: -(2 ^ 62)≤hi)(h4:hi<2 ^ 62)
  (q:R (Itr lo (hi - lo).toNat) H):wpAny (model X.prog X.w) X.A (pyIter (.ref s.heap.objs.size)) (PIE X pins σ tg R) E {s with heap:=s.heap.push {cls:= .type "range",data:= .fields #[.int lo t,.int hi u,.int 1 v]},toks:=tk}:=by
 refine wpAny_pyIter_range (IsRange.new ..) (small_one h1 h2 h3 h4) ?_
 have I1:Inv X pins σ H {s with heap:=s.heap.push {cls:= .type "range",data:= .fields #[.int lo t,.int hi u,.int 1 v]},toks:=tk}:=I.kept fun b o e=>Heap.get?_push_of_some _ e
 refine⟨(s.heap.push {cls:= .type "range",data:= .fields #[.int lo t,.int hi u,.int 1 v]}).objs.size,[(s.heap.push {cls:= .type "range",data:= .fields #[.int lo t,.int hi u,.int 1 v]}).objs.size],_,_,H,rfl,
  I1.kept (t':=tk) fun b o e=>Heap.get?_push_of_some _ e,Qe _ lo (hi - lo).toNat,?_,fun b hb=> ?_,q⟩
 ·have e1:lo+((0:Nat):Int)*1=lo:=by simp
  have e2:(((hi - lo).toNat:Nat):Int) - ((0:Nat):Int)=Builtin.Range.rangeSize lo hi 1:=by rw[rangeSize_one];split<;>omega
  show IsRangeIter _ _ (lo+((0:Nat):Int)*1) ((((hi - lo).toNat:Nat):Int) - ((0:Nat):Int)) 1
  rw[e1,e2]
  exact Heap.get?_push_size _ rfl
 ·have e:b=(s.heap.push {cls:= .type "range",data:= .fields #[.int lo t,.int hi u,.int 1 v]}).objs.size:=by simpa using hb
  subst e
  exact I1.aaC (Nat.le_refl _) (I1.hok.fresh (Nat.le_refl _))
def ahw(ta:TA):TI:=fun σ H R=>ta σ H fun vs H1=>∃j:Int,vs=[.int j]∧ -(2 ^ 62)≤j∧j<2 ^ 62∧R (Itr 0 j.toNat) H1
theorem Uz{a:Expr}{ta:TA}{p pos:Pos}(hg:Gl X "range")(hm:X.mg "range" = none)(ha:PA X [a] ta)(hs:starEach [a] X.env=[(false,eval a X.env)]:=by rfl):PI X tg (.Call (.Name "range" p) [a] [] pos) (ahw ta):=by
 intro pins s σ H R I h
 refine Call_ (Lb I hg hm boot_range (PyProof.Rows.callWith_type1 (iw (ha pos pins s σ H _ I h) fun us s1 ⟨vs,H1,I1,r1,q1⟩=> ?_) hs rfl))
 obtain⟨j,e,q1,q2,q⟩:=q1
 subst e
 cases r1 with
 | cons r rr=>
  cases rr
  obtain⟨t,rfl⟩:=r
  exact call_range_1 (W7 I1 (by omega) (by omega) q1 q2 (by simpa using q))
def al0(wi:TI)(g:TG)(tb:TS):TS:=fun D σ H=>wi σ H fun J H1=>∃W:Nat→Nat→St→Hp→Prop,(∃m,W 0 m σ H1)∧∀i m σ H,W i m σ H→
 (J.stop i H∧D.nx σ H)∨(J.go i H∧∃N:St→Hp→Prop,(∀σ' H',N σ' H'→∃m',m'<m∧W (i+1) m' σ' H')∧∀x H',J.YJ i H x H'→g x σ H' fun σ2 H2=>tb {D with nx:=N,ct:=N,bk:=D.nx} σ2 H2)
def Dy(fp:List Addr)(h:Heap):List (Addr×Obj):=fp.filterMap fun b=>(h.get? b).map fun o=>(b,o)
theorem qI{fp:List Addr}{h:Heap}{b:Addr}{o:Obj}(hb:b∈fp)(e:h.get? b=some o):(b,o)∈Dy fp h:=List.mem_filterMap.mpr ⟨b,hb,by rw[e];rfl⟩
theorem U4{fp:List Addr}{h:Heap}{p:Addr×Obj}(hp:p∈Dy fp h):p.1∈fp∧h.get? p.1=some p.2:=by
 obtain⟨b,hb,e⟩:=List.mem_filterMap.mp hp
 cases q:h.get? b with
 | none=>rw[q]at e;cases e
 | some o=>
  rw[q]at e
  have e':(b,o)=p:=Option.some.inj e
  subst e'
  exact⟨hb,q⟩
theorem Inv.pinned{pins:List (Addr×Obj)}{σ:St}{H:Hp}{s:Shared}{fp:List Addr}(I:Inv X pins σ H s)(hf:∀b∈fp,HX X pins H b)(ho:∀b∈fp,∃o,s.heap.get? b=some o∧∀v,o.data≠ .cell v):Inv X (pins++Dy fp s.heap) σ H s:=
 I.xU fun p hp=>(List.mem_append.mp hp).elim (fun z=>I.pin p (List.mem_append_right _ z)) fun z=>by
  obtain⟨hb,e⟩:=U4 z
  obtain⟨f0,f1,f2,_⟩:=hf p.1 hb
  obtain⟨o,e',d⟩:=ho p.1 hb
  rw[e]at e';cases e'
  exact⟨e,f0,f1,f2,d⟩
theorem Inv.yZ{pins pl:List (Addr×Obj)}{σ:St}{H:Hp}{s:Shared}(I:Inv X (pins++pl) σ H s):Inv X pins σ H s:=I.xU fun p hp=>I.pin p (List.mem_append_right _ (List.mem_append_left _ hp))
theorem acu{iter:Expr}{body:List Stmt}{wi:TI}{g:TG}{tb:TS}{pos:Pos}(hp:PassesOwn (model X.prog X.w) X.A X.env X.xe)(hc:X.calm=true)(hi:PI X tg iter wi)(hg:PG X tg g)(hb:Fv X body tb)
  (hs:∀x,foldedSetIterable iter X.env x=pure x:=by intro _;rfl):PS X (.For tg iter body [] pos) (al0 wi g tb):=by
 intro pins s σ H D I h
 refine wpAny_For (iw (hi pins s σ H _ I h) fun v s1 h1=>iw h1 fun itv s2 h2=> ?_) hs
 obtain⟨it,fp,tn,J,H2,e,I2,T,st2,f2,W,⟨m0,w0⟩,turn⟩:=h2
 subst e
 have stat:∀{H':Hp},(∀b∈fp,H' b=none)→∀b∈fp,HX X pins H' b:=fun hn b hb=>⟨hn b hb,(f2 b hb).2⟩
 refine codeAny_forLoop_any (fun n s'=>∃i σ' H',Inv X pins σ' H' s'∧tn i s'.heap∧(∀b∈fp,H' b=none)∧W i n σ' H') ?_ m0 ⟨0,σ,H2,I2,st2,fun b hb=>(f2 b hb).1,w0⟩
 rintro n s3 ⟨i,σ3,H3,I3,st3,fr3,w3⟩
 rcases turn i n σ3 H3 w3 with⟨stop,qn⟩ | ⟨go,N,hN,step⟩
 ·refine wpAny_passesOwn hp (iw (T.done X rfl rfl rfl hc i pins s3 σ3 H3 X.xe I3 (stat fr3) st3 stop) fun r s4 ⟨hr,I4⟩=> ?_)
  subst hr
  exact wpAny_execs_nil ⟨σ3,H3,I4,qn⟩
 ·refine wpAny_passesOwn hp (iw (T.item X rfl rfl rfl hc i pins s3 σ3 H3 X.xe I3 (stat fr3) st3 go) fun r s4 ⟨u,hr,h4⟩=> ?_)
  subst hr
  refine wpAny_passesOwn hp (iw h4 fun _ s5 ⟨x,H5,I5,r5,y5,Uq,fr5⟩=> ?_)
  have I5':=I5.pinned (stat fr5) (T.obj _ _ Uq)
  refine wpAny_passesOwn hp (iw (hg _ s5 σ3 H5 x u _ I5' r5 (step x H5 y5)) fun _ s6 ⟨σ6,H6,I6,q6⟩=> ?_)
  refine wpAny_passesOwn hp (iw (hb _ s6 σ6 H6 _ I6 q6) fun f s7 q7=> ?_)
  have again:∀{VN:St} {H7:Hp},Inv X (pins++Dy fp s5.heap) VN H7 s7→N VN H7→∃m,m<n∧∃i σ' H',Inv X pins σ' H' s7∧tn i s7.heap∧(∀b∈fp,H' b=none)∧W i m σ' H':=fun{VN H7} I7 n7=>by
   obtain⟨m',hm,w7⟩:=hN VN H7 n7
   refine⟨m',hm,i+1,VN,H7,I7.yZ,T.keep _ _ _ Uq fun b hb o e=>(I7.pin (b,o) (List.mem_append_right _ (List.mem_append_right _ (qI hb e)))).1,fun b hb=> ?_,w7⟩
   obtain⟨o,e,d⟩:=T.obj _ _ Uq b hb
   exact(I7.pin (b,o) (List.mem_append_right _ (List.mem_append_right _ (qI hb e)))).2.1
  cases f with
  | next=>obtain⟨VN,H7,I7,n7⟩:=q7;exact again I7 n7
  | cont=>obtain⟨VN,H7,I7,n7⟩:=q7;exact again I7 n7
  | brk=>obtain⟨VN,H7,I7,q7⟩:=q7;exact⟨VN,H7,I7.yZ,q7⟩
  | ret v=>obtain⟨x7,VN,H7,I7,r7,q7⟩:=q7;exact⟨x7,VN,H7,I7.yZ,r7,q7⟩
end
end L2
namespace L2
open PySem PySem.Spec PyProof.Rows
abbrev R2:=V→V→Hp→VK→Prop
def wz(X:Cx)(f:Value→Value→Sem Value)(r:R2):Prop:=
 ∀(pins:List (Addr×Obj)) (s:Shared) (σ:St) (H:Hp) (x y:V) (v u:Value) (Q:VK),Inv X pins σ H s→RelV x v→RelV y u→r x y H Q→
  wpAny (model X.prog X.w) X.A (f v u) (EP X pins σ Q) X.xe s
def UnR(X:Cx)(f:Value→Sem Value)(r:V→Hp→VK→Prop):Prop:=
 ∀(pins:List (Addr×Obj)) (s:Shared) (σ:St) (H:Hp) (x:V) (v:Value) (Q:VK),Inv X pins σ H s→RelV x v→r x H Q→
  wpAny (model X.prog X.w) X.A (f v) (EP X pins σ Q) X.xe s
def oN(X:Cx)(f:Value)(r:List V→Hp→VK→Prop):Prop:=
 ∀(pins:List (Addr×Obj)) (s:Shared) (σ:St) (H:Hp) (xs:List V) (us:List Value) (Q:VK),Inv X pins σ H s→Vals xs us→r xs H Q→
  wpAny (model X.prog X.w) X.A (call f us) (EP X pins σ Q) X.xe s
def tOp(r:R2)(ta tb:TE):TE:=fun σ H Q=>ta σ H fun x H1=>tb σ H1 fun y H2=>r x y H2 Q
def tUn(r:V→Hp→VK→Prop)(ta:TE):TE:=fun σ H Q=>ta σ H fun x H1=>r x H1 Q
def rI(C:Int→Int→Prop)(g:Int→Int→V):R2:=fun x y H Q=>∃i j,x= .int i∧y= .int j∧C i j∧Q (g i j) H
def YL(g:Int→Int→V):R2:=fun x y H Q=>∃i j,x= .int i∧y= .int j∧Q (g i j) H
def rU(g:Int→V):V→Hp→VK→Prop:=fun x H Q=>∃i,x= .int i∧Q (g i) H
section
variable{X:Cx}{a b c:Expr}{ta tb tc:TE}{pos:Pos}
theorem aey(ha:PE X a ta)(hb:PE X b tb){pins:List (Addr×Obj)}{s:Shared}{σ:St}{H:Hp}{R:V→V→Hp→Prop}(I:Inv X pins σ H s)
  (h:ta σ H fun x H1=>tb σ H1 fun y H2=>R x y H2) {Q:Value→Shared→Prop} {f:Value→Value→Sem Value}
  (hf:∀v u s2 x y H2,Inv X pins σ H2 s2→RelV x v→RelV y u→R x y H2→wpAny (model X.prog X.w) X.A (f v u) Q X.xe s2):
  wpAny (model X.prog X.w) X.A (eval a X.env) (fun v s₁=>wpAny (model X.prog X.w) X.A (eval b X.env) (fun u s₂=>wpAny (model X.prog X.w) X.A (f v u) Q X.xe s₂) X.xe s₁) X.xe s:=by
 refine iw (ha pins s σ H _ I h) fun v s1 ⟨x,H1,I1,r1,q1⟩=> ?_
 refine iw (hb pins s1 σ H1 _ I1 q1) fun u s2 ⟨y,H2,I2,r2,q2⟩=> ?_
 exact hf v u s2 x y H2 I2 r1 r2 q2
theorem agv{op:Operator}{r:R2}(ho:wz X (binaryOp op) r)(ha:PE X a ta)(hb:PE X b tb):PE X (.BinOp a op b pos) (tOp r ta tb):=by
 intro pins s σ H Q I h
 exact wpAny_BinOp (aey ha hb I h fun v u s2 x y H2 I2 rx ry q=>ho pins s2 σ H2 x y v u Q I2 rx ry q)
theorem agt{op:UnaryOp}{r:V→Hp→VK→Prop}(ho:UnR X (unaryOp op) r)(ha:PE X a ta):PE X (.UnaryOp op a pos) (tUn r ta):=by
 intro pins s σ H Q I h
 exact UnaryOp_ (iw (ha pins s σ H _ I h) fun v s1 ⟨x,H1,I1,r1,q1⟩=>ho pins s1 σ H1 x v Q I1 r1 q1)
theorem opI{f:Value→Value→Sem Value}{C:Int→Int→Prop}{g:Int→Int→Int}
  (rule:∀(i j:Int) (t u:Tok) (s:Shared) (Q:Value→Shared→Prop) (E:Value→Shared→Prop),C i j→Q (.int (g i j) s.toks) {s with toks:=s.toks+1}→wpAny (model X.prog X.w) X.A (f (.int i t) (.int j u)) Q E s):
  wz X f (rI C fun i j=> .int (g i j)):=by
 intro pins s σ H x y v u Q I rx ry h
 obtain⟨i,j,rfl,rfl,hc,q⟩:=h
 obtain⟨t,rfl⟩:=rx
 obtain⟨t',rfl⟩:=ry
 exact rule i j t t' s _ _ hc ⟨.int (g i j),H,I.tok _,⟨_,rfl⟩,q⟩
theorem agD{f:Value→Value→Sem Value}{g:Int→Int→Int}
  (rule:∀(i j:Int) (t u:Tok) (s:Shared) (Q:Value→Shared→Prop) (E:Value→Shared→Prop),Q (.int (g i j) s.toks) {s with toks:=s.toks+1}→wpAny (model X.prog X.w) X.A (f (.int i t) (.int j u)) Q E s):
  wz X f (YL fun i j=> .int (g i j)):=by
 intro pins s σ H x y v u Q I rx ry h
 obtain⟨i,j,rfl,rfl,q⟩:=h
 obtain⟨t,rfl⟩:=rx
 obtain⟨t',rfl⟩:=ry
 exact rule i j t t' s _ _ ⟨.int (g i j),H,I.tok _,⟨_,rfl⟩,q⟩
theorem aae{f:Value→Value→Sem Value}{g:Int→Int→Bool}
  (rule:∀(i j:Int) (t u:Tok) (s:Shared) (Q:Value→Shared→Prop) (E:Value→Shared→Prop),Q (.bool (g i j)) s→wpAny (model X.prog X.w) X.A (f (.int i t) (.int j u)) Q E s):
  wz X f (YL fun i j=> .bl (g i j)):=by
 intro pins s σ H x y v u Q I rx ry h
 obtain⟨i,j,rfl,rfl,q⟩:=h
 obtain⟨t,rfl⟩:=rx
 obtain⟨t',rfl⟩:=ry
 exact rule i j t t' s _ _ ⟨.bl (g i j),H,I,rfl,q⟩
def aoX(i j:Int):Prop:=0<j∧j<1073741824
def ajF(i j:Int):Prop:=0≤j∧j≤1000000∧i.natAbs<2 ^ 64
def aeL(i j:Int):Prop:=(-(2 ^ 64)<i∧i<2 ^ 64)∨(-(2 ^ 64)<j∧j<2 ^ 64)
theorem aeL.ok{i j:Int}(h:aeL i j):IntMulOk i j:=by
 rcases h with⟨h1,h2⟩ | ⟨h1,h2⟩
 ·exact .of_left (intBits_le_64 h1 h2)
 ·exact .of_right (intBits_le_64 h1 h2)
theorem ac3:wz X (binaryOp .Add) (YL fun i j=> .int (i+j)):=agD fun _ _ _ _ _ _ _ q=>add_int q
theorem acR:wz X (binaryOp .Sub) (YL fun i j=> .int (i - j)):=agD fun _ _ _ _ _ _ _ q=>sub_int q
theorem acV:wz X (binaryOp .Mult) (rI aeL fun i j=> .int (i*j)):=opI fun _ _ _ _ _ _ _ hc q=>mul_int q hc.ok
theorem aac:wz X (binaryOp .FloorDiv) (rI aoX fun i j=> .int (i / j)):=opI fun i j _ _ _ _ _ hc q=>by
 have h1:(0:Int)<j:=hc.1
 have h2:j<1073741824:=hc.2
 exact floordiv_int (by omega) (by rw[Int.fdiv_eq_ediv_of_nonneg i (by omega)];exact q) (.inl (PyProof.noPylong_small (by omega)))
theorem acW:wz X (binaryOp .Mod) (rI (fun _ j=>0<j) fun i j=> .int (i % j)):=opI fun i j _ _ _ _ _ hc q=>by
 have h1:(0:Int)<j:=hc
 exact mod_int' (by omega) (by rw[Int.fmod_eq_emod_of_nonneg i (by omega)];exact q)
theorem acT:wz X (binaryOp .Pow) (rI ajF fun i j=> .int (i ^ j.toNat)):=opI fun _ _ _ _ _ _ _ hc q=>pow_int_small hc.1 hc.2.1 hc.2.2 q
theorem acS:wz X (binaryOp .LShift) (rI ajF fun i j=> .int (i*2 ^ j.toNat)):=opI fun _ _ _ _ _ _ _ hc q=>lshift_int_small hc.1 hc.2.1 hc.2.2 q
theorem unI{f:Value→Sem Value}{g:Int→Int}
  (rule:∀(i:Int) (t:Tok) (s:Shared) (Q:Value→Shared→Prop) (E:Value→Shared→Prop),Q (.int (g i) s.toks) {s with toks:=s.toks+1}→wpAny (model X.prog X.w) X.A (f (.int i t)) Q E s):
  UnR X f (rU fun i=> .int (g i)):=by
 intro pins s σ H x v Q I rx h
 obtain⟨i,rfl,q⟩:=h
 obtain⟨t,rfl⟩:=rx
 exact rule i t s _ _ ⟨.int (g i),H,I.tok _,⟨_,rfl⟩,q⟩
theorem abJ:UnR X (unaryOp .USub) (rU fun i=> .int (-i)):=unI fun _ _ _ _ _ q=>neg_int q
end
section
variable{X:Cx}{a b c:Expr}{ta tb tc:TE}{pos:Pos}
theorem Hw{pins:List (Addr×Obj)}{σ:St}{H:Hp}{s:Shared}{Q:VK}{k k':Bool}(I:Inv X pins σ H s)(q:Q (.bl k) H)(e:k=k'):EP X pins σ Q (.bool k') s:=by
 subst e
 exact⟨.bl k,H,I,rfl,q⟩
theorem agz:wz X (compareOp .Lt) (YL fun i j=> .bl (decide (i<j))):=aae fun _ _ _ _ _ _ _ q=>lt_int q
theorem agA:wz X (compareOp .LtE) (YL fun i j=> .bl (decide (i≤j))):=aae fun _ _ _ _ _ _ _ q=>le_int q
theorem agB:wz X (compareOp .Gt) (YL fun i j=> .bl (decide (j<i))):=aae fun _ _ _ _ _ _ _ q=>gt_int q
theorem agC:wz X (compareOp .GtE) (YL fun i j=> .bl (decide (j≤i))):=aae fun _ _ _ _ _ _ _ q=>ge_int q
theorem UT:wz X (compareOp .Lt) (fun x y H Q=>∃i j,x= .str i∧y= .str j∧Q (.bl (decide (i.cps.toList<j.cps.toList))) H):=by
 intro pins s σ H x y v u Q I rx ry h
 obtain⟨i,j,rfl,rfl,q⟩:=h
 obtain⟨t,rfl⟩:=rx
 obtain⟨t',rfl⟩:=ry
 exact lt_str (Hw I q rfl)
theorem U0:wz X (compareOp .In) (fun x y H Q=>∃i j,x= .str i∧y= .str j∧Q (.bl (!(Builtin.Str.occurrences j i 0 j.length 1).isEmpty)) H):=by
 intro pins s σ H x y v u Q I rx ry h
 obtain⟨i,j,rfl,rfl,q⟩:=h
 obtain⟨t,rfl⟩:=rx
 obtain⟨t',rfl⟩:=ry
 exact in_str (Hw I q rfl)
theorem acZ:wz X (compareOp .Is) (fun x y H Q=>y= .non∧Q (.bl (decide (x= .non))) H):=by
 intro pins s σ H x y v u Q I rx ry h
 obtain⟨rfl,q⟩:=h
 cases ry
 refine is_none_gen (Hw I q ?_)
 cases x<;>first
  | (cases rx;rfl)
  | (obtain⟨t,rfl⟩:=rx;rfl)
theorem aab:wz X (compareOp .IsNot) (fun x y H Q=>y= .non∧Q (.bl (!decide (x= .non))) H):=by
 intro pins s σ H x y v u Q I rx ry h
 obtain⟨rfl,q⟩:=h
 cases ry
 refine isnot_none_gen (Hw I q ?_)
 cases x<;>first
  | (cases rx;rfl)
  | (obtain⟨t,rfl⟩:=rx;rfl)
theorem wz.or{f:Value→Value→Sem Value}{r r':R2}(h:wz X f r)(h':wz X f r'):wz X f (fun x y H Q=>r x y H Q∨r' x y H Q):=by
 intro pins s σ H x y v u Q I rx ry q
 rcases q with q | q
 ·exact h pins s σ H x y v u Q I rx ry q
 ·exact h' pins s σ H x y v u Q I rx ry q
theorem a_(b:Expr){op:CmpOp}(h:op≠ .In:=by decide)(h2:op≠ .NotIn:=by decide):behindInMarks op b=false:=by
 have e1:(op==CmpOp.In)=false:=by cases op<;>first | rfl | exact absurd rfl h
 have e2:(op==CmpOp.NotIn)=false:=by cases op<;>first | rfl | exact absurd rfl h2
 cases b<;>simp[behindInMarks,e1,e2]
theorem Z7{op:CmpOp}{r:R2}(ho:wz X (compareOp op) r)(ha:PE X a ta)(hb:PE X b tb)(hm:behindInMarks op b=false):PE X (.Compare a [op] [b] pos) (tOp r ta tb):=by
 intro pins s σ H Q I h
 exact wpAny_Compare1 (aey ha hb I h fun v u s2 x y H2 I2 rx ry q=>ho pins s2 σ H2 x y v u Q I2 rx ry q) hm
def abd(t:TE):TT:=fun σ H Q=>t σ H fun x H'=>∃k,x= .bl k∧Q k H'
theorem ZR{op:CmpOp}{r:R2}(ho:wz X (compareOp op) r)(ha:PE X a ta)(hb:PE X b tb)(hm:behindInMarks op b=false):PT X (.Compare a [op] [b] pos) (abd (tOp r ta tb)):=by
 intro pins s σ H Q I h
 refine wpAny_isTrue_Compare1 (iw (ha pins s σ H _ I h) fun v s1 ⟨x,H1,I1,r1,q1⟩=>iw (hb pins s1 σ H1 _ I1 q1) fun u s2 ⟨y,H2,I2,r2,q2⟩=>
  iw (ho pins s2 σ H2 x y v u _ I2 r1 r2 q2) fun c s3 ⟨z,H3,I3,r3,k,e,q3⟩=> ?_) hm
 subst e
 cases r3
 exact wpAny_truthy_bool ⟨H3,I3,q3⟩
def Wf(r r':R2)(ta tb tc:TE):TE:=fun σ H Q=>ta σ H fun x H1=>tb σ H1 fun y H2=>r x y H2 fun z H3=>∃k,z= .bl k∧
 (if k=true then tc σ H3 fun w' H4=>r' y w' H4 Q else Q (.bl false) H3)
theorem Xk{op op':CmpOp}{r r':R2}(ho:wz X (compareOp op) r)(ho':wz X (compareOp op') r')(ha:PE X a ta)(hb:PE X b tb)(hc:PE X c tc)
  (hm:lastMarks [op,op'] [b,c]=false:=by with_unfolding_all rfl):PE X (.Compare a [op,op'] [b,c] pos) (Wf r r' ta tb tc):=by
 intro pins s σ H Q I h
 refine Compare_chain (iw (ha pins s σ H _ I h) fun v s1 ⟨x,H1,I1,r1,q1⟩=>chain_link (iw (hb pins s1 σ H1 _ I1 q1) fun u s2 ⟨y,H2,I2,r2,q2⟩=>
  iw (ho pins s2 σ H2 x y v u _ I2 r1 r2 q2) fun d s3 ⟨z,H3,I3,r3,k,e,q3⟩=> ?_)) hm
 subst e
 cases r3
 refine wpAny_truthy_bool ?_
 cases k with
 | false=>exact ite_ff ⟨.bl false,H3,I3,rfl,q3⟩
 | true=>exact ite_tt (chain_last (iw (hc pins s3 σ H3 _ I3 q3) fun w' s4 ⟨z',H4,I4,r4,q4⟩=>ho' pins s4 σ H4 y z' u w' Q I4 r2 r4 q4))
theorem DP:(sizeLine:Nat)<2 ^ 63:=by rw[sizeLine_eq];decide
theorem QG:wz X (binaryOp .Add) (fun x y H Q=>∃i j,x= .str i∧y= .str j∧i.length+j.length≤sizeLine∧Q (.str (i++j)) H):=by
 intro pins s σ H x y v u Q I rx ry h
 obtain⟨i,j,rfl,rfl,hz,q⟩:=h
 obtain⟨t,rfl⟩:=rx
 obtain⟨t',rfl⟩:=ry
 exact add_str (fun t' tk=>⟨.str (i++j),H,I.tok _,⟨_,rfl⟩,q⟩) hz
theorem vals1{x:V}{us:List Value}(r:Vals [x] us):∃u,us=[u]∧RelV x u:=by
 cases r with
 | cons r1 r2=>cases r2;exact⟨_,rfl,r1⟩
theorem vals2{x y:V}{us:List Value}(r:Vals [x,y] us):∃u w',us=[u,w']∧RelV x u∧RelV y w':=by
 cases r with
 | cons r1 r2=>
  cases r2 with
  | cons r3 r4=>cases r4;exact⟨_,_,rfl,r1,r3⟩
theorem Vr(hc:X.calm=true):oN X (.builtin "max") (fun xs H Q=>∃i j,xs=[.int i,.int j]∧Q (.int (if j > i then j else i)) H):=by
 intro pins s σ H xs us Q I r h
 obtain⟨i,j,rfl,q⟩:=h
 obtain⟨u,w',rfl,⟨t,rfl⟩,⟨t',rfl⟩⟩:=vals2 r
 refine max_two_ints (I.ok.hd hc) fun h' tk k=>⟨_,H,I.kept k,?_,q⟩
 by_cases hj:j > i
 ·rw[if_pos hj,if_pos hj];exact⟨_,rfl⟩
 ·rw[if_neg hj,if_neg hj];exact⟨_,rfl⟩
theorem Vq(hc:X.calm=true):oN X (.builtin "min") (fun xs H Q=>∃i j,xs=[.int i,.int j]∧Q (.int (if j<i then j else i)) H):=by
 intro pins s σ H xs us Q I r h
 obtain⟨i,j,rfl,q⟩:=h
 obtain⟨u,w',rfl,⟨t,rfl⟩,⟨t',rfl⟩⟩:=vals2 r
 refine min_two_ints (I.ok.hd hc) fun h' tk k=>⟨_,H,I.kept k,?_,q⟩
 by_cases hj:j<i
 ·rw[if_pos hj,if_pos hj];exact⟨_,rfl⟩
 ·rw[if_neg hj,if_neg hj];exact⟨_,rfl⟩
theorem JC:oN X (.type "int") (fun xs H Q=>(∃i,xs=[.int i]∧Q (.int i) H)∨∃k,xs=[.bl k]∧Q (.int (if k then 1 else 0)) H):=by
 intro pins s σ H xs us Q I r h
 rcases h with⟨i,rfl,q⟩ | ⟨k,rfl,q⟩
 ·obtain⟨u,rfl,t,rfl⟩:=vals1 r
  exact call_int_int ⟨.int i,H,I,⟨_,rfl⟩,q⟩
 ·obtain⟨u,rfl,r1⟩:=vals1 r
  cases r1
  exact call_int_bool ⟨.int (if k then 1 else 0),H,I.tok _,⟨_,rfl⟩,q⟩
theorem Mf:oN X (.type "str") (fun xs H Q=>∃i,xs=[.int i]∧i.natAbs.log2<1920∧Q (.str (toString i)) H):=by
 intro pins s σ H xs us Q I r h
 obtain⟨i,rfl,hz,q⟩:=h
 obtain⟨u,rfl,t,rfl⟩:=vals1 r
 exact PySem.P.str_of_int hz ⟨.str _,H,I.tok _,⟨_,rfl⟩,q⟩
end
end L2
namespace L2
open PySem PySem.Spec PyProof.Rows
structure Rn(h:Heap)(x dx C:Addr)(mA:Str→Option Value):Prop where
 obj:h.get? x=some (PySem.W.instObj C dx)
 ns:h.Ns1 dx mA
 ne:dx≠x
theorem Ji{h:Heap}{dx:Addr}{mA:Str→Option Value}(n:h.Ns1 dx mA):∃od,h.get? dx=some od∧∀name,PySem.W.lookIn name od=some (mA name):=by
 obtain⟨o,es,ep,ho,hd,hk,_,hm⟩:=n
 refine⟨o,ho,fun name=> ?_⟩
 have e:=hm name
 unfold nsFind findBy at e
 rw[←Array.find?_toList]at e
 unfold PySem.W.lookIn
 rw[hd]
 dsimp only
 split
 ·rename_i y q
  rw[q]at e
  exact congrArg some e
 ·rename_i q
  rw[q]at e
  have a:es.toList.any (·.refKey)=false:=by
   rw[List.any_eq_false]
   intro y hy
   obtain⟨z,t,hkey⟩:=hk y (Array.mem_toList_iff.mp hy)
   simp[DictEntry.refKey,hkey]
  have a':¬es.toList.any (·.refKey)=true:=by rw[a];exact Bool.false_ne_true
  rw[if_neg a']
  exact congrArg some e
theorem Rn.look{h:Heap}{x dx C:Addr}{mA:Str→Option Value}(I:Rn h x dx C mA):∃od,PySem.W.InstAt h x (PySem.W.instObj C dx) C (some od)∧∀name,PySem.W.lookIn name od=some (mA name):=
 let⟨od,ho,hl⟩:=Ji I.ns
 ⟨od,⟨I.obj,rfl,rfl,ho⟩,hl⟩
section
variable{prog:Program}{w:World}{A:Around}{E:Value→Shared→Prop}{s:Shared}{K:PySem.W.Frag}{x dx C f:Addr}{mA:Str→Option Value}{name:Str}{v:Value}
theorem get_map{expr:Bool}{Q:Value→Shared→Prop}(X:K.In s.heap)(I:Rn s.heap x dx C mA)(hg:PySem.W.plainGet K C name=true)(hh:PySem.W.hasDictIn K C=true)
  (ha:PySem.W.findIn K (.ref C) name=some none) (hv:mA name=some v) (hv':PySem.W.handedIn v=true) (h:Q v {s with toks:=s.toks+1}):
  wpAny (model prog w) A (getAttr (.ref x) name expr) Q E s:=by
 obtain⟨od,J,hl⟩:=I.look
 exact PySem.W.get_value X J (PySem.W.plainGet_of hg).1 (PySem.W.findObj_own hh ha rfl (by rw[hl,hv])) hv' h
theorem Yc{pl:Sem Bool}{Q:Value×List Value→Shared→Prop}(X:K.In s.heap)(I:Rn s.heap x dx C mA)(hg:PySem.W.plainGet K C name=true)
  (hf:PySem.W.findIn K (.ref C) name=some (some (.ref f))) (ht:PySem.W.isFn K (.ref f)=true) (hv:mA name=none) (h:Q (.ref f,[.ref x]) s):
  wpAny (model prog w) A (getMethod (.ref x) name pl) Q E s:=by
 obtain⟨od,J,hl⟩:=I.look
 exact PySem.W.method_fn X J (PySem.W.plainGet_of hg).1 (PySem.W.plainGet_of hg).2 hf (beq_iff_eq.mp ht) (by show(PySem.W.lookIn name od).map (·.isSome)=some false;rw[hl,hv];rfl) h
theorem Zn{ns:List Str}{Q:Unit→Shared→Prop}(X:K.In s.heap)(I:Rn s.heap x dx C mA)
  (hs:PySem.W.findIn K (.ref C) "__setattr__" = some (some (.builtin "object.__setattr__"))) (hp:PySem.W.plainOver K C=true) (ht:PySem.W.takerIn K C name=some none) (hh:PySem.W.hasDictIn K C=true)
  (hw:PySem.Within mA ns) (hsz:ns.length≤sizeLine)
  (h:∀h',Rn h' x dx C (fun y=>if y=name then some v else mA y)→Heap.SameBut dx s.heap h'→Q () {s with heap:=h',toks:=s.toks+2}):
  wpAny (model prog w) A (setAttr (.ref x) name v) Q E s:=by
 obtain⟨od,J,hl⟩:=I.look
 refine PySem.W.set_plain X J hs (PySem.W.osa_open (s:={s with toks:=s.toks+1}) (r:=none) X J hp ht fun b=> ?_)
 obtain⟨cd,hc,hd'⟩:=PySem.W.any_some hh
 have hx:s.heap.get? x=some ⟨.ref C,some dx,.plain,#[]⟩:=I.obj
 refine wpAny_bind (wpAny_pure (wpAny_bind (wpAny_bind (wpAny_loadPart hx (wpAny_bind (PySem.W.Looks.here (s:={s with toks:=s.toks+1}) (PySem.W.looks_clsIn X hc) ?_))))))
 rw[hd']
 refine wpAny_pure (a:=some dx) (wpAny_bind (wpAny_pure (wpAny_bind ?_)))
 refine wpAny_nsSet1 (s:={s with toks:=s.toks+1}) I.ns fun h' hn2 hs2=> ?_
 obtain⟨oD,esD,epD,hoD,hdD,hcD⟩:=hn2.count (PySem.Within.cons name v hw)
 refine wpAny_bind (wpAny_lookBehind hoD (by rw[hdD];exact pastItsLine_dict (Nat.le_trans hcD (by rw[List.length_cons];omega))) ?_)
 exact wpAny_pure (h _ ⟨(hs2.2 _ (Ne.symm I.ne)).trans I.obj,hn2,I.ne⟩ hs2)
theorem Xz{R:Result→Shared→Prop}{vs:List Value}{kw:List (Str×Value)}(X:K.In s.heap)(hm:PySem.W.makesIn K C=true)
  (hi:PySem.W.findIn K (.ref C) "__init__" = some (some (.ref f))) (hf:PySem.W.typeIn K (.ref f)=some (.type "function"))
  (h:codeAny (model prog w) (A.under (.builtin "type.__call__" ⟨.ref C::vs,kw⟩)) (.call (.ref f) ⟨.ref (s.heap.objs.size+1)::vs,kw⟩) (PySem.W.InitBack (s.heap.objs.size+1) R)
   {s with heap:=(s.heap.push PySem.W.emptyDict).push (PySem.W.instObj C s.heap.objs.size)}):
  codeAny (model prog w) A (.call (.ref C) ⟨vs,kw⟩) R s:=by
 obtain⟨hh,g,d,t,os⟩:=s
 exact PySem.W.make_core (PySem.W.makes_of X hm) (PySem.W.looks_findIn X hi) (fun self=>PySem.W.bind_fn X self hf) (.inl rfl) h
end
def vV(f:Str)(v:V):List (Str×V)→List (Str×V)
 | []=>[(f,v)]
 | (g,x)::r=>if g=f then(g,v)::r else(g,x)::vV f v r
theorem Er(f g:Str)(v:V):∀fs:List (Str×V),(vV f v fs).lookup g=if g=f then some v else fs.lookup g
 | []=>by
  show List.lookup g [(f,v)]=_
  by_cases h:g=f
  ·have hb:(g==f)=true:=beq_iff_eq.mpr h
   simp only[List.lookup,hb,if_pos h]
  ·have hb:(g==f)=false:=beq_eq_false_iff_ne.mpr h
   simp only[List.lookup,hb,if_neg h]
 | (k,x)::r=>by
  have ih:=Er f g v r
  rw[show vV f v ((k,x)::r)=(if k=f then(k,v)::r else(k,x)::vV f v r)from rfl]
  by_cases hk:k=f
  ·rw[if_pos hk]
   by_cases h:g=k
   ·have hb:(g==k)=true:=beq_iff_eq.mpr h
    simp only[List.lookup,hb,if_pos (h.trans hk)]
   ·have hb:(g==k)=false:=beq_eq_false_iff_ne.mpr h
    simp only[List.lookup,hb,if_neg (fun e:g=f=>h (e.trans hk.symm))]
  ·rw[if_neg hk]
   by_cases h:g=k
   ·have hb:(g==k)=true:=beq_iff_eq.mpr h
    simp only[List.lookup,hb,if_neg (fun e:g=f=>hk (h.symm.trans e))]
   ·have hb:(g==k)=false:=beq_eq_false_iff_ne.mpr h
    simp only[List.lookup,hb]
    exact ih
theorem DQ(f:Str)(v:V):∀fs:List (Str×V),f∈(vV f v fs).map (·.1)∧∀g,g∈fs.map (·.1)→g∈(vV f v fs).map (·.1)
 | []=>⟨by simp[vV],fun g h=>by simp at h⟩
 | (k,x)::r=>by
  obtain⟨i1,i2⟩:=DQ f v r
  rw[show vV f v ((k,x)::r)=(if k=f then(k,v)::r else(k,x)::vV f v r)from rfl]
  by_cases hk:k=f
  ·rw[if_pos hk]
   subst hk
   exact⟨by simp,fun g h=>by simpa using h⟩
  ·rw[if_neg hk]
   refine⟨?_,fun g h=> ?_⟩
   ·rw[List.map_cons]
    exact List.mem_cons_of_mem _ i1
   ·rw[List.map_cons]at h ⊢
    rcases List.mem_cons.mp h with e | e
    ·exact List.mem_cons.mpr (.inl e)
    ·exact List.mem_cons_of_mem _ (i2 g e)
theorem Es(f:Str)(v:V):∀fs:List (Str×V),(vV f v fs).length≤fs.length+1
 | []=>by simp[vV]
 | (k,x)::r=>by
  have ih:=Es f v r
  rw[show vV f v ((k,x)::r)=(if k=f then(k,v)::r else(k,x)::vV f v r)from rfl]
  by_cases hk:k=f
  ·rw[if_pos hk,List.length_cons,List.length_cons];omega
  ·rw[if_neg hk,List.length_cons,List.length_cons];omega
theorem yW.some_of{v:V}{o:Option Value}(r:yW (some v) o):∃u,o=some u∧RelV v u:=by
 cases o with
 | none=>exact(show False from r).elim
 | some u=>exact⟨u,rfl,r⟩
theorem yW.none_of{o:Option Value}(r:yW none o):o=none:=by
 cases o with
 | none=>rfl
 | some u=>exact(show False from r).elim
theorem Jr{v:V}{u:Value}(r:RelV v u):PySem.W.handedIn u=true:=by
 cases v with
 | non=>cases(show u=Value.none from r);rfl
 | bl b=>cases(show u=Value.bool b from r);rfl
 | int i=>obtain⟨t,e⟩:=(show ∃t,u=Value.int i t from r);cases e;rfl
 | str x=>obtain⟨t,e⟩:=(show ∃t,u=Value.str x t from r);cases e;rfl
 | byt b=>obtain⟨t,e⟩:=(show ∃t,u=Value.bytes b t from r);cases e;rfl
 | flt b=>obtain⟨t,e⟩:=(show ∃t,u=Value.float b t from r);cases e;rfl
 | ref a=>cases(show u=Value.ref a from r);rfl
 | ty n=>cases(show u=Value.type n from r);rfl
section
variable{P:Program}{w:World}{H H':Hp}{h h':Heap}{a C dx:Addr}{fs fs':List (Str×V)}
theorem Gd(hok:vq P w H h)(e:H a=some (.ins C dx fs)):∃mA,Rn h a dx C mA∧(∀f,yW (fs.lookup f) (mA f))∧PySem.Within mA (fs.map (·.1))∧fs.length≤1000∧H dx=some (.own a):=by
 obtain⟨d,z,ne,ob,mA,n,r,q⟩:=(show gP P w H h a (.ins C dx fs)from hok a _ e)
 exact⟨mA,⟨ob,n,ne⟩,r,q,z,d⟩
end
structure PB(K:PySem.W.Frag)(C:Addr):Prop where
 pg:PySem.W.plainGet K C Str.empty=true
 hd:PySem.W.hasDictIn K C=true
 po:PySem.W.plainOver K C=true
 sa:PySem.W.findIn K (.ref C) "__setattr__" = some (some (.builtin "object.__setattr__"))
theorem PB.get{K:PySem.W.Frag}{C:Addr}(c:PB K C)(f:Str):PySem.W.plainGet K C f=true:=c.pg
def lE(K:PySem.W.Frag)(C:Addr)(f:Str):Prop:=PySem.W.findIn K (.ref C) f=some none
theorem lE.taker{K:PySem.W.Frag}{C:Addr}{f:Str}(n:lE K C f):PySem.W.takerIn K C f=some none:=by
 unfold PySem.W.takerIn
 rw[show PySem.W.findIn K (.ref C) f=some none from n]
 rfl
structure Meth(K:PySem.W.Frag)(C:Addr)(m:Str)(f:Addr):Prop where
 at_:PySem.W.findIn K (.ref C) m=some (some (.ref f))
 fn:PySem.W.isFn K (.ref f)=true
 kp:PySem.W.keepIn K (.ref f)=true
section
variable{X:Cx}{pins:List (Addr×Obj)}{σ:St}{H:Hp}{s:Shared}{a C dx:Addr}{fs:List (Str×V)}{f:Str}{v:V}{A:Around}{E:Value→Shared→Prop}
theorem Q_{b:Bool}{Q:Value→Shared→Prop}(I:Inv X pins σ H s)(e:H a=some (.ins C dx fs))(c:PB X.K C)(n:lE X.K C f)(l:fs.lookup f=some v)
  (h:∀u s',Inv X pins σ H s'→RelV v u→Q u s'):wpAny (model X.prog X.w) A (getAttr (.ref a) f b) Q E s:=by
 obtain⟨mA,O,r,_,_,_⟩:=Gd I.hok e
 obtain⟨u,hu,ru⟩:=yW.some_of (v:=v) (o:=mA f) (by rw[←l];exact r f)
 exact get_map I.ye O (c.get f) c.hd n hu (Jr ru) (h u _ (I.tok _) ru)
theorem Hu{m:Str}{g:Addr}{pl:Sem Bool}{Q:Value×List Value→Shared→Prop}(I:Inv X pins σ H s)(e:H a=some (.ins C dx fs))(c:PB X.K C)(k:Meth X.K C m g)(l:fs.lookup m=none)
  (h:Q (.ref g,[.ref a]) s):wpAny (model X.prog X.w) A (getMethod (.ref a) m pl) Q E s:=by
 obtain⟨mA,O,r,_,_,_⟩:=Gd I.hok e
 have hn:mA m=none:=yW.none_of (by rw[←l];exact r m)
 exact Yc I.ye O (c.get m) k.at_ k.fn hn h
theorem Qo{y:V}{u:Value}{Q:Unit→Shared→Prop}(I:Inv X pins σ H s)(e:H a=some (.ins C dx fs))(c:PB X.K C)(n:lE X.K C f)(hl:fs.length<1000)(ry:RelV y u)
  (h:∀s',Inv X pins σ (upd H a (.ins C dx (vV f y fs))) s'→Q () s'):wpAny (model X.prog X.w) A (setAttr (.ref a) f u) Q E s:=by
 obtain⟨mA,O,r,wi,_,ho⟩:=Gd I.hok e
 have hz:(fs.map (·.1)).length≤sizeLine:=by rw[List.length_map,sizeLine_eq];omega
 refine Zn I.ye O c.sa c.po n.taker c.hd wi hz fun h' O' sb=>h _ ?_
 have hd:∃o,h'.get? dx=some o:=let⟨o,_,_,e',_⟩:=O'.ns;⟨o,e'⟩
 refine I.write (x:=a) (e:=dx) (by rw[e];exact True.intro) (.inr ho) (fun b q hb z=>(sb.2 b hb).trans z) hd ?_
 refine⟨by rw[bw O.ne];exact ho,?_,O.ne,O'.obj,_,O'.ns,fun g=> ?_,fun g hg=> ?_⟩
 ·have:=Es f y fs;omega
 ·show yW ((vV f y fs).lookup g) (if g=f then some u else mA g)
  rw[Er]
  by_cases q:g=f
  ·rw[if_pos q,if_pos q];exact ry
  ·rw[if_neg q,if_neg q];exact r g
 ·by_cases q:g=f
  ·rw[q];exact(DQ f y fs).1
  ·refine(DQ f y fs).2 g (wi g fun z=>hg ?_)
   show(if g=f then some u else mA g)=none
   rw[if_neg q];exact z
theorem Inv.made(I:Inv X pins σ H s):Inv X pins σ (upd (upd H s.heap.objs.size (.own (s.heap.objs.size+1))) (s.heap.objs.size+1) (.ins C s.heap.objs.size []))
  {s with heap:=(s.heap.push PySem.W.emptyDict).push (PySem.W.instObj C s.heap.objs.size)}:=by
 have e1:(s.heap.push PySem.W.emptyDict).get? s.heap.objs.size=some PySem.W.emptyDict:=Heap.get?_push_size s.heap rfl
 have e2:((s.heap.push PySem.W.emptyDict).push (PySem.W.instObj C s.heap.objs.size)).get? (s.heap.objs.size+1)=some (PySem.W.instObj C s.heap.objs.size):=by
  have:=Heap.get?_push_size (s.heap.push PySem.W.emptyDict) (o:=PySem.W.instObj C s.heap.objs.size) rfl
  rwa [Heap.size_push]at this
 have e3:(s.heap.push PySem.W.emptyDict).Ns s.heap.objs.size (fun _=>none):=⟨PySem.W.emptyDict,#[],_,e1,rfl,(fun e he=>absurd he (by simp)),fun _=>rfl⟩
 have I1:=I.laid (a:=s.heap.objs.size) (o:= .own (s.heap.objs.size+1)) (h':=s.heap.push PySem.W.emptyDict) (t':=s.toks) (fun b u q=>Heap.get?_push_of_some _ q) (Nat.le_refl _) ⟨_,e1⟩
 refine I1.laid (a:=s.heap.objs.size+1) (o:= .ins C s.heap.objs.size []) (t':=s.toks) (fun b u q=>Heap.get?_push_of_some _ q) (Nat.le_of_eq (Heap.size_push _ _)) ?_
 have ne:s.heap.objs.size≠s.heap.objs.size+1:=Nat.ne_of_lt (Nat.lt_succ_self _)
 refine⟨by rw[bw ne,dm],Nat.zero_le _,ne,e2,fun _=>none,(Heap.Ns1.of_empty e3).at fun o q=>Heap.get?_push_of_some _ q,fun _=>True.intro,fun y hy=>absurd rfl hy⟩
theorem T9{prog:Program}{w:World}{env:Env}{e:Expr}{f:Str}{pos:Pos}{s:Shared}{Q:Value→Shared→Prop}(hb:attributeBase e f env (eval e env)=eval e env)
  (h:wpAny (model prog w) A (eval e env) (fun o s₁=>wpAny (model prog w) A (getAttr o f true) Q E s₁) E s):wpAny (model prog w) A (eval (.Attribute e f pos) env) Q E s:=
 Attribute_any_ h (by rw[arm_eval_Attribute,hb])
end
def al1(K:PySem.W.Frag)(ta:TE)(f:Str):TE:=fun σ H Q=>ta σ H fun x H1=>∃a C dx fs v,x= .ref a∧H1 a=some (.ins C dx fs)∧PB K C∧lE K C f∧fs.lookup f=some v∧Q v H1
def amB(K:PySem.W.Frag)(ta tv:TE)(f:Str):TS:=fun D σ H=>tv σ H fun y H1=>ta σ H1 fun x H2=>∃a C dx fs,x= .ref a∧H2 a=some (.ins C dx fs)∧PB K C∧lE K C f∧fs.length<1000∧
 D.nx σ (upd H2 a (.ins C dx (vV f y fs)))
section
variable{X:Cx}{o e value:Expr}{f:Str}{pos pos' tpos:Pos}{ta tv:TE}
theorem acJ(he:PE X e ta)(hb:attributeBase e f X.env (eval e X.env)=eval e X.env):PE X (.Attribute e f pos) (al1 X.K ta f):=by
 intro pins s σ H Q I h
 refine T9 hb (iw (he pins s σ H _ I h) fun u s1 ⟨x,H1,I1,rx,a,C,dx,fs,v,ex,ea,c,n,l,q⟩=> ?_)
 subst ex
 obtain rfl:u=Value.ref a:=rx
 exact Q_ I1 ea c n l fun u' s2 I2 ru=>⟨v,H1,I2,ru,q⟩
theorem acv(ha:PE X o ta)(hv:PE X value tv)(hs:swapsWith value (some (.Attribute o f pos')) pos.line X.env=pure false):PS X (.Assign [.Attribute o f pos'] value pos) (amB X.K ta tv f):=by
 intro pins s σ H D I h
 refine plainObj_wpAny_Assign_Attribute (iw (hv pins s σ H _ I h) fun u s1 ⟨y,H1,I1,ry,q⟩=>iw (ha pins s1 σ H1 _ I1 q) fun ov s2 ⟨x,H2,I2,rx,a,C,dx,fs,ex,ea,c,n,l,q2⟩=> ?_) hs
 subst ex
 obtain rfl:ov=Value.ref a:=rx
 exact Qo I2 ea c n l ry fun s3 I3=>⟨σ,_,I3,q2⟩
end
section
variable{X:Cx}{pins:List (Addr×Obj)}{σ:St}{H:Hp}{s:Shared}{A:Around}{E:Value→Shared→Prop}{Q:Value→Shared→Prop}{c:Value}{b:Bool}
inductive Eg (K:PySem.W.Frag) (H:Hp):V→Value→Prop where
 | non:Eg K H .non (.type "NoneType")
 | bl (x:Bool):Eg K H (.bl x) (.type "bool")
 | int (i:Int):Eg K H (.int i) (.type "int")
 | str (x:Str):Eg K H (.str x) (.type "str")
 | flt (x:UInt64):Eg K H (.flt x) (.type "float")
 | lst {a:Addr} {xs:List V} (e:H a=some (.lst xs)):Eg K H (.ref a) (.type "list")
 | Af {a:Addr} {o:Obj} {xs:List V} (e:H a=some (.Af o (.lst xs))):Eg K H (.ref a) (.type "list")
 | tup {a:Addr} {xs:List V} (e:H a=some (.tup xs)):Eg K H (.ref a) (.type "tuple")
 | dK {a:Addr} {kvs:List (Key×V)} (e:H a=some (.dK kvs)):Eg K H (.ref a) (.type "dict")
 | dT {a:Addr} {kvs:List (List Key×V)} (e:H a=some (.dT kvs)):Eg K H (.ref a) (.type "dict")
 | ins {a C dx:Addr} {fs:List (Str×V)} (e:H a=some (.ins C dx fs)) (cl:PB K C) (ha:PySem.W.findIn K (.ref C) "__class__" = some (some (.builtin "object.__class__")))
   (hn:PySem.W.specialIn K (.builtin "object.__class__") "__get__" = some (some (.builtin "getset_descriptor.__get__"))) (htk:PySem.W.takesIn K (.builtin "object.__class__")=some true)
   (hm:PySem.W.mroIn K C (.type "object")=some true):Eg K H (.ref a) (.ref C)
theorem Vi{x:V}{u t:Value}(I:Inv X pins σ H s)(rx:RelV x u)(ty:Eg X.K H x t)(e:PySem.W.kitOne X.K t c=some b)(h:∀tk,Q (.bool b) {s with toks:=tk}):
  wpAny (model X.prog X.w) A (call (.builtin "isinstance") [u,c]) Q E s:=by
 cases ty with
 | non=>cases(show u=Value.none from rx);exact PySem.W.kia_one PySem.W.kitx_none I.ye True.intro e (fun z=>nomatch z) h
 | bl y=>cases(show u=Value.bool y from rx);exact PySem.W.kia_one PySem.W.kitx_bool I.ye True.intro e (fun z=>nomatch z) h
 | int i=>obtain⟨t,q⟩:=(show ∃t,u=Value.int i t from rx);cases q;exact PySem.W.kia_one PySem.W.kitx_int I.ye True.intro e (fun z=>nomatch z) h
 | str y=>obtain⟨t,q⟩:=(show ∃t,u=Value.str y t from rx);cases q;exact PySem.W.kia_one PySem.W.kitx_str I.ye True.intro e (fun z=>nomatch z) h
 | flt y=>obtain⟨t,q⟩:=(show ∃t,u=Value.float y t from rx);cases q;exact PySem.W.kia_one PySem.W.kitx_float I.ye True.intro e (fun z=>nomatch z) h
 | @lst a xs ea=>
  cases(show u=Value.ref a from rx)
  obtain⟨_,_,n,_,h1⟩:=(show gP X.prog X.w H s.heap a (.lst xs)from I.hok a _ ea)
  exact PySem.W.kia_one PySem.W.kitx_list I.ye ⟨_,h1,rfl⟩ e (fun z=>nomatch z) h
 | @Af a ob xs ea=>
  cases(show u=Value.ref a from rx)
  obtain⟨_,_,_,n,_,h1⟩:=(show gP X.prog X.w H s.heap a (.Af ob (.lst xs))from I.hok a _ ea)
  exact PySem.W.kia_one PySem.W.kitx_list I.ye ⟨_,h1,rfl⟩ e (fun z=>nomatch z) h
 | @tup a xs ea=>
  cases(show u=Value.ref a from rx)
  obtain⟨_,_,_,p⟩:=(show gP X.prog X.w H s.heap a (.tup xs)from I.hok a _ ea)
  obtain⟨o,h1,h2,_⟩:=p
  exact PySem.W.kia_one PySem.W.kitx_tuple I.ye ⟨o,h1,h2⟩ e (fun z=>nomatch z) h
 | @dK a kvs ea=>
  cases(show u=Value.ref a from rx)
  obtain⟨_,_,vs,_,p⟩:=(show gP X.prog X.w H s.heap a (.dK kvs)from I.hok a _ ea)
  obtain⟨o,es,ep,h1,h2,_⟩:=p
  exact PySem.W.kia_one PySem.W.kitx_dict I.ye ⟨o,h1,h2.1⟩ e (fun z=>nomatch z) h
 | @dT a kvs ea=>
  cases(show u=Value.ref a from rx)
  obtain⟨_,_,xs,_,o,es,ep,h1,h2,_⟩:=(show gP X.prog X.w H s.heap a (.dT kvs)from I.hok a _ ea)
  exact PySem.W.kia_one PySem.W.kitx_dict I.ye ⟨o,h1,h2.1⟩ e (fun z=>nomatch z) h
 | @ins a C dx fs ea cl ha hn htk hm=>
  cases(show u=Value.ref a from rx)
  obtain⟨mA,O,_⟩:=Gd I.hok ea
  obtain⟨od,J,_⟩:=O.look
  exact PySem.W.kia_one (PySem.W.kitx_own (cl.get _) cl.hd ha hn htk hm) I.ye J e (fun z=>nomatch z) h
end
end L2
namespace L2
open PySem PySem.Spec PyProof.Rows
structure lq(k:Nat)(A:Around):Prop where
 hd:A.handled=none
 dp:A.depth+3*k+5<recursionLimit
 un:A.units+16*k+200<cLine
theorem lq.mono{j k:Nat}{A:Around}(r:lq k A)(h:j≤k):lq j A:=⟨r.hd,by have:=r.dp;omega,by have:=r.un;omega⟩
theorem lq.deeper{k:Nat}{A:Around}(r:lq (k+1) A)(env:Env):lq k (A.deeper env):=
 ⟨r.hd,by have:=r.dp;show A.depth+1+3*k+5<_;omega,by have:=r.un;show A.units+3+16*k+200<_;omega⟩
theorem lq.in1{k:Nat}{A:Around}(r:lq (k+1) A):lq k A.in1:=
 ⟨r.hd,by have:=r.dp;show A.depth+3*k+5<_;omega,by have:=r.un;show A.units+1+16*k+200<_;omega⟩
theorem QT{A:Around}{C:Addr}{us:List Value}{kw:List (Str×Value)}:(A.under (.builtin "type.__call__" ⟨.ref C::us,kw⟩)).depth=A.depth+1:=by
 first | rfl | simp[Around.under,Code.weight,Code.isCreation,Code.isGuard,Code.isCaller,Code.frames,Code.isFrame,guardIds]
theorem QS{A:Around}{C:Addr}{us:List Value}{kw:List (Str×Value)}:(A.under (.builtin "type.__call__" ⟨.ref C::us,kw⟩)).units=A.units+1:=by
 first | rfl | simp[Around.under,Code.cUnits,Code.frames,Code.isFrame]
theorem lq.make{k:Nat}{A:Around}(r:lq (k+1) A)(C:Addr)(us:List Value)(kw:List (Str×Value)):lq k (A.under (.builtin "type.__call__" ⟨.ref C::us,kw⟩)):=
 ⟨r.hd,by have:=r.dp;rw[QT];omega,by have:=r.un;rw[QS];omega⟩
theorem lq.depth{k:Nat}{A:Around}(r:lq k A):A.depth<recursionLimit:=by have:=r.dp;omega
theorem lq.units{k:Nat}{A:Around}(r:lq k A):A.units+64<cLine:=by have:=r.un;omega
def afs:TA:=fun _ H Q=>Q [] H
def afw(ta:TE)(tr:TA):TA:=fun σ H Q=>ta σ H fun x H1=>tr σ H1 fun xs H2=>Q (x::xs) H2
section
variable{X:Cx}{e:Expr}{es:List Expr}{te:TE}{t:TA}{pos:Pos}
theorem acL:PA X [] afs:=fun _ _ _ _ H Q I h=>Calls.spliced_nil ⟨[],H,I,.nil,h⟩
theorem Z9(ha:PE X e te)(hr:PA X es t)(hs:starEach (e::es) X.env=(false,eval e X.env)::starEach es X.env:=by rfl):PA X (e::es) (afw te t):=by
 intro pos pins s σ H Q I h
 rw[hs]
 show wpAny _ _ (spliced ((false,eval e X.env)::backTo pos (starEach es X.env))) _ _ s
 refine Calls.spliced_cons (iw (ha pins s σ H _ I h) fun u s1 ⟨x,H1,I1,r1,q1⟩=> ?_)
 exact iw (hr pos pins s1 σ H1 _ I1 q1) fun us s2 ⟨xs,H2,I2,r2,q2⟩=>⟨x::xs,H2,I2,.cons r1 r2,q2⟩
def alT(t:TA):TE:=fun σ H Q=>t σ H fun xs H1=>xs.length≤sizeLine∧∀p,H1 p=none→Q (.ref p) (upd H1 p (.tup xs))
def alY(t:TA):TE:=fun σ H Q=>t σ H fun xs H1=>xs.length≤sizeLine∧∀p,H1 p=none→Q (.ref p) (upd H1 p (.lst xs))
theorem acC{x1}(h:PA X es t):PE X (.Tuple es x1 pos) (alT t):=by
 intro pins s σ H Q I hq
 refine wpAny_Tuple_spliced (iw (h pos pins s σ H _ I hq) fun us s1 ⟨xs,H1,I1,r,z,q⟩=>⟨by rw[←r.length];exact z,?_⟩)
 have hf:H1 s1.heap.objs.size=none:=I1.hok.fresh (Nat.le_refl _)
 refine⟨.ref s1.heap.objs.size,upd H1 s1.heap.objs.size (.tup xs),I1.laid (t':=s1.toks) (fun b u e=>Heap.get?_push_of_some _ e) (Nat.le_refl _) ?_,rfl,q _ hf⟩
 exact⟨z,us,r,⟨_,Heap.get?_push_size _ rfl,rfl,_,rfl⟩⟩
theorem acH(h:PA X es t):PE X (.List es pos) (alY t):=by
 intro pins s σ H Q I hq
 refine wpAny_List_spliced (iw (h pos pins s σ H _ I hq) fun us s1 ⟨xs,H1,I1,r,z,q⟩=>⟨by rw[←r.length];exact z,?_⟩)
 have hf:H1 s1.heap.objs.size=none:=I1.hok.fresh (Nat.le_refl _)
 refine⟨.ref s1.heap.objs.size,upd H1 s1.heap.objs.size (.lst xs),I1.laid (t':=s1.toks) (fun b u e=>Heap.get?_push_of_some _ e) (Nat.le_refl _) ?_,rfl,q _ hf⟩
 exact⟨z,us,0,r,Heap.get?_push_size _ rfl⟩
end
abbrev Sp:=List V→Hp→VK→XK→Prop
abbrev Rv:=List Env→Hp→Shared→XK→Value→Shared→Prop
structure Iv(P:Program)(w:World)(K:PySem.W.Frag)(mg:Str→Option Value)(base:Heap)(A:Around)(outer:List Env)(s:Shared)(H:Hp):Prop where
 frames:A.frames=some outer
 mod:Mod K mg base
 bs:∀b o,base.get? b=some o→s.heap.get? b=some o∧H b=none
 PL:base.objs.size≤s.heap.objs.size
 zJ:s.heap.FunFrames base outer
 Ye:∀b∈frs outer,H b=none
 hok:vq P w H s.heap
 bare:AllBare s.gens
def CE(outer:List Env)(P:Program)(w:World)(H:Hp)(s:Shared)(Q:VK)(u:Value)(s':Shared):Prop:=
 ∃v H',s'.os=s.os∧AllBare s'.gens∧Un (frs outer) [] H H' s.heap s'.heap∧vq P w H' s'.heap∧RelV v u∧Q v H'
def CR(CX:Rv)(outer:List Env)(P:Program)(w:World)(H:Hp)(s:Shared)(Q:VK)(E:XK)(r:Result)(s':Shared):Prop:=
 match r with
 | .ok (.ret u)=>CE outer P w H s Q u s'
 | .ok _=>False
 | .error e=>CX outer H s E e s'
structure bx(P:Program)(w:World)(K:PySem.W.Frag)(mg:Str→Option Value)(base:Heap)(CX:Rv)(k:Nat)(f:Addr)(fd:FuncData)(ps:List Str)(sp:Sp):Prop where
 len:∀vs H Q E,sp vs H Q E→vs.length=ps.length
 run:∀(A:Around) (outer:List Env) (s:Shared) (H:Hp) (args:Args) (us:List Value) (vs:List V) (Q:VK) (E:XK),lq k A→Iv P w K mg base A outer s H→BindsTo s fd args (ps.zip us)→Vals vs us→sp vs H Q E→
  codeAny (model P w) A (.call (.ref f) args) (CR CX outer P w H s Q E) s
theorem bx.imp{P:Program}{w:World}{K:PySem.W.Frag}{mg:Str→Option Value}{base:Heap}{CX:Rv}{k:Nat}{f:Addr}{fd:FuncData}{ps:List Str}{sp sp':Sp}(F:bx P w K mg base CX k f fd ps sp)
  (h:∀vs H Q E,sp' vs H Q E→sp vs H Q E):bx P w K mg base CX k f fd ps sp':=
 ⟨fun vs H Q E q=>F.len vs H Q E (h _ _ _ _ q),fun A outer s H args us vs Q E hr he hb hv hs=>F.run A outer s H args us vs Q E hr he hb hv (h _ _ _ _ hs)⟩
theorem Iv.make{P:Program}{w:World}{K:PySem.W.Frag}{mg:Str→Option Value}{base:Heap}{A:Around}{outer:List Env}{s:Shared}{H:Hp}(e:Iv P w K mg base A outer s H)(C:Addr)(us:List Value)(kw:List (Str×Value)):
  Iv P w K mg base (A.under (.builtin "type.__call__" ⟨.ref C::us,kw⟩)) outer s H:=⟨by first | exact e.frames | (simpa[Around.under,Code.envs,Code.isFrame,pushEnvs]using e.frames),e.mod,e.bs,e.PL,e.zJ,e.Ye,e.hok,e.bare⟩
theorem Iv.in1{P:Program}{w:World}{K:PySem.W.Frag}{mg:Str→Option Value}{base:Heap}{A:Around}{outer:List Env}{s:Shared}{H:Hp}(e:Iv P w K mg base A outer s H):
  Iv P w K mg base A.in1 outer s H:=⟨e.frames,e.mod,e.bs,e.PL,e.zJ,e.Ye,e.hok,e.bare⟩
section
variable{X:Cx}{pins:List (Addr×Obj)}{σ:St}{H:Hp}{s s':Shared}
theorem Inv.env0(I:Inv X pins σ H s):Iv X.prog X.w X.K X.mg X.base X.A X.stack s H:=
 ⟨I.ok.frames,I.ok.mod,I.bs,Nat.le_trans I.ok.PL I.sz,I.stack,I.Bw,I.hok,I.bare⟩
theorem Inv.after{Q:VK}{u:Value}(I:Inv X pins σ H s)(h:CE X.stack X.prog X.w H s Q u s'):EP X pins σ Q u s':=by
 obtain⟨v,H',os,bare,un,hok,r,q⟩:=h
 obtain⟨hh,g,d,t,os'⟩:=s'
 obtain rfl:os'=s.os:=os
 exact⟨v,H',I.call (h':=hh) (g':=g) (d':=d) (t':=t) (ch:=[]) un hok bare (fun b z=>absurd z (by simp)),r,q⟩
end
def Binds(K:PySem.W.Frag)(fd:FuncData)(ps:List Str)(ds:List Value):Prop:=
 ∀(s:Shared) (us:List Value),K.In s.heap→(us++ds).length=ps.length→BindsTo s fd ⟨us,[]⟩ (ps.zip (us++ds))
theorem Binds.all{K:PySem.W.Frag}{fd:FuncData}{ps:List Str}(h:∀us:List Value,us.length=ps.length→bindArgs fd ⟨us,[]⟩=pure (ps.zip us)):Binds K fd ps []:=fun s us _ hl=>by
 rw[List.append_nil]at hl ⊢
 exact .of_eq (h us hl)
section
variable{X:Cx}{CX:Rv}{k:Nat}{f C:Addr}{fd:FuncData}{ps:List Str}{sp:Sp}{Ag:List V}{ds:List Value}{E:XK}{x m:Str}{p pos apos:Pos}{e o:Expr}{es:List Expr}{ta:TE}{t:TA}
structure Mk(K:PySem.W.Frag)(C f:Addr):Prop where
 makes:PySem.W.makesIn K C=true
 init:PySem.W.findIn K (.ref C) "__init__" = some (some (.ref f))
 fn:PySem.W.isFn K (.ref f)=true
 kp:PySem.W.keepIn K (.ref C)=true
end
section
variable{X:Cx}{CX:Rv}{k:Nat}{f C:Addr}{fd:FuncData}{ps ks:List Str}{sp:Sp}{E:XK}{x m:Str}{p pos apos kpos:Pos}{e o:Expr}{es:List Expr}{kws:List Keyword}{te ta:TE}{t tk:TA}{nm:Option Str}
variable{g:List Value→List Value→List Value}{gV:List V→List V→List V}
end
structure bf(N P:List Str)(sc:Scope):Prop where
 kind:sc.kind= .function
 co:sc.isCoroutine=false
 gen:sc.isGenerator=false
 nd:N.Nodup
 pre:N.take P.length=P
 par:∀x∈P,sc.names.lookup x=some .local∨sc.names.lookup x=some .cell
 ade:∀y∈sc.names,y.2≠ .free
theorem JG{kindOf:Str→Option NameKind}{x:Str}:∀{binds:List (Str×Value)} {m:Str→Option Value},(∀v,(x,v)∉binds)→bindL kindOf binds m x=m x
 | [],_,_=>rfl
 | (n,v)::r,m,h=>by
  unfold bindL
  rw[JG fun w hw=>h w (List.mem_cons_of_mem _ hw)]
  split
  ·have:x≠n:=by rintro rfl;exact h v List.mem_cons_self
   simp[this]
  ·rfl
theorem JK{kindOf:Str→Option NameKind}{x:Str}:∀{binds:List (Str×Value)} {m:Str→Option Value},(∀v,(x,v)∉binds)→bindC kindOf binds m x=m x
 | [],_,_=>rfl
 | (n,v)::r,m,h=>by
  unfold bindC
  rw[JK fun w hw=>h w (List.mem_cons_of_mem _ hw)]
  split
  ·rfl
  ·have:x≠n:=by rintro rfl;exact h v List.mem_cons_self
   simp[this]
theorem JH{kindOf:Str→Option NameKind}{x:Str}{v:Value}:∀{P:List Str} {vs:List Value} {i:Nat} {m:Str→Option Value},P.Nodup→P[i]? = some x→vs[i]? = some v→kindOf x=some .local→
  bindL kindOf (P.zip vs) m x=some v
 | [],_,_,_,_,h,_,_=>by simp at h
 | _::_,[],_,_,_,_,h,_=>by simp at h
 | p::P,w::vs,0,m,nd,h1,h2,hk=>by
  simp at h1 h2;subst h1;subst h2
  show bindL kindOf ((p,w)::P.zip vs) m p=_
  unfold bindL
  rw[JG fun v hv=>(List.nodup_cons.mp nd).1 (List.of_mem_zip hv).1,if_pos hk]
  simp
 | p::P,w::vs,i+1,m,nd,h1,h2,hk=>by
  show bindL kindOf ((p,w)::P.zip vs) m x=_
  unfold bindL
  exact JH (i:=i) (List.nodup_cons.mp nd).2 (by simpa using h1) (by simpa using h2) hk
theorem JL{kindOf:Str→Option NameKind}{x:Str}{v:Value}:∀{P:List Str} {vs:List Value} {i:Nat} {m:Str→Option Value},P.Nodup→P[i]? = some x→vs[i]? = some v→kindOf x≠some .local→
  bindC kindOf (P.zip vs) m x=some v
 | [],_,_,_,_,h,_,_=>by simp at h
 | _::_,[],_,_,_,_,h,_=>by simp at h
 | p::P,w::vs,0,m,nd,h1,h2,hk=>by
  simp at h1 h2;subst h1;subst h2
  show bindC kindOf ((p,w)::P.zip vs) m p=_
  unfold bindC
  rw[JK fun v hv=>(List.nodup_cons.mp nd).1 (List.of_mem_zip hv).1,if_neg hk]
  simp
 | p::P,w::vs,i+1,m,nd,h1,h2,hk=>by
  show bindC kindOf ((p,w)::P.zip vs) m x=_
  unfold bindC
  exact JL (i:=i) (List.nodup_cons.mp nd).2 (by simpa using h1) (by simpa using h2) hk
def start(N:List Str)(vs:List V):St:=vs.map some++List.replicate (N.length - vs.length) none
def yU(CX:Rv)(P:Program)(w:World)(K:PySem.W.Frag)(mg:Str→Option Value)(base:Heap)(N:List Str)(qual:Str)(scope:Scope)(f:Addr)(cd:Value)(A:Around)(outer:List Env)(s:Shared)(H:Hp)(E:XK):Cx where
 prog:=P
 w:=w
 K:=K
 mg:=mg
 base:=base
 A:=A.deeper (envOfC qual scope s.heap.objs.size f cd)
 N:=N
 s₀:=s
 H₀:=H
 env:=envOfC qual scope s.heap.objs.size f cd
 outer:=outer
 stack:=envOfC qual scope s.heap.objs.size f cd::outer
 ex:=[]
 calm:=true
 fn:=fun _=>true
 pn:=[]
 xe:=fun e s'=>wpAny (model P w) (A.deeper (envOfC qual scope s.heap.objs.size f cd)) (leaving (envOfC qual scope s.heap.objs.size f cd) e) (fun _ s''=>CX outer H s E e s'') (fun e' s''=>CX outer H s E e' s'') s'
theorem Pa{sc:Scope}{n:Nat}{x:Str}(h:sc.names.lookup x=some .cell):∃c,(cellsFrom n sc.names []).lookup x=some c:=by
 have q:=PySem.W.cellsFrom_some sc.names n [] (.inl h)
 exact Option.isSome_iff_exists.mp q
theorem Vj{CX:Rv}{P:Program}{w:World}{K:PySem.W.Frag}{mg:Str→Option Value}{base:Heap}{N ps:List Str}{qual:Str}{scope:Scope}{f:Addr}{cd:Value}{A:Around}{outer:List Env}{s s1:Shared}{H:Hp}{E:XK}{us:List Value}{vs:List V}
  (S:bf N ps scope) (hd:A.handled=none) (e0:Iv P w K mg base A outer s H) (hl:vs.length=ps.length) (r:Vals vs us)
  (x:InCallC s s.heap.objs.size (bindL (envOfC qual scope s.heap.objs.size f cd).kindOf (ps.zip us) fun _=>none) (cellsFrom (s.heap.objs.size+1) scope.names []) (bindC (envOfC qual scope s.heap.objs.size f cd).kindOf (ps.zip us) fun _=>none) s1):
  Inv (yU CX P w K mg base N qual scope f cd A outer s H E) [] (start N vs) H s1:=by
 have hpl:ps.length≤N.length:=by have:=congrArg List.length S.pre;rw[List.length_take]at this;omega
 obtain⟨h1,tk,rfl,hk⟩:=x.done
 have noA:∀b:Addr,b∉(yU CX P w K mg base N qual scope f cd A outer s H E).ex:=fun b z=>absurd (show b∈([]:List Addr)from z) (by simp)
 refine⟨⟨e0.mod,S.kind,rfl,rfl,Nat.le_refl _,fun y z c h1 h2=> ?_,fun y hy=> ?_,fun y c _ h=> ?_,fun _=>hd,Around.frames_deeper e0.frames,.inr ⟨rfl,rfl⟩,fun b z=>absurd z (noA b),e0.bs,e0.PL,fun b _ _=>noA b,fun b z=>absurd z (noA b),e0.zJ,e0.Ye⟩,
  rfl,e0.bare,Un.kept hk,⟨_,x.toInCall.ns,fun i y v h1 h2 h3=> ?_⟩,fun y c h=>⟨_,x.cell y c h⟩,e0.hok.fresh (Nat.le_refl _),fun y c h=> ?_,fun p hp=>absurd (show p∈([]:List (Addr×Obj))from hp) (by simp),e0.hok.kept hk,?_⟩
 ·exact name_of_addr x.apart (PySem.mem_of_lookup h1) (PySem.mem_of_lookup h2)
 ·have hy:scope.names.lookup y=some .cell∨scope.names.lookup y=some .free:=hy
  rcases hy with hy | hy
  ·exact Pa hy
  ·exact absurd rfl (S.ade _ (PySem.mem_of_lookup hy))
 ·exact Nat.le_of_lt (x.above y c (PySem.mem_of_lookup h))
 ·have hi:i<vs.length:=by
   unfold start at h2
   by_cases hi:i<vs.length
   ·exact hi
   ·rw[List.getElem?_append_right (by simpa using hi)]at h2
    rw[List.getElem?_replicate]at h2
    split at h2<;>cases h2
  have ha:vs[i]? = some v:=by
   unfold start at h2
   rw[List.getElem?_append_left (by simpa using hi),List.getElem?_map]at h2
   cases e:vs[i]? with
   | none=>rw[e]at h2;cases h2
   | some a=>rw[e]at h2;cases h2;rfl
  obtain⟨u,hu,rv⟩:=r.get ha
  have hp:ps[i]? = some y:=by
   rw[←S.pre,List.getElem?_take_of_lt (by omega)];exact h1
  have ndP:ps.Nodup:=by rw[←S.pre];exact S.nd.sublist (List.take_sublist _ _)
  refine⟨u,rv,?_⟩
  rcases S.par y (List.mem_of_getElem? hp)with k | k
  ·exact .inl ⟨k,JH ndP hp hu k⟩
  ·obtain⟨c,e⟩:=Pa (n:=s.heap.objs.size+1) k
   refine .inr ⟨.inl k,c,e,?_⟩
   have q:=x.cell y c e
   rw[JL ndP hp hu (by show scope.names.lookup y≠_;rw[k];decide)]at q
   exact q
 ·exact e0.hok.fresh (Nat.le_of_lt (x.above y c (PySem.mem_of_lookup h)))
 ·unfold start
  show _=N.length
  rw[List.length_append,List.length_map,List.length_replicate]
  omega
theorem Yi{CX:Rv}{P:Program}{w:World}{K:PySem.W.Frag}{mg:Str→Option Value}{base:Heap}{k:Nat}{f:Addr}{name qual:Str}{params:Arguments}{body:List Stmt}{scope:Scope}{dV kV doc pm cdv ct oc:Value}{an od:Option Addr}
  {osl:Array (Option Value)} {N ps:List Str} {sp:Sp} (lk:K.lookup f=some ⟨oc,od,.func (PySem.W.fnOf name qual params body scope dV kV doc pm an cdv ct),osl⟩) (hcd:PySem.W.codeIn K cdv qual=true) (S:bf N ps scope)
  (len:∀vs H Q E,sp vs H Q E→vs.length=ps.length)
  (hbody:∀(A:Around) (outer:List Env) (s:Shared) (H:Hp) (vs:List V) (Q:VK) (E:XK),lq k (A.deeper (envOfC qual scope s.heap.objs.size f cdv))→sp vs H Q E→
   ∃t,Fv (yU CX P w K mg base N qual scope f cdv A outer s H E) body t∧t {nx:=fun _ H'=>Q .non H',rt:=Q} (start N vs) H):
  bx P w K mg base CX (k+1) f (PySem.W.fnOf name qual params body scope dV kV doc pm an cdv ct) ps sp:=by
 refine⟨len,fun A outer s H args us vs Q E hr e0 hb r hsp=> ?_⟩
 have hl:=len _ _ _ _ hsp
 have KX:K.In s.heap:=e0.mod.kin.keeps fun b o e=>(e0.bs b o e).1
 have lim:s.heap.NoLimit:=e0.mod.nolimit.keeps fun b o e=>(e0.bs b o e).1
 have hkind:∀y∈ps.zip us,scope.names.lookup y.1=some .local∨(scope.names.lookup y.1=some .cell∧((cellsFrom (s.heap.objs.size+1) scope.names []).lookup y.1).isSome=true):=fun⟨n,v⟩ hy=>by
  rcases S.par n (List.of_mem_zip hy).1 with q | q
  ·exact .inl q
  ·exact .inr ⟨q,PySem.W.cellsFrom_some _ _ _ (.inl q)⟩
 refine codeAny_call_function hr.depth (KX _ _ lk) rfl S.co S.gen rfl (PySem.W.codeRec_of KX hcd) (hb _ _ _ _ ?_)
 refine wpAny_newFunctionEnv_cells S.kind hkind fun env he s1 x=> ?_
 subst he
 refine⟨lim.keeps x.toInCall.keep,codeAny_func ?_⟩
 obtain⟨t,ht,hq⟩:=hbody A outer s H vs Q E (hr.deeper _) hsp
 have I:Inv (yU CX P w K mg base N qual scope f cdv A outer s H E) [] (start N vs) H s1:=Vj S hr.hd e0 hl r x
 refine wpAny_mono (ht [] s1 (start N vs) H _ I hq) (fun fl s' hs=> ?_) fun e s' hs=>hs
 have fin:∀{σ':St} {H':Hp} {v:V} {u:Value},Inv (yU CX P w K mg base N qual scope f cdv A outer s H E) [] σ' H' s'→RelV v u→Q v H'→CE outer P w H s Q u s':=
  fun{σ' H' v u} J rv q=>⟨v,H',J.os,J.bare,J.base,J.hok,rv,q⟩
 cases fl with
 | ret u=>
  obtain⟨v,σ',H',J,rv,q⟩:=hs
  exact fin J rv q
 | next=>
  obtain⟨σ',H',J,q⟩:=hs
  exact fin (v:=V.non) (u:=Value.none) J rfl q
 | brk=>
  obtain⟨_,_,_,q⟩:=hs
  exact False.elim q
 | cont=>
  obtain⟨_,_,_,q⟩:=hs
  exact False.elim q
end L2
namespace L2
open PySem PySem.Spec PyProof.Rows
section
variable{X:Cx}{x:Str}{p pos:Pos}{e:Expr}{es:List Expr}{t:TA}{id T:String}{r:List V→Hp→VK→Prop}
def tCB(r:List V→Hp→VK→Prop)(t:TA):TE:=fun σ H Q=>t σ H fun vs H1=>r vs H1 Q
theorem Xm(hc:oN X (.builtin id) r)(hg:Gl X x)(hm:X.mg x=none)(hv:bootBuiltins x=some (.builtin id))(ha:PA X (e::es) t)(hn:x≠ "__name__" := by decide)(hdb:(x==("__debug__" : Str))=false:=by decide)
  (he:starEach (e::es) X.env=(false,eval e X.env)::starEach es X.env:=by rfl) (hpl:(backTo pos (starEach es X.env)).any (·.1)=false:=by rfl):PE X (.Call (.Name x p) (e::es) [] pos) (tCB r t):=by
 intro pins s σ H Q I h
 refine wpAny_Call_Name_kw (Lb I hg hm hv ?_ hn hdb)
 exact PyProof.Rows.callWith_builtin1 (iw (ha pos pins s σ H _ I h) fun us s1 ⟨vs,H1,I1,r1,q1⟩=>hc pins s1 σ H1 vs us Q I1 r1 q1) he hpl
theorem UJ(hc:oN X (.type T) r)(hg:Gl X x)(hm:X.mg x=none)(hv:bootBuiltins x=some (.type T))(ha:PA X (e::es) t)(hn:x≠ "__name__" := by decide)(hdb:(x==("__debug__" : Str))=false:=by decide)
  (he:starEach (e::es) X.env=(false,eval e X.env)::starEach es X.env:=by rfl) (hpl:(backTo pos (starEach es X.env)).any (·.1)=false:=by rfl):PE X (.Call (.Name x p) (e::es) [] pos) (tCB r t):=by
 intro pins s σ H Q I h
 refine wpAny_Call_Name_kw (Lb I hg hm hv ?_ hn hdb)
 exact PyProof.Rows.callWith_type1 (iw (ha pos pins s σ H _ I h) fun us s1 ⟨vs,H1,I1,r1,q1⟩=>hc pins s1 σ H1 vs us Q I1 r1 q1) he hpl
end
end L2
namespace HT
open PySem PyProof.Rows
def lexLt:List Int→List Int→Bool
 | [],[]=>false
 | [],_::_=>true
 | _::_,[]=>false
 | x::xs,y::ys=>if x=y then lexLt xs ys else decide (x<y)
theorem dY(x y:Int)(xs ys:List Int):lexLt (x::xs) (y::ys)=if x=y then lexLt xs ys else decide (x<y):=rfl
theorem Ij:lexLt [] []=false:=rfl
theorem Hr(y:Int)(ys:List Int):lexLt [] (y::ys)=true:=rfl
theorem Hs(x:Int)(xs:List Int):lexLt (x::xs) []=false:=rfl
theorem Yo(A:Around)(s:Shared)(a:Int)(t:Tok)(c:Int)(u:Tok):∃e,SeqAt.EqAt A s (.int a t) (.int c u) e∧(e=true↔a=c):=
 ⟨(a==c),SeqAt.EqAt.int_int a t c u,by simp⟩
theorem W6(A:Around)(s:Shared)(a:Int)(t:Tok)(c:Int)(u:Tok)(prog:Program)(w:World)(E:Value→Shared→Prop)(Q:Value→Shared→Prop)(h:Q (.bool (decide (a<c))) s):
  wpAny (model prog w) A (richCompare .Lt (.int a t) (.int c u)) Q E s:=
 (PyProof.Rows.lt_int h:wpAny (model prog w) A (compareOp .Lt (.int a t) (.int c u)) Q E s)
section
open PySem.SeqAt
open PySem.AutoSeq1 (wpAny_loadPart')
open PySem.MeetsSeq PySem.MeetsSeq2 PySem.MeetsSeq3
theorem Ia(l b:Addr)(items items2:Array Value)(n n2:Nat)(dd dd2:Option Addr)(sl sl2:Array (Option Value))(ns ms:List Int)(hi:IntsAre items.toList ns)(hj:IntsAre items2.toList ms):
  Meets (Builtin.«tuple.__lt__» ⟨[.ref l,.ref b],[]⟩)
   (fun _ R s=>s.heap.get? l=some {cls:= .type "tuple",dict:=dd,data:= .seq items n,slots:=sl}∧s.heap.get? b=some {cls:= .type "tuple",dict:=dd2,data:= .seq items2 n2,slots:=sl2}∧
    R (.ok (.ret (.bool (lexLt ns ms)))) s):=
 .of_wp fun prog w A R s h=>by
  obtain⟨hp,g,d,tk,os⟩:=s;obtain⟨hl,hb,h⟩:=h
  have f2:=AutoSeq1.sub_tuple_tuple
  have z1:items.size=ns.length:=by rw[←hi.length];simp
  have z2:items2.size=ms.length:=by rw[←hj.length];simp
  wp_walk using wpAny_loadPart' hl,wpAny_loadPart' hb,wpAny_forIn_list _ (fun rest b s'=>b.1=none∧s'=⟨hp,g,d,tk,os⟩∧∃(vs ws:List Value) (ns' ms':List Int),rest=vs.zip ws∧
   IntsAre vs ns'∧IntsAre ws ms'∧ns'.length+items2.size=ms'.length+items.size∧R (.ok (.ret (.bool (lexLt ns' ms')))) ⟨hp,g,d,tk,os⟩) _
  case turn=>
   rintro⟨y,x⟩ rest b s' ⟨hb',rfl,vs,ws,ns',ms',hz,hvi,hwi,hlen,hR⟩
   cases hvi with
   | nil=>rw[List.zip_nil_left]at hz;cases hz
   | cons a t aom=>
    cases hwi with
    | nil=>rw[List.zip_nil_right]at hz;cases hz
    | cons c u aol=>
     rw[List.zip_cons_cons]at hz
     injection hz with hyx hrest
     injection hyx with hy hx
     subst hy hx
     rw[dY]at hR
     simp only[List.length_cons]at hlen
     obtain⟨e,he,hiff⟩:=Yo A.in1 ⟨hp,g,d,tk,os⟩ a t c u
     refine wpAny_bind (he prog w _ _ ?_)
     cases e with
     | true=>
      rw[if_pos (hiff.mp rfl)]at hR
      wp_walk
      exact⟨rfl,rfl,_,_,_,_,hrest,aom,aol,by omega,hR⟩
     | false=>
      rw[if_neg (fun q=>absurd (hiff.mpr q) Bool.false_ne_true)]at hR
      have hri:=W6 A.in1 ⟨hp,g,d,tk,os⟩ a t c u prog w
      wp_walk using hri
      exact⟨_,rfl,by simpa using hR⟩
  case fin=>
   rintro⟨b1,b2⟩ s' ⟨hb',rfl,vs,ws,ns',ms',hz,hvi,hwi,hlen,hR⟩
   simp only at hb'
   subst hb'
   have hv:lexLt ns' ms'=decide (items.size<items2.size):=by
    cases hvi with
    | nil=>
     cases hwi with
     | nil=>
      simp only[List.length_nil]at hlen
      rw[Ij]
      exact(decide_eq_false (by omega)).symm
     | cons c u hw=>
      simp only[List.length_nil,List.length_cons]at hlen
      rw[Hr]
      exact(decide_eq_true (by omega)).symm
    | cons a t hv=>
     cases hwi with
     | nil=>
      simp only[List.length_nil,List.length_cons]at hlen
      rw[Hs]
      exact(decide_eq_false (by omega)).symm
     | cons c u hw=>
      rw[List.zip_cons_cons]at hz
      cases hz
   rw[hv]at hR
   wp_walk
   exact⟨_,rfl,by simpa[Builtin.Tuple.tupleCompareSizes]using hR⟩
  case h=>
   exact⟨rfl,rfl,items.toList,items2.toList,ns,ms,rfl,hi,hj,by omega,h⟩
end
section
variable{prog:Program}{w:World}{A:Around}{E:Value→Shared→Prop}{s:Shared}
theorem QW{l b:Addr}{items items2:Array Value}{ns ms:List Int}{Q:Value→Shared→Prop}(hl:IsTup s.heap l items)(hb:IsTup s.heap b items2)(hi:IntsAre items.toList ns)(hj:IntsAre items2.toList ms)
  (hu:A.units<cLine) (h:Q (.bool (lexLt ns ms)) s):wpAny (model prog w) A (compareOp .Lt (.ref l) (.ref b)) Q E s:=by
 obtain⟨⟨cls,dd,data,sl⟩,ho,hc,n,hd⟩:=id hl
 obtain⟨⟨cls2,dd2,data2,sl2⟩,ho2,hc2,n2,hd2⟩:=id hb
 simp only at hc hd hc2 hd2
 subst hc hd hc2 hd2
 exact richCompare_meets_room (op:= .Lt) ⟨_,ho,rfl⟩ ⟨_,ho2,rfl⟩ PySem.F.slot_tuple_lt PySem.F.entry_tuple_lt (PySem.F.args_tuple_lt_2 _ _) (Ia l b items items2 n n2 dd dd2 sl sl2 ns ms hi hj)
  ⟨ho,ho2,show Value.bool (lexLt ns ms)≠Value.notImplemented∧Q (.bool (lexLt ns ms)) s from⟨(fun x=>nomatch x),h⟩⟩ hu
theorem aaQ{t b:Addr}{vs ws:List Value}{Q:Value→Shared→Prop}(ht:IsTup s.heap t vs.toArray)(hb:IsTup s.heap b ws.toArray)(hv:vs≠[])
  (h1:ws=[]→Q (.ref t) s) (h2:ws≠[]→Q (.ref s.heap.objs.size) {s with heap:=s.heap.push {cls:= .type "tuple",data:= .seq (vs++ws).toArray}})
  (hsz:vs.length+ws.length≤sizeLine):wpAny (model prog w) A (binaryOp .Add (.ref t) (.ref b)) Q E s:=by
 obtain⟨⟨cls,dd,data,sl⟩,ho,hc,n,hd⟩:=id ht
 obtain⟨⟨cls2,dd2,data2,sl2⟩,ho2,hc2,n2,hd2⟩:=id hb
 simp only at hc hd hc2 hd2
 subst hc hd hc2 hd2
 have e:vs.toArray++ws.toArray=(vs++ws).toArray:=by simp
 by_cases hw:ws=[]
 ·exact concat_meets ⟨_,ho,rfl⟩ ⟨_,ho2,rfl⟩ noFill_tuple_add seq_tuple_add PySem.F.slot_tuple_add PySem.F.entry_tuple_add (PySem.F.args_tuple_add_2 _ _)
   (tuple_addW1 t b vs.toArray ws.toArray n n2 dd dd2 sl sl2 (by simpa using hv) (by simp[hw])) ⟨ho,ho2,h1 hw⟩
 ·refine concat_meets ⟨_,ho,rfl⟩ ⟨_,ho2,rfl⟩ noFill_tuple_add seq_tuple_add PySem.F.slot_tuple_add PySem.F.entry_tuple_add (PySem.F.args_tuple_add_2 _ _)
   (tuple_addW2 t b vs.toArray ws.toArray n n2 dd dd2 sl sl2 (by simpa using hv) (by simpa using hw) (by rw[List.size_toArray,List.size_toArray];exact hsz)) ⟨ho,ho2,?_⟩
  rw[e]
  exact h2 hw
def bh(n d:Nat):Option Int→Nat
 | none=>d
 | some v=>if v<0 then(v+(n:Int)).toNat else min v.toNat n
theorem ab_(n d:Nat)(hd:d≤n)(o:Option Int):bh n d o≤n:=by
 cases o with
 | none=>exact hd
 | some v=>
  show(if v<0 then(v+(n:Int)).toNat else min v.toNat n)≤n
  by_cases hv:v<0
  ·rw[if_pos hv];omega
  ·rw[if_neg hv];exact Nat.min_le_right _ _
theorem TX(v:Int)(n d:Nat):(if v<0 then max (v+(n:Int)) 0 else min v (n:Int))=((bh n d (some v):Nat):Int):=by
 show(if v<0 then max (v+(n:Int)) 0 else min v (n:Int))=(((if v<0 then(v+(n:Int)).toNat else min v.toNat n):Nat):Int)
 by_cases hv:v<0
 ·simp only[if_pos hv];omega
 ·simp only[if_neg hv];omega
theorem Rj(lo hi:Option Int)(n:Nat):Builtin.Slice.sliceAdjust lo hi 1 (n:Int)=(((bh n 0 lo:Nat):Int),((bh n n hi:Nat):Int)):=by
 have h1:¬((1:Int)<0):=by omega
 unfold Builtin.Slice.sliceAdjust
 simp only[h1,if_false]
 refine Prod.ext ?_ ?_
 ·cases lo with
  | none=>rfl
  | some v=>exact TX v n 0
 ·cases hi with
  | none=>rfl
  | some v=>exact TX v n n
theorem QC(i j:Nat):Builtin.Slice.slicePlaces (i:Int) (j:Int) 1=j - i:=by
 unfold Builtin.Slice.slicePlaces
 have h1:(1:Int) > 0:=by omega
 simp only[h1,if_true,Int.ediv_one]
 split<;>omega
theorem Gs{v:Value}{o:Option Int}{Q:Option Int→Shared→Prop}(p:IsPart v o)(h:Q o s):wpAny (model prog w) A (Builtin.Slice.slicePartIndex v) Q E s:=by
 cases p with
 | none=>exact slicePart_none h
 | int i t=>exact slicePart_int h
theorem Dm{sl:Addr}{vl vu:Value}{lo hi:Option Int}{n:Nat}{Q:Int×Int×Nat→Shared→Prop}(hs:s.heap.IsSliceOf sl vl vu .none)(pl:IsPart vl lo)(pu:IsPart vu hi)
  (h:Q (((bh n 0 lo:Nat):Int),1,bh n n hi - bh n 0 lo) s):wpAny (model prog w) A (Builtin.Slice.sliceApplied (.ref sl) (pure (n:Int))) Q E s:=by
 obtain⟨os,hos,hcs,hds⟩:=id hs
 unfold Builtin.Slice.sliceApplied Builtin.Slice.sliceFields
 refine wpAny_bind (wpAny_bind (wpAny_field hos hds (x:=vl) rfl (wpAny_bind (wpAny_field hos hds (x:=vu) rfl (wpAny_bind (wpAny_field hos hds (x:= .none) rfl (wpAny_pure ?_)))))))
 refine wpAny_bind (slicePart_none ?_)
 show wpAny _ _ (if((1:Int)==0)=true then _ else _) _ _ s
 rw[if_neg (by decide)]
 refine wpAny_bind (Gs pl (wpAny_bind (Gs pu (wpAny_bind (wpAny_pure ?_)))))
 show wpAny _ _ (match Builtin.Slice.sliceAdjust lo hi 1 (n:Int)with | (lo,hi)=>pure (lo,(1:Int),Builtin.Slice.slicePlaces lo hi 1)) _ _ s
 rw[Rj lo hi n]
 show wpAny _ _ (pure (((bh n 0 lo:Nat):Int),(1:Int),Builtin.Slice.slicePlaces ((bh n 0 lo:Nat):Int) ((bh n n hi:Nat):Int) 1)) _ _ s
 rw[QC]
 exact wpAny_pure h
theorem Xd(xs:Array Value)(i k:Nat):((List.range k).filterMap fun(m:Nat)=>xs[((i:Int)+(m:Int)*1).toNat]?).toArray=((xs.toList.drop i).take k).toArray:=by
 have e:(fun(m:Nat)=>xs[((i:Int)+(m:Int)*1).toNat]?)=fun m=>xs[i+m]? := by
  funext m
  have:((i:Int)+(m:Int)*1).toNat=i+m:=by omega
  rw[this]
 rw[e]
 have:=pick_run xs i k
 rw[List.filterMap_map]at this
 have e2:((fun x=>xs[x]?)∘fun x=>i+x)=fun m=>xs[i+m]? := rfl
 rw[e2]at this
 rw[this]
theorem CN{t sl:Addr}{items:Array Value}{vl vu:Value}{lo hi:Option Int}{Q:Value→Shared→Prop}(ht:IsTup s.heap t items)(hs:s.heap.IsSliceOf sl vl vu .none)(pl:IsPart vl lo)(pu:IsPart vu hi)
  (hw:¬(bh items.size 0 lo=0∧bh items.size items.size hi=items.size))
  (h:Q (.ref s.heap.objs.size) {s with heap:=s.heap.push {cls:= .type "tuple",data:= .seq ((items.toList.drop (bh items.size 0 lo)).take (bh items.size items.size hi - bh items.size 0 lo)).toArray}})
  (hsz:items.size≤sizeLine):wpAny (model prog w) A (getItem (.ref t) (.ref sl)) Q E s:=by
 have Ti:sizeOk (.seq ((items.toList.drop (bh items.size 0 lo)).take (bh items.size items.size hi - bh items.size 0 lo)).toArray):=by
  show((items.toList.drop (bh items.size 0 lo)).take (bh items.size items.size hi - bh items.size 0 lo)).toArray.size≤sizeLine
  rw[List.size_toArray,List.length_take,List.length_drop,Array.length_toList]
  omega
 have hj:bh items.size items.size hi≤items.size:=ab_ _ _ (Nat.le_refl _) hi
 obtain⟨os,hos,hcs,hds⟩:=id hs
 have hTs:s.TypeIs (.ref sl) "slice" := ⟨os,hos,hcs⟩
 unfold getItem
 try with_reducible refine wpAny_holding ?_
 first | refine wpAny_bind (wpAny_pure ?_) | skip
 refine wpAny_bind (wpAny_sequenceKey ht.typeIs (by decide) ?_)
 refine wpAny_bind (wpAny_callSpecial?_slot (name:=Str.ofString "__getitem__") ht.typeIs PyProof.Rows.slot_tuple_getitem
  (wpAny_call_entry PyProof.Rows.slot_tuple_getitem ht.typeIs entry_tuple_getitem ?_ (args_tuple_getitem _ _)))
 show wpAny _ _ (Builtin.Tuple.tupleItemsOf (.ref t) >>= _) _ _ s
 refine wpAny_bind (tupleItemsOf_ ht ?_)
 refine wpAny_bind (wpAny_typeOf hTs ?_)
 rw[if_pos (by decide)]
 refine wpAny_bind (Dm hs pl pu ?_)
 have hno:¬((((bh items.size 0 lo:Nat):Int)==0&&(1:Int)==1&&(bh items.size items.size hi - bh items.size 0 lo)==items.size)=true):=by
  intro q
  rw[Bool.and_eq_true,Bool.and_eq_true]at q
  have q1:((bh items.size 0 lo:Nat):Int)=0:=eq_of_beq q.1.1
  have q2:bh items.size items.size hi - bh items.size 0 lo=items.size:=eq_of_beq q.2
  exact hw ⟨by omega,by omega⟩
 show wpAny _ _ (if(((bh items.size 0 lo:Nat):Int)==0&&(1:Int)==1&&(bh items.size items.size hi - bh items.size 0 lo)==items.size)=true then _ else _) _ _ s
 rw[if_neg hno,Xd]
 first
  | exact wpAny_bind (m:=Builtin.Tuple.tupleExact _) (wpAny_newObj_type (wpAny_pure ⟨_,rfl,wpAny_pure h⟩) Ti)
  | exact wpAny_bind (m:=Builtin.Tuple.tupleExact _) (wpAny_newObj_type (wpAny_bind (wpAny_pure (wpAny_pure ⟨_,rfl,wpAny_pure h⟩))) Ti)
  | exact wpAny_bind (wpAny_bind (m:=Builtin.Tuple.tupleExact _) (wpAny_newObj_type (wpAny_pure (wpAny_pure ⟨_,rfl,wpAny_pure h⟩)) Ti))
  | exact wpAny_bind (wpAny_bind (m:=Builtin.Tuple.tupleExact _) (wpAny_newObj_type (wpAny_pure ⟨_,rfl,wpAny_pure h⟩) Ti))
end
end HT
namespace L2
open PySem PySem.Spec PyProof.Rows
abbrev TO:=St→Hp→(Option Int→Hp→Prop)→Prop
def PO(X:Cx)(e:Option Expr)(t:TO):Prop:=
 ∀(pins:List (Addr×Obj)) (s:Shared) (σ:St) (H:Hp) (Q:Option Int→Hp→Prop),Inv X pins σ H s→t σ H Q→
  wpAny (model X.prog X.w) X.A (evalPart e X.env) (fun u s'=>∃o H',Inv X pins σ H' s'∧IsPart u o∧Q o H') X.xe s
def Zb:TO:=fun _ H Q=>Q none H
def afp(t:TE):TO:=fun σ H Q=>t σ H fun x H1=>∃i,x= .int i∧Q (some i) H1
theorem intsAre_of{ns:List Int}:∀{us:List Value},Vals (ns.map V.int) us→IntsAre us ns:=by
 induction ns with
 | nil=>intro us r;rw[List.map_nil]at r;cases r;exact .nil
 | cons n ns ih=>
  intro us r
  rw[List.map_cons]at r
  cases r with
  | cons r1 r2=>
   obtain⟨t,e⟩:=r1
   subst e
   exact .cons n t (ih r2)
section
variable{X:Cx}{e:Expr}{te:TE}{lo hi:Option Expr}{tl th:TO}{pos p2:Pos}
theorem Z2:PO X none Zb:=by
 intro pins s σ H Q I h
 rw[evalPart_none]
 exact wpAny_pure ⟨none,H,I,.none,h⟩
theorem Z1(h:PE X e te):PO X (some e) (afp te):=by
 intro pins s σ H Q I hw
 rw[evalPart_some]
 refine iw (h pins s σ H _ I hw) fun u s1 ⟨x,H1,I1,r1,q1⟩=> ?_
 obtain⟨i,rfl,q⟩:=q1
 obtain⟨t,rfl⟩:=r1
 exact⟨some i,H1,I1,.int i t,q⟩
def SlR(X:Cx)(r:V→Option Int→Option Int→Hp→VK→Prop):Prop:=
 ∀(pins:List (Addr×Obj)) (s:Shared) (σ:St) (H:Hp) (x:V) (v vl vu:Value) (lo hi:Option Int) (sl:Addr) (Q:VK),Inv X pins σ H s→RelV x v→s.heap.IsSliceOf sl vl vu .none→IsPart vl lo→IsPart vu hi→r x lo hi H Q→
  ∃T id,typeLookup (.type T) "__getitem__" = pure (some (.builtin id))∧s.TypeIs v T∧wpAny (model X.prog X.w) X.A (getItem v (.ref sl)) (EP X pins σ Q) X.xe s
theorem SlR.or{r r':V→Option Int→Option Int→Hp→VK→Prop}(h:SlR X r)(h':SlR X r'):SlR X (fun x lo hi H Q=>r x lo hi H Q∨r' x lo hi H Q):=by
 intro pins s σ H x v vl vu lo hi sl Q I rx hs pl pu q
 rcases q with q | q
 ·exact h pins s σ H x v vl vu lo hi sl Q I rx hs pl pu q
 ·exact h' pins s σ H x v vl vu lo hi sl Q I rx hs pl pu q
def tSl(r:V→Option Int→Option Int→Hp→VK→Prop)(te:TE)(tl th:TO):TE:=fun σ H Q=>te σ H fun x H1=>tl σ H1 fun l H2=>th σ H2 fun u H3=>r x l u H3 Q
theorem Xg{r:V→Option Int→Option Int→Hp→VK→Prop}(hr:SlR X r)(he:PE X e te)(hl:PO X lo tl)(hu:PO X hi th):PE X (.Subscript e (.Slice lo hi none p2) pos) (tSl r te tl th):=by
 intro pins s σ H Q I h
 refine Subscript_ (iw (he pins s σ H _ I h) fun v s1 ⟨x,H1,I1,r1,q1⟩=> ?_)
 refine wpAny_Slice (iw (hl pins s1 σ H1 _ I1 q1) fun vl s2 ⟨l,H2,I2,pl,q2⟩=>iw (hu pins s2 σ H2 _ I2 q2) fun vu s3 ⟨u,H3,I3,pu,q3⟩=> ?_)
 rw[evalPart_none]
 refine wpAny_pure ?_
 have I4:Inv X pins σ H3 {s3 with heap:=s3.heap.push {cls:= .type "slice",data:= .fields #[vl,vu,.none]}}:=I3.kept (t':=s3.toks) fun b ob q=>Heap.get?_push_of_some _ q
 obtain⟨T,id,hT,ht,hg⟩:=hr pins {s3 with heap:=s3.heap.push {cls:= .type "slice",data:= .fields #[vl,vu,.none]}} σ H3 x v vl vu l u s3.heap.objs.size Q I4 r1 (Heap.IsSliceOf.new ..) pl pu q3
 show wpAny (model X.prog X.w) X.A (subscriptTail e (.Slice lo hi none p2) v (.ref s3.heap.objs.size)) (EP X pins σ Q) X.xe {s3 with heap:=s3.heap.push {cls:= .type "slice",data:= .fields #[vl,vu,.none]}}
 exact tail_any (ops:=[.ref s3.heap.objs.size,v]) ht hT hg (by with_unfolding_all rfl)
def O7(xs:List V)(lo hi:Option Int):List V:=(xs.drop (HT.bh xs.length 0 lo)).take (HT.bh xs.length xs.length hi - HT.bh xs.length 0 lo)
theorem Fb(xs:List V)(lo hi:Option Int):(O7 xs lo hi).length≤xs.length:=by
 unfold O7
 rw[List.length_take,List.length_drop]
 omega
def amD(K:PySem.W.Frag):V→Option Int→Option Int→Hp→VK→Prop:=fun x lo hi H Q=>∃a xs,x= .ref a∧vh K H a xs∧
 ¬(HT.bh xs.length 0 lo=0∧HT.bh xs.length xs.length hi=xs.length)∧∀p,H p=none→Q (.ref p) (upd H p (.tup (O7 xs lo hi)))
theorem ab0:SlR X (amD X.K):=by
 intro pins s σ H x v vl vu lo hi sl Q I rx hs pl pu h
 obtain⟨a,xs,rfl,hx,hw,q⟩:=h
 cases rx
 obtain⟨its,r,ht,hz⟩:=I.tuple hx
 have hlen:its.toArray.size=xs.length:=by rw[List.size_toArray];exact r.length.symm
 refine⟨"tuple",_,PyProof.Rows.slot_tuple_getitem.lookup,ht.typeIs,?_⟩
 refine HT.CN ht hs pl pu (by rw[hlen];exact hw) ?_ (by rw[hlen];exact hz)
 rw[hlen]
 refine⟨.ref s.heap.objs.size,_,I.laid (t':=s.toks) (o:= .tup (O7 xs lo hi)) (fun b ob q=>Heap.get?_push_of_some _ q) (Nat.le_refl _) ?_,rfl,q _ (I.hok.fresh (Nat.le_refl _))⟩
 exact⟨Nat.le_trans (Fb xs lo hi) hz,_,(r.drop (HT.bh xs.length 0 lo)).take (HT.bh xs.length xs.length hi - HT.bh xs.length 0 lo),IsTup.new _ _⟩
def amH(K:PySem.W.Frag):R2:=fun x y H Q=>∃a b ns ms,x= .ref a∧y= .ref b∧vh K H a (ns.map V.int)∧vh K H b (ms.map V.int)∧Q (.bl (HT.lexLt ns ms)) H
theorem acX(hu:X.A.units<cLine):wz X (compareOp .Lt) (amH X.K):=by
 intro pins s σ H x y v u Q I rx ry h
 obtain⟨a,b,ns,ms,rfl,rfl,ha,hb,q⟩:=h
 cases rx
 cases ry
 obtain⟨its,r1,p1,_⟩:=I.tuple ha
 obtain⟨its2,r2,p2,_⟩:=I.tuple hb
 have i1:IntsAre its.toArray.toList ns:=intsAre_of r1
 have i2:IntsAre its2.toArray.toList ms:=intsAre_of r2
 exact HT.QW p1 p2 i1 i2 hu ⟨.bl (HT.lexLt ns ms),H,I,rfl,q⟩
def afY(K:PySem.W.Frag):R2:=fun x y H Q=>∃a b xs ys,x= .ref a∧y= .ref b∧vh K H a xs∧vh K H b ys∧xs≠[]∧xs.length+ys.length≤sizeLine∧
 (ys=[]→Q (.ref a) H)∧(ys≠[]→∀p,H p=none→Q (.ref p) (upd H p (.tup (xs++ys))))
theorem Vals.K6{xs:List V}{us:List Value}(r:Vals xs us):us=[]↔xs=[]:=by
 cases r with
 | nil=>simp
 | cons _ _=>simp
theorem aad:wz X (binaryOp .Add) (afY X.K):=by
 intro pins s σ H x y v u Q I rx ry h
 obtain⟨a,b,xs,ys,rfl,rfl,ha,hb,hx,hz,q1,q2⟩:=h
 cases rx
 cases ry
 obtain⟨its,r1,p1,_⟩:=I.tuple ha
 obtain⟨its2,r2,p2,_⟩:=I.tuple hb
 refine HT.aaQ p1 p2 (fun z=>hx (r1.K6.mp z)) (fun z=>⟨.ref a,H,I,rfl,q1 (r2.K6.mp z)⟩) (fun z=> ?_) (by rw[←r1.length,←r2.length];exact hz)
 refine⟨.ref s.heap.objs.size,_,I.laid (t':=s.toks) (o:= .tup (xs++ys)) (fun b ob q=>Heap.get?_push_of_some _ q) (Nat.le_refl _) ?_,rfl,q2 (fun w=>z (r2.K6.mpr w)) _ (I.hok.fresh (Nat.le_refl _))⟩
 exact⟨by rw[List.length_append];exact hz,_,r1.append r2,IsTup.new _ _⟩
end
end L2
namespace L2
open PySem PySem.Spec PyProof.Rows
def YM(n:Nat)(i:Int):Option Nat:=if 0≤i then(if i<n then some i.toNat else none)else if -(n:Int)≤i then some (i+n).toNat else none
def Mr{α:Type}(xs:List α)(i:Int):Option α:=(YM xs.length i).bind fun j=>xs[j]?
theorem Tf{n:Nat}{i:Int}{j:Nat}(h:YM n i=some j):seqIndex? i n=some j∧j<n∧ -(n:Int)≤i∧i<n:=by
 unfold YM at h
 by_cases h0:0≤i
 ·rw[if_pos h0]at h
  by_cases h1:i<n
  ·rw[if_pos h1]at h
   have e:i.toNat=j:=Option.some.inj h
   exact⟨by rw[seqIndex_of h0 h1,e],by omega,by omega,h1⟩
  ·rw[if_neg h1]at h;cases h
 ·rw[if_neg h0]at h
  by_cases h1: -(n:Int)≤i
  ·rw[if_pos h1]at h
   have e:(i+n).toNat=j:=Option.some.inj h
   exact⟨by rw[seqIndex_neg (by omega) h1,e],by omega,h1,by omega⟩
  ·rw[if_neg h1]at h;cases h
theorem Mq{α:Type}{xs:List α}{i:Int}{v:α}(h:Mr xs i=some v):∃j,seqIndex? i xs.length=some j∧xs[j]? = some v∧j<xs.length∧ -(xs.length:Int)≤i∧i<xs.length:=by
 unfold Mr at h
 cases e:YM xs.length i with
 | none=>rw[e]at h;cases h
 | some j=>
  rw[e]at h
  obtain⟨h1,h2,h3,h4⟩:=Tf e
  exact⟨j,h1,h,h2,h3,h4⟩
def Ua(b:Expr):Prop:=∀o i,subscripted b false o i=operate [o,i] (getItem o i)
def IxR(X:Cx)(r:R2):Prop:=
 ∀(value slice:Expr) (pins:List (Addr×Obj)) (s:Shared) (σ:St) (H:Hp) (x y:V) (v u:Value) (Q:VK),Inv X pins σ H s→RelV x v→RelV y u→r x y H Q→
  subscripted slice false v u=operate [v,u] (getItem v u)→wpAny (model X.prog X.w) X.A (subscriptTail value slice v u) (EP X pins σ Q) X.xe s
def MtR(X:Cx)(id:String)(r:V→List V→Hp→VK→Prop):Prop:=
 ∀(pins:List (Addr×Obj)) (s:Shared) (σ:St) (H:Hp) (x:V) (xs:List V) (v:Value) (us:List Value) (Q:VK),Inv X pins σ H s→RelV x v→Vals xs us→r x xs H Q→
  wpAny (model X.prog X.w) X.A (call (.builtin id) (v::us)) (EP X pins σ Q) X.xe s
section
variable{X:Cx}{a b:Expr}{ta tb:TE}{pos:Pos}
theorem IxR.or{r r':R2}(h:IxR X r)(h':IxR X r'):IxR X (fun x y H Q=>r x y H Q∨r' x y H Q):=by
 intro value slice pins s σ H x y v u Q I rx ry q hs
 rcases q with q | q
 ·exact h value slice pins s σ H x y v u Q I rx ry q hs
 ·exact h' value slice pins s σ H x y v u Q I rx ry q hs
theorem agw{r:R2}(hr:IxR X r)(ha:PE X a ta)(hb:PE X b tb)(hs:Ua b):PE X (.Subscript a b pos) (tOp r ta tb):=by
 intro pins s σ H Q I h
 exact Subscript_ (aey ha hb I h fun v u s2 x y H2 I2 rx ry q=>hr a b pins s2 σ H2 x y v u Q I2 rx ry q (hs _ _))
def afV(K:PySem.W.Frag):R2:=fun x y H Q=>∃p xs i v,x= .ref p∧y= .int i∧yC K H p xs∧Mr xs i=some v∧Q v H
def afT(K:PySem.W.Frag):R2:=fun x y H Q=>∃p xs i v,x= .ref p∧y= .int i∧vh K H p xs∧Mr xs i=some v∧Q v H
def afU:R2:=fun x y H Q=>∃z i c,x= .str z∧y= .int i∧z.length≤sizeLine∧Mr z.cps.toList i=some c∧Q (.str ⟨#[c]⟩) H
theorem aau:IxR X (afV X.K):=by
 intro value slice pins s σ H x y v u Q I rx ry h hs
 obtain⟨p,xs,i,z,rfl,rfl,hq,he,q⟩:=h
 cases rx
 obtain⟨t,rfl⟩:=ry
 obtain⟨its,r,pl,hz⟩:=I.list hq
 obtain⟨j,h1,h2,h3,h4,h5⟩:=Mq he
 obtain⟨w,ew,rw'⟩:=r.get h2
 have hl:=r.length
 have hn:=DP
 have fin:EP X pins σ Q w s:=⟨z,H,I,rw',q⟩
 by_cases h0:0≤i
 ·have hj:i.toNat=j:=by
   rw[seqIndex_of h0 h5]at h1
   exact Option.some.inj h1
  exact item_listR pl.isList h0 (by omega) (by rw[hj];simpa using ew) fin hs
 ·have hj:(i+(its.toArray.size:Int)).toNat=j:=by
   rw[seqIndex_neg (by omega) h4]at h1
   rw[List.size_toArray,←hl]
   exact Option.some.inj h1
  exact subscriptTail_builtinR (x:=w) pl.isList.typeIs slot_list_getitem.lookup
   (wpAny_getItem_list_neg (Q:=fun r s'=>r=w∧EP X pins σ Q r s') pl.isList (by omega) (by rw[List.size_toArray]<;>omega) (by omega) (by rw[hj];simpa using ew) ⟨rfl,fin⟩) hs
theorem adz:IxR X (afT X.K):=by
 intro value slice pins s σ H x y v u Q I rx ry h hs
 obtain⟨p,xs,i,z,rfl,rfl,hq,he,q⟩:=h
 cases rx
 obtain⟨t,rfl⟩:=ry
 obtain⟨its,r,pl,hz⟩:=I.tuple hq
 obtain⟨j,h1,h2,h3,h4,h5⟩:=Mq he
 obtain⟨w,ew,rw'⟩:=r.get h2
 have hl:=r.length
 have hn:=DP
 have fin:EP X pins σ Q w s:=⟨z,H,I,rw',q⟩
 exact subscriptTail_builtinR (x:=w) pl.typeIs slot_tuple_getitem.lookup
  (getItem_tuple (j:=j) (Q:=fun r s'=>r=w∧EP X pins σ Q r s') pl (by omega) (by omega) (by rw[List.size_toArray,←hl];exact h1) (by simpa using ew) ⟨rfl,fin⟩) hs
theorem adA:IxR X afU:=by
 intro value slice pins s σ H x y v u Q I rx ry h hs
 obtain⟨z,i,c,rfl,rfl,hz,he,q⟩:=h
 obtain⟨t,rfl⟩:=rx
 obtain⟨t',rfl⟩:=ry
 obtain⟨j,h1,h2,h3,h4,h5⟩:=Mq he
 have hl:z.cps.toList.length=z.length:=by simp[Str.length]
 rw[hl]at h1 h4 h5
 have hn:=DP
 exact tail_any (typeIs_str s z t) slot_str_getitem.lookup (getItem_str (c:=c) (by
  have e1:decide (i< -(2 ^ 63:Int))=false:=decide_eq_false (by omega)
  have e2:decide (i≥2 ^ 63)=false:=decide_eq_false (by omega)
  rw[e1,e2,Bool.or_false]) (by rw[h1];simpa using h2) ⟨.str ⟨#[c]⟩,H,I.tok _,⟨_,rfl⟩,q⟩) hs
theorem QM(its:List Value)(n j:Nat)(u:Value):Obj.mapSeq (·.setIfInBounds j u) {cls:= .type "list",data:= .seq its.toArray n}={cls:= .type "list",data:= .seq (its.set j u).toArray n}:=by
 simp[Obj.mapSeq]
theorem Inv.lst{pins:List (Addr×Obj)}{σ:St}{H:Hp}{s:Shared}{p:Addr}{xs:List V}(I:Inv X pins σ H s)(h:H p=some (.lst xs)):
  ∃(its:List Value) (n:Nat),Vals xs its∧s.heap.get? p=some {cls:= .type "list",data:= .seq its.toArray n}∧xs.length≤sizeLine:=by
 obtain⟨z,its,n,r,e⟩:=I.hok p _ h
 exact⟨its,n,r,e,z⟩
theorem Inv.ado{pins:List (Addr×Obj)}{σ:St}{H:Hp}{s:Shared}{p:Addr}{xs ys:List V}{its its':List Value}{n n':Nat}{f:Obj→Obj}(I:Inv X pins σ H s)(h:H p=some (.lst xs))
  (ho:s.heap.get? p=some {cls:= .type "list",data:= .seq its.toArray n}) (hf:f {cls:= .type "list",data:= .seq its.toArray n}={cls:= .type "list",data:= .seq its'.toArray n'}) (r:Vals ys its') (hz:ys.length≤sizeLine) (t:Nat):
  Inv X pins σ (upd H p (.lst ys)) {s with heap:=s.heap.update p f,toks:=t}:=by
 have e:(s.heap.update p f).get? p=some {cls:= .type "list",data:= .seq its'.toArray n'}:=by
  rw[Heap.get?_update_self f ho (by rw[hf]<;>rfl),hf]
 refine I.write (x:=p) (e:=p) (by rw[h];trivial) (.inl rfl) (fun b u hb q=>(Heap.get?_update_other _ _ (Ne.symm hb)).trans q) ⟨_,e⟩ ?_
 exact⟨hz,its',n',r,e⟩
def abl:V→V→V→Hp→(Hp→Prop)→Prop:=fun o i v H Q=>∃p xs k j,o= .ref p∧i= .int k∧H p=some (.lst xs)∧YM xs.length k=some j∧Q (upd H p (.lst (xs.set j v)))
theorem set_list:aoU X abl:=by
 intro pins s σ H o i v ov iv u Q I ro ri rv h
 obtain⟨p,xs,k,j,rfl,rfl,hp,hj,q⟩:=h
 cases ro
 obtain⟨t,rfl⟩:=ri
 obtain⟨its,n,r,ho,hz⟩:=I.lst hp
 obtain⟨h1,h2,h3,h4⟩:=Tf hj
 have hl:=r.length
 have hn:=DP
 have I':Inv X pins σ (upd H p (.lst (xs.set j v))) {s with heap:=s.heap.update p (Obj.mapSeq (·.setIfInBounds j u))}:=
  I.ado hp ho (QM its n j u) (r.set rv j) (by rw[List.length_set];exact hz) s.toks
 by_cases h0:0≤k
 ·have hk:k.toNat=j:=by
   rw[seqIndex_of h0 h4]at h1
   exact Option.some.inj h1
  exact PySem.W.ki_setAt ho h0 (by omega) (by rw[List.size_toArray,←hl];exact h4) (by rw[hk];exact⟨_,I',q⟩)
 ·have hk:(k+(its.toArray.size:Int)).toNat=j:=by
   rw[seqIndex_neg (by omega) h3]at h1
   rw[List.size_toArray,←hl]
   exact Option.some.inj h1
  exact PySem.W.ki_setBack ho (by omega) (by rw[List.size_toArray,←hl];exact h3) (by omega) (by rw[hk];exact⟨_,I',q⟩)
theorem Ke(lo hi:Option Int)(n:Nat):(sliceBounds lo hi none n).1=((HT.bh n 0 lo:Nat):Int)∧(sliceBounds lo hi none n).2.1=((HT.bh n n hi:Nat):Int)∧(sliceBounds lo hi none n).2.2=1:=by
 refine⟨?_,?_,rfl⟩
 ·cases lo with
  | none=>simp[sliceBounds,HT.bh]
  | some i=>
   simp only[sliceBounds,HT.bh,Option.getD_none,show(1:Int) > 0 by decide,if_true]
   by_cases h:i<0
   ·simp only[h,if_true]<;>omega
   ·simp only[h,if_false]<;>omega
 ·cases hi with
  | none=>simp[sliceBounds,HT.bh]
  | some i=>
   simp only[sliceBounds,HT.bh,Option.getD_none,show(1:Int) > 0 by decide,if_true]
   by_cases h:i<0
   ·simp only[h,if_true]<;>omega
   ·simp only[h,if_false]<;>omega
theorem Ib(its:List Value)(lo hi:Option Int):slicePick its.toArray lo hi none=((its.drop (HT.bh its.length 0 lo)).take (HT.bh its.length its.length hi - HT.bh its.length 0 lo)).toArray:=by
 obtain⟨h1,h2,h3⟩:=Ke lo hi its.toArray.size
 unfold slicePick
 rw[h1,h2,h3]
 simp only[sliceRange_one,pick_run,List.size_toArray]<;>rfl
def amF(K:PySem.W.Frag):V→Option Int→Option Int→Hp→VK→Prop:=fun x lo hi H Q=>∃a xs,x= .ref a∧yC K H a xs∧∀p,H p=none→Q (.ref p) (upd H p (.lst (O7 xs lo hi)))
theorem Zm:SlR X (amF X.K):=by
 intro pins s σ H x v vl vu lo hi sl Q I rx hs pl pu h
 obtain⟨a,xs,rfl,hx,q⟩:=h
 cases rx
 obtain⟨its,r,ht,hz⟩:=I.list hx
 have hlen:=r.length
 refine⟨"list",_,slot_list_getitem.lookup,ht.isList.typeIs,?_⟩
 refine wpAny_getItem_list_slice ht.isList hs pl pu .none (by simp) ?_ (by rw[List.size_toArray]<;>omega)
 rw[Ib,←hlen]
 refine⟨.ref s.heap.objs.size,_,I.laid (t':=s.toks) (o:= .lst (O7 xs lo hi)) (fun b ob q=>Heap.get?_push_of_some _ q) (Nat.le_refl _) ?_,rfl,q _ (I.hok.fresh (Nat.le_refl _))⟩
 exact⟨Nat.le_trans (Fb xs lo hi) hz,_,0,(r.drop (HT.bh xs.length 0 lo)).take (HT.bh xs.length xs.length hi - HT.bh xs.length 0 lo),Heap.get?_push_size _ rfl⟩
def Av:V→Bool
 | .non=>true
 | .bl _=>true
 | .int _=>true
 | .str _=>true
 | _=>false
def eqV:V→V→Bool
 | .non,.non=>true
 | .bl a,.bl b=>a==b
 | .bl a,.int b=>(if a then 1 else 0)==b
 | .int a,.bl b=>a==(if b then 1 else 0)
 | .int a,.int b=>a==b
 | .str a,.str b=>a==b
 | _,_=>false
theorem adL{A:Around}{s:Shared}{y x:V}{u v:Value}(ry:RelV y u)(rx:RelV x v)(fy:Av y=true)(fx:Av x=true):SeqAt.EqAt A s u v (eqV y x):=by
 cases y with
 | non=>
  cases ry
  cases x with
  | non=>cases rx;exact SeqAt.EqAt.same _
  | bl b=>cases rx;exact SeqAt.EqAt.none_bool b
  | int b=>obtain⟨t,rfl⟩:=rx;exact SeqAt.EqAt.none_int b t
  | str b=>obtain⟨t,rfl⟩:=rx;exact SeqAt.EqAt.none_str b t
  | _=>exact absurd (show false=true from fx) Bool.false_ne_true
 | bl a=>
  cases ry
  cases x with
  | non=>cases rx;exact SeqAt.EqAt.bool_none a
  | bl b=>cases rx;exact SeqAt.EqAt.bool_bool a b
  | int b=>obtain⟨t,rfl⟩:=rx;exact SeqAt.EqAt.bool_int a b t
  | str b=>obtain⟨t,rfl⟩:=rx;exact SeqAt.EqAt.bool_str a b t
  | _=>exact absurd (show false=true from fx) Bool.false_ne_true
 | int a=>
  obtain⟨t',rfl⟩:=ry
  cases x with
  | non=>cases rx;exact SeqAt.EqAt.int_none a t'
  | bl b=>cases rx;exact SeqAt.EqAt.int_bool a t' b
  | int b=>obtain⟨t,rfl⟩:=rx;exact SeqAt.EqAt.int_int a t' b t
  | str b=>obtain⟨t,rfl⟩:=rx;exact SeqAt.EqAt.int_str a t' b t
  | _=>exact absurd (show false=true from fx) Bool.false_ne_true
 | str a=>
  obtain⟨t',rfl⟩:=ry
  cases x with
  | non=>cases rx;exact SeqAt.EqAt.str_none a t'
  | bl b=>cases rx;exact SeqAt.EqAt.str_bool a t' b
  | int b=>obtain⟨t,rfl⟩:=rx;exact SeqAt.EqAt.str_int a t' b t
  | str b=>obtain⟨t,rfl⟩:=rx;exact SeqAt.EqAt.str_str a t' b t
  | _=>exact absurd (show false=true from fx) Bool.false_ne_true
 | _=>exact absurd (show false=true from fy) Bool.false_ne_true
def eqU(x:V)(u:Value):Bool:=match u with
 | .none=>eqV .non x
 | .bool b=>eqV (.bl b) x
 | .int i _=>eqV (.int i) x
 | .str z _=>eqV (.str z) x
 | _=>false
theorem Ym{x y:V}{u:Value}(r:RelV y u)(f:Av y=true):eqU x u=eqV y x:=by
 cases y with
 | non=>cases r;rfl
 | bl b=>cases r;rfl
 | int i=>obtain⟨t,rfl⟩:=r;rfl
 | str z=>obtain⟨t,rfl⟩:=r;rfl
 | _=>exact absurd (show false=true from f) Bool.false_ne_true
theorem Ms{x:V}:∀{xs:List V} {us:List Value},Vals xs us→xs.all Av=true→us.any (eqU x)=xs.any fun y=>eqV y x
 | _,_,.nil,_=>rfl
 | y::xs,u::us,.cons r t,f=>by
  rw[List.all_cons,Bool.and_eq_true]at f
  rw[List.any_cons,List.any_cons,Ym r f.1,Ms t f.2]
theorem Hi{A:Around}{s:Shared}{x:V}{v:Value}(rx:RelV x v)(fx:Av x=true):∀{xs:List V} {us:List Value},Vals xs us→xs.all Av=true→∀u∈us,SeqAt.EqAt A s u v (eqU x u)
 | _,_,.nil,_=>fun u hu=>by cases hu
 | y::xs,u::us,.cons r t,f=>fun u' hu=>by
  rw[List.all_cons,Bool.and_eq_true]at f
  rcases List.mem_cons.mp hu with rfl | hu
  ·rw[Ym r f.1];exact adL r rx f.1 fx
  ·exact Hi rx fx t f.2 u' hu
def inV(x:V)(xs:List V):Bool:=xs.any fun y=>eqV y x
def rIn(K:PySem.W.Frag)(neg:Bool):R2:=fun x y H Q=>∃p xs,y= .ref p∧(yC K H p xs∨vh K H p xs)∧Av x=true∧xs.all Av=true∧Q (.bl (if neg then !inV x xs else inV x xs)) H
theorem U3:wz X (compareOp .In) (rIn X.K false):=by
 intro pins s σ H x y v u Q I rx ry h
 obtain⟨p,xs,rfl,hq,fx,fs,q⟩:=h
 cases ry
 rcases hq with hq | hq
 ·obtain⟨its,r,pl,hz⟩:=I.list hq
  refine SeqAt.in_listAt (eqU x) pl.isList (fun w hw=>Hi rx fx r fs w (by simpa using hw)) ⟨.bl _,H,I,rfl,?_⟩
  rw[show its.toArray.any (eqU x)=its.any (eqU x) by simp,Ms r fs]
  exact q
 ·obtain⟨its,r,pl,hz⟩:=I.tuple hq
  refine SeqAt.in_tupleAt (eqU x) pl (fun w hw=>Hi rx fx r fs w (by simpa using hw)) ⟨.bl _,H,I,rfl,?_⟩
  rw[show its.toArray.any (eqU x)=its.any (eqU x) by simp,Ms r fs]
  exact q
theorem KC:wz X (compareOp .NotIn) (fun x y H Q=>∃i j,x= .str i∧y= .str j∧Q (.bl (!(!(Builtin.Str.occurrences j i 0 j.length 1).isEmpty))) H):=by
 intro pins s σ H x y v u Q I rx ry h
 obtain⟨i,j,rfl,rfl,q⟩:=h
 obtain⟨t,rfl⟩:=rx
 obtain⟨t',rfl⟩:=ry
 exact notIn_str ⟨.bl _,H,I,rfl,q⟩
theorem Mi:oN X (.builtin "len") (fun xs H Q=>∃p ys,xs=[.ref p]∧(yC X.K H p ys∨vh X.K H p ys)∧Q (.int ys.length) H):=by
 intro pins s σ H xs us Q I r h
 obtain⟨p,ys,rfl,hq,q⟩:=h
 obtain⟨u,rfl,rx⟩:=vals1 r
 cases rx
 have hn:=DP
 rcases hq with hq | hq
 ·obtain⟨its,r',pl,hz⟩:=I.list hq
  have hlen:=r'.length
  exact Calls.call_len_list pl.isList (by simp only[List.size_toArray]<;>omega) ⟨.int ys.length,H,I.tok _,⟨s.toks+1,by rw[List.size_toArray,hlen]⟩,q⟩
 ·obtain⟨its,r',pl,hz⟩:=I.tuple hq
  have hlen:=r'.length
  exact len_tuple pl (by simp only[List.size_toArray]<;>omega) ⟨.int ys.length,H,I.tok _,⟨s.toks+1,by rw[List.size_toArray,hlen]⟩,q⟩
theorem Mh:oN X (.builtin "len") (fun xs H Q=>∃z,xs=[.str z]∧z.length≤sizeLine∧Q (.int z.length) H):=by
 intro pins s σ H xs us Q I r h
 obtain⟨z,rfl,hz,q⟩:=h
 obtain⟨u,rfl,t,rfl⟩:=vals1 r
 have hn:=DP
 exact len_str (by omega) ⟨.int z.length,H,I.tok _,⟨_,rfl⟩,q⟩
theorem oN.or{f:Value}{r r':List V→Hp→VK→Prop}(h:oN X f r)(h':oN X f r'):oN X f (fun xs H Q=>r xs H Q∨r' xs H Q):=by
 intro pins s σ H xs us Q I rs q
 rcases q with q | q
 ·exact h pins s σ H xs us Q I rs q
 ·exact h' pins s σ H xs us Q I rs q
theorem Mg:oN X (.type "list") (fun xs H Q=>∃p ys,xs=[.ref p]∧(yC X.K H p ys∨vh X.K H p ys)∧∀l,H l=none→Q (.ref l) (upd H l (.lst ys))):=by
 intro pins s σ H xs us Q I r h
 obtain⟨p,ys,rfl,hq,q⟩:=h
 obtain⟨u,rfl,rx⟩:=vals1 r
 cases rx
 have fin:∀(its:List Value),Vals ys its→ys.length≤sizeLine→∀(h':Heap) (c':Nat),(∀b o',s.heap.get? b=some o'→h'.get? b=some o')→
   h'.get? s.heap.objs.size=some {cls:= .type "list",dict:=none,data:= .seq its.toArray c',slots:= #[]}→EP X pins σ Q (.ref s.heap.objs.size) {s with heap:=h'}:=fun its r' hz h' c' kp e=>
  ⟨.ref s.heap.objs.size,_,I.laid (t':=s.toks) kp (Nat.le_refl _) (show gP X.prog X.w _ h' _ (.lst ys)from⟨hz,its,c',r',e⟩),rfl,q _ (I.hok.fresh (Nat.le_refl _))⟩
 rcases hq with hq | hq
 ·obtain⟨its,r',pl,hz⟩:=I.list hq
  have hlen:=r'.length
  obtain⟨o,ho,hc,n,hd⟩:=pl.isList
  exact call_list_seq p (.inl rfl) ho hc hd (fun h' c' kp e=>fin its r' hz h' c' kp e) (by simp only[List.size_toArray]<;>omega)
 ·obtain⟨its,r',pl,hz⟩:=I.tuple hq
  have hlen:=r'.length
  obtain⟨o,ho,hc,n,hd⟩:=pl
  exact call_list_seq p (.inr rfl) ho hc hd (fun h' c' kp e=>fin its r' hz h' c' kp e) (by simp only[List.size_toArray]<;>omega)
theorem Il:oN X (.type "tuple") (fun xs H Q=>∃p ys,xs=[.ref p]∧((yC X.K H p ys∧∀l,H l=none→Q (.ref l) (upd H l (.tup ys)))∨(vh X.K H p ys∧Q (.ref p) H))):=by
 intro pins s σ H xs us Q I r h
 obtain⟨p,ys,rfl,h⟩:=h
 obtain⟨u,rfl,rx⟩:=vals1 r
 cases rx
 rcases h with⟨hq,q⟩ | ⟨hq,q⟩
 ·obtain⟨its,r',pl,hz⟩:=I.list hq
  have hlen:=r'.length
  refine call_tuple_list pl.isList (fun h' kp=> ?_) (by simp only[List.size_toArray]<;>omega)
  have I1:Inv X pins σ H {s with heap:=h'}:=I.kept (t':=s.toks) kp
  have I2:Inv X pins σ (upd H h'.objs.size (.tup ys)) {s with heap:=h'.push {cls:= .type "tuple",data:= .seq its.toArray}}:=
   I1.laid (t':=s.toks) (fun b o e=>Heap.get?_push_of_some _ e) (Nat.le_refl _) (show gP X.prog X.w _ _ _ (.tup ys)from⟨hz,its,r',IsTup.new _ _⟩)
  exact⟨.ref h'.objs.size,_,I2,rfl,q _ (I1.hok.fresh (Nat.le_refl _))⟩
 ·obtain⟨its,r',pl,hz⟩:=I.tuple hq
  exact call_tuple_same pl ⟨.ref p,H,I,rfl,q⟩
def tyV(K:PySem.W.Frag)(T:String)(x:V)(H:Hp):Prop:=match x with
 | .str _=>T= "str"
 | .int _=>T= "int"
 | .ref p=>(T= "list" ∧ ∃xs,yC K H p xs)∨(T= "tuple" ∧ ∃o,K.lookup p=some o∧o.cls= .type "tuple" ∧ o.dict=none)∨
   (T= "dict" ∧ ((∃kvs,H p=some (.dK kvs))∨∃kvs,H p=some (.dT kvs)))∨(T= "set" ∧ ∃S n,H p=some (.set S n))
 | _=>False
theorem abK{pins:List (Addr×Obj)}{σ:St}{H:Hp}{s:Shared}{T:String}{x:V}{v:Value}(I:Inv X pins σ H s)(r:RelV x v)(ty:tyV X.K T x H):
  s.TypeIs v T∧∀a,v= .ref a→∃ob,s.heap.get? a=some ob∧ob.dict=none:=by
 cases x with
 | str z=>
  obtain⟨t,rfl⟩:=r
  cases(show T= "str" from ty)
  exact⟨typeIs_str s z t,fun _ e=>nomatch e⟩
 | int i=>
  obtain⟨t,rfl⟩:=r
  cases(show T= "int" from ty)
  exact⟨typeIs_int s i t,fun _ e=>nomatch e⟩
 | ref p=>
  cases r
  rcases ty with⟨rfl,xs,hq⟩ | ⟨rfl,o,hk,hc,hd⟩ | ⟨rfl,hk⟩ | ⟨rfl,S,n,hk⟩
  ·obtain⟨its,_,pl,_⟩:=I.list hq
   refine⟨pl.isList.typeIs,fun a e=> ?_⟩
   cases e
   obtain⟨o,n,e,c,hd,_⟩:=pl
   exact⟨o,e,hd⟩
  ·refine⟨⟨o,I.ye p o hk,hc⟩,fun a e=> ?_⟩
   cases e
   exact⟨o,I.ye _ o hk,hd⟩
  ·have z:∃o,s.heap.get? p=some o∧o.ExactDict:=by
    rcases hk with⟨kvs,hk⟩ | ⟨kvs,hk⟩
    ·obtain⟨_,_,_,_,o,_,_,e,ex,_⟩:=I.hok p _ hk
     exact⟨o,e,ex⟩
    ·obtain⟨_,_,_,_,o,_,_,e,ex,_⟩:=I.hok p _ hk
     exact⟨o,e,ex⟩
   obtain⟨o,e,ex⟩:=z
   refine⟨⟨o,e,ex.1⟩,fun a e2=> ?_⟩
   cases e2
   exact⟨o,e,ex.2.1⟩
  ·obtain⟨o,_,_,_,e,ex,_⟩:=I.hok p _ hk
   refine⟨⟨o,e,ex.1⟩,fun a e2=> ?_⟩
   cases e2
   exact⟨o,e,ex.2.1⟩
 | _=>exact False.elim ty
def tBM(K:PySem.W.Frag)(T:String)(r:V→List V→Hp→VK→Prop)(to:TE)(t:TA):TE:=fun σ H Q=>to σ H fun x H1=>tyV K T x H1∧t σ H1 fun xs H2=>r x xs H2 Q
variable{o e:Expr}{es:List Expr}{to:TE}{t:TA}{name:Str}{apos cpos:Pos}{T id:String}{r:V→List V→Hp→VK→Prop}
theorem agx(pa:PlainAttrs T)(slot:Slot T name id)(hty:typeOf (.builtin id)=pure (.type "method_descriptor"))(hm:MtR X id r)(ho:PE X o to)(ha:PA X (e::es) t)
  (hbase:attributeBase o name X.env (eval o X.env)=eval o X.env:=by rfl)
  (hfew:((backTo cpos (starEach (e::es) X.env)).all (fun x=> !x.1)&&(backToKw cpos (keywordEach [] X.env)).all (fun x=>x.1.isSome)
   && decide ((e::es).length+([]:List Keyword).length+(if([]:List Keyword).isEmpty then 0 else 1)<30))=true:=by rfl)
  (hline:(apos.endLine==cpos.line)=true:=by rfl) (hs:starEach (e::es) X.env=(false,eval e X.env)::starEach es X.env:=by rfl) (hplain:(backTo cpos (starEach es X.env)).any (·.1)=false:=by rfl):
  PE X (.Call (.Attribute o name apos) (e::es) [] cpos) (tBM X.K T r to t):=by
 intro pins s σ H Q I h
 refine wpAny_Call_method_late hbase hfew hline rfl (iw (ho pins s σ H _ I h) fun v s1 ⟨x,H1,I1,r1,ty,q1⟩=> ?_)
 obtain⟨h1,h2⟩:=abK I1 r1 ty
 refine⟨T,id,pa,slot,hty,h1,h2,?_⟩
 have hA:=ha cpos pins s1 σ H1 _ I1 q1
 rw[hs]at hA ⊢
 refine Calls.callWith_builtin (by show(false||(backTo cpos (starEach es X.env)).any (·.1))=false;rw[hplain]<;>rfl) (Calls.evalArgs_plain ?_)
 exact iw hA fun us s2 ⟨vs,H2,I2,r2,q2⟩=>hm pins s2 σ H2 x vs v us Q I2 r1 r2 q2
end
end L2
namespace L2
open PySem PySem.Spec PyProof.Rows
def MtM(X:Cx)(id:String)(r:V→List V→Hp→VK→Prop):Prop:=
 ∀(pins:List (Addr×Obj)) (s:Shared) (σ:St) (H:Hp) (x:V) (xs:List V) (v:Value) (us:List Value) (Q:VK),Inv X pins σ H s→RelV x v→Vals xs us→r x xs H Q→
  wpAny (model X.prog X.w) X.A (call (.builtin id) (v::us)) (EP X pins σ Q) X.xe s
theorem Vals.one:∀{x:V} {us:List Value},Vals [x] us→∃u,us=[u]∧RelV x u
 | _,_,.cons r .nil=>⟨_,rfl,r⟩
theorem Vals.two:∀{x y:V} {us:List Value},Vals [x,y] us→∃u v,us=[u,v]∧RelV x u∧RelV y v
 | _,_,_,.cons r (.cons q .nil)=>⟨_,_,rfl,r,q⟩
theorem Vals.zero:∀{us:List Value},Vals [] us→us=[]
 | _,.nil=>rfl
section
variable{X:Cx}{pins:List (Addr×Obj)}{σ:St}{H:Hp}{s:Shared}{l b:Addr}{xs ys zs:List V}
theorem Inv.agV{its its':List Value}{n:Nat}{f:Array Value→Array Value}{t':Nat}(I:Inv X pins σ H s)(hH:H l=some (.lst xs))
  (e:s.heap.get? l=some {cls:= .type "list",data:= .seq its.toArray n}) (hf:f its.toArray=its'.toArray) (hv:Vals ys its') (hz:ys.length≤sizeLine):
  Inv X pins σ (upd H l (.lst ys)) {s with heap:=s.heap.update l (Obj.mapSeq f),toks:=t'}:=by
 have q:=PySem.IsL.update e f
 rw[hf]at q
 refine I.write (x:=l) (e:=l) (by rw[hH];exact trivial) (.inl rfl) (fun b' u hb hu=>(Heap.get?_update_other s.heap (Obj.mapSeq f) (Ne.symm hb)).trans hu) ⟨_,q⟩ ?_
 exact⟨hz,its',_,hv,q⟩
theorem Inv.agW{its:List Value}{t':Nat}(I:Inv X pins σ H s)(hv:Vals ys its)(hz:ys.length≤sizeLine):
  Inv X pins σ (upd H s.heap.objs.size (.lst ys)) {s with heap:=s.heap.push {cls:= .type "list",data:= .seq its.toArray},toks:=t'}:=
 I.laid (fun _ _ q=>Heap.get?_push_of_some _ q) (Nat.le_refl _) ⟨hz,its,0,hv,Heap.get?_push_size _ rfl⟩
theorem Inv.fresh(I:Inv X pins σ H s):H s.heap.objs.size=none:=I.hok.fresh (Nat.le_refl _)
theorem Inv.Vb(I:Inv X pins σ H s)(hH:H l=some (.lst xs)):xs.length≤sizeLine∧∃(its:List Value) (n:Nat),Vals xs its∧xs.length=its.length∧s.heap.get? l=some {cls:= .type "list",data:= .seq its.toArray n}:=by
 obtain⟨z,its,n,r,e⟩:=I.hok l _ hH
 exact⟨z,its,n,r,r.length,e⟩
theorem Xq{n:Nat}(h:n≤sizeLine):Builtin.List.listTooLong n=false:=by
 unfold Builtin.List.listTooLong
 exact decide_eq_false (by omega)
end
section
variable{X:Cx}
def ZK:V→List V→Hp→VK→Prop:=fun x vs H Q=>∃l xs y,x= .ref l∧vs=[y]∧H l=some (.lst xs)∧xs.length<sizeLine∧Q .non (upd H l (.lst (xs++[y])))
theorem U_:MtM X "list.append" ZK:=by
 intro pins s σ H x vs v us Q I rx rv h
 obtain⟨l,xs,y,rfl,rfl,hH,hz,q⟩:=h
 cases rx
 obtain⟨u,rfl,ru⟩:=rv.one
 obtain⟨z,its,n,r,hl,e⟩:=I.Vb hH
 refine call_meets F.slot_list_append ⟨_,e,rfl⟩ F.entry_list_append (F.args_list_append_2 _ _) (PySem.list_append l its.toArray n u (by rw[List.size_toArray];omega)) ⟨e,?_⟩
 refine⟨.non,_,I.agV (its':=its++[u]) hH e (by simp) (r.append (.cons ru .nil)) ?_,rfl,q⟩
 rw[List.length_append,List.length_singleton]
 omega
def ZJ:V→List V→Hp→VK→Prop:=fun x vs H Q=>∃l b xs zs,x= .ref l∧vs=[.ref b]∧H l=some (.lst xs)∧H b=some (.lst zs)∧xs.length+zs.length≤sizeLine∧Q .non (upd H l (.lst (xs++zs)))
theorem U9:MtM X "list.extend" ZJ:=by
 intro pins s σ H x vs v us Q I rx rv h
 obtain⟨l,b,xs,zs,rfl,rfl,hH,hB,hz,q⟩:=h
 cases rx
 obtain⟨u,rfl,ru⟩:=rv.one
 cases ru
 obtain⟨z,its,n,r,hl,e⟩:=I.Vb hH
 obtain⟨z2,its2,n2,r2,hl2,e2⟩:=I.Vb hB
 have hsz:its.toArray.size+its2.toArray.size≤sizeLine:=by rw[List.size_toArray,List.size_toArray];omega
 have ahB:¬(!its.toArray.isEmpty&&Builtin.List.listTooLong (its.toArray.size+its2.toArray.size))=true:=by
  rw[Xq hsz,Bool.and_false]
  exact Bool.false_ne_true
 refine call_meets F.slot_list_extend ⟨_,e,rfl⟩ F.entry_list_extend (F.args_list_extend_2 _ _)
  (AutoSeq1.list_extend_list_list_0 l its.toArray n b its2.toArray n2 ahB (by rw[List.size_toArray];omega) (by omega)) ⟨e,e2,?_⟩
 refine⟨.non,_,I.agV (its':=its++its2) hH e (by simp) (r.append r2) ?_,rfl,q⟩
 rw[List.length_append]
 omega
def amJ:R2:=fun x y H Q=>∃l b xs zs,x= .ref l∧y= .ref b∧H l=some (.lst xs)∧H b=some (.lst zs)∧xs.length+zs.length≤sizeLine∧∀p,H p=none→Q (.ref p) (upd H p (.lst (xs++zs)))
theorem ac2:wz X (binaryOp .Add) amJ:=by
 intro pins s σ H x y v u Q I rx ry h
 obtain⟨l,b,xs,zs,rfl,rfl,hH,hB,hz,q⟩:=h
 cases rx
 cases ry
 obtain⟨z,its,n,r,hl,e⟩:=I.Vb hH
 obtain⟨z2,its2,n2,r2,hl2,e2⟩:=I.Vb hB
 refine PySem.P.add_list e e2 ?_ (by rw[List.size_toArray,List.size_toArray];omega)
 have ea:its.toArray++its2.toArray=(its++its2).toArray:=by simp
 rw[ea]
 exact⟨.ref _,_,I.agW (t':=s.toks) (r.append r2) (by rw[List.length_append];omega),rfl,q _ I.fresh⟩
end
section
variable{prog:Program}{w:World}{A:Around}{E:Value→Shared→Prop}{s:Shared}
end
section
variable{X:Cx}
end
end L2
namespace Att
open PySem PySem.W PySem.Calls PyProof.Rows
theorem Ft{P:Params}{h:Heap}:∀(ns:List Int) (vs:List Value),WellAll P h vs (ns.map WData.int)→IntsAre vs ns:=by
 intro ns
 induction ns with
 | nil=>
  intro vs w
  rw[List.map_nil]at w
  cases w
  exact .nil
 | cons n ns ih=>
  intro vs w
  rw[List.map_cons]at w
  cases w with
  | cons a b=>
   cases a
   exact .cons _ _ (ih _ b)
theorem Ut{l:OpenLaw}{n:Nat}(hn:l.most=some n){P:Params}{h:Heap}{args:List WData}{vals:List Value}
  (hpre:l.row.toRowW.claim.pre args=true) (hwl:WellAll P h vals args):
  ∃a vs ns,vals=[Value.ref a]∧args=[WData.list (ns.map WData.int)]∧h.get? a=some {cls:= .type "list",data:= .seq vs.toArray}∧IntsAre vs ns∧ns.length≤n:=by
 have hsh:WShape.hasAll [] args [.list .int]=true:=(pre_splitW hpre).1
 have hc:l.pre.holds [] {args:=args}=true:=(pre_splitW hpre).2
 obtain⟨d,r,rfl,h1,h2⟩:=hasAllW_cons hsh
 obtain rfl:=hasAllW_nil h2
 obtain⟨xs,rfl,h3⟩:=hasW_list h1
 obtain⟨ns,rfl⟩:=items_int h3
 have hlen:ns.length≤n:=by
  unfold OpenLaw.pre at hc
  have h4:(WTm.not (.lt (.lit (.int (n:Int))) (.len (.arg 0)))).holds [] {args:=[.list (ns.map .int)]}=true:=by
   have h4:=(holds_andW hc).1
   rw[hn]at h4
   exact h4
  have h5:=condW_of h4 (w_not (w_lt w_lit (w_len_list (w_arg rfl))))
  rw[List.length_map]at h5
  refine Nat.le_of_not_lt fun q=> ?_
  have q':(n:Int)<((ns.length:Nat):Int):=by omega
  first
   | (rw[decide_eq_true q']at h5;exact absurd h5 (by decide))
   | (simp at h5;omega)
 cases hwl with
 | cons w1 w2=>
  cases w2
  cases w1 with
  | list ho hall=>exact⟨_,_,ns,rfl,rfl,ho,Ft ns _ hall,hlen⟩
theorem Uy(l:OpenLaw)(args:List WData):l.row.toRowW.claim.post args (.bool true) args=true:=
 postW_of (r:=l.row.toRowW) (X:=(true==true))
  (show WShape.has [] (.bool true) .bool=true by first | rfl | decide | simp[WShape.has,WShape.arms,WShape.armsAll])
  (show(WTm.eq .res (.lit (.bool true))).value [] {args:=args,res:=some (.bool true),after:=args}=some (.bool (true==true))from w_eq_bool (w_res rfl) w_lit) rfl
theorem Pb{l:OpenLaw}{n:Nat}{q:Program}{loose:List Str}{XP:(Str→Option Value)→Heap→Prop}{YP:World→Heap→Prop}{d:DefRec}
  (hn:l.most=some n) (hdf:d.params.defaults=[])
  (call:∀(w:World) (s₀ s₁:Shared) (mg mb:Str→Option Value) (fa:Addr) (o:Obj) (pm cd doc:Value) (a:Addr) (vs:List Value) (ns:List Int),
   Ground q loose [] XP w s₀ mg mb s₁.heap→YP w s₁.heap→
   s₁.heap.get? fa=some o→o.data= .func (docDef d.name d.params d.body d.scope pm cd doc)→s₁.heap.CodeRec cd d.name→mg d.name=some (.ref fa)→
   s₁.heap.get? a=some {cls:= .type "list",data:= .seq vs.toArray}→IntsAre vs ns→ns.length≤n→s₁.gens= #[]→
   codeAny (model l.prog w) callerA (.call (.ref fa) ⟨[.ref a],[]⟩) (fun r s'=>r= .ok (.ret (.bool true))∧OldK s₁.heap s'.heap∧s'.os=s₁.os∧AllBare s'.gens) s₁):
  WalkO q loose XP YP l.row.toRowW d [] (fun f vs=>PySem.call f vs):=by
 intro w s₀ s₁ mg mb G Y fa o pm cd doc dV kV ho hd hcd hD hmg hg args vals as hpre hlay hrd hwl hlo
 obtain rfl:dV= .none:=Dflts.none hD hdf
 obtain rfl:kV= .none:=Dflts.noKw hD
 obtain⟨a,vs,ns,rfl,rfl,hobj,hints,hlen⟩:=Ut hn hpre hwl
 refine enter_call (codeAny_mono (call w s₀ s₁ mg mb fa o pm cd doc a vs ns G Y ho (fd_plain hd) hcd hmg hobj hints hlen hg) fun r s' hq=> ?_)
 obtain⟨rfl,h2,h3,h4⟩:=hq
 exact⟨.inl ⟨.bool true,.bool true,[],rfl,fun _=>rfl,.bool true,Uy l _,fun _=>⟨List.Pairwise.nil,fun _ hm=>(nomatch hm)⟩⟩,h2,h3,h4⟩
section
variable{prog:Program}{w:World}{A:Around}{E:Value→Shared→Prop}{s:Shared}{K:Frag}
end
end Att
namespace L2
open PySem PySem.Spec PyProof.Rows
theorem IK:∀{vs:List Value} {ns:List Int},IntsAre vs ns→Vals (ns.map V.int) vs
 | _,_,.nil=> .nil
 | _,_,.cons n t h=> .cons ⟨t,rfl⟩ (IK h)
def Only(H:Hp):Prop:=∀b,H b=none∨∃o xs,H b=some (.Af o (.lst xs))
theorem XQ{P:Program}{w:World}{K:PySem.W.Frag}{mg mb:Str→Option Value}{CX:Rv}{k:Nat}{fa a:Addr}{fd:FuncData}{x:Str}{sp:Sp}{s₁:Shared}{vs:List Value}{ns:List Int}
  (KX:K.In s₁.heap) (hns:s₁.heap.Ns mainGlobals mg) (hb:s₁.heap.Ns builtinsNs mb) (hbb:∀x:Str,x≠ "__name__" → mb x=bootBuiltins x) (hlim:s₁.heap.NoLimit) (hg:s₁.gens= #[])
  (ha:s₁.heap.get? a=some {cls:= .type "list",data:= .seq vs.toArray}) (hi:IntsAre vs ns) (hl:ns.length≤sizeLine) (hr:lq k callerA)
  (F:∀base:Heap,K.In base→base.Ns mainGlobals mg→bx P w K mg base CX k fa fd [x] sp) (hbind:∀(s:Shared) (u:Value),BindsTo s fd ⟨[u],[]⟩ [(x,u)])
  (hsp:∀H:Hp,Only H→yC K H a (ns.map V.int)→sp [.ref a] H (fun v _=>v= .bl true) fun _ _ _=>False)
  (hCX:∀H e s',CX [] H s₁ (fun _ _ _=>False) e s'→False):
  codeAny (model P w) callerA (.call (.ref fa) ⟨[.ref a],[]⟩) (fun r s'=>r= .ok (.ret (.bool true))∧OldK s₁.heap s'.heap∧s'.os=s₁.os∧AllBare s'.gens) s₁:=by
 have rv:=IK hi
 have lenV:=hi.length
 have core:∀H:Hp,Only H→yC K H a (ns.map V.int)→vq P w H s₁.heap→(∀b,H b≠none→b=a)→(H a≠none→K.lookup a=none)→
   codeAny (model P w) callerA (.call (.ref fa) ⟨[.ref a],[]⟩) (fun r s'=>r= .ok (.ret (.bool true))∧OldK s₁.heap s'.heap∧s'.os=s₁.os∧AllBare s'.gens) s₁:=by
  intro H hO hS hok hA hK
  have T8:∀{b:Addr} {o:Obj},s₁.heap.get? b=some o→H b=none→(Ls s₁.heap H).get? b=some o:=fun e n=>X_ e n
  have noA:∀{b:Addr} {o:Obj} {es:Array DictEntry} {ep:Nat},s₁.heap.get? b=some o→o.data= .dict es ep→H b=none:=fun{b o es ep} e d=>by
   cases q:H b with
   | none=>rfl
   | some u=>
    have e':b=a:=hA b (by rw[q];simp)
    subst e'
    rw[ha]at e;cases e
    have d':Data.seq vs.toArray _=Data.dict es ep:=d
    cases d'
  have nsK:∀{b:Addr} {m:Str→Option Value},s₁.heap.Ns b m→(Ls s₁.heap H).Ns b m:=fun{b m} ⟨o,es,ep,e,d,r⟩=>⟨o,es,ep,T8 e (noA e d),d,r⟩
  have hKb:K.In (Ls s₁.heap H):=fun b o e=>T8 (KX b o e) (by
   cases q:H b with
   | none=>rfl
   | some u=>
    have e':b=a:=hA b (by rw[q];simp)
    subst e'
    rw[hK (by rw[q];simp)]at e;cases e)
  have hM:Mod K mg (Ls s₁.heap H):=⟨hKb,nsK hns,⟨mb,nsK hb,hbb⟩,let⟨mc,h1,h2⟩:=hlim;⟨mc,nsK h1,h2⟩⟩
  have e0:Iv P w K mg (Ls s₁.heap H) callerA [] s₁ H:=⟨rfl,hM,fun b o e=>aag e,Nat.le_of_eq (Vk _ _),trivial,fun b hb=>absurd (show b∈([]:List Addr)from hb) (by simp),hok,.of_eq hg⟩
  refine codeAny_mono ((F _ hKb (nsK hns)).run callerA [] s₁ H ⟨[.ref a],[]⟩ [.ref a] [.ref a] _ _ hr e0 (hbind s₁ (.ref a)) (.cons rfl .nil) (hsp H hO hS)) fun r s' h=> ?_
  cases r with
  | error e=>exact(hCX H e s' h).elim
  | ok fl=>
   cases fl with
   | next=>exact False.elim h
   | brk=>exact False.elim h
   | cont=>exact False.elim h
   | ret u=>
    obtain⟨v,H',os,bare,un,hok',r',q⟩:=h
    have q':v= .bl true:=q
    subst q'
    obtain rfl:u=Value.bool true:=r'
    refine⟨rfl,OldK.of_keep fun b o e=> ?_,os,bare⟩
    cases q:H b with
    | none=>exact un.keep b o e q (by intro z;exact absurd (show b∈([]:List Addr)from z) (by simp)) (by simp)
    | some u=>
     rcases hO b with z | ⟨ob,xs,z⟩
     ·rw[q]at z;cases z
     ·have z2:=un.yS b ob _ z
      obtain⟨e1,_⟩:=hok b _ z
      obtain⟨e2,_⟩:=hok' b _ z2
      rw[e]at e1;cases e1
      exact e2
 cases hk:K.lookup a with
 | some o=>
  have e:=KX a o hk
  rw[ha]at e
  cases e
  refine core (fun _=>none) (fun _=> .inl rfl) (.inr ⟨_,vs.toArray,_,hk,rfl,rfl,rfl,by rw[List.size_toArray,lenV];exact hl,by simpa using rv⟩) (fun b u z=>by have z':(none:Option HO)=some u:=z;cases z') (fun b z=>absurd rfl z) fun z=>absurd rfl z
 | none=>
  refine core (fun b=>if b=a then some (.Af {cls:= .type "list",data:= .seq vs.toArray} (.lst (ns.map V.int)))else none) (fun b=> ?_) (.inl (.inr ⟨{cls:= .type "list",data:= .seq vs.toArray},if_pos rfl⟩)) (fun b u z=> ?_) (fun b z=> ?_) fun _=>hk
  ·by_cases hb:b=a
   ·exact .inr ⟨_,_,if_pos hb⟩
   ·exact .inl (if_neg hb)
  ·by_cases hb:b=a
   ·have z':=(if_pos hb).symm.trans z
    cases z'
    subst hb
    exact⟨ha,by rw[List.length_map];exact hl,vs,_,rv,ha⟩
   ·have z':=(if_neg hb).symm.trans z
    cases z'
  ·by_cases hb:b=a
   ·exact hb
   ·exact absurd (if_neg hb) z
end L2
namespace L2
open PySem PySem.Spec PyProof.Rows
abbrev KOf{K:PySem.W.Frag}{h:Heap}(_:K.In h):PySem.W.Frag:=K
theorem Y4{l:PySem.W.OpenLaw}{n k:Nat}{q:Program}{loose:List Str}{XP:(Str→Option Value)→Heap→Prop}{YP:World→Heap→Prop}{d:DefRec}{K:Params→PySem.W.Frag}{CX:World→Rv}{sp:World→Sp}{x:Str}
  (hn:l.most=some n) (hn2:n≤sizeLine) (hdf:d.params.defaults=[]) (hr:lq k callerA)
  (hY:∀(w:World) (h:Heap),YP w h→(K w.params).In h)
  (F:∀(w:World) (mg:Str→Option Value) (fa:Addr) (h:Heap),(K w.params).In h→h.Ns mainGlobals mg→mg d.name=some (.ref fa)→
   ∃fd:FuncData,(∀(s:Shared) (u:Value),BindsTo s fd ⟨[u],[]⟩ [(x,u)])∧
    ∀base:Heap,(K w.params).In base→base.Ns mainGlobals mg→bx l.prog w (K w.params) mg base (CX w) k fa fd [x] (sp w))
  (hsp:∀(w:World) (H:Hp) (a:Addr) (ns:List Int),ns.length≤n→Only H→yC (K w.params) H a (ns.map V.int)→sp w [.ref a] H (fun v _=>v= .bl true) fun _ _ _=>False)
  (hCX:∀(w:World) (H:Hp) (s:Shared) (e:Value) (s':Shared),CX w [] H s (fun _ _ _=>False) e s'→False):
  PySem.W.WalkO q loose XP YP l.row.toRowW d [] (fun f vs=>PySem.call f vs):=by
 refine Att.Pb hn hdf fun w s₀ s₁ mg mb fa o pm cd doc a vs ns G Y ho hd hcd hmg hobj hints hlen hg=> ?_
 have KX:=hY w _ Y
 obtain⟨fd,hb,hF⟩:=F w mg fa _ KX G.T.g hmg
 exact XQ KX G.T.g G.T.b G.T.builtins G.T.nolimit hg hobj hints (Nat.le_trans hlen hn2) hr hF hb (fun H hO hS=>hsp w H a ns hlen hO hS) fun H e s'=>hCX w H s₁ e s'
end L2
namespace L2
open PySem PySem.Spec PyProof.Rows
def inClass(s:Stmt)(j:Nat):Stmt:=match s with
 | .ClassDef _ _ _ body _ _ _ _ _ _ _=>body.getD j (.Pass ⟨0,0,0,0⟩)
 | _=> .Pass ⟨0,0,0,0⟩
def aJ(s:Stmt):Arguments:=match s with
 | .FunctionDef _ a _ _ _ _ _ _ _ _=>a
 | _=>{posonlyargs:=[],args:=[],vararg:=none,kwonlyargs:=[],kw_defaults:=[],kwarg:=none,defaults:=[]}
def aG(s:Stmt):List Stmt:=match s with
 | .FunctionDef _ _ b _ _ _ _ _ _ _=>b
 | _=>[]
def au(s:Stmt):Scope:=match s with
 | .FunctionDef _ _ _ _ _ _ sc _ _ _=>sc
 | _=>{kind:= .function,names:=[],isGenerator:=false,isCoroutine:=false}
abbrev Rx:Rv:=fun _ _ _ _ _ _=>False
abbrev E0:XK:=fun _ _ _=>False
structure Fun(K:PySem.W.Frag)(x qual:Str)(st:Stmt)(f:Addr)(fd:FuncData):Prop where
 ex:∃(oc:Value) (od:Option Addr) (kV doc pm:Value) (an:Option Addr) (cdv ct:Value) (osl:Array (Option Value)),
  fd=PySem.W.fnOf x qual (aJ st) (aG st) (au st) .none kV doc pm an cdv ct∧K.lookup f=some ⟨oc,od,.func fd,osl⟩∧PySem.W.codeIn K cdv qual=true
 kp:PySem.W.keepIn K (.ref f)=true
section
variable{P:Program}{w:World}{K:PySem.W.Frag}{mg:Str→Option Value}{base:Heap}
theorem Fun.ok{x qual:Str}{st:Stmt}{f:Addr}{fd:FuncData}{N ps:List Str}{k:Nat}{sp:Sp}(F:Fun K x qual st f fd)(S:bf N ps (au st))(len:∀vs H Q E,sp vs H Q E→vs.length=ps.length)
  (hbody:∀(cdv:Value) (A:Around) (outer:List Env) (s:Shared) (H:Hp) (vs:List V) (Q:VK) (E:XK),lq k (A.deeper (envOfC qual (au st) s.heap.objs.size f cdv))→sp vs H Q E→
   ∃t,Fv (yU Rx P w K mg base N qual (au st) f cdv A outer s H E).Xp (aG st) t∧t {nx:=fun _ H'=>Q .non H',rt:=Q} (start N vs) H):bx P w K mg base Rx (k+1) f fd ps sp:=by
 obtain⟨oc,od,kV,doc,pm,an,cdv,ct,osl,rfl,lk,hcd⟩:=F.ex
 refine Yi lk hcd S len fun A outer s H vs Q E hr hsp=> ?_
 obtain⟨t,h,q⟩:=hbody cdv A outer s H vs Q E hr hsp
 exact⟨t,h.Xp,q⟩
end
section
variable{X:Cx}
theorem pv(i:Nat){x:Str}{pos:Pos}(hN:X.N[i]? = some x:=by rfl)(hv:Vis X.env.scope x:=by first | exact Or.inl rfl | exact Or.inr (Or.inl rfl) | exact Or.inr (Or.inr rfl))(hd:(x==("__debug__" : Str))=false:=by decide)
  (hcd:(x==("__classdict__" : Str))=false:=by decide):PE X (.Name x pos) (Za i):=Xf hN hv hd hcd
end
def Mz(H H':Hp):Prop:=∀b o,H b=some o→H' b=some o
theorem Mz.trans{H H1 H2:Hp}(a:Mz H H1)(b:Mz H1 H2):Mz H H2:=fun c o h=>b c o (a c o h)
theorem Mz.free{H H':Hp}(e:Mz H H'){l:Addr}(h:H' l=Option.none):H l=Option.none:=by
 cases q:H l with
 | none=>rfl
 | some o=>
  rw[e l o q]at h
  cases h
end L2
namespace L2
open PySem PySem.Spec PyProof.Rows
theorem yr{env:Env}{scope:Scope}(h:∀n,(n,NameKind.free)∈scope.names→∃c,env.cells.lookup n=some c):
  ∃cl,closureFor scope env=pure cl∧(∀n c,cl.lookup n=some c→env.cells.lookup n=some c)∧∀n,(n,NameKind.free)∈scope.names→∃c,cl.lookup n=some c:=by
 have go:∀(names:List (Str×NameKind)) (acc:List (Str×Addr)),(∀n,(n,NameKind.free)∈names→∃c,env.cells.lookup n=some c)→(∀n c,acc.lookup n=some c→env.cells.lookup n=some c)→
   ∃cl,(forIn names acc fun(x:Str×NameKind) (r:List (Str×Addr))=>if(x.2==NameKind.free)=true then do let a ←cellOf env x.1;pure (ForInStep.yield ((x.1,a)::r))else pure (ForInStep.yield r):Sem (List (Str×Addr)))=pure cl∧
    (∀n c,cl.lookup n=some c→env.cells.lookup n=some c)∧(∀n,(n,NameKind.free)∈names→∃c,cl.lookup n=some c)∧∀n c,acc.lookup n=some c→∃c,cl.lookup n=some c:=by
  intro names
  induction names with
  | nil=>intro acc _ h2;exact⟨acc,rfl,h2,(fun _ z=>nomatch z),fun n c e=>⟨c,e⟩⟩
  | cons x r ih=>
   intro acc h1 h2
   obtain⟨n,k⟩:=x
   by_cases hk:k=NameKind.free
   ·subst hk
    obtain⟨c,hc⟩:=h1 n List.mem_cons_self
    obtain⟨cl,e1,e2,e3,e4⟩:=ih ((n,c)::acc) (fun m z=>h1 m (List.mem_cons_of_mem _ z)) (fun m d e=>by
     rw[List.lookup_cons]at e
     cases q:m==n with
     | true=>rw[q]at e;cases e;rw[eq_of_beq q];exact hc
     | false=>rw[q]at e;exact h2 m d e)
    refine⟨cl,?_,e2,fun m z=> ?_,fun m d e=> ?_⟩
    ·rw[List.forIn_cons]
     have:cellOf env n=pure c:=by unfold cellOf;rw[hc]
     simp only[this,beq_self_eq_true,if_true]
     exact e1
    ·rcases List.mem_cons.mp z with z | z
     ·cases z
      exact e4 n c (by rw[List.lookup_cons,beq_self_eq_true])
     ·exact e3 m z
    ·cases q:m==n with
     | true=>exact e4 m c (by rw[List.lookup_cons,q])
     | false=>exact e4 m d (by rw[List.lookup_cons,q];exact e)
   ·obtain⟨cl,e1,e2,e3,e4⟩:=ih acc (fun m z=>h1 m (List.mem_cons_of_mem _ z)) h2
    refine⟨cl,?_,e2,fun m z=> ?_,e4⟩
    ·rw[List.forIn_cons]
     have:(k==NameKind.free)=false:=by simpa using hk
     simp only[this,Bool.false_eq_true,if_false]
     exact e1
    ·rcases List.mem_cons.mp z with z | z
     ·cases z;exact absurd rfl hk
     ·exact e3 m z
 obtain⟨cl,e1,e2,e3,_⟩:=go scope.names [] h (fun _ _ e=>nomatch e)
 refine⟨cl,?_,e2,e3⟩
 unfold closureFor
 show(forIn scope.names [] _ >>= fun r=>pure r)=_
 rw[show(forIn scope.names [] fun(x:Str×NameKind) (r:List (Str×Addr))=>_:Sem (List (Str×Addr)))=pure cl from e1]
 rfl
def gk(env:Env)(x:Str×NameKind):Str×NameKind:=if(x.2== .free&&env.scope.kind== .function&&env.kindOf x.1==some .cell)then(x.1,.cell)else(x.1,x.2)
theorem GP(env:Env)(x:Str×NameKind):(gk env x).1=x.1:=by
 unfold gk;split<;>rfl
theorem Kv{env:Env}{y:Str}:∀{names:List (Str×NameKind)},(∀z∈names,z.2≠ .cell)→((names.map (gk env)).lookup y=some .cell∨(names.map (gk env)).lookup y=some .free)→(y,NameKind.free)∈names
 | [],_,h=>by rcases h with h | h<;>cases h
 | (n,k)::r,hc,h=>by
  rw[List.map_cons]at h
  have e1:(gk env (n,k)).1=n:=GP env (n,k)
  cases hx:y==n with
  | true=>
   have ey:=eq_of_beq hx
   subst ey
   have hk:k≠ .cell:=hc (y,k) List.mem_cons_self
   have q:(gk env (y,k)).2= .cell∨(gk env (y,k)).2= .free:=by
    have l:∀kk,List.lookup y (gk env (y,k)::List.map (gk env) r)=some kk→(gk env (y,k)).2=kk:=fun kk z=>by
     rw[show gk env (y,k)=(y,(gk env (y,k)).2)from Prod.ext e1 rfl,List.lookup_cons,beq_self_eq_true]at z
     exact Option.some.inj z
    rcases h with h | h
    ·exact .inl (l _ h)
    ·exact .inr (l _ h)
   have hk2:k= .free:=by
    unfold gk at q
    split at q
    ·rename_i z
     rw[Bool.and_eq_true,Bool.and_eq_true]at z
     simpa using z.1.1
    ·rcases q with q | q
     ·exact absurd q hk
     ·exact q
   rw[hk2]
   exact List.mem_cons_self
  | false=>
   have l:List.lookup y (gk env (n,k)::List.map (gk env) r)=List.lookup y (List.map (gk env) r):=by
    rw[show gk env (n,k)=(n,(gk env (n,k)).2)from Prod.ext e1 rfl,List.lookup_cons,hx]
   rw[l]at h
   exact List.mem_cons_of_mem _ (Kv (fun z hz=>hc z (List.mem_cons_of_mem _ hz)) h)
theorem Qz{env:Env}{y:Str}:∀{names:List (Str×NameKind)},names.lookup y=some .free→(names.map (gk env)).lookup y=some .cell∨(names.map (gk env)).lookup y=some .free
 | [],h=>by cases h
 | (n,k)::r,h=>by
  rw[List.map_cons]
  have e1:(gk env (n,k)).1=n:=GP env (n,k)
  rw[show gk env (n,k)=(n,(gk env (n,k)).2)from Prod.ext e1 rfl,List.lookup_cons]
  rw[List.lookup_cons]at h
  cases hx:y==n with
  | true=>
   rw[hx]at h
   have hk:k= .free:=Option.some.inj h
   subst hk
   show some (gk env (n,NameKind.free)).2=some NameKind.cell∨some (gk env (n,NameKind.free)).2=some NameKind.free
   unfold gk
   split
   ·exact .inl rfl
   ·exact .inr rfl
  | false=>
   rw[hx]at h
   exact Qz h
section
variable{prog:Program}{w:World}{A:Around}{R:Result→Shared→Prop}
theorem V6{elt tg iter:Expr}{ifs:List Expr}{scope:Scope}{pos:Pos}{it acc:Value}{env:Env}(W:Nat→Shared→Prop){s:Shared}
  (turn:∀n s,W n s→wpAny (model prog w) A (pyNext it) (fun r s1=>match r with
   | none=>R (.ok .next) s1
   | some v=>wpAny (model prog w) A (letOwnedTupleGo tg it v) (fun _ s2=>wpAny (model prog w) A (assign tg env v) (fun _ s3=>
     wpAny (model prog w) A (forIn ifs true fun c r=>if r=true then do let ok ←isTrue c env (eval c env);pure (ForInStep.yield ok)else pure (ForInStep.yield r)) (fun ok s4=>
      if ok=true then wpAny (model prog w) A (eval elt env) (fun x s5=>wpAny (model prog w) A (call (.builtin "list.append") [acc,x]) (fun _ s6=>∃m,m<n∧W m s6) (fun _ _=>False) s5) (fun _ _=>False) s4
      else ∃m,m<n∧W m s4) (fun _ _=>False) s3) (fun _ _=>False) s2) (fun _ _=>False) s1) (fun _ _=>False) s)
  (n:Nat) (h:W n s):codeAny (model prog w) A (.compLoop (.ListComp elt [⟨tg,iter,ifs,0⟩] scope pos) 0 it acc env) R s:=by
 have ex:∀{α:Type} {t:Sem α} {Q Q':α→Shared→Prop} {E:Value→Shared→Prop} {s:Shared},wpAny (model prog w) A t Q (fun _ _=>False) s→(∀a s,Q a s→Q' a s)→wpAny (model prog w) A t Q' E s:=
  fun h f=>wpAny_mono h f fun _ _ z=>z.elim
 refine codeAny_loop rfl W (fun n s hI=> ?_) n h
 show wpAny _ A ((compTurn (.ListComp elt [⟨tg,iter,ifs,0⟩] scope pos) 0 it acc env).onRaise (fun x=>do noteFrame x env;theTreesLotGoes x)) _ _ s
 refine wpAny_noted ?_
 rw[compTurn_list]
 refine wpAny_bind (wpAny_standAt (wpAny_bind (ex (turn n s hI) fun r s1 h1=> ?_)))
 cases r with
 | none=>exact wpAny_pure h1
 | some v=>
  refine wpAny_bind (ex h1 fun _ s2 h2=>wpAny_bind (ex h2 fun _ s3 h3=>wpAny_bind (ex h3 fun ok s4 h4=> ?_)))
  cases ok with
  | false=>exact wpAny_pure ⟨rfl,h4⟩
  | true=>exact wpAny_bind (wpAny_bind (ex h4 fun x s5 h5=>wpAny_bind (ex h5 fun _ s6 h6=>wpAny_pure (wpAny_pure ⟨rfl,h6⟩))))
end
def aR(X:Cx)(scope:Scope)(cl:List (Str×Addr))(C:Addr)(N:List Str)(fp:List Addr)(s:Shared)(H:Hp):Cx where
 prog:=X.prog
 w:=X.w
 K:=X.K
 mg:=X.mg
 base:=X.base
 A:=X.A
 N:=N
 s₀:=s
 H₀:=H
 env:=compEnvC scope cl C X.env
 outer:=X.stack
 stack:=X.stack
 ex:=fp
 fn:=fun _=>false
 calm:=X.calm
 pn:=[]
 xe:=fun _ _=>False
def sG(X:Cx)(scope:Scope):List Str→List Nat→Prop
 | [],[]=>True
 | y::cs,i::js=>(X.N[i]? = some y∧scope.names.lookup y=some .free∧(X.env.kindOf y=some .cell∨X.env.kindOf y=some .free))∧sG X scope cs js
 | _,_=>False
theorem sG.len{X:Cx}{scope:Scope}:∀{cs:List Str} {js:List Nat},sG X scope cs js→js.length=cs.length
 | [],[],_=>rfl
 | _::_,_::_,h=>by rw[List.length_cons,List.length_cons,sG.len h.2]
 | [],_::_,h=>h.elim
 | _::_,[],h=>h.elim
theorem sG.get{X:Cx}{scope:Scope}{y:Str}:∀{cs:List Str} {js:List Nat} {j:Nat},sG X scope cs js→cs[j]? = some y→
  ∃i,js[j]? = some i∧X.N[i]? = some y∧scope.names.lookup y=some .free∧(X.env.kindOf y=some .cell∨X.env.kindOf y=some .free)
 | [],[],_,_,e=>by simp at e
 | _::_,i::_,0,h,e=>by simp at e;subst e;exact⟨i,rfl,h.1.1,h.1.2⟩
 | _::_,_::_,j+1,h,e=>by
  obtain⟨i,e1,r⟩:=sG.get (j:=j) h.2 (by simpa using e)
  exact⟨i,by simpa using e1,r⟩
 | [],_::_,_,h,_=>h.elim
 | _::_,[],_,h,_=>h.elim
def caps(js:List Nat)(σ:St):St:=js.map fun i=>(σ[i]?).join
def PTs(X:Cx)(ifs:List Expr)(t:TT):Prop:=
 ∀(pins:List (Addr×Obj)) (s:Shared) (σ:St) (H:Hp) (Q:Bool→Hp→Prop),Inv X pins σ H s→t σ H Q→
  wpAny (model X.prog X.w) X.A (forIn ifs true fun c r=>if r=true then do let ok ←isTrue c X.env (eval c X.env);pure (ForInStep.yield ok)else pure (ForInStep.yield r)) (TP X pins σ Q) X.xe s
def al4:TT:=fun _ H Q=>Q true H
theorem ZQ{X:Cx}:PTs X [] al4:=fun _ _ _ H _ I h=>wpAny_pure ⟨H,I,h⟩
theorem ZP{X:Cx}{c:Expr}{t:TT}(h:PT X c t):PTs X [c] t:=by
 intro pins s σ H Q I hq
 rw[List.forIn_cons]
 simp only[if_true]
 exact wpAny_bind (wpAny_bind (iw (h pins s σ H Q I hq) fun ok s1 q=>wpAny_pure (wpAny_pure q)))
def YH(js:List Nat)(tt:TT)(te:TE)(σ:St)(Q:VK)(J:It)(H1:Hp):Prop:=
 ∃W:Nat→Nat→List V→Hp→Prop,(∃m,W 0 m [] H1)∧∀i m ys H,W i m ys H→
  (J.stop i H∧ys.length≤sizeLine∧∀p,H p=none→Q (.ref p) (upd H p (.lst ys)))∨
  (J.go i H∧∃N:List V→Hp→Prop,(∀ys' H',N ys' H'→ys'.length≤sizeLine∧∃m',m'<m∧W (i+1) m' ys' H')∧∀x H',J.YJ i H x H'→tt (some x::caps js σ) H' fun b H2=>
   if b=true then te (some x::caps js σ) H2 fun y H3=>N (ys++[y]) H3 else N ys H2)
def We(js:List Nat)(wi:TI)(tt:TT)(te:TE):TE:=fun σ H Q=>wi σ H fun J H1=>YH js tt te σ Q J H1
theorem vq.track{P:Program}{w:World}{H:Hp}{h:Heap}{a:Addr}{o:HO}(x:vq P w H h)(hn:H a=none)(new:gP P w (upd H a o) h a o):vq P w (upd H a o) h:=fun b u e=>by
 by_cases hb:b=a
 ·subst hb;rw[dm]at e;cases e;exact new
 ·rw[bw hb]at e
  exact(x b u e).stay (fun c v _ q=>q) (fun c q=>by rw[bw (dD q hn)];exact q) fun c xs q=>by rw[bw (dD q hn)];exact q
theorem Un.track{fs ex:List Addr}{H H1:Hp}{h h1:Heap}{a:Addr}{o:HO}(u:Un fs ex H H1 h h1)(hn:h.get? a=none)(hH:H a=none):Un fs ex H (upd H1 a o) h h1 where
 keep:=u.keep
 slot:=u.slot
 free:=fun b ob e n hx=>by rw[bw (by rintro rfl;rw[hn]at e;cases e)];exact u.free b ob e n hx
 there:=u.there
 tups:=fun b xs e=>by rw[bw (dD e hH)];exact u.tups b xs e
 yS:=fun b ob xs e=>by rw[bw (dD e hH)];exact u.yS b ob xs e
 y_:=fun b ps e=>by rw[bw (dD e hH)];exact u.y_ b ps e
section
variable{X:Cx}{x:Str}{px:Pos}{elt iter:Expr}{ifs:List Expr}{scope:Scope}{cs:List Str}{js:List Nat}{tt:TT}{te:TE}{pos:Pos}
theorem HJ{cl:List (Str×Addr)}{pins:List (Addr×Obj)}{σ:St}{H2:Hp}{s2:Shared}{it:Addr}{fp:List Addr}{tn:Nat→Heap→Prop}{J:It}{Q:VK}{RR:Value→Addr→Result→Shared→Prop}
  (hc:X.calm=true) (hcap:sG X scope cs js) (ht:∀cl C fp s H,PTs (aR X scope cl C (x::cs) fp s H) ifs tt) (he:∀cl C fp s H,PE (aR X scope cl C (x::cs) fp s H) elt te)
  (hcell:∀y∈scope.names,y.2≠ .cell) (hkind:scope.kind= .function) (hx:scope.names.lookup x=some .local) (hnd:(x::cs).Nodup)
  (uN:∀n c,cl.lookup n=some c→X.env.cells.lookup n=some c) (DY:∀n,(n,NameKind.free)∈scope.names→∃c,cl.lookup n=some c)
  (I2:Inv X pins σ H2 s2) (T:Turn X.prog X.w X.K (.Name x px) J fp it tn) (st2:tn 0 s2.heap) (f2:∀b∈fp,HX X pins H2 b)
  (W:Nat→Nat→List V→Hp→Prop) (w0:∃m,W 0 m [] H2)
  (step:∀i m ys H,W i m ys H→
   (J.stop i H∧ys.length≤sizeLine∧∀p,H p=none→Q (.ref p) (upd H p (.lst ys)))∨
   (J.go i H∧∃N:List V→Hp→Prop,(∀ys' H',N ys' H'→ys'.length≤sizeLine∧∃m',m'<m∧W (i+1) m' ys' H')∧∀x H',J.YJ i H x H'→tt (some x::caps js σ) H' fun b H2=>
    if b=true then te (some x::caps js σ) H2 fun y H3=>N (ys++[y]) H3 else N ys H2))
  (fin:∀(D C:Addr) (H3:Hp) (s4:Shared) (m':Str→Option Value),Inv X pins σ H3 s4→s4.heap.Ns C m'→s2.heap.objs.size≤C→H3 C=none→Q (.ref D) H3→RR (.ref D) C (.ok .next) s4):
  wpAny (model X.prog X.w) X.A (newList []) (fun acc s3=>wpAny (model X.prog X.w) X.A (newFunctionEnv scope X.env.globals cl [] X.env.qual none .none (some X.env)) (fun cenv s4=>
   codeAny (model X.prog X.w) X.A (.compStart (.ListComp elt [⟨.Name x px,iter,ifs,0⟩] scope pos) 0 (.ref it) acc {cenv with scope:=relabel scope X.env}) (RR acc cenv.locals) s4) X.xe s3) X.xe s2:=by
 refine wpAny_newObj_type (wpAny_newFunctionEnv hcell (by intro y hy;simp at hy) (fun h1 hns hsb=> ?_) hkind)
 dsimp only at hns hsb ⊢
 generalize hP:s2.heap.push {cls:= .type "list",dict:=none,data:= .seq ([]:List Value).toArray}=hq at hns hsb ⊢
 have eC:hq.objs.size=s2.heap.objs.size+1:=by rw[←hP,Heap.size_push]
 generalize eD:s2.heap.objs.size=D at eC ⊢
 generalize eCC:hq.objs.size=C at hns hsb eC ⊢
 have DC:D≠C:=by omega
 have old:∀b o,s2.heap.get? b=some o→h1.get? b=some o:=fun b o e=>by
  have lt: @LT.lt Nat _ b s2.heap.objs.size:=Heap.lt_size e
  exact hsb.extBut b o (fun z=>by subst z;omega) (Heap.get?_push_of_some _ (hP▸Heap.get?_push_of_some _ e))
 have aeF:h1.get? D=some {cls:= .type "list",dict:=none,data:= .seq ([]:List Value).toArray}:=hsb.extBut _ _ DC (Heap.get?_push_of_some _ (hP▸eD▸Heap.get?_push_size _ rfl))
 have noD:s2.heap.get? D=none:=Heap.get?_none_of_le (by omega)
 have HD:H2 D=none:=I2.hok.fresh (by omega)
 have HC:H2 C=none:=I2.hok.fresh (by omega)
 have Yg:∀b∈fp,@LT.lt Nat _ b D:=fun b hb=>by
  obtain⟨o,e,_⟩:=T.obj _ _ st2 b hb
  have q: @LT.lt Nat _ b s2.heap.objs.size:=Heap.lt_size e
  omega
 have Dfp:D∉fp:=fun z=>Nat.lt_irrefl _ (Yg D z)
 have adK:∀b∈frs X.stack,@LT.lt Nat _ b D:=fun b hb=>by
  obtain⟨_,o,ho,_⟩:=I2.stack.mem hb
  have q: @LT.lt Nat _ b s2.heap.objs.size:=Heap.lt_size ho
  omega
 have adR:∀y c,cl.lookup y=some c→ @LT.lt Nat _ c D:=fun y c e=>by
  obtain⟨v,z⟩:=I2.cell y c (uN y c e)
  have q: @LT.lt Nat _ c s2.heap.objs.size:=z.lt
  omega
 have ok:(aR X scope cl C (x::cs) fp s2 H2).Ok:=by
  refine⟨I2.ok.mod,hkind,I2.ok.glob,I2.ok.blt,(by show s2.heap.objs.size≤C;omega),fun y z c e1 e2=>I2.ok.inj y z c (uN y c e1) (uN z c e2),fun y hy=>DY y (Kv hcell hy),fun y c e=>(by cases e),I2.ok.hd,I2.ok.frames,.inl rfl,
   fun b hb=>⟨?_,fun y c e=>(f2 b hb).2.2.2.2.1 y c (uN y c e)⟩,I2.bs,Nat.le_trans I2.ok.PL I2.sz,fun b o e hb=> ?_,fun b hb z=> ?_,I2.stack,I2.Bw⟩
  ·have q:=Yg b hb
   show b≠C
   intro z
   subst z
   omega
  ·rcases(f2 b hb).2.2.2.1 with z | z
   ·exact I2.ok.K3 b o e z
   ·have l: @LT.lt Nat _ b X.base.objs.size:=Heap.lt_size e
    have l2:=I2.ok.PL
    have l3: @LE.le Nat _ X.s₀.heap.objs.size b:=z
    omega
  ·rcases List.mem_cons.mp (I2.Gn b z)with e | e
   ·exact(f2 b hb).2.1 e
   ·exact(f2 b hb).2.2.1 e
 have I0:Inv (aR X scope cl C (x::cs) fp s2 H2) [(D,{cls:= .type "list",dict:=none,data:= .seq ([]:List Value).toArray})] (none::caps js σ) H2 {s2 with heap:=h1,toks:=s2.toks+([]:List (Str×Value)).length}:=by
  refine⟨ok,rfl,I2.bare,Un.kept old,⟨_,hns,fun i y v e1 e2 e3=> ?_⟩,fun y c e=> ?_,HC,fun y c e=>I2.pB y c (uN y c e),fun p hp=> ?_,I2.hok.kept old,?_⟩
  ·cases i with
   | zero=>simp at e2
   | succ j=>
    have e1':cs[j]? = some y:=by simpa[aR]using e1
    obtain⟨i0,q1,q2,q3,q4⟩:=hcap.get e1'
    have e2':σ[i0]? = some (some v):=by
     have z:(caps js σ)[j]? = some (some v):=by simpa using e2
     unfold caps at z
     rw[List.getElem?_map,q1]at z
     have z':(σ[i0]?).join=some v:=by simpa using z
     cases r:σ[i0]? with
     | none=>rw[r]at z';cases z'
     | some r'=>rw[r]at z';exact congrArg some z'
    obtain⟨m,_,hl⟩:=I2.loc
    obtain⟨u,r,l⟩:=hl i0 y v q2 e2' (by rcases q4 with q | q;exact .inr (.inl q);exact .inr (.inr q))
    obtain⟨c,hcy⟩:=DY y (PySem.mem_of_lookup q3)
    refine⟨u,r,.inr ⟨Qz q3,c,hcy,?_⟩⟩
    rcases l with⟨k,_⟩ | ⟨_,c',ec,o,ho,hd⟩
    ·rcases q4 with q | q<;>rw[q]at k<;>cases k
    ·rw[uN y c hcy]at ec
     cases ec
     exact⟨o,old _ _ ho,hd⟩
  ·obtain⟨v,o,ho,hd⟩:=I2.cell y c (uN y c e)
   exact⟨v,o,old _ _ ho,hd⟩
  ·have ep:p=(D,{cls:= .type "list",dict:=none,data:= .seq ([]:List Value).toArray}):=by simpa[aR]using hp
   subst ep
   exact⟨aeF,HD,(by show D≠C;omega),(fun z=>Nat.lt_irrefl _ (adK D z)),fun v z=>by cases z⟩
  ·show(none::caps js σ).length=(x::cs).length
   unfold caps
   rw[List.length_cons,List.length_cons,List.length_map,hcap.len]
 have stat:∀{pn:List (Addr×Obj)} {H':Hp},(∀b∈fp,H' b=none)→(∀p∈pn,p.1∉fp)→∀b∈fp,HX (aR X scope cl C (x::cs) fp s2 H2) pn H' b:=fun hn hpn b hb=>
  ⟨hn b hb,(ok.exf b hb).1,ok.Lz b hb,.inl hb,fun y c e=>(ok.exf b hb).2 y c e,fun p hp z=>hpn p (by simpa[aR]using hp) (z▸hb)⟩
 have loop:∀s3:Shared,s3={s2 with heap:=h1,toks:=s2.toks+([]:List (Str×Value)).length}→
   codeAny (model X.prog X.w) X.A (.compLoop (.ListComp elt [⟨.Name x px,iter,ifs,0⟩] scope pos) 0 (.ref it) (.ref D) (compEnvC scope cl C X.env)) (RR (.ref D) C) s3:=by
  rintro s3 rfl
  obtain⟨m0,w0⟩:=w0
  refine V6 (fun n s=>∃(i:Nat) (ys:List V) (its:List Value) (c:Nat) (H:Hp),Inv (aR X scope cl C (x::cs) fp s2 H2) [(D,{cls:= .type "list",data:= .seq its.toArray c})] (none::caps js σ) H s∧
   tn i s.heap∧(∀b∈fp,H b=none)∧Vals ys its∧W i n ys H) ?_ m0 ⟨0,[],[],0,H2,I0,T.keep _ _ _ st2 fun b _ o e=>old b o e,fun b hb=>(f2 b hb).1,.nil,w0⟩
  rintro n s3 ⟨i,ys,its,c,H3,I3,st3,fr3,rv,w3⟩
  have pD:∀p∈[((D,{cls:= .type "list",data:= .seq its.toArray c}):Addr×Obj)],p.1∉fp:=fun p hp=>by
   have:p=(D,{cls:= .type "list",data:= .seq its.toArray c}):=by simpa using hp
   subst this
   exact Dfp
  rcases step i n ys H3 w3 with⟨stop,hlen,qn⟩ | ⟨go,N,hN,step⟩
  ·refine iw (T.done (aR X scope cl C (x::cs) fp s2 H2) rfl rfl rfl hc i _ s3 _ H3 (fun _ _=>False) I3 (stat fr3 pD) st3 stop) fun r s4 ⟨hr,I4⟩=> ?_
   subst hr
   obtain⟨gD,nD,_⟩:=I4.pin _ (List.mem_append_right _ List.mem_cons_self)
   obtain⟨m',hn',_⟩:=id I4.loc
   have u4:Un (frs X.stack) fp H2 H3 s2.heap s4.heap:=I4.base
   have k4:vq X.prog X.w (upd H3 D (.lst ys)) s4.heap:=vq.track I4.hok nD ⟨hlen,its,c,rv,gD⟩
   have I5:Inv X pins σ (upd H3 D (.lst ys)) s4:=I2.call' (ch:=fp) I4.os (u4.track noD HD) k4 I4.bare fun b hb=>⟨(f2 b hb).2.2.2.1,(f2 b hb).2.1,(f2 b hb).2.2.2.2.1,(f2 b hb).2.2.2.2.2⟩
   exact fin D C _ s4 m' I5 hn' (by omega) (by rw[bw (Ne.symm DC)];exact I4.free) (qn D nD)
  ·refine iw (T.item (aR X scope cl C (x::cs) fp s2 H2) rfl rfl rfl hc i _ s3 _ H3 (fun _ _=>False) I3 (stat fr3 pD) st3 go) fun r s4 ⟨u,hr,h4⟩=> ?_
   subst hr
   refine iw h4 fun _ s5 ⟨v,H5,I5,r5,y5,Uq,fr5⟩=> ?_
   have I5':=I5.pinned (stat fr5 pD) (T.obj _ _ Uq)
   have hxl:(compEnvC scope cl C X.env).scope.names.lookup x=some .local:=lookup_relabel_local hx
   refine wpAny_assign_Name (wC (X:=aR X scope cl C (x::cs) fp s2 H2) (i:=0) I5' hnd rfl (.inl hxl) r5 (fun s6 I6=> ?_) (.inr hxl))
   have weak:∀{pn:List (Addr×Obj)} {H':Hp} {s':Shared},Inv (aR X scope cl C (x::cs) fp s2 H2) pn (some v::caps js σ) H' s'→Inv (aR X scope cl C (x::cs) fp s2 H2) pn (none::caps js σ) H' s':=fun I'=>
    I'.weak rfl fun j z e=>by
     cases j with
     | zero=>simp at e
     | succ j=>simpa using e
   have Y9:∀{σ':St} {H':Hp} {s':Shared},Inv (aR X scope cl C (x::cs) fp s2 H2) ([(D,{cls:= .type "list",data:= .seq its.toArray c})]++Dy fp s5.heap) σ' H' s'→(∀b∈fp,∀o,s5.heap.get? b=some o→s'.heap.get? b=some o)∧∀b∈fp,H' b=none:=fun I'=>
    ⟨fun b hb o e=>(I'.pin (b,o) (List.mem_append_right _ (List.mem_append_right _ (qI hb e)))).1,fun b hb=>by
     obtain⟨o,e,_⟩:=T.obj _ _ Uq b hb
     exact(I'.pin (b,o) (List.mem_append_right _ (List.mem_append_right _ (qI hb e)))).2.1⟩
   refine iw (ht cl C fp s2 H2 _ s6 (some v::caps js σ) H5 _ I6 (step v H5 y5)) fun b s7 ⟨H7,I7,q7⟩=> ?_
   cases b with
   | false=>
    rw[if_neg Bool.false_ne_true]at q7 ⊢
    obtain⟨_,m',hm,w7⟩:=hN _ _ q7
    exact⟨m',hm,i+1,ys,its,c,H7,weak I7.yZ,T.keep _ _ _ Uq (Y9 I7).1,(Y9 I7).2,rv,w7⟩
   | true=>
    rw[if_pos rfl]at q7 ⊢
    refine iw (he cl C fp s2 H2 _ s7 (some v::caps js σ) H7 _ I7 q7) fun yv s8 ⟨y,H8,I8,r8,q8⟩=> ?_
    obtain⟨hl8,m',hm,w8⟩:=hN _ _ q8
    rw[List.length_append,List.length_singleton]at hl8
    obtain⟨gD,nD,dC,dF,_⟩:=I8.pin (D,{cls:= .type "list",data:= .seq its.toArray c}) (List.mem_append_right _ (List.mem_append_left _ List.mem_cons_self))
    have el:=rv.length
    refine wpAny_list_append_plain (hsz:=by rw[List.size_toArray];omega) ⟨c,gD⟩ fun h9 p9 sb9=> ?_
    obtain⟨c9,g9⟩:=p9
    have g9':h9.get? D=some {cls:= .type "list",data:= .seq (its++[yv]).toArray c9}:=by simpa using g9
    have I9:Inv (aR X scope cl C (x::cs) fp s2 H2) [] (none::caps js σ) H8 {s8 with heap:=h9}:=
     (weak (I8.xU (vI:=[]) (fun p hp=>nomatch hp))).turned (t':=s8.toks) (it:=D) (fun b o hb e=>(sb9.2 b hb).trans e) nD dC (.inr (by show s2.heap.objs.size≤D;omega)) (fun y c e z=>by have q:=adR y c e;subst z;omega) (fun p hp=>nomatch hp)
    refine⟨m',hm,i+1,ys++[y],its++[yv],c9,H8,I9.xU fun p hp=> ?_,?_,(Y9 I8).2,rv.append (.cons r8 .nil),w8⟩
    ·have:p=(D,{cls:= .type "list",data:= .seq (its++[yv]).toArray c9}):=by simpa using hp
     subst this
     exact⟨g9',nD,dC,dF,fun v z=>by cases z⟩
    ·exact T.keep _ _ _ Uq fun b hb o e=>(sb9.2 b (fun z=>Dfp (z▸hb))).trans ((Y9 I8).1 b hb o e)
 exact codeAny_compStart_list (loop _ rfl) (T.self _ 0 _ _ _ (T.keep _ _ _ st2 fun b _ o e=>old b o e) (loop _ rfl))
theorem Inv.letGo{pins:List (Addr×Obj)}{σ:St}{H:Hp}{s:Shared}{C:Addr}{h':Heap}{s2:Shared}{H2:Hp}{σ2:St}(I2:Inv X pins σ2 H2 s2)(I:Inv X pins σ H s)(hC:s2.heap.objs.size≤C)(hn:H C=none)(sb:Heap.SameBut C s.heap h'):Inv X pins σ H {s with heap:=h'}:=
 I.turned (t':=s.toks) (fun b o hb e=>(sb.2 b hb).trans e) hn (Nat.ne_of_gt (Nat.lt_of_lt_of_le I2.lt hC)) (.inr (Nat.le_trans I2.sz hC))
  (fun y c e z=>by obtain⟨v,q⟩:=I2.cell y c e;exact absurd (Nat.lt_of_lt_of_le q.lt (by rw[z];exact hC)) (Nat.lt_irrefl _))
  (fun p hp z=>absurd (Nat.lt_of_lt_of_le (Heap.lt_size (I2.pin p hp).1) (by rw[z];exact hC)) (Nat.lt_irrefl _))
theorem Z6{wi:TI}(hc:X.calm=true)(cs:List Str)(js:List Nat)(hi:PI X (.Name x px) iter wi)(hcap:sG X scope cs js)(ht:∀cl C fp s H,PTs (aR X scope cl C (x::cs) fp s H) ifs tt)(he:∀cl C fp s H,PE (aR X scope cl C (x::cs) fp s H) elt te)
  (hall:∀y∈scope.names,y.2= .free→y.1∈cs) (hcell:∀y∈scope.names,y.2≠ .cell) (hnames:∀y∈scope.names,y.2= .local→scope.names.lookup y.1=some .local) (hnd:(x::cs).Nodup)
  (hkind:scope.kind= .function:=by rfl) (hx:scope.names.lookup x=some .local:=by rfl) (hs:∀v,foldedSetIterable iter X.env v=pure v:=by intro _;rfl):
  PE X (.ListComp elt [⟨.Name x px,iter,ifs,0⟩] scope pos) (We js wi tt te):=by
 intro pins s σ H Q I h
 obtain⟨cl,Q8,uN,DY⟩:=yr (env:=X.env) (scope:=scope) fun n hn=>by
  obtain⟨j,hj⟩:=List.getElem?_of_mem (hall _ hn rfl)
  obtain⟨_,_,_,_,k⟩:=hcap.get hj
  exact I.ok.has n k
 rw[eval_ListComp]
 refine wpAny_comprehension_free (use:=none) rfl hs Q8 hkind hnames (iw (hi pins s σ H _ I h) fun v s1 h1=>iw h1 fun itv s2 h2=> ?_)
 obtain⟨it,fp,tn,J,H2,e,I2,T,st2,f2,W,w0,step⟩:=h2
 subst e
 refine HJ (Q:=Q) (RR:=fun acc C=>compPost (model X.prog X.w) X.A X.xe none (EP X pins σ Q) acc C) hc hcap ht he hcell hkind hx hnd uN DY I2 T st2 f2 W w0 step fun D C H3 s4 m' I4 hn hC hH q=> ?_
 exact⟨m',hn,fun h' sb=>⟨.ref D,H3,I2.letGo I4 hC hH sb,rfl,q⟩⟩
theorem Z0{wi:TI}{y:Str}{py spos:Pos}{k:Nat}(hc:X.calm=true)(cs:List Str)(js:List Nat)(hN:X.N.Nodup)(hk:X.N[k]? = some y)(hy:X.env.scope.names.lookup y=some .local)(hi:PI X (.Name x px) iter wi)(hcap:sG X scope cs js)
  (ht:∀cl C fp s H,PTs (aR X scope cl C (x::cs) fp s H) ifs tt) (he:∀cl C fp s H,PE (aR X scope cl C (x::cs) fp s H) elt te)
  (hall:∀y∈scope.names,y.2= .free→y.1∈cs) (hcell:∀y∈scope.names,y.2≠ .cell) (hnames:∀y∈scope.names,y.2= .local→scope.names.lookup y.1=some .local) (hnd:(x::cs).Nodup)
  (hsw:swapsWith (.ListComp elt [⟨.Name x px,iter,ifs,0⟩] scope pos) (some (.Name y py)) spos.line X.env=pure true:=by rfl)
  (hkind:scope.kind= .function:=by rfl) (hx:scope.names.lookup x=some .local:=by rfl) (hs:∀v,foldedSetIterable iter X.env v=pure v:=by intro _;rfl):
  PS X (.Assign [.Name y py] (.ListComp elt [⟨.Name x px,iter,ifs,0⟩] scope pos) spos) (Wk (We js wi tt te) (Jv k)):=by
 intro pins s σ H D I h
 obtain⟨cl,Q8,uN,DY⟩:=yr (env:=X.env) (scope:=scope) fun n hn=>by
  obtain⟨j,hj⟩:=List.getElem?_of_mem (hall _ hn rfl)
  obtain⟨_,_,_,_,k⟩:=hcap.get hj
  exact I.ok.has n k
 rw[exec_Assign_Name_used _ _ _ _ hsw]
 refine wpAny_bind (wpAny_standAt (wpAny_bind ?_))
 show wpAny _ X.A (do let _ ←comprehension (.ListComp elt [⟨.Name x px,iter,ifs,0⟩] scope pos) scope X.env _ (newList []) false (eval iter X.env) (some (assign (.Name y py) X.env))) _ _ s
 refine wpAny_bind (iw (wpAny_comprehension_free (use:=some (assign (.Name y py) X.env)) (Q:=fun _ s'=>SP X pins D .next s') rfl hs Q8 hkind hnames (iw (hi pins s σ H _ I h) fun v s1 h1=>iw h1 fun itv s2 h2=> ?_)) (fun _ s' q=>wpAny_pure (wpAny_pure q)))
 obtain⟨it,fp,tn,J,H2,e,I2,T,st2,f2,W,w0,step⟩:=h2
 subst e
 refine HJ (Q:=fun x H1=>Jv k x σ H1 D.nx) (RR:=fun acc C=>compPost (model X.prog X.w) X.A X.xe (some (assign (.Name y py) X.env)) (fun _ s'=>SP X pins D .next s') acc C) hc hcap ht he hcell hkind hx hnd uN DY I2 T st2 f2 W w0 step fun D' C H3 s4 m' I4 hn hC hH q=> ?_
 show wpAny _ X.A (assign (.Name y py) X.env (.ref D')) _ _ _
 refine wpAny_assign_Name (Dk (v:= .ref D') I4 hN hk (.inl hy) rfl (fun s5 I5 ⟨a,sb,ha⟩=> ?_) (.inr hy))
 have Xv:C≠a:=by
  rcases ha with e | e
  ·rw[e];exact Nat.ne_of_gt (Nat.lt_of_lt_of_le I2.lt hC)
  ·intro z
   obtain⟨v,q⟩:=I2.cell y a e
   exact absurd (Nat.lt_of_lt_of_le q.lt (by rw[←z];exact hC)) (Nat.lt_irrefl _)
 exact⟨m',hn.sameBut sb Xv,fun h' sb'=>⟨_,H3,I2.letGo I5 hC hH sb',q⟩⟩
end
end L2
namespace L2
open PySem PySem.Spec PyProof.Rows
def Yj:HO→Bool
 | .dT _=>false
 | .Af _ (.dT _)=>false
 | .Af _ (.ins _ _ _)=>false
 | .Af _ (.Af _ _)=>false
 | _=>true
def Flat(H:Hp):Prop:=∀a o,H a=some o→Yj o=true
def Ub(H:Hp):Prop:=∀a C dx fs,H a=some (.ins C dx fs)→H dx=some (.own a)
structure Fgt(H H' PN:Hp):Prop where
 sub:∀a o,PN a=some o→H' a=some o
 flat:Flat PN
 own:Ub H→Ub PN
 tup:∀b xs,H b=some (.tup xs)→PN b=some (.tup xs)
 Af:∀b o u,H b=some (.Af o u)→PN b=some (.Af o u)
 V_:∀b ps,H b=some (.V_ ps)→∃more,PN b=some (.V_ (ps++more))
theorem Fgt.self{H H':Hp}(s:Mz H H')(f:Flat H):Fgt H H' H:=
 ⟨s,f,id,fun _ _ e=>e,fun _ _ _ e=>e,fun _ ps e=>⟨#[],by rw[e];simp⟩⟩
theorem Mz.upd{H:Hp}{p:Addr}{o:HO}(n:H p=none):Mz H (upd H p o):=fun b u e=>by rw[bw (dD e n)];exact e
theorem Flat.upd{H:Hp}{p:Addr}{o:HO}(f:Flat H)(h:Yj o=true):Flat (upd H p o):=fun a u e=>by
 by_cases z:a=p
 ·subst z;rw[dm]at e;cases e;exact h
 ·rw[bw z]at e;exact f a u e
theorem gP.less{P:Program}{w:World}{H H':Hp}{h:Heap}{a:Addr}{o:HO}(x:gP P w H' h a o)(f:Yj o=true)(hw:∀C dx fs,o= .ins C dx fs→H dx=some (.own a)):gP P w H h a o:=by
 cases o with
 | dT kvs=>exact absurd f Bool.false_ne_true
 | ins C dx fs=>exact⟨hw C dx fs rfl,x.2⟩
 | Af ob u=>
  cases u with
  | dT _=>exact absurd f Bool.false_ne_true
  | ins _ _ _=>exact absurd f Bool.false_ne_true
  | Af _ _=>exact absurd f Bool.false_ne_true
  | _=>exact x
 | _=>exact x
theorem vq.less{P:Program}{w:World}{H H':Hp}{h:Heap}(x:vq P w H' h)(s:∀a o,H a=some o→H' a=some o)(f:Flat H)(hw:Ub H):vq P w H h:=fun a o e=>
 (x a o (s a o e)).less (f a o e) fun C dx fs z=>hw a C dx fs (by rw[←z];exact e)
theorem vq.own{P:Program}{w:World}{H:Hp}{h:Heap}(x:vq P w H h):Ub H:=fun a _ _ _ e=>(x a _ e).1
def gcK(H:Hp)(Q:VK):VK:=fun v H'=>Q v H'∨∃PN,Fgt H H' PN∧Q v PN
theorem bx.gc{P:Program}{w:World}{K:PySem.W.Frag}{mg:Str→Option Value}{base:Heap}{CX:Rv}{k:Nat}{f:Addr}{fd:FuncData}{ps:List Str}{sp sp':Sp}(F:bx P w K mg base CX k f fd ps sp)
  (h:∀vs H Q E,sp' vs H Q E→sp vs H (gcK H Q) E):bx P w K mg base CX k f fd ps sp':=by
 refine⟨fun vs H Q E q=>F.len vs H _ E (h _ _ _ _ q),fun A outer s H args us vs Q E hr he hb hv hs=>codeAny_mono (F.run A outer s H args us vs (gcK H Q) E hr he hb hv (h _ _ _ _ hs)) fun r s' hq=> ?_⟩
 cases r with
 | error e=>exact hq
 | ok fl=>
  cases fl with
  | ret u=>
   obtain⟨v,H',os,bare,un,hok,rv,q⟩:=hq
   rcases q with q | ⟨PN,g,q⟩
   ·exact⟨v,H',os,bare,un,hok,rv,q⟩
   refine⟨v,PN,os,bare,⟨un.keep,un.slot,fun b o e n hx=> ?_,un.there,g.tup,g.Af,g.V_⟩,hok.less g.sub g.flat (g.own he.hok.own),rv,q⟩
   cases z:PN b with
   | none=>rfl
   | some o'=>
    have z':=g.sub b o' z
    rw[un.free b o e n hx]at z'
    cases z'
  | next=>exact hq
  | brk=>exact hq
  | cont=>exact hq
structure bU(K:PySem.W.Frag)(x qual:Str)(st:Stmt)(dV:Value)(f:Addr)(fd:FuncData):Prop where
 ex:∃(oc:Value) (od:Option Addr) (kV doc pm:Value) (an:Option Addr) (cdv ct:Value) (osl:Array (Option Value)),
  fd=PySem.W.fnOf x qual (aJ st) (aG st) (au st) dV kV doc pm an cdv ct∧K.lookup f=some ⟨oc,od,.func fd,osl⟩∧PySem.W.codeIn K cdv qual=true
 kp:PySem.W.keepIn K (.ref f)=true
section
variable{P:Program}{w:World}{K:PySem.W.Frag}{mg:Str→Option Value}{base:Heap}
theorem bU.ok{x qual:Str}{st:Stmt}{dV:Value}{f:Addr}{fd:FuncData}{N ps:List Str}{k:Nat}{sp:Sp}(F:bU K x qual st dV f fd)(S:bf N ps (au st))(len:∀vs H Q E,sp vs H Q E→vs.length=ps.length)
  (hbody:∀(cdv:Value) (A:Around) (outer:List Env) (s:Shared) (H:Hp) (vs:List V) (Q:VK) (E:XK),lq k (A.deeper (envOfC qual (au st) s.heap.objs.size f cdv))→sp vs H Q E→
   ∃t,Fv (yU Rx P w K mg base N qual (au st) f cdv A outer s H E).Xp (aG st) t∧t {nx:=fun _ H'=>gcK H Q .non H',rt:=gcK H Q} (start N vs) H):bx P w K mg base Rx (k+1) f fd ps sp:=by
 obtain⟨oc,od,kV,doc,pm,an,cdv,ct,osl,rfl,lk,hcd⟩:=F.ex
 refine bx.gc (sp:=fun vs H Q' E=>∃Q,sp vs H Q E∧Q'=gcK H Q) (Yi lk hcd S (fun vs H Q E ⟨Q0,q,_⟩=>len vs H Q0 E q) fun A outer s H vs Q' E hr hsp=> ?_) fun vs H Q E q=>⟨Q,q,rfl⟩
 obtain⟨Q,hsp,rfl⟩:=hsp
 obtain⟨t,h,q⟩:=hbody cdv A outer s H vs Q E hr hsp
 exact⟨t,h.Xp,q⟩
theorem bU.binds{x qual:Str}{st:Stmt}{dV:Value}{f:Addr}{fd:FuncData}{ps:List Str}(F:bU K x qual st dV f fd)
  (h:∀(kV doc pm:Value) (an:Option Addr) (cdv ct:Value) (us:List Value),us.length=ps.length→bindArgs (PySem.W.fnOf x qual (aJ st) (aG st) (au st) dV kV doc pm an cdv ct) ⟨us,[]⟩=pure (ps.zip us)):Binds K fd ps []:=by
 obtain⟨oc,od,kV,doc,pm,an,cdv,ct,osl,rfl,lk,hcd⟩:=F.ex
 exact .all (h kV doc pm an cdv ct)
theorem aK{x qual:Str}{st:Stmt}{dV:Value}{f:Addr}{oc:Value}{od an:Option Addr}{osl:Array (Option Value)}{kV doc pm cdv ct:Value}(l:K.lookup f=some ⟨oc,od,.func (PySem.W.fnOf x qual (aJ st) (aG st) (au st) dV kV doc pm an cdv ct),osl⟩)
  (c:PySem.W.codeIn K cdv qual=true) (k:PySem.W.keepIn K (.ref f)=true):bU K x qual st dV f (PySem.W.fnOf x qual (aJ st) (aG st) (au st) dV kV doc pm an cdv ct):=⟨⟨oc,od,kV,doc,pm,an,cdv,ct,osl,rfl,l,c⟩,k⟩
end
theorem nO:bootBuiltins "len" = some (.builtin "len"):=by decide +kernel
theorem rm:bootBuiltins "isinstance" = some (.builtin "isinstance"):=by decide +kernel
theorem aem:bootBuiltins "min" = some (.builtin "min"):=by decide +kernel
theorem aen:bootBuiltins "max" = some (.builtin "max"):=by decide +kernel
theorem aeo:bootBuiltins "all" = some (.builtin "all"):=by decide +kernel
theorem Rg:bootBuiltins "int" = some (.type "int"):=by decide +kernel
theorem aaR:bootBuiltins "bool" = some (.type "bool"):=by decide +kernel
theorem T4:bootBuiltins "list" = some (.type "list"):=by decide +kernel
theorem CZ:bootBuiltins "tuple" = some (.type "tuple"):=by decide +kernel
theorem Bg:bootBuiltins "str" = some (.type "str"):=by decide +kernel
section
variable{X:Cx}
end
section
variable{X:Cx}
end
theorem Only.flat{H:Hp}(o:Only H):Flat H:=fun a u e=>by
 rcases o a with z | ⟨ob,xs,z⟩
 ·rw[z]at e;cases e
 ·rw[z]at e;cases e;rfl
def cell(ns:List Int)(k:Nat):Int:=ns.getD k 0
def ajC(g:TG)(tb:TS)(D:Ends)(σ:St)(J:It)(H1:Hp):Prop:=
 ∃W:Nat→Nat→St→Hp→Prop,(∃m,W 0 m σ H1)∧∀i m σ H,W i m σ H→
  (J.stop i H∧D.nx σ H)∨(J.go i H∧∃N:St→Hp→Prop,(∀σ' H',N σ' H'→∃m',m'<m∧W (i+1) m' σ' H')∧∀x H',J.YJ i H x H'→g x σ H' fun σ2 H2=>tb {D with nx:=N,ct:=N,bk:=D.nx} σ2 H2)
def afu(wi:TI)(g:TG)(tb:TS):TS:=fun D σ H=>wi σ H fun J H1=>ajC g tb D σ J H1
theorem ZX{X:Cx}{tg iter:Expr}{body:List Stmt}{wi:TI}{g:TG}{tb:TS}{pos:Pos}(hp:PassesOwn (model X.prog X.w) X.A X.env X.xe)(hc:X.calm=true)(hi:PI X tg iter wi)(hg:PG X tg g)(hb:Fv X body tb)
  (hs:∀x,foldedSetIterable iter X.env x=pure x:=by intro _;rfl):PS X (.For tg iter body [] pos) (afu wi g tb):=acu hp hc hi hg hb hs
end L2
namespace L2
open PySem PySem.Spec PyProof.Rows
inductive Dt where
 | non | bl (b:Bool) | int (i:Int) | str (x:Str) | tup (ds:List Dt) | lst (ds:List Dt)
mutual
inductive Is (K:PySem.W.Frag) (H:Hp):V→Dt→Prop
 | non:Is K H .non .non
 | bl (b:Bool):Is K H (.bl b) (.bl b)
 | int (i:Int):Is K H (.int i) (.int i)
 | str (x:Str):Is K H (.str x) (.str x)
 | tup {a:Addr} {xs:List V} {ds:List Dt}:vh K H a xs→Fw K H xs ds→Is K H (.ref a) (.tup ds)
 | lst {a:Addr} {xs:List V} {ds:List Dt}:yC K H a xs→Fw K H xs ds→Is K H (.ref a) (.lst ds)
inductive Fw (K:PySem.W.Frag) (H:Hp):List V→List Dt→Prop
 | nil:Fw K H [] []
 | cons {x:V} {d:Dt} {xs:List V} {ds:List Dt}:Is K H x d→Fw K H xs ds→Fw K H (x::xs) (d::ds)
end
mutual
def cJ:Dt→Dt→Bool
 | .non,.non=>true
 | .bl a,.bl b=>a==b
 | .bl a,.int b=>(if a then 1 else 0)==b
 | .int a,.bl b=>a==(if b then 1 else 0)
 | .int a,.int b=>a==b
 | .str a,.str b=>a==b
 | .tup ds,.tup es=>zV ds es
 | .lst ds,.lst es=>zV ds es
 | _,_=>false
def zV:List Dt→List Dt→Bool
 | [],[]=>true
 | d::ds,e::es=>cJ d e&&zV ds es
 | _,_=>false
end
mutual
def dep:Dt→Nat
 | .tup ds=>deps ds+1
 | .lst ds=>deps ds+1
 | _=>0
def deps:List Dt→Nat
 | []=>0
 | d::ds=>max (dep d) (deps ds)
end
mutual
theorem Hz:∀d:Dt,cJ d d=true
 | .non=>by unfold cJ;rfl
 | .bl a=>by unfold cJ;simp
 | .int a=>by unfold cJ;simp
 | .str a=>by unfold cJ;simp
 | .tup ds=>by unfold cJ;exact Eb ds
 | .lst ds=>by unfold cJ;exact Eb ds
theorem Eb:∀ds:List Dt,zV ds ds=true
 | []=>by unfold zV;rfl
 | d::ds=>by unfold zV;rw[Hz d,Eb ds];rfl
end
theorem rR:∀{ds es:List Dt},ds.length≠es.length→zV ds es=false
 | [],[],h=>absurd rfl h
 | [],_::_,_=>by unfold zV;rfl
 | _::_,[],_=>by unfold zV;rfl
 | d::ds,e::es,h=>by
  unfold zV
  rw[rR (ds:=ds) (es:=es) fun z=>h (by rw[List.length_cons,List.length_cons,z]),Bool.and_false]
theorem uW:∀{ds es:List Dt},ds.length=es.length→(List.range ds.length).all (fun j=>cJ (ds.getD j .non) (es.getD j .non))=zV ds es
 | [],[],_=>by unfold zV;rfl
 | [],_::_,h=>by cases h
 | _::_,[],h=>by cases h
 | d::ds,e::es,h=>by
  have ih:=uW (ds:=ds) (es:=es) (Nat.succ.inj h)
  rw[List.length_cons,List.range_succ_eq_map,List.all_cons,List.all_map,zV,←ih]
  rfl
theorem Fw.length{K:PySem.W.Frag}{H:Hp}:∀{xs:List V} {ds:List Dt},Fw K H xs ds→xs.length=ds.length
 | _,_,.nil=>rfl
 | _,_,.cons _ r=>by rw[List.length_cons,List.length_cons,Fw.length r]
theorem Fw.get{K:PySem.W.Frag}{H:Hp}:∀{xs:List V} {ds:List Dt} {i:Nat} {x:V},Fw K H xs ds→xs[i]? = some x→∃d,ds[i]? = some d∧Is K H x d
 | _,_,_,_,.nil,e=>by simp at e
 | _,_,0,_,.cons r _,e=>by simp at e;subst e;exact⟨_,rfl,r⟩
 | _,_,i+1,x,.cons _ t,e=>by
  obtain⟨d,h1,h2⟩:=Fw.get (i:=i) (x:=x) t (by simpa using e)
  exact⟨d,by simpa using h1,h2⟩
theorem Fw.at{K:PySem.W.Frag}{H:Hp}:∀{xs:List V} {ds:List Dt} {i:Nat} {d:Dt},Fw K H xs ds→ds[i]? = some d→∃x,xs[i]? = some x∧Is K H x d
 | _,_,_,_,.nil,e=>by simp at e
 | _,_,0,_,.cons r _,e=>by simp at e;subst e;exact⟨_,rfl,r⟩
 | _,_,i+1,d,.cons _ t,e=>by
  obtain⟨x,h1,h2⟩:=Fw.at (i:=i) (d:=d) t (by simpa using e)
  exact⟨x,by simpa using h1,h2⟩
mutual
theorem Is.keep{K:PySem.W.Frag}{H H':Hp}(s1:∀a xs,vh K H a xs→vh K H' a xs)(s2:∀a xs,yC K H a xs→yC K H' a xs):∀{v:V} {d:Dt},Is K H v d→Is K H' v d
 | _,_,.non=> .non
 | _,_,.bl b=> .bl b
 | _,_,.int i=> .int i
 | _,_,.str x=> .str x
 | _,_,.tup e r=> .tup (s1 _ _ e) (Fw.keep s1 s2 r)
 | _,_,.lst e r=> .lst (s2 _ _ e) (Fw.keep s1 s2 r)
theorem Fw.keep{K:PySem.W.Frag}{H H':Hp}(s1:∀a xs,vh K H a xs→vh K H' a xs)(s2:∀a xs,yC K H a xs→yC K H' a xs):∀{vs:List V} {ds:List Dt},Fw K H vs ds→Fw K H' vs ds
 | _,_,.nil=> .nil
 | _,_,.cons r t=> .cons (Is.keep s1 s2 r) (Fw.keep s1 s2 t)
end
theorem LC(ds es:List Dt):cJ (.tup ds) (.tup es)=zV ds es:=by unfold cJ;rfl
theorem Ah(ds es:List Dt):cJ (.lst ds) (.lst es)=zV ds es:=by unfold cJ;rfl
section
variable{X:Cx}{pins:List (Addr×Obj)}{σ:St}{H:Hp}{s:Shared}
theorem Inv.Oi(I:Inv X pins σ H s){a:Addr}{xs ys:List V}(h:vh X.K H a xs)(h':yC X.K H a ys):False:=by
 obtain⟨its,_,pt,_⟩:=I.tuple h
 obtain⟨jts,_,pl,_⟩:=I.list h'
 obtain⟨o,e,c,_⟩:=pt
 obtain⟨o',n',e',c',_⟩:=pl
 rw[e]at e';cases e'
 rw[c]at c'
 injection c' with z
 exact absurd z (by decide)
mutual
theorem Inv.X5(I:Inv X pins σ H s):∀{v:V} {d e:Dt},Is X.K H v d→Is X.K H v e→d=e
 | _,_,_,.non,.non=>rfl
 | _,_,_,.bl _,.bl _=>rfl
 | _,_,_,.int _,.int _=>rfl
 | _,_,_,.str _,.str _=>rfl
 | _,_,_,.tup q r,.tup q' r'=>congrArg Dt.tup (Inv.Ln I r (I.IV q q'▸r'))
 | _,_,_,.lst q r,.lst q' r'=>congrArg Dt.lst (Inv.Ln I r (I.Oq q q'▸r'))
 | _,_,_,.tup q _,.lst q' _=>(I.Oi q q').elim
 | _,_,_,.lst q _,.tup q' _=>(I.Oi q' q).elim
theorem Inv.Ln(I:Inv X pins σ H s):∀{vs:List V} {ds es:List Dt},Fw X.K H vs ds→Fw X.K H vs es→ds=es
 | _,_,_,.nil,.nil=>rfl
 | _,_,_,.cons r t,.cons r' t'=>by rw[Inv.X5 I r r',Inv.Ln I t t']
end
theorem Bf:∀{ds:List Dt} {j:Nat} {d:Dt},ds[j]? = some d→dep d≤deps ds
 | [],_,_,e=>by simp at e
 | d'::ds,0,d,e=>by simp at e;subst e;unfold deps;exact Nat.le_max_left _ _
 | d'::ds,j+1,d,e=>by
  have:=Bf (ds:=ds) (j:=j) (d:=d) (by simpa using e)
  unfold deps
  exact Nat.le_trans this (Nat.le_max_right _ _)
theorem wJ{A:Around}{xs ys:List V}{its jts:List Value}{ds es:List Dt}(r1:Vals xs its)(r2:Vals ys jts)(q1:Fw X.K H xs ds)(q2:Fw X.K H ys es)
  (ih:∀(j:Nat) (x y:V) (d e:Dt) (u v:Value),ds[j]? = some d→es[j]? = some e→Is X.K H x d→Is X.K H y e→RelV x u→RelV y v→SeqAt.EqAt A s u v (cJ d e)):
  ∀j (h1:j<its.toArray.size) (h2:j<jts.toArray.size),SeqAt.EqAt A s its.toArray[j] jts.toArray[j] (cJ (ds.getD j .non) (es.getD j .non)):=fun j h1 h2=>by
 have l1:=r1.length
 have l2:=r2.length
 have j1:j<xs.length:=by simp at h1;omega
 have j2:j<ys.length:=by simp at h2;omega
 obtain⟨w1,g1,p1⟩:=r1.get (i:=j) (x:=xs[j]) (by simp[j1])
 obtain⟨w2,g2,p2⟩:=r2.get (i:=j) (x:=ys[j]) (by simp[j2])
 obtain⟨d,e1,i1⟩:=q1.get (i:=j) (x:=xs[j]) (by simp[j1])
 obtain⟨e,e2,i2⟩:=q2.get (i:=j) (x:=ys[j]) (by simp[j2])
 have d1:ds.getD j .non=d:=by simp[List.getD,e1]
 have d2:es.getD j .non=e:=by simp[List.getD,e2]
 have c1:its.toArray[j]=w1:=by
  have:=List.getElem?_eq_some_iff.mp g1
  simpa using this.2
 have c2:jts.toArray[j]=w2:=by
  have:=List.getElem?_eq_some_iff.mp g2
  simpa using this.2
 rw[d1,d2,c1,c2]
 exact ih j _ _ d e _ _ e1 e2 i1 i2 p1 p2
theorem Dv{n m:Nat}(h:n=m)(p:Nat→Bool):((List.range (min n m)).all p&&n==m)=(List.range n).all p:=by
 subst h
 rw[Nat.min_self]
 simp
theorem Ea(I:Inv X pins σ H s):∀(n:Nat) (A:Around) (x y:V) (d e:Dt) (u v:Value),dep d≤n→A.units+n<cLine→Is X.K H x d→Is X.K H y e→RelV x u→RelV y v→SeqAt.EqAt A s u v (cJ d e)
 | n,A,x,y,d,e,u,v,hd,hu,hx,hy,rx,ry=>by
  have same:u=v→SeqAt.EqAt A s u v (cJ d e):=fun z=>by
   subst z
   have xy:x=y:=rx.inj ry
   subst xy
   rw[I.X5 hx hy,Hz]
   exact SeqAt.EqAt.same _
  have hu0:A.units<cLine:=by omega
  have in1:A.in1.units=A.units+1:=rfl
  cases hx with
  | non=>
   cases rx
   cases hy with
   | non=>cases ry;exact same rfl
   | bl b=>cases ry;unfold cJ;exact SeqAt.EqAt.none_bool b
   | int b=>obtain⟨t,rfl⟩:=ry;unfold cJ;exact SeqAt.EqAt.none_int b t
   | str b=>obtain⟨t,rfl⟩:=ry;unfold cJ;exact SeqAt.EqAt.none_str b t
   | tup q r=>cases ry;obtain⟨its,_,p,_⟩:=I.tuple q;unfold cJ;exact SeqAt.EqAt.none_tuple p hu0
   | lst q r=>cases ry;obtain⟨its,_,p,_⟩:=I.list q;unfold cJ;exact SeqAt.EqAt.none_list p.isList hu0
  | bl a=>
   cases rx
   cases hy with
   | non=>cases ry;unfold cJ;exact SeqAt.EqAt.bool_none a
   | bl b=>cases ry;unfold cJ;exact SeqAt.EqAt.bool_bool a b
   | int b=>obtain⟨t,rfl⟩:=ry;unfold cJ;exact SeqAt.EqAt.bool_int a b t
   | str b=>obtain⟨t,rfl⟩:=ry;unfold cJ;exact SeqAt.EqAt.bool_str a b t
   | tup q r=>cases ry;obtain⟨its,_,p,_⟩:=I.tuple q;unfold cJ;exact SeqAt.EqAt.bool_tuple a p hu0
   | lst q r=>cases ry;obtain⟨its,_,p,_⟩:=I.list q;unfold cJ;exact SeqAt.EqAt.bool_list a p.isList hu0
  | int a=>
   obtain⟨t',rfl⟩:=rx
   cases hy with
   | non=>cases ry;unfold cJ;exact SeqAt.EqAt.int_none a t'
   | bl b=>cases ry;unfold cJ;exact SeqAt.EqAt.int_bool a t' b
   | int b=>obtain⟨t,rfl⟩:=ry;unfold cJ;exact SeqAt.EqAt.int_int a t' b t
   | str b=>obtain⟨t,rfl⟩:=ry;unfold cJ;exact SeqAt.EqAt.int_str a t' b t
   | tup q r=>cases ry;obtain⟨its,_,p,_⟩:=I.tuple q;unfold cJ;exact SeqAt.EqAt.int_tuple a t' p hu0
   | lst q r=>cases ry;obtain⟨its,_,p,_⟩:=I.list q;unfold cJ;exact SeqAt.EqAt.int_list a t' p.isList hu0
  | str a=>
   obtain⟨t',rfl⟩:=rx
   cases hy with
   | non=>cases ry;unfold cJ;exact SeqAt.EqAt.str_none a t'
   | bl b=>cases ry;unfold cJ;exact SeqAt.EqAt.str_bool a t' b
   | int b=>obtain⟨t,rfl⟩:=ry;unfold cJ;exact SeqAt.EqAt.str_int a t' b t
   | str b=>obtain⟨t,rfl⟩:=ry;unfold cJ;exact SeqAt.EqAt.str_str a t' b t
   | tup q r=>cases ry;obtain⟨its,_,p,_⟩:=I.tuple q;unfold cJ;exact SeqAt.EqAt.str_tuple a t' p hu0
   | lst q r=>cases ry;obtain⟨its,_,p,_⟩:=I.list q;unfold cJ;exact SeqAt.EqAt.str_list a t' p.isList hu0
  | @tup a xs ds q r=>
   cases(show u=Value.ref a from rx)
   obtain⟨its,r1,p1,_⟩:=I.tuple q
   cases hy with
   | non=>cases ry;unfold cJ;exact SeqAt.EqAt.tuple_none p1 hu0
   | bl b=>cases ry;unfold cJ;exact SeqAt.EqAt.tuple_bool b p1 hu0
   | int b=>obtain⟨t,rfl⟩:=ry;unfold cJ;exact SeqAt.EqAt.tuple_int b t p1 hu0
   | str b=>obtain⟨t,rfl⟩:=ry;unfold cJ;exact SeqAt.EqAt.tuple_str b t p1 hu0
   | lst q' r'=>cases ry;obtain⟨jts,_,p,_⟩:=I.list q';unfold cJ;exact SeqAt.EqAt.tuple_list p1 p.isList hu0
   | @tup b ys es q' r'=>
    cases(show v=Value.ref b from ry)
    by_cases hab:a=b
    ·subst hab;exact same rfl
    ·obtain⟨jts,r2,p2,_⟩:=I.tuple q'
     refine SeqAt.EqAt.of_refs hab ?_
     have l1:=r1.length
     have l2:=r2.length
     have l3:=r.length
     have l4:=r'.length
     cases n with
     | zero=>unfold dep at hd;omega
     | succ n=>
      have dl:deps ds≤n:=by unfold dep at hd;omega
      have z:=SeqAt.RcAt.tuples (A:=A) (s:=s) (e:=fun j=>cJ (ds.getD j .non) (es.getD j .non)) p1 p2 hu0 (wJ r1 r2 r r' fun j x y d e u v h1 h2 ix iy rx ry=>Ea I n A.in1 x y d e u v (Nat.le_trans (Bf h1) dl) (by omega) ix iy rx ry)
      have ez:((List.range (min its.toArray.size jts.toArray.size)).all (fun j=>cJ (ds.getD j .non) (es.getD j .non))&&its.toArray.size==jts.toArray.size)=cJ (.tup ds) (.tup es):=by
       rw[LC]
       by_cases hl:ds.length=es.length
       ·rw[Dv (by simp;omega),←uW hl]
        congr 2
        simp;omega
       ·rw[rR hl]
        have:(its.toArray.size==jts.toArray.size)=false:=by simp;omega
        rw[this,Bool.and_false]
      rw[ez]at z
      exact z
  | @lst a xs ds q r=>
   cases(show u=Value.ref a from rx)
   obtain⟨its,r1,p1,_⟩:=I.list q
   cases hy with
   | non=>cases ry;unfold cJ;exact SeqAt.EqAt.list_none p1.isList hu0
   | bl b=>cases ry;unfold cJ;exact SeqAt.EqAt.list_bool b p1.isList hu0
   | int b=>obtain⟨t,rfl⟩:=ry;unfold cJ;exact SeqAt.EqAt.list_int b t p1.isList hu0
   | str b=>obtain⟨t,rfl⟩:=ry;unfold cJ;exact SeqAt.EqAt.list_str b t p1.isList hu0
   | tup q' r'=>cases ry;obtain⟨jts,_,p,_⟩:=I.tuple q';unfold cJ;exact SeqAt.EqAt.list_tuple p1.isList p hu0
   | @lst b ys es q' r'=>
    cases(show v=Value.ref b from ry)
    by_cases hab:a=b
    ·subst hab;exact same rfl
    ·obtain⟨jts,r2,p2,_⟩:=I.list q'
     refine SeqAt.EqAt.of_refs hab ?_
     have l1:=r1.length
     have l2:=r2.length
     have l3:=r.length
     have l4:=r'.length
     cases n with
     | zero=>unfold dep at hd;omega
     | succ n=>
      have dl:deps ds≤n:=by unfold dep at hd;omega
      by_cases hl:ds.length=es.length
      ·have z:=SeqAt.RcAt.lists (A:=A) (s:=s) (e:=fun j=>cJ (ds.getD j .non) (es.getD j .non)) p1.isList p2.isList (by simp;omega) hu0 (wJ r1 r2 r r' fun j x y d e u v h1 h2 ix iy rx ry=>Ea I n A.in1 x y d e u v (Nat.le_trans (Bf h1) dl) (by omega) ix iy rx ry)
       have ez:(List.range its.toArray.size).all (fun j=>cJ (ds.getD j .non) (es.getD j .non))=cJ (.lst ds) (.lst es):=by
        rw[Ah]
        rw[←uW hl]
        congr 2
        simp;omega
       rw[ez]at z
       exact z
      ·have z:=SeqAt.RcAt.lists_lengths (A:=A) (s:=s) p1.isList p2.isList (by simp;omega) hu0
       have ez:cJ (.lst ds) (.lst es)=false:=by rw[Ah];exact rR hl
       rw[ez]
       exact z
theorem aci(I:Inv X pins σ H s)(A:Around){x y:V}{d e:Dt}{u v:Value}{n:Nat}(hd:dep d≤n)(hu:A.units+n<cLine)(hx:Is X.K H x d)(hy:Is X.K H y e)(rx:RelV x u)(ry:RelV y v):SeqAt.RcAt A s u v (cJ d e):=by
 have hu0:A.units<cLine:=by omega
 have in1:A.in1.units=A.units+1:=rfl
 cases hx with
 | non=>
  cases rx
  cases hy with
  | non=>
   cases ry
   unfold cJ
   exact SeqAt.RcAt.none_none
  | bl b=>
   cases ry
   unfold cJ
   exact SeqAt.RcAt.none_bool  b
  | int b=>
   obtain⟨t,rfl⟩:=ry
   unfold cJ
   exact SeqAt.RcAt.none_int  b t
  | str b=>
   obtain⟨t,rfl⟩:=ry
   unfold cJ
   exact SeqAt.RcAt.none_str  b t
  | @tup b ys es q' r'=>
   cases(show v=Value.ref b from ry)
   obtain⟨jts,r2,p2,_⟩:=I.tuple q'
   unfold cJ
   exact SeqAt.RcAt.none_tuple  p2 hu0
  | @lst b ys es q' r'=>
   cases(show v=Value.ref b from ry)
   obtain⟨jts,r2,p2,_⟩:=I.list q'
   unfold cJ
   exact SeqAt.RcAt.none_list  p2.isList hu0
 | bl a=>
  cases rx
  cases hy with
  | non=>
   cases ry
   unfold cJ
   exact SeqAt.RcAt.bool_none a
  | bl b=>
   cases ry
   unfold cJ
   exact SeqAt.RcAt.bool_bool a b
  | int b=>
   obtain⟨t,rfl⟩:=ry
   unfold cJ
   exact SeqAt.RcAt.bool_int a b t
  | str b=>
   obtain⟨t,rfl⟩:=ry
   unfold cJ
   exact SeqAt.RcAt.bool_str a b t
  | @tup b ys es q' r'=>
   cases(show v=Value.ref b from ry)
   obtain⟨jts,r2,p2,_⟩:=I.tuple q'
   unfold cJ
   exact SeqAt.RcAt.bool_tuple a p2 hu0
  | @lst b ys es q' r'=>
   cases(show v=Value.ref b from ry)
   obtain⟨jts,r2,p2,_⟩:=I.list q'
   unfold cJ
   exact SeqAt.RcAt.bool_list a p2.isList hu0
 | int a=>
  obtain⟨t',rfl⟩:=rx
  cases hy with
  | non=>
   cases ry
   unfold cJ
   exact SeqAt.RcAt.int_none a t'
  | bl b=>
   cases ry
   unfold cJ
   exact SeqAt.RcAt.int_bool a t' b
  | int b=>
   obtain⟨t,rfl⟩:=ry
   unfold cJ
   exact SeqAt.RcAt.int_int a t' b t
  | str b=>
   obtain⟨t,rfl⟩:=ry
   unfold cJ
   exact SeqAt.RcAt.int_str a t' b t
  | @tup b ys es q' r'=>
   cases(show v=Value.ref b from ry)
   obtain⟨jts,r2,p2,_⟩:=I.tuple q'
   unfold cJ
   exact SeqAt.RcAt.int_tuple a t' p2 hu0
  | @lst b ys es q' r'=>
   cases(show v=Value.ref b from ry)
   obtain⟨jts,r2,p2,_⟩:=I.list q'
   unfold cJ
   exact SeqAt.RcAt.int_list a t' p2.isList hu0
 | str a=>
  obtain⟨t',rfl⟩:=rx
  cases hy with
  | non=>
   cases ry
   unfold cJ
   exact SeqAt.RcAt.str_none a t'
  | bl b=>
   cases ry
   unfold cJ
   exact SeqAt.RcAt.str_bool a t' b
  | int b=>
   obtain⟨t,rfl⟩:=ry
   unfold cJ
   exact SeqAt.RcAt.str_int a t' b t
  | str b=>
   obtain⟨t,rfl⟩:=ry
   unfold cJ
   exact SeqAt.RcAt.str_str a t' b t
  | @tup b ys es q' r'=>
   cases(show v=Value.ref b from ry)
   obtain⟨jts,r2,p2,_⟩:=I.tuple q'
   unfold cJ
   exact SeqAt.RcAt.str_tuple a t' p2 hu0
  | @lst b ys es q' r'=>
   cases(show v=Value.ref b from ry)
   obtain⟨jts,r2,p2,_⟩:=I.list q'
   unfold cJ
   exact SeqAt.RcAt.str_list a t' p2.isList hu0
 | @tup a xs ds q r=>
  cases(show u=Value.ref a from rx)
  obtain⟨its,r1,p1,_⟩:=I.tuple q
  cases hy with
  | non=>
   cases ry
   unfold cJ
   exact SeqAt.RcAt.tuple_none  p1 hu0
  | bl b=>
   cases ry
   unfold cJ
   exact SeqAt.RcAt.tuple_bool b p1 hu0
  | int b=>
   obtain⟨t,rfl⟩:=ry
   unfold cJ
   exact SeqAt.RcAt.tuple_int b t p1 hu0
  | str b=>
   obtain⟨t,rfl⟩:=ry
   unfold cJ
   exact SeqAt.RcAt.tuple_str b t p1 hu0
  | @tup b ys es q' r'=>
   cases(show v=Value.ref b from ry)
   obtain⟨jts,r2,p2,_⟩:=I.tuple q'
   have l1:=r1.length
   have l2:=r2.length
   have l3:=r.length
   have l4:=r'.length
   cases n with
   | zero=>unfold dep at hd;omega
   | succ n=>
    have dl:deps ds≤n:=by unfold dep at hd;omega
    have z:=SeqAt.RcAt.tuples (A:=A) (s:=s) (e:=fun j=>cJ (ds.getD j .non) (es.getD j .non)) p1 p2 hu0 (wJ r1 r2 r r' fun j x y d e u v h1 h2 ix iy rx ry=>Ea I n A.in1 x y d e u v (Nat.le_trans (Bf h1) dl) (by omega) ix iy rx ry)
    have ez:((List.range (min its.toArray.size jts.toArray.size)).all (fun j=>cJ (ds.getD j .non) (es.getD j .non))&&its.toArray.size==jts.toArray.size)=cJ (.tup ds) (.tup es):=by
     rw[LC]
     by_cases hl:ds.length=es.length
     ·rw[Dv (by simp;omega),←uW hl]
      congr 2
      simp;omega
     ·rw[rR hl]
      have:(its.toArray.size==jts.toArray.size)=false:=by simp;omega
      rw[this,Bool.and_false]
    rw[ez]at z
    exact z
  | @lst b ys es q' r'=>
   cases(show v=Value.ref b from ry)
   obtain⟨jts,r2,p2,_⟩:=I.list q'
   unfold cJ
   exact SeqAt.RcAt.tuple_list p1 p2.isList hu0
 | @lst a xs ds q r=>
  cases(show u=Value.ref a from rx)
  obtain⟨its,r1,p1,_⟩:=I.list q
  cases hy with
  | non=>
   cases ry
   unfold cJ
   exact SeqAt.RcAt.list_none  p1.isList hu0
  | bl b=>
   cases ry
   unfold cJ
   exact SeqAt.RcAt.list_bool b p1.isList hu0
  | int b=>
   obtain⟨t,rfl⟩:=ry
   unfold cJ
   exact SeqAt.RcAt.list_int b t p1.isList hu0
  | str b=>
   obtain⟨t,rfl⟩:=ry
   unfold cJ
   exact SeqAt.RcAt.list_str b t p1.isList hu0
  | @tup b ys es q' r'=>
   cases(show v=Value.ref b from ry)
   obtain⟨jts,r2,p2,_⟩:=I.tuple q'
   unfold cJ
   exact SeqAt.RcAt.list_tuple p1.isList p2 hu0
  | @lst b ys es q' r'=>
   cases(show v=Value.ref b from ry)
   obtain⟨jts,r2,p2,_⟩:=I.list q'
   have l1:=r1.length
   have l2:=r2.length
   have l3:=r.length
   have l4:=r'.length
   cases n with
   | zero=>unfold dep at hd;omega
   | succ n=>
    have dl:deps ds≤n:=by unfold dep at hd;omega
    by_cases hl:ds.length=es.length
    ·have z:=SeqAt.RcAt.lists (A:=A) (s:=s) (e:=fun j=>cJ (ds.getD j .non) (es.getD j .non)) p1.isList p2.isList (by simp;omega) hu0 (wJ r1 r2 r r' fun j x y d e u v h1 h2 ix iy rx ry=>Ea I n A.in1 x y d e u v (Nat.le_trans (Bf h1) dl) (by omega) ix iy rx ry)
     have ez:(List.range its.toArray.size).all (fun j=>cJ (ds.getD j .non) (es.getD j .non))=cJ (.lst ds) (.lst es):=by
      rw[Ah,←uW hl]
      congr 2
      simp;omega
     rw[ez]at z
     exact z
    ·have z:=SeqAt.RcAt.lists_lengths (A:=A) (s:=s) p1.isList p2.isList (by simp;omega) hu0
     have ez:cJ (.lst ds) (.lst es)=false:=by rw[Ah];exact rR hl
     rw[ez]
     exact z
theorem ach(I:Inv X pins σ H s)(A:Around){x y:V}{d e:Dt}{u v:Value}{n:Nat}(hd:dep d≤n)(hu:A.units+n<cLine)(hx:Is X.K H x d)(hy:Is X.K H y e)(rx:RelV x u)(ry:RelV y v):SeqAt.RcNeAt A s u v (!cJ d e):=by
 have hu0:A.units<cLine:=by omega
 have in1:A.in1.units=A.units+1:=rfl
 cases hx with
 | non=>
  cases rx
  cases hy with
  | non=>
   cases ry
   unfold cJ
   exact SeqAt.RcNeAt.none_none
  | bl b=>
   cases ry
   unfold cJ
   exact SeqAt.RcNeAt.none_bool  b
  | int b=>
   obtain⟨t,rfl⟩:=ry
   unfold cJ
   exact SeqAt.RcNeAt.none_int  b t
  | str b=>
   obtain⟨t,rfl⟩:=ry
   unfold cJ
   exact SeqAt.RcNeAt.none_str  b t
  | @tup b ys es q' r'=>
   cases(show v=Value.ref b from ry)
   obtain⟨jts,r2,p2,_⟩:=I.tuple q'
   unfold cJ
   exact SeqAt.RcNeAt.none_tuple  p2 hu0
  | @lst b ys es q' r'=>
   cases(show v=Value.ref b from ry)
   obtain⟨jts,r2,p2,_⟩:=I.list q'
   unfold cJ
   exact SeqAt.RcNeAt.none_list  p2.isList hu0
 | bl a=>
  cases rx
  cases hy with
  | non=>
   cases ry
   unfold cJ
   exact SeqAt.RcNeAt.bool_none a
  | bl b=>
   cases ry
   unfold cJ
   exact SeqAt.RcNeAt.bool_bool a b
  | int b=>
   obtain⟨t,rfl⟩:=ry
   unfold cJ
   exact SeqAt.RcNeAt.bool_int a b t
  | str b=>
   obtain⟨t,rfl⟩:=ry
   unfold cJ
   exact SeqAt.RcNeAt.bool_str a b t
  | @tup b ys es q' r'=>
   cases(show v=Value.ref b from ry)
   obtain⟨jts,r2,p2,_⟩:=I.tuple q'
   unfold cJ
   exact SeqAt.RcNeAt.bool_tuple a p2 hu0
  | @lst b ys es q' r'=>
   cases(show v=Value.ref b from ry)
   obtain⟨jts,r2,p2,_⟩:=I.list q'
   unfold cJ
   exact SeqAt.RcNeAt.bool_list a p2.isList hu0
 | int a=>
  obtain⟨t',rfl⟩:=rx
  cases hy with
  | non=>
   cases ry
   unfold cJ
   exact SeqAt.RcNeAt.int_none a t'
  | bl b=>
   cases ry
   unfold cJ
   exact SeqAt.RcNeAt.int_bool a t' b
  | int b=>
   obtain⟨t,rfl⟩:=ry
   unfold cJ
   exact SeqAt.RcNeAt.int_int a t' b t
  | str b=>
   obtain⟨t,rfl⟩:=ry
   unfold cJ
   exact SeqAt.RcNeAt.int_str a t' b t
  | @tup b ys es q' r'=>
   cases(show v=Value.ref b from ry)
   obtain⟨jts,r2,p2,_⟩:=I.tuple q'
   unfold cJ
   exact SeqAt.RcNeAt.int_tuple a t' p2 hu0
  | @lst b ys es q' r'=>
   cases(show v=Value.ref b from ry)
   obtain⟨jts,r2,p2,_⟩:=I.list q'
   unfold cJ
   exact SeqAt.RcNeAt.int_list a t' p2.isList hu0
 | str a=>
  obtain⟨t',rfl⟩:=rx
  cases hy with
  | non=>
   cases ry
   unfold cJ
   exact SeqAt.RcNeAt.str_none a t'
  | bl b=>
   cases ry
   unfold cJ
   exact SeqAt.RcNeAt.str_bool a t' b
  | int b=>
   obtain⟨t,rfl⟩:=ry
   unfold cJ
   exact SeqAt.RcNeAt.str_int a t' b t
  | str b=>
   obtain⟨t,rfl⟩:=ry
   unfold cJ
   exact SeqAt.RcNeAt.str_str a t' b t
  | @tup b ys es q' r'=>
   cases(show v=Value.ref b from ry)
   obtain⟨jts,r2,p2,_⟩:=I.tuple q'
   unfold cJ
   exact SeqAt.RcNeAt.str_tuple a t' p2 hu0
  | @lst b ys es q' r'=>
   cases(show v=Value.ref b from ry)
   obtain⟨jts,r2,p2,_⟩:=I.list q'
   unfold cJ
   exact SeqAt.RcNeAt.str_list a t' p2.isList hu0
 | @tup a xs ds q r=>
  cases(show u=Value.ref a from rx)
  obtain⟨its,r1,p1,_⟩:=I.tuple q
  cases hy with
  | non=>
   cases ry
   unfold cJ
   exact SeqAt.RcNeAt.tuple_none  p1 hu0
  | bl b=>
   cases ry
   unfold cJ
   exact SeqAt.RcNeAt.tuple_bool b p1 hu0
  | int b=>
   obtain⟨t,rfl⟩:=ry
   unfold cJ
   exact SeqAt.RcNeAt.tuple_int b t p1 hu0
  | str b=>
   obtain⟨t,rfl⟩:=ry
   unfold cJ
   exact SeqAt.RcNeAt.tuple_str b t p1 hu0
  | @tup b ys es q' r'=>
   cases(show v=Value.ref b from ry)
   obtain⟨jts,r2,p2,_⟩:=I.tuple q'
   have l1:=r1.length
   have l2:=r2.length
   have l3:=r.length
   have l4:=r'.length
   cases n with
   | zero=>unfold dep at hd;omega
   | succ n=>
    have dl:deps ds≤n:=by unfold dep at hd;omega
    have z:=SeqAt.RcNeAt.tuples (A:=A) (s:=s) (e:=fun j=>cJ (ds.getD j .non) (es.getD j .non)) p1 p2 hu0 (wJ r1 r2 r r' fun j x y d e u v h1 h2 ix iy rx ry=>Ea I n A.in1 x y d e u v (Nat.le_trans (Bf h1) dl) (by omega) ix iy rx ry)
    have ez:((List.range (min its.toArray.size jts.toArray.size)).all (fun j=>cJ (ds.getD j .non) (es.getD j .non))&&its.toArray.size==jts.toArray.size)=cJ (.tup ds) (.tup es):=by
     rw[LC]
     by_cases hl:ds.length=es.length
     ·rw[Dv (by simp;omega),←uW hl]
      congr 2
      simp;omega
     ·rw[rR hl]
      have:(its.toArray.size==jts.toArray.size)=false:=by simp;omega
      rw[this,Bool.and_false]
    rw[ez]at z
    exact z
  | @lst b ys es q' r'=>
   cases(show v=Value.ref b from ry)
   obtain⟨jts,r2,p2,_⟩:=I.list q'
   unfold cJ
   exact SeqAt.RcNeAt.tuple_list p1 p2.isList hu0
 | @lst a xs ds q r=>
  cases(show u=Value.ref a from rx)
  obtain⟨its,r1,p1,_⟩:=I.list q
  cases hy with
  | non=>
   cases ry
   unfold cJ
   exact SeqAt.RcNeAt.list_none  p1.isList hu0
  | bl b=>
   cases ry
   unfold cJ
   exact SeqAt.RcNeAt.list_bool b p1.isList hu0
  | int b=>
   obtain⟨t,rfl⟩:=ry
   unfold cJ
   exact SeqAt.RcNeAt.list_int b t p1.isList hu0
  | str b=>
   obtain⟨t,rfl⟩:=ry
   unfold cJ
   exact SeqAt.RcNeAt.list_str b t p1.isList hu0
  | @tup b ys es q' r'=>
   cases(show v=Value.ref b from ry)
   obtain⟨jts,r2,p2,_⟩:=I.tuple q'
   unfold cJ
   exact SeqAt.RcNeAt.list_tuple p1.isList p2 hu0
  | @lst b ys es q' r'=>
   cases(show v=Value.ref b from ry)
   obtain⟨jts,r2,p2,_⟩:=I.list q'
   have l1:=r1.length
   have l2:=r2.length
   have l3:=r.length
   have l4:=r'.length
   cases n with
   | zero=>unfold dep at hd;omega
   | succ n=>
    have dl:deps ds≤n:=by unfold dep at hd;omega
    by_cases hl:ds.length=es.length
    ·have z:=SeqAt.RcNeAt.lists (A:=A) (s:=s) (e:=fun j=>cJ (ds.getD j .non) (es.getD j .non)) p1.isList p2.isList (by simp;omega) hu0 (wJ r1 r2 r r' fun j x y d e u v h1 h2 ix iy rx ry=>Ea I n A.in1 x y d e u v (Nat.le_trans (Bf h1) dl) (by omega) ix iy rx ry)
     have ez:(List.range its.toArray.size).all (fun j=>cJ (ds.getD j .non) (es.getD j .non))=cJ (.lst ds) (.lst es):=by
      rw[Ah,←uW hl]
      congr 2
      simp;omega
     rw[ez]at z
     exact z
    ·have z:=SeqAt.RcNeAt.lists_lengths (A:=A) (s:=s) p1.isList p2.isList (by simp;omega) hu0
     have ez:cJ (.lst ds) (.lst es)=false:=by rw[Ah];exact rR hl
     rw[ez]
     exact z
end
def amI(K:PySem.W.Frag):R2:=fun x y H Q=>∃d e,Is K H x d∧Is K H y e∧dep d≤20∧Q (.bl (cJ d e)) H
def amG(K:PySem.W.Frag):R2:=fun x y H Q=>∃d e,Is K H x d∧Is K H y e∧dep d≤20∧Q (.bl (!cJ d e)) H
theorem ac0{X:Cx}(hu:X.A.units+64<cLine):wz X (compareOp .Eq) (amI X.K):=by
 intro pins s σ H x y v u Q I rx ry h
 obtain⟨d,e,hx,hy,hd,q⟩:=h
 exact aci I X.A hd (by omega) hx hy rx ry _ _ _ _ ⟨.bl _,H,I,rfl,q⟩
theorem acU{X:Cx}(hu:X.A.units+64<cLine):wz X (compareOp .NotEq) (amG X.K):=by
 intro pins s σ H x y v u Q I rx ry h
 obtain⟨d,e,hx,hy,hd,q⟩:=h
 exact ach I X.A hd (by omega) hx hy rx ry _ _ _ _ ⟨.bl _,H,I,rfl,q⟩
end L2
set_option Elab.async false
set_option linter.all false
set_option maxRecDepth 100000
namespace L2
open PySem PySem.Spec PyProof.Rows
end L2
namespace L2
open PySem PySem.Spec PyProof.Rows
section
variable(P:Program)(w:World)
end
section
variable{P:Program}{w:World}{H H':Hp}{h h':Heap}{a:Addr}{o:HO}
end
section
variable{P:Program}{w:World}{H:Hp}{h h':Heap}{x e:Addr}{o':HO}
end
section
variable{fs fs' ex ex':List Addr}{H H1 H2:Hp}{h h1 h2 h':Heap}{a x e:Addr}{o:HO}
end
end L2
namespace L2
open PySem PySem.Spec PyProof.Rows
section
variable{X:Cx}{pins:List (Addr×Obj)}{σ:List (Option V)}{H H':Hp}{s:Shared}{h':Heap}
end
end L2
namespace L2
open PySem PySem.Spec PyProof.Rows
section
variable{X:Cx}
variable{a b:Expr}{ta tb:TE}{pos:Pos}
variable{tA tB':TT}{rest:List Expr}
end
end L2
namespace L2
open PySem PySem.Spec PyProof.Rows
section
variable{X:Cx}{pins:List (Addr×Obj)}{σ:St}{H:Hp}{s:Shared}{a:Addr}{xs ys:List V}
end
section
variable{X:Cx}{pins:List (Addr×Obj)}{σ:St}{H:Hp}{s:Shared}{E:Value→Shared→Prop}
end
section
variable{X:Cx}{st:Stmt}{rest:List Stmt}{t u:TS}{e:Expr}{te:TE}{pos:Pos}
end
section
variable{X:Cx}{pos:Pos}
end
section
variable{X:Cx}{pos:Pos}
end
end L2
namespace L2
open PySem PySem.Spec PyProof.Rows
section
variable{X:Cx}{tg:Expr}
end
end L2
namespace L2
open PySem PySem.Spec PyProof.Rows
section
variable{X:Cx}{a b c:Expr}{ta tb tc:TE}{pos:Pos}
end
section
variable{X:Cx}{a b c:Expr}{ta tb tc:TE}{pos:Pos}
end
end L2
namespace L2
open PySem PySem.Spec PyProof.Rows
section
variable{prog:Program}{w:World}{A:Around}{E:Value→Shared→Prop}{s:Shared}{K:PySem.W.Frag}{x dx C f:Addr}{mA:Str→Option Value}{name:Str}{v:Value}
end
section
variable{P:Program}{w:World}{H H':Hp}{h h':Heap}{a C dx:Addr}{fs fs':List (Str×V)}
end
section
variable{X:Cx}{pins:List (Addr×Obj)}{σ:St}{H:Hp}{s:Shared}{a C dx:Addr}{fs:List (Str×V)}{f:Str}{v:V}{A:Around}{E:Value→Shared→Prop}
end
section
variable{X:Cx}{o e value:Expr}{f:Str}{pos pos' tpos:Pos}{ta tv:TE}
end
section
variable{X:Cx}{pins:List (Addr×Obj)}{σ:St}{H:Hp}{s:Shared}{A:Around}{E:Value→Shared→Prop}{Q:Value→Shared→Prop}{c:Value}{b:Bool}
end
end L2
namespace L2
open PySem PySem.Spec PyProof.Rows
section
variable{X:Cx}{e:Expr}{es:List Expr}{te:TE}{t:TA}{pos:Pos}
end
section
variable{X:Cx}{pins:List (Addr×Obj)}{σ:St}{H:Hp}{s s':Shared}
end
section
variable{X:Cx}{CX:Rv}{k:Nat}{f C:Addr}{fd:FuncData}{ps:List Str}{sp:Sp}{Ag:List V}{ds:List Value}{E:XK}{x m:Str}{p pos apos:Pos}{e o:Expr}{es:List Expr}{ta:TE}{t:TA}
end
section
variable{X:Cx}{CX:Rv}{k:Nat}{f C:Addr}{fd:FuncData}{ps ks:List Str}{sp:Sp}{E:XK}{x m:Str}{p pos apos kpos:Pos}{e o:Expr}{es:List Expr}{kws:List Keyword}{te ta:TE}{t tk:TA}{nm:Option Str}
variable{g:List Value→List Value→List Value}{gV:List V→List V→List V}
end
end L2
namespace L2
open PySem PySem.Spec PyProof.Rows
section
variable{X:Cx}{x:Str}{p pos:Pos}{e:Expr}{es:List Expr}{t:TA}{id T:String}{r:List V→Hp→VK→Prop}
end
end L2
namespace L2
open PySem PySem.Spec PyProof.Rows
section
variable{κ:Type}[DecidableEq κ]
def cA(kvs:List (κ×V))(k:κ):Option V:=(kvs.find? fun kv=>decide (kv.1=k)).map (·.2)
def putK(kvs:List (κ×V))(k:κ)(v:V):List (κ×V):=
 if(kvs.any fun kv=>decide (kv.1=k))=true then kvs.map (fun kv=>if kv.1=k then(kv.1,v)else kv)else kvs++[(k,v)]
theorem Bs{p:κ×V}{r:List (κ×V)}{k:κ}(e:p.1=k):cA (p::r) k=some p.2:=by simp[cA,List.find?_cons,e]
theorem Bt{p:κ×V}{r:List (κ×V)}{k:κ}(e:¬p.1=k):cA (p::r) k=cA r k:=by simp[cA,List.find?_cons,e]
theorem Nj(k:κ):∀kvs:List (κ×V),(kvs.any fun kv=>decide (kv.1=k))=(cA kvs k).isSome
 | []=>rfl
 | p::r=>by
  rw[List.any_cons]
  by_cases e:p.1=k
  ·simp only[Bs e,decide_eq_true e,Bool.true_or,Option.isSome_some]
  ·rw[Bt e,decide_eq_false e,Bool.false_or];exact Nj k r
theorem yW.DW{o:Option V}{u:Option Value}(r:yW o u):o.isSome=u.isSome:=by
 cases o with
 | none=>cases u with
  | none=>rfl
  | some _=>exact(show False from r).elim
 | some _=>cases u with
  | none=>exact(show False from r).elim
  | some _=>rfl
theorem yW.getD{o:Option V}{u:Option Value}{d:V}{d':Value}(r:yW o u)(rd:RelV d d'):RelV (o.getD d) (u.getD d'):=by
 cases o with
 | none=>cases u with
  | none=>exact rd
  | some _=>exact(show False from r).elim
 | some _=>cases u with
  | none=>exact(show False from r).elim
  | some _=>exact r
theorem KV.val{kvs:List (κ×V)}{vs:List (κ×Value)}(r:KV kvs vs)(k:κ):yW (cA kvs k) (valueAt vs k):=by
 unfold KV at r
 induction r with
 | nil=>exact True.intro
 | @cons p q ps qs h t ih=>
  obtain⟨h1,h2⟩:=h
  by_cases e:p.1=k
  ·have e':q.1=k:=h1.symm.trans e
   have b:valueAt (q::qs) k=some q.2:=by simp[valueAt,List.find?_cons,e']
   rw[Bs e,b];exact h2
  ·have e':¬q.1=k:=fun z=>e (h1.trans z)
   have b:valueAt (q::qs) k=valueAt qs k:=by simp[valueAt,List.find?_cons,e']
   rw[Bt e,b];exact ih
theorem KV.any{kvs:List (κ×V)}{vs:List (κ×Value)}(r:KV kvs vs)(k:κ):(kvs.any fun kv=>decide (kv.1=k))=vs.any fun kv=>decide (kv.1=k):=by
 unfold KV at r
 induction r with
 | nil=>rfl
 | cons h t ih=>rw[List.any_cons,List.any_cons,ih,h.1]
theorem KV.repl{kvs:List (κ×V)}{vs:List (κ×Value)}(r:KV kvs vs)(k:κ){y:V}{u:Value}(ry:RelV y u):
  KV (kvs.map fun kv=>if kv.1=k then(kv.1,y)else kv) (vs.map fun kv=>if kv.1=k then(kv.1,u)else kv):=by
 unfold KV at r ⊢
 induction r with
 | nil=>exact .nil
 | @cons p q ps qs h t ih=>
  rw[List.map_cons,List.map_cons]
  refine .cons ?_ ih
  obtain⟨h1,h2⟩:=h
  by_cases e:p.1=k
  ·rw[if_pos e,if_pos (h1.symm.trans e)];exact⟨h1,ry⟩
  ·rw[if_neg e,if_neg (fun z=>e (h1.trans z))];exact⟨h1,h2⟩
theorem KV.put{kvs:List (κ×V)}{vs:List (κ×Value)}(r:KV kvs vs)(k:κ){y:V}{u:Value}(ry:RelV y u):KV (putK kvs k y) (stored vs k u):=by
 unfold putK stored
 rw[r.any k]
 by_cases e:(vs.any fun kv=>decide (kv.1=k))=true
 ·rw[if_pos e,if_pos e];exact r.repl k ry
 ·rw[if_neg e,if_neg e];exact Paired.snoc r ⟨rfl,ry⟩
theorem KV.length{kvs:List (κ×V)}{vs:List (κ×Value)}(r:KV kvs vs):kvs.length=vs.length:=Paired.length r
end
theorem XR{P:Program}{w:World}{k:Key}{u:Value}(r:RelV (kV k) u):(oW P w).is k u=true:=by
 cases k with
 | inl i=>obtain⟨t,e⟩:=(show ∃t,u=Value.int i t from r);subst e;exact Om P w i t
 | inr x=>obtain⟨t,e⟩:=(show ∃t,u=Value.str x t from r);subst e;exact Ol P w x t
theorem Jm{P:Program}{w:World}:∀{ks:List Key} {us:List Value},Vals (ks.map kV) us→ItemsAre (oW P w) ks us
 | [],_,r=>by rw[List.map_nil]at r;cases r;exact .nil
 | k::ks,_,r=>by
  rw[List.map_cons]at r
  cases r with
  | cons h t=>exact .cons (XR h) (Jm t)
abbrev KT(H:Hp):List (List Key×V)→List (List Key×Addr×Value)→Prop:=Paired fun p q=>p.1=q.1∧H q.2.1=some (.tup (p.1.map kV))∧RelV p.2 q.2.2
theorem KT.val{H:Hp}{kvs:List (List Key×V)}{xs:List (List Key×Addr×Value)}(r:KT H kvs xs)(k:List Key):yW (cA kvs k) ((atKey xs k).map (·.2)):=by
 induction r with
 | nil=>exact True.intro
 | @cons p q ps qs h t ih=>
  obtain⟨h1,_,h2⟩:=h
  by_cases e:p.1=k
  ·have e':q.1=k:=h1.symm.trans e
   have b:atKey (q::qs) k=some q.2:=by simp[atKey,List.find?_cons,e']
   rw[Bs e,b];exact h2
  ·have e':¬q.1=k:=fun z=>e (h1.trans z)
   have b:atKey (q::qs) k=atKey qs k:=by simp[atKey,List.find?_cons,e']
   rw[Bt e,b];exact ih
theorem KT.repl{H:Hp}{kvs:List (List Key×V)}{xs:List (List Key×Addr×Value)}(r:KT H kvs xs)(k:List Key){y:V}{u:Value}(ry:RelV y u):
  KT H (kvs.map fun kv=>if kv.1=k then(kv.1,y)else kv) (xs.map (putAt k u)):=by
 induction r with
 | nil=>exact .nil
 | @cons p q ps qs h t ih=>
  rw[List.map_cons,List.map_cons]
  refine .cons ?_ ih
  obtain⟨h1,h2,h3⟩:=h
  unfold putAt
  by_cases e:p.1=k
  ·rw[if_pos e,if_pos (h1.symm.trans e)];exact⟨h1,h2,ry⟩
  ·rw[if_neg e,if_neg (fun z=>e (h1.trans z))];exact⟨h1,h2,h3⟩
theorem KT.put{H:Hp}{kvs:List (List Key×V)}{xs:List (List Key×Addr×Value)}(r:KT H kvs xs)(k:List Key){b:Addr}{y:V}{u:Value}(hb:H b=some (.tup (k.map kV)))(ry:RelV y u):
  KT H (putK kvs k y) (storedH xs k b u):=by
 have e:(kvs.any fun kv=>decide (kv.1=k))=(atKey xs k).isSome:=by
  rw[Nj,(r.val k).DW,Option.isSome_map]
 unfold putK storedH
 rw[e]
 by_cases q:(atKey xs k).isSome=true
 ·rw[if_pos q,if_pos q];exact r.repl k ry
 ·rw[if_neg q,if_neg q];exact Paired.snoc r ⟨rfl,hb,ry⟩
theorem KT.keeps{H H':Hp}{kvs:List (List Key×V)}{xs:List (List Key×Addr×Value)}(r:KT H kvs xs)(ht:∀b ys,H b=some (.tup ys)→H' b=some (.tup ys)):KT H' kvs xs:=
 Paired.adl r fun _ _ z=>⟨z.1,ht _ _ z.2.1,z.2.2⟩
section
variable{P:Program}{w:World}{H:Hp}{h:Heap}{a:Addr}
theorem abk{u:HO}(ok:vq P w H h)(e:Rd H a u):gP P w H h a u:=e.ok ok
theorem O2{kvs:List (Key×V)}(ok:vq P w H h)(e:Rd H a (.dK kvs)):kvs.length≤sizeLine∧(a==sysModules)=false∧∃vs,KV kvs vs∧h.DictOf (oW P w) a vs:=
 show gP P w H h a (.dK kvs)from abk ok e
theorem ahZ{kvs:List (Key×V)}(ok:vq P w H h)(e:H a=some (.dK kvs)):kvs.length≤sizeLine∧(a==sysModules)=false∧∃vs,KV kvs vs∧h.DictOf (oW P w) a vs:=O2 ok (.inl e)
theorem Q3{ks:List Key}(ok:vq P w H h)(e:H a=some (.tup (ks.map kV))):(tupleKind (oW P w)).is h ks a:=by
 obtain⟨_,its,r,o,h1,h2,n,h3⟩:=(show gP P w H h a (.tup (ks.map kV))from ok a _ e)
 exact⟨o,its.toArray,n,h1,h2,h3,by simpa using Jm r⟩
theorem Tz{kvs:List (List Key×V)}(ok:vq P w H h)(e:Rd H a (.dT kvs)):kvs.length≤sizeLine∧(a==sysModules)=false∧
  ∃xs,KT H kvs xs∧h.DictOfH (tupleKind (oW P w)) a xs:=by
 obtain⟨z,y,xs,r,o,es,ep,h1,h2,h3,h4,h5⟩:=(show gP P w H h a (.dT kvs)from abk ok e)
 refine⟨z,y,xs,r,o,es,ep,h1,h2,h3,h4,fun x hx=> ?_,h5⟩
 have all:∀{l:List (List Key×V)} {m:List (List Key×Addr×Value)},KT H l m→∀x∈m,(tupleKind (oW P w)).is h x.1 x.2.1:=by
  intro l m q
  induction q with
  | nil=>intro x hx;exact nomatch hx
  | @cons p q ps qs hq t ih=>
   intro x hx
   rcases List.mem_cons.mp hx with e | hx
   ·subst e
    exact Q3 ok (by rw[←hq.1];exact hq.2.1)
   ·exact ih x hx
 exact all r x hx
theorem ahW{kvs:List (List Key×V)}(ok:vq P w H h)(e:H a=some (.dT kvs)):kvs.length≤sizeLine∧(a==sysModules)=false∧
  ∃xs,KT H kvs xs∧h.DictOfH (tupleKind (oW P w)) a xs:=Tz ok (.inl e)
end
def Fz(H:Hp)(a:Addr)(y:V)(r:Option V):Prop:=
 (∃kvs k,Rd H a (.dK kvs)∧y=kV k∧r=cA kvs k)∨∃kvs k b,Rd H a (.dT kvs)∧y= .ref b∧H b=some (.tup (k.map kV))∧r=cA kvs k
def aa7(H:Hp)(a:Addr)(y v:V)(H':Hp):Prop:=
 (∃kvs k,H a=some (.dK kvs)∧y=kV k∧kvs.length<sizeLine∧H'=upd H a (.dK (putK kvs k v)))∨
 ∃kvs k b,H a=some (.dT kvs)∧y= .ref b∧H b=some (.tup (k.map kV))∧kvs.length<sizeLine∧H'=upd H a (.dT (putK kvs k v))
theorem Fz.k{H:Hp}{a:Addr}{kvs:List (Key×V)}{k:Key}(e:H a=some (.dK kvs)):Fz H a (kV k) (cA kvs k):= .inl ⟨kvs,k,.inl e,rfl,rfl⟩
theorem Fz.t{H:Hp}{a b:Addr}{kvs:List (List Key×V)}{k:List Key}(e:H a=some (.dT kvs))(eb:H b=some (.tup (k.map kV))):Fz H a (.ref b) (cA kvs k):= .inr ⟨kvs,k,b,.inl e,rfl,eb,rfl⟩
theorem aa7.k{H:Hp}{a:Addr}{kvs:List (Key×V)}{k:Key}{v:V}(e:H a=some (.dK kvs))(hl:kvs.length<sizeLine):aa7 H a (kV k) v (upd H a (.dK (putK kvs k v))):= .inl ⟨kvs,k,e,rfl,hl,rfl⟩
theorem aa7.t{H:Hp}{a b:Addr}{kvs:List (List Key×V)}{k:List Key}{v:V}(e:H a=some (.dT kvs))(eb:H b=some (.tup (k.map kV)))(hl:kvs.length<sizeLine):
  aa7 H a (.ref b) v (upd H a (.dT (putK kvs k v))):= .inr ⟨kvs,k,b,e,rfl,eb,hl,rfl⟩
section
variable{X:Cx}{pins:List (Addr×Obj)}{σ:St}{H:Hp}{s:Shared}{a:Addr}{y v:V}{u r:Value}{o:Option V}{A:Around}{E:Value→Shared→Prop}
theorem Vo{Q:Value→Shared→Prop}(hu:A.units+1<cLine)(I:Inv X pins σ H s)(g:Fz H a y (some v))(ry:RelV y u)(h:∀w' s',Inv X pins σ H s'→RelV v w'→Q w' s'):
  wpAny (model X.prog X.w) A (getItem (.ref a) u) Q E s:=by
 rcases g with⟨kvs,k,e,ey,l⟩ | ⟨kvs,k,b,e,ey,eb,l⟩
 ·subst ey
  obtain⟨z,hd,vs,rel,dd⟩:=O2 I.hok e
  obtain⟨w',hw,rw'⟩:=yW.some_of (v:=v) (o:=valueAt vs k) (by rw[l];exact rel.val k)
  exact wpAny_getItem_of (XR ry) dd.mapOf hw (h w' _ (I.tok _) rw')
 ·subst ey
  cases(show u=Value.ref b from ry)
  obtain⟨z,hd,xs,rel,dd⟩:=Tz I.hok e
  obtain⟨w',hw,rw'⟩:=yW.some_of (v:=v) (o:=(atKey xs k).map (·.2)) (by rw[l];exact rel.val k)
  obtain⟨p,hp,hp2⟩:=Option.map_eq_some_iff.mp hw
  refine wpAny_getItem_heap (tupleKind_room_in1 hu) (Q3 I.hok eb) dd hp ?_
  rw[hp2]
  exact h w' _ (I.tok _) rw'
theorem aoD{Q:Value→Shared→Prop}(hu:A.units+1<cLine)(I:Inv X pins σ H s)(g:Fz H a y o)(ry:RelV y u)(h:∀s',Inv X pins σ H s'→Q (.bool o.isSome) s'):
  wpAny (model X.prog X.w) A (compareOp .In u (.ref a)) Q E s:=by
 rcases g with⟨kvs,k,e,ey,l⟩ | ⟨kvs,k,b,e,ey,eb,l⟩
 ·subst ey
  obtain⟨z,hd,vs,rel,dd⟩:=O2 I.hok e
  refine wpAny_in_of (XR ry) hd dd.mapOf ?_
  rw[←(rel.val k).DW,←l]
  exact h _ (I.tok _)
 ·subst ey
  cases(show u=Value.ref b from ry)
  obtain⟨z,hd,xs,rel,dd⟩:=Tz I.hok e
  refine wpAny_in_heap (tupleKind_room_in1 hu) (Q3 I.hok eb) hd dd ?_
  have q:=(rel.val k).DW
  rw[Option.isSome_map]at q
  rw[←q,←l]
  exact h _ (I.tok _)
theorem aaH{h':Heap}{t':Nat}{ob:HO}(I:Inv X pins σ H s)(mu:Mut (H a))(hs:Heap.SameBut a s.heap h')(he:∃q,h'.get? a=some q)(new:gP X.prog X.w (upd H a ob) h' a ob):
  Inv X pins σ (upd H a ob) {s with heap:=h',toks:=t'}:=
 I.write (x:=a) (e:=a) mu (.inl rfl) (fun b q hb z=>(hs.2 b hb).trans z) he new
end
section
variable{X:Cx}{pins:List (Addr×Obj)}{σ:St}{H:Hp}{s:Shared}{a:Addr}{kvs:List (Key×V)}{k:Key}{u:Value}{A:Around}{E:Value→Shared→Prop}
theorem ait{Q:Value→Shared→Prop}(I:Inv X pins σ H s)(e:Rd H a (.dK kvs))(h:∀t s',Inv X pins σ H s'→Q (.int kvs.length t) s'):wpAny (model X.prog X.w) A (call (.builtin "len") [.ref a]) Q E s:=by
 obtain⟨z,hd,vs,rel,dd⟩:=O2 I.hok e
 refine call_len_dict hd dd (by rw[←rel.length];rw[sizeLine_eq]at z;omega) ?_
 rw[←rel.length]
 exact h _ _ (I.tok _)
end
theorem O6{X:Cx}{pins:List (Addr×Obj)}{σ:St}{H:Hp}{s:Shared}{a:Addr}{y:V}{o:Option V}(I:Inv X pins σ H s)(g:Fz H a y o):s.TypeIs (.ref a) "dict" := by
 rcases g with⟨kvs,k,e,_,_⟩ | ⟨kvs,k,b,e,_,_,_⟩
 ·obtain⟨_,_,vs,_,dd⟩:=O2 I.hok e
  exact dd.typeIs
 ·obtain⟨_,_,xs,_,dd⟩:=Tz I.hok e
  exact dd.typeIs
section
variable{X:Cx}{o i e value:Expr}{pos pos' tpos:Pos}{td ty tv:TE}
end
section
variable{X:Cx}{pos:Pos}
end
structure M1(X:Cx)(o:Expr)(m:Str)(apos:Pos)(e:Expr)(cpos:Pos):Prop where
 base:attributeBase o m X.env (eval o X.env)=eval o X.env
 few:((backTo cpos (starEach [e] X.env)).all (fun x=> !x.1)&&(backToKw cpos (keywordEach [] X.env)).all (fun x=>x.1.isSome)
  && decide (([e]:List Expr).length+([]:List Keyword).length+(if([]:List Keyword).isEmpty then 0 else 1)<30))=true
 line:(apos.endLine==cpos.line)=true
 trees:backTo cpos (starEach [e] X.env)=[(false,eval e X.env)]
structure M2(X:Cx)(o:Expr)(m:Str)(apos:Pos)(e f:Expr)(cpos:Pos):Prop where
 base:attributeBase o m X.env (eval o X.env)=eval o X.env
 few:((backTo cpos (starEach [e,f] X.env)).all (fun x=> !x.1)&&(backToKw cpos (keywordEach [] X.env)).all (fun x=>x.1.isSome)
  && decide (([e,f]:List Expr).length+([]:List Keyword).length+(if([]:List Keyword).isEmpty then 0 else 1)<30))=true
 line:(apos.endLine==cpos.line)=true
 trees:backTo cpos (starEach [e,f] X.env)=[(false,eval e X.env),(false,eval f X.env)]
section
variable{X:Cx}{pins:List (Addr×Obj)}{σ:St}{H:Hp}{s:Shared}{a:Addr}{y d:V}{u r:Value}{o:Option V}{A:Around}{E:Value→Shared→Prop}
end
section
variable{X:Cx}{o e f:Expr}{apos cpos:Pos}{td ty tx:TE}
end
section
variable{X:Cx}{pins:List (Addr×Obj)}{σ:St}{H:Hp}{s:Shared}{a:Addr}{kvs:List (Key×V)}{A:Around}{E:Value→Shared→Prop}
end
section
variable{X:Cx}{pins:List (Addr×Obj)}{σ:St}{H:Hp}{s:Shared}{a:Addr}{y:V}{u:Value}{A:Around}{E:Value→Shared→Prop}
end
end L2
namespace Att
open PySem PySem.W PySem.Calls PyProof.Rows
section
variable{prog:Program}{w:World}{A:Around}{E:Value→Shared→Prop}{s:Shared}{K:Frag}
end
end Att
namespace L2
open PySem PySem.Spec PyProof.Rows
end L2
namespace L2
open PySem PySem.Spec PyProof.Rows
end L2
namespace L2
open PySem PySem.Spec PyProof.Rows
section
variable{P:Program}{w:World}{K:PySem.W.Frag}{mg:Str→Option Value}{base:Heap}
end
section
variable{X:Cx}
theorem Vt:oN X (.builtin "len") (fun xs H Q=>∃a kvs,xs=[V.ref a]∧H a=some (.dK kvs)∧Q (.int kvs.length) H):=by
 intro pins s σ H xs us Q I r h
 obtain⟨a,kvs,rfl,ha,q⟩:=h
 obtain⟨u,rfl,ru⟩:=vals1 r
 cases ru
 exact ait I (.inl ha) fun t s' I'=>⟨.int kvs.length,H,I',⟨t,rfl⟩,q⟩
end
section
variable{κ:Type}[DecidableEq κ]
end
end L2
namespace L2
open PySem PySem.Spec PyProof.Rows
section
variable{prog:Program}{w:World}{A:Around}{E:Value→Shared→Prop}{s:Shared}
end
end L2
namespace L2
open PySem PySem.Spec PyProof.Rows
section
variable{X:Cx}{pins:List (Addr×Obj)}{σ:L2.St}{H:Hp}{s:Shared}{h':Heap}
end
section
variable{X:Cx}{pins:List (Addr×Obj)}{σ:L2.St}{H:Hp}{s:Shared}{h':Heap}
end
section
variable{P:Program}{w:World}{K:PySem.W.Frag}{es:List Expr}{n:Nat}{pos:Pos}
end
end L2
namespace L2
open PySem PySem.Spec PyProof.Rows
section
variable{M:Model}{A:Around}{E:Value→Shared→Prop}{s:Shared}{env:Env}
end
section
variable{X:Cx}
end
end L2
namespace L2
open PySem PySem.Spec PyProof.Rows
structure Dc(K:PySem.W.Frag)(C:Addr)(name:Str):Prop where
 cd:∃cd,PySem.W.clsIn K C=some cd∧cd.hasDict=true∧cd.mro.isEmpty=false∧cd.mro.contains (.type "object")=true∧cd.mro.contains (.type "BaseException")=true∧(∀self,refuseLoop self "__setattr__" cd.mro=pure ())
 sa:PySem.W.findIn K (.ref C) "__setattr__" = some (some (.builtin "object.__setattr__"))
 ga:PySem.W.findIn K (.ref C) "__getattribute__" = some (some (.builtin "BaseException.__getattribute__"))
 no:PySem.W.findIn K (.ref C) name=some none
section
variable{prog:Program}{w:World}{A:Around}{E:Value→Shared→Prop}{s:Shared}{K:PySem.W.Frag}{x C:Addr}{name:Str}{v:Value}
def XAt(h:Heap)(x C:Addr)(vs:Array Value)(dx:Option Addr):Prop:=h.get? x=some {cls:= .ref C,dict:=dx,data:= .fields vs}
theorem afd{h:Heap}{vs:Array Value}(a:XAt h x C vs none):PySem.W.InstAt h x {cls:= .ref C,dict:=none,data:= .fields vs} C none:=⟨a,rfl,rfl,trivial⟩
theorem ae_{vs:Array Value}{Q:Unit→Shared→Prop}(X:K.In s.heap)(F:Dc K C name)(hx:XAt s.heap x C vs none)
  (h:∀h' dx,s.heap.objs.size=dx→XAt h' x C vs (some dx)→h'.Ns1 dx (fun y=>if y=name then some v else none)→(∀b o,b≠x→s.heap.get? b=some o→h'.get? b=some o)→Q () {s with heap:=h',toks:=s.toks+2}):
  wpAny (model prog w) A (setAttr (.ref x) name v) Q E s:=by
 have I:=afd hx
 obtain⟨cd,hc,hhd,hne,hob,_,hre⟩:=F.cd
 have SF:=PySem.F.store_object
 refine PySem.W.set_plain X I F.sa ?_
 have sub:PySem.W.Looks (model prog w) s.heap (isInstance (.ref x) (.type "object")) true:=I.type.andThen (PySem.W.looks_mroIn X (by unfold PySem.W.mroIn;rw[hc,Option.bind_some,if_neg (by rw[hne];decide),hob]))
 refine codeAny_call_builtin SF.slot.plain SF.entry (@PySem.W.check_slot (model prog w) _ _ {s with toks:=s.toks+1} "object.__setattr__" "object" "__setattr__" (.ref x) [.str name s.toks,v] [] _ SF.kind SF.split sub (SF.args (.ref x) (.str name s.toks) v) ?_)
 have hm:PySem.W.Looks (model prog w) s.heap (mroOf (.ref C)) cd.mro:=(PySem.W.looks_clsIn X hc).andThen .now
 have L3:PySem.W.Looks (model prog w) s.heap (Builtin.ObjectAttr.storeTaker? none) none:= .now
 rw[PySem.W.osa_eq,refuse_eq]
 refine wpAny_bind (wpAny_bind (PySem.W.Looks.here (s:={s with toks:=s.toks+1}) I.type (wpAny_bind (PySem.W.Looks.here (s:={s with toks:=s.toks+1}) hm ?_))))
 rw[hre]
 refine wpAny_pure (wpAny_bind (PySem.W.Looks.here (s:={s with toks:=s.toks+1}) I.type (wpAny_bind (PySem.W.Looks.here (s:={s with toks:=s.toks+1}) (PySem.W.looks_findIn X F.no) (wpAny_bind (PySem.W.Looks.here (s:={s with toks:=s.toks+1}) L3 ?_))))))
 refine wpAny_bind (wpAny_pure (wpAny_bind (wpAny_bind (wpAny_loadPart (s:={s with toks:=s.toks+1}) hx (wpAny_bind (PySem.W.Looks.here (s:={s with toks:=s.toks+1}) (PySem.W.looks_clsIn X hc) ?_))))))
 rw[hhd]
 rw[if_neg (by decide)]
 dsimp only
 rw[if_neg (by simp[typeHasDict])]
 have hxs:x≠s.heap.objs.size:=Nat.ne_of_lt (Heap.lt_size hx)
 have hx₁:(s.heap.push {cls:= .type "dict",data:= .dict #[]}).get? x=some {cls:= .ref C,dict:=none,data:= .fields vs}:=Heap.get?_push_of_some _ hx
 refine wpAny_bind (wpAny_alloc' (wpAny_bind (wpAny_update' hx₁ (wpAny_pure ?_))))
 have hgd:((s.heap.push {cls:= .type "dict",data:= .dict #[]}).update x fun o=>{cls:=o.cls,dict:=some s.heap.objs.size,data:=o.data,slots:=o.slots}).get? s.heap.objs.size=some {cls:= .type "dict",data:= .dict #[]}:=
  (Heap.get?_update_ne _ _ _ _ hxs.symm).trans (Heap.get?_push_at rfl rfl)
 have hnd:((s.heap.push {cls:= .type "dict",data:= .dict #[]}).update x fun o=>{cls:=o.cls,dict:=some s.heap.objs.size,data:=o.data,slots:=o.slots}).Ns s.heap.objs.size (fun _=>none):=
  ⟨_,#[],_,hgd,rfl,fun e he=>absurd he (by simp),fun _=>rfl⟩
 show wpAny _ _ (Builtin.ObjectAttr.storeInDict s.heap.objs.size (.str name s.toks) name v) _ _ _
 unfold Builtin.ObjectAttr.storeInDict Builtin.ObjectAttr.newKeyGuard
 refine wpAny_bind (wpAny_pure (wpAny_bind (wpAny_nsSet1 (Heap.Ns1.of_empty hnd) fun h' hn' hs=> ?_)))
 obtain⟨oD,esD,epD,hoD,hdD,hcD⟩:=hn'.count (Within.cons name v Within.nil)
 refine wpAny_bind (wpAny_lookBehind hoD (by rw[hdD];exact pastItsLine_dict (Nat.le_trans hcD (by rw[List.length_cons,List.length_nil,sizeLine_eq];omega))) ?_)
 wp_walk
 have hx':h'.get? x=some {cls:= .ref C,dict:=some s.heap.objs.size,data:= .fields vs}:=(hs.2 x hxs).trans (Heap.get?_update_self _ hx₁ rfl)
 refine h h' _ rfl hx' hn' fun b ob hb e=> ?_
 exact(hs.2 b (Nat.ne_of_lt (Heap.lt_size e))).trans ((Heap.get?_update_ne _ _ _ _ hb).trans (Heap.get?_push_of_some _ e))
theorem aaz:builtinKind "BaseException.__getattribute__" = some .slot:=by decide +kernel
theorem Yd:splitId "BaseException.__getattribute__" = some ("BaseException","__getattribute__"):=by decide +kernel
theorem aaA(self:Value):bindSpecial (.builtin "BaseException.__getattribute__") self=pure (.builtin "BaseException.__getattribute__",[self]):=by
 have:=(PySem.F.excAttr_ValueError).ga.bind self
 exact this
theorem alO{vs:Array Value}{dx:Addr}{mA:Str→Option Value}{expr:Bool}{Q:Value→Shared→Prop}(X:K.In s.heap)(F:Dc K C name)(hgn:PySem.W.findIn K (.ref C) "__getattr__" = some none)(hx:XAt s.heap x C vs (some dx))(hn:s.heap.Ns1 dx mA)(hv:mA name=some v)(hh:PySem.W.handedIn v=true)
  (h:Q v {s with toks:=s.toks+1}):wpAny (model prog w) A (getAttr (.ref x) name expr) Q E s:=by
 obtain⟨od,hod,hl⟩:=Ji hn
 have I:PySem.W.InstAt s.heap x {cls:= .ref C,dict:=some dx,data:= .fields vs} C (some od):=⟨hx,rfl,rfl,hod⟩
 obtain⟨cd,hc,hhd,hne,_,hbe,_⟩:=F.cd
 have hf:PySem.W.findObj K C (some od) name=some (.value v):=by
  unfold PySem.W.findObj PySem.W.ownOf
  rw[hc,Option.bind_some,F.no]
  simp only[Option.bind_some]
  rw[if_pos hhd,hl,hv]
  rfl
 have L0:=I.type (M:=model prog w)
 have L1:=PySem.W.looks_findIn (M:=model prog w) X F.ga
 have L2:=PySem.W.looks_find (M:=model prog w) X I hf
 have L3:=PySem.W.looks_findIn (M:=model prog w) X hgn
 have sub:PySem.W.Looks (model prog w) s.heap (isInstance (.ref x) (.type "BaseException")) true:=I.type.andThen (PySem.W.looks_mroIn X (by unfold PySem.W.mroIn;rw[hc,Option.bind_some,if_neg (by rw[hne];decide),hbe]))
 obtain⟨hh',g,d,t,os⟩:=s
 unfold getAttr getAttrBy
 refine wpAny_bind (wpAny_mkText (wpAny_holding (wpAny_bind (L0.at (wpAny_bind (L1.at ?_))))))
 dsimp only
 rw[if_neg (by rw[show(Value.builtin "BaseException.__getattribute__" == Value.builtin "object.__getattribute__")=false from by decide +kernel,Bool.and_false];decide)]
 unfold getAttrByItsOwn hookBefore
 rw[if_pos (show onTheHeap (Value.ref C)=true from rfl)]
 refine wpAny_bind (L3.at (wpAny_bind ?_))
 have f3:=aaA (.ref x)
 have hx0:(expr&&onTheHeap (Value.builtin "BaseException.__getattribute__"))=false:=by cases expr<;>rfl
 repeat (any_goals (first | assumption | wp_step))
 refine codeAny_call_builtin PySem.F.excAttr_ValueError.ga.plain PySem.F.entry_bexc_ga (@PySem.W.check_slot (model prog w) _ _ ⟨hh',g,d,t+1,os⟩ "BaseException.__getattribute__" "BaseException" "__getattribute__" (.ref x) [.str name t] [] _ aaz Yd sub (PySem.F.args_bexc_ga _ _) ?_)
 unfold Builtin.«object.__getattribute__»
 refine wpAny_bind (wpAny_pure (wpAny_bind (wpAny_pure (wpAny_bind (L0.at (wpAny_bind (L2.at ?_)))))))
 refine wpAny_pure ?_
 dsimp only
 rw[PySem.W.handedOut_of hh]
 exact wpAny_pure h
end
end L2
namespace L2
open PySem
section
variable{prog:Program}{w:World}{A:Around}{E:Value→Shared→Prop}{h:Heap}{g:Array GenState}{d:Drawn}{t:Nat}{os:OsState}
variable{nm q:Str}{C N:Addr}{bs bm bmB:List Value}{hdct:Bool}{sn:List Str}{sub:List Value}{ab:Bool}{col:Option Bool}{dd:Option Addr}{k0 k1 k2 k3 k5:Option Value}{B newId initId:String}
structure Ph(B:String)(bm:List Value):Prop where
 has:bm.contains (.type B)=true
 noA:bm.contains (.type "AttributeError")=false
 noN:bm.contains (.type "NameError")=false
theorem Nh{M:Model}(F:ExcBaseFacts B newId initId bmB)(T:Ph B bm){rest:List Value}{Q:Unit→Shared→Prop}(hC:h.get? C=some (excClassObj nm q C N bs bm hdct sn sub ab col dd k0 k1 k2 k3 k5 newId))
  (hq:Q () ⟨h,g,d,t,os⟩):wpAny M A (checkBuiltinCall newId ⟨.ref C::rest,[]⟩) Q E ⟨h,g,d,t,os⟩:=by
 have hcont:(Value.ref C::bm).contains (.type B)=true:=by rw[List.contains_cons,T.has,Bool.or_true]
 have hstar:=F.noStar
 simp only[checkBuiltinCall,F.newKind,F.newSplit,F.newRow]
 repeat (first | refine wpAny_loadPart_at hC ?_ | (refine wpAny_isSubtype_exc hC ?_;rw[hcont]) | refine wpAny_staticBase_exc hC ?_ | refine wpAny_madeBy_exc hC ?_ | simp only[bne_self_eq_false,Bool.false_eq_true,if_false] | wp_step)
 exact hq
theorem afc{R:Result→Shared→Prop}(F:ExcBaseFacts B newId initId bmB)(T:Ph B bm){rest:List Value}(hC:h.get? C=some (excClassObj nm q C N bs bm hdct sn sub ab col dd k0 k1 k2 k3 k5 newId))
  (hq:R (.ok (.ret (.ref (h.objs.size+1)))) ⟨(h.push {cls:= .type "tuple",data:= .seq rest.toArray}).push
   {cls:= .ref C,data:= .fields #[.ref h.objs.size,.none,.none,.none,.bool false,.none]},g,d,t,os⟩) (hrest:rest.length≤sizeLine):
  codeAny (model prog w) A (.builtin newId ⟨.ref C::rest,[]⟩) R ⟨h,g,d,t,os⟩:=by
 have hends:=F.ends
 have hcB:(Value.ref C::bm).contains (.type B)=true:=by rw[List.contains_cons,T.has,Bool.or_true]
 have hcA:(Value.ref C::bm).contains (.type "AttributeError")=false:=by rw[List.contains_cons,T.noA];rfl
 have hcN:(Value.ref C::bm).contains (.type "NameError")=false:=by rw[List.contains_cons,T.noN];rfl
 refine codeAny_builtinAt F.entry ?_
 unfold Builtin.«BaseException.__new__»
 refine wpAt_bind ?_
 show wpAt _ _ _ (stack >>= _) _ _ _
 refine wpAt_bind (wpAt_stack fun p below=>wpAt_of_wpAny ?_)
 wp_walk
 refine wpAt_of_wpAny ?_
 rw[F.owner]
 repeat (first | with_reducible refine wpAny_madeHere_exc F.canon hC ?_ | with_reducible refine wpAny_loadPart_at hC ?_ | (with_reducible refine wpAny_isSubtype_exc hC ?_;first | rw[hcB] | rw[hcA] | rw[hcN]) | wp_step)
 show R _ _
 rw[Heap.size_push]
 exact hq
theorem Nf(F:ExcBaseFacts B newId initId bmB)(T:Ph B bm){rest:List Value}{fI:Addr}{oI:Obj}{Q:Fin→Shared→Prop}
  (hC:h.get? C=some (excClassObj nm q C N bs bm hdct sn sub ab col dd k0 k1 k2 k3 k5 newId)) (hi:PySem.W.Looks (model prog w) h (typeLookup (.ref C) "__init__") (some (.ref fI)))
  (hfI:h.get? fI=some oI) (hfc:oI.cls= .type "function")
  (hq:∀h' e,h.objs.size≤e→Heap.MadeExcOf h h' e (.ref C) rest→
   wpAny (model prog w) A (call (.ref fI) (.ref e::rest)) (fun r s'=>r= .none∧Q (.done (.ret (.ref e))) s') E ⟨h',g,d,t,os⟩) (hrest:rest.length≤sizeLine):
  wpAny (model prog w) A (Builtin.«type.__call__» ⟨.ref C::rest,[]⟩) Q E ⟨h,g,d,t,os⟩:=by
 repeat (first | with_reducible refine wpAny_loadPart_at hC ?_ | with_reducible refine wpAny_madeBy_exc hC ?_ | wp_step)
 refine codeAny_call_builtin_code (Code.quiet_builtin _ F.quiet) (Nh F T hC ?_)
 refine afc F T hC ?_ hrest
 show wpAny _ _ _ _ _ _
 have hC₁:=Heap.get?_push_of_some {cls:= .ref C,data:= .fields #[.ref h.objs.size,.none,.none,.none,.bool false,.none]}
  (Heap.get?_push_of_some {cls:= .type "tuple",data:= .seq rest.toArray} hC)
 have hfI₁:=Heap.get?_push_of_some {cls:= .ref C,data:= .fields #[.ref h.objs.size,.none,.none,.none,.bool false,.none]}
  (Heap.get?_push_of_some {cls:= .type "tuple",data:= .seq rest.toArray} hfI)
 have hget:((h.push {cls:= .type "tuple",data:= .seq rest.toArray}).push
   {cls:= .ref C,data:= .fields #[.ref h.objs.size,.none,.none,.none,.bool false,.none]}).get? (h.objs.size+1)=some
   {cls:= .ref C,data:= .fields #[.ref h.objs.size,.none,.none,.none,.bool false,.none]}:=by heap_get
 have hcC:(Value.ref C::bm).contains (.ref C)=true:=by simp
 unfold isInstance
 repeat (first | with_reducible refine wpAny_loadPart_at hget ?_ | (with_reducible refine wpAny_isSubtype_exc hC₁ ?_;rw[hcC]) | wp_step)
 show wpAny _ _ (typeLookup (.ref C) _) _ _ _
 refine hi _ _ _ _ (fun b o hb=>Heap.get?_push_of_some _ (Heap.get?_push_of_some _ hb)) ?_
 refine wpAny_holding (wpAny_bind ?_)
 unfold bindSpecial
 refine wpAny_bind (wpAny_typeOf (T:= "function") ⟨_,hfI₁,hfc⟩ ?_)
 rw[if_pos (by decide)]
 refine wpAny_pure (wpAny_bind (wpAny_mono (hq _ (h.objs.size+1) (Nat.le_succ _) ⟨fun b o hb=>Heap.get?_push_of_some _ (Heap.get?_push_of_some _ hb),Heap.get?_none_of_le (Nat.le_succ _),h.objs.size,hget,Heap.get?_none_of_le (Nat.le_refl _),?_⟩) (fun r s' hr=> ?_) fun _ _ x=>x))
 ·exact Heap.get?_push_of_some _ (Heap.get?_push_at rfl rfl)
 ·obtain⟨rfl,hQ⟩:=hr
  wp_walk
  exact hQ
theorem x_call(F:ExcBaseFacts B newId initId bmB)(T:Ph B bm){rest:List Value}{fI:Addr}{oI:Obj}{Q:Value→Shared→Prop}
  (hC:h.get? C=some (excClassObj nm q C N bs bm hdct sn sub ab col dd k0 k1 k2 k3 k5 newId)) (hi:PySem.W.Looks (model prog w) h (typeLookup (.ref C) "__init__") (some (.ref fI)))
  (hfI:h.get? fI=some oI) (hfc:oI.cls= .type "function")
  (hq:∀h' e,h.objs.size≤e→Heap.MadeExcOf h h' e (.ref C) rest→
   wpAny (model prog w) (A.under (.builtin "type.__call__" ⟨.ref C::rest,[]⟩)) (call (.ref fI) (.ref e::rest)) (fun r s'=>r= .none∧Q (.ref e) s') E ⟨h',g,d,t,os⟩) (hrest:rest.length≤sizeLine):
  wpAny (model prog w) A (call (.ref C) rest) Q E ⟨h,g,d,t,os⟩:=by
 have f1:=tc_lookup
 have f2:=tc_bind (.ref C)
 have hT:(⟨h,g,d,t,os⟩:Shared).TypeIs (.ref C) "type" := ⟨_,hC,rfl⟩
 refine wpAny_call (codeAny_of_tree ?_)
 show wpAny _ _ (callAny (.ref C) _) _ _ _
 repeat (any_goals (first | assumption | with_reducible refine wpAny_loadPart_at hC ?_ | wp_step))
 refine⟨rfl,?_⟩
 refine codeAny_call_builtin_at (Code.quiet_builtin _ (by decide +kernel)) entry_typeCall (wpAny_check_type_call_sub hC (Nf (hrest:=hrest) F T hC hi hfI hfc fun h' e hs hm=> ?_))
 exact hq h' e hs hm
end
end L2
namespace L2
open PySem
structure Exc(h:Heap)(e C:Addr)(dx T:Option Addr)(fl:Value):Prop where
 at_:∃vs,h.get? e=some {cls:= .ref C,dict:=dx,data:= .fields vs}∧(match T with
  | none=>vs[1]? = some .none
  | some T=>vs[1]? = some (.ref T)∧T≠e∧∃oT ts,h.get? T=some oT∧oT.data= .fields ts∧ts[3]? = some fl)
def qi(fs:List Addr)(e:Addr)(T:Option Addr)(h h':Heap):Prop:=
 (h.objs.size≤h'.objs.size∧∀b o,h.get? b=some o→∃o',h'.get? b=some o')∧(∀b o,b≠e→some b≠T→b∉fs→h.get? b=some o→h'.get? b=some o)∧(∀b o,b≠e→some b≠T→h.get? b=some o→∃sl,h'.get? b=some {o with slots:=sl})
theorem qi.refl{fs:List Addr}{e:Addr}{T:Option Addr}{h:Heap}:qi fs e T h h:=⟨⟨Nat.le_refl _,fun b o q=>⟨o,q⟩⟩,fun _ _ _ _ _ x=>x,fun _ o _ _ x=>⟨o.slots,x⟩⟩
theorem qi.trans{fs:List Addr}{e:Addr}{T T':Option Addr}{h h1 h2:Heap}(x:qi fs e T h h1)(y:qi fs e T' h1 h2)(hT:T'=T∨∃t,T'=some t∧h.objs.size≤t):qi fs e T h h2:=by
 have ne:∀b o,some b≠T→h.get? b=some o→some b≠T':=fun b o n q z=>by
  rcases hT with r | ⟨t,r,q2⟩
  ·exact n (z.trans r)
  ·rw[r]at z;cases z
   exact absurd (Nat.lt_of_lt_of_le (Heap.lt_size q) q2) (Nat.lt_irrefl _)
 refine⟨⟨Nat.le_trans x.1.1 y.1.1,fun b o q=>let⟨o1,q1⟩:=x.1.2 b o q;y.1.2 b o1 q1⟩,fun b o n1 n2 n3 q=>y.2.1 b o n1 (ne b o n2 q) n3 (x.2.1 b o n1 n2 n3 q),fun b o n1 n2 q=> ?_⟩
 obtain⟨sl,e1⟩:=x.2.2 b o n1 n2 q
 obtain⟨sl2,e2⟩:=y.2.2 b _ n1 (ne b o n2 q) e1
 exact⟨sl2,e2⟩
section
variable{M:Model}{A:Around}{E:Value→Shared→Prop}{s:Shared}
theorem RC{base:Heap}{env:Env}{outer:List Env}{L e C:Addr}{dx:Option Addr}{vs:Array Value}{head:Value}{hadNext:Bool}{Q:Unit→Shared→Prop}
  (hfr:A.frames=some (env::outer)) (hl:s.heap.FunFrames base (env::outer)) (hf:env.frame=some L)
  (he:s.heap.get? e=some {cls:= .ref C,dict:=dx,data:= .fields vs}) (hsz:1<vs.size)
  (h:∀h' T,s.heap.objs.size≤T→qi ((env::outer).filterMap (·.frame)) e (some T) s.heap h'→Exc h' e C dx (some T) (rawInt L)→Q () {s with heap:=h'}):
  wpAny M A (do let a ←frameOf env;let pl ←entryPlaceOf L hadNext;let b ←EntryCells.newEntry head a .none (rawInt L) .none pl;setField (.ref e) 1 b) Q E s:=by
 have hene:e∉(env::outer).filterMap (·.frame):=fun hm=>by
  obtain⟨_,o,ho,hnf⟩:=hl.mem hm
  rw[he]at ho;injection ho with ho;subst ho;exact hnf vs rfl
 refine wpAny_bind (wpAny_frameOf_fun hfr hl hf fun h₁ hs₁=> ?_)
 refine wpAny_bind (wpAny_entryPlaceOf fun pl hpl=> ?_)
 unfold EntryCells.newEntry newFields
 refine wpAny_bind (wpAny_newObj_type ?_ (hpl.sizeOk5 _ _ _ _ _))
 have he₁:h₁.get? e=some {cls:= .ref C,dict:=dx,data:= .fields vs}:=(hs₁.2.1 e hene).trans he
 have he₂:=Heap.get?_push_of_some (h:=h₁) {cls:= .type "traceback",dict:=none,data:= .fields ([head,.ref L,.none,rawInt L,.none]++(if pl.isEmpty then List.replicate 6 Value.none else pl)).toArray} he₁
 refine wpAny_setField he₂ rfl hsz (h _ h₁.objs.size (by rw[hs₁.1];exact Nat.le_refl _) ?_ ?_)
 ·refine⟨⟨?_,fun b o q=> ?_⟩,fun b o n1 n2 n3 q=> ?_,fun b o n1 n2 q=> ?_⟩
  ·rw[Heap.size_after_update,Heap.size_push,hs₁.1];omega
  ·by_cases n1:b=e
   ·subst n1
    exact⟨_,Heap.get?_update_self _ he₂ (Obj.isFreed_of_fields (Obj.data_mapFields rfl _))⟩
   ·obtain⟨sl,q1⟩:=hs₁.2.2 b o q
    exact⟨_,(Heap.get?_update_other _ _ (Ne.symm n1)).trans (Heap.get?_push_of_some _ q1)⟩
  ·rw[Heap.get?_update_other _ _ (Ne.symm n1)]
   exact Heap.get?_push_of_some _ ((hs₁.2.1 b n3).trans q)
  ·obtain⟨sl,q1⟩:=hs₁.2.2 b o q
   refine⟨sl,?_⟩
   rw[Heap.get?_update_other _ _ (Ne.symm n1)]
   exact Heap.get?_push_of_some _ q1
 ·have hTe:h₁.objs.size≠e:=Nat.ne_of_gt (Heap.lt_size he₁)
  have hd₃:=Obj.data_mapFields (o:={cls:= .ref C,dict:=dx,data:= .fields vs}) rfl (·.setIfInBounds 1 (Value.ref h₁.objs.size))
  have he₃:=Heap.get?_update_self (Obj.mapFields (·.setIfInBounds 1 (Value.ref h₁.objs.size))) he₂ (Obj.isFreed_of_fields hd₃)
  have hT₃:=(Heap.get?_update_other (h₁.push {cls:= .type "traceback",dict:=none,data:= .fields ([head,.ref L,.none,rawInt L,.none]++(if pl.isEmpty then List.replicate 6 Value.none else pl)).toArray})
   (Obj.mapFields (·.setIfInBounds 1 (Value.ref h₁.objs.size))) (Ne.symm hTe)).trans (Heap.get?_push_size h₁ rfl)
  refine⟨⟨_,he₃,by simp[hsz],hTe,_,_,hT₃,rfl,by first | (simp;done) | (rcases hpl with rfl | ⟨_,_,_,_,_,_,_,rfl⟩<;>simp)⟩⟩
theorem qi.upd{fs:List Addr}{e T:Addr}{h:Heap}{f:Obj→Obj}{oT:Obj}(ho:h.get? T=some oT)(hfr:(f oT).isFreed=false):qi fs e (some T) h (h.update T f):=by
 have k:∀b o,some b≠some T→h.get? b=some o→(h.update T f).get? b=some o:=fun b o n q=>by
  rw[Heap.get?_update_other _ _ (fun z=>n (by rw[z]))];exact q
 refine⟨⟨by rw[Heap.size_after_update];exact Nat.le_refl _,fun b o q=> ?_⟩,fun b o _ n2 _ q=>k b o n2 q,fun b o _ n2 q=>⟨o.slots,k b o n2 q⟩⟩
 by_cases z:b=T
 ·subst z;exact⟨_,Heap.get?_update_self _ ho hfr⟩
 ·exact⟨o,k b o (fun y=>z (Option.some.inj y)) q⟩
theorem wA{e C:Addr}{dx T:Option Addr}{fl:Value}{fr:Option Addr}{Q:Unit→Shared→Prop}(x:Exc s.heap e C dx T fl)
  (h:∀h',qi [] e T s.heap h'→Exc h' e C dx T (fr.elim .none fun f=>rawInt f)→Q () {s with heap:=h'}):wpAny M A (setFlight (.ref e) fr) Q E s:=by
 obtain⟨vs,he,hT⟩:=x.at_
 unfold setFlight
 cases T with
 | none=>
  refine wpAny_bind (wpAny_field he rfl hT ?_)
  rw[if_neg (by decide)]
  exact wpAny_pure (h s.heap .refl ⟨vs,he,hT⟩)
 | some T=>
  obtain⟨h1,hne,oT,ts,hoT,hd,h3⟩:=hT
  refine wpAny_bind (wpAny_field he rfl h1 ?_)
  rw[if_pos (show(Value.ref T != Value.none)=true from by simp)]
  have hsz3:3<ts.size:=(Array.getElem?_eq_some_iff.mp h3).1
  refine wpAny_setField hoT hd hsz3 (h _ (.upd hoT (Obj.isFreed_of_fields (Obj.data_mapFields hd _))) ⟨vs,?_,h1,hne,_,_,Heap.get?_update_self _ hoT (Obj.isFreed_of_fields (Obj.data_mapFields hd _)),Obj.data_mapFields hd _,by simp[hsz3]⟩)
  rw[Heap.get?_update_other _ _ hne];exact he
theorem J8{base:Heap}{env:Env}{outer:List Env}{L e C:Addr}{dx T:Option Addr}{fl:Value}{Q:Unit→Shared→Prop}
  (hfr:A.frames=some (env::outer)) (hl:s.heap.FunFrames base (env::outer)) (hf:env.frame=some L) (x:Exc s.heap e C dx T fl) (hfl:fl=fl∨fl=rawInt L)
  (h:∀h' T',(T=some T'∨s.heap.objs.size≤T')→qi ((env::outer).filterMap (·.frame)) e T s.heap h'→Exc h' e C dx (some T') (rawInt L)→Q () {s with heap:=h'}):wpAny M A (noteFrame (.ref e) env) Q E s:=by
 obtain⟨vs,he,hT⟩:=x.at_
 unfold noteFrame
 simp only[hf]
 cases T with
 | none=>
  refine wpAny_bind (wpAny_field he rfl hT ?_)
  rw[if_neg (by decide)]
  refine RC hfr hl hf he (Array.getElem?_eq_some_iff.mp hT).1 fun h' T hs k x'=>h h' T (.inr hs) ?_ x'
  exact⟨k.1,fun b o n1 _ n3 q=>k.2.1 b o n1 (fun z=>by cases z;exact absurd (Nat.lt_of_lt_of_le (Heap.lt_size q) hs) (Nat.lt_irrefl _)) n3 q,fun b o n1 _ q=>k.2.2 b o n1 (fun z=>by cases z;exact absurd (Nat.lt_of_lt_of_le (Heap.lt_size q) hs) (Nat.lt_irrefl _)) q⟩
 | some T=>
  obtain⟨h1,hne,oT,ts,hoT,hd,h3⟩:=hT
  refine wpAny_bind (wpAny_field he rfl h1 ?_)
  rw[if_pos (show(Value.ref T != Value.none)=true from by simp)]
  refine wpAny_bind (wpAny_field hoT hd h3 ?_)
  by_cases hq:fl=rawInt L
  ·subst hq
   rw[if_pos (show(rawInt L==rawInt L)=true from by simp)]
   exact wpAny_pure (h s.heap T (.inl rfl) .refl x)
  ·rw[if_neg (show ¬((fl==rawInt L)=true)from by simpa using hq)]
   have hsz3:3<ts.size:=(Array.getElem?_eq_some_iff.mp h3).1
   refine wpAny_bind (wpAny_setField hoT hd hsz3 ?_)
   have other:∀b,b≠T→(s.heap.update T (Obj.mapFields (·.setIfInBounds 3 Value.none))).get? b=s.heap.get? b:=fun b hb=>Heap.get?_update_other _ _ (Ne.symm hb)
   have noRecord:∀b o,s.heap.get? b=some o→(∀vs,o.data≠ .fields vs)→b≠T:=fun b o hb hnf q=>by
    rw[q,hoT]at hb;injection hb with hb;subst hb;exact hnf ts hd
   refine RC hfr (hl.of_keeps fun b o hb hnf=>⟨o,(other b (noRecord b o hb hnf)).trans hb,rfl⟩) hf ((other e (Ne.symm hne)).trans he) (Array.getElem?_eq_some_iff.mp h1).1 fun h' T' hs k x'=> ?_
   rw[Heap.size_after_update]at hs
   exact h h' T' (.inr hs) ((qi.upd hoT (Obj.isFreed_of_fields (Obj.data_mapFields hd _))).trans k (.inr ⟨T',rfl,hs⟩)) x'
theorem YZ{base:Heap}{env:Env}{outer:List Env}{L e C:Addr}{dx T:Option Addr}{fl:Value}{Q:Unit→Shared→Prop}
  (hfr:A.frames=some (env::outer)) (hl:s.heap.FunFrames base (env::outer)) (hf:env.frame=some L) (x:Exc s.heap e C dx T fl) (hfl:fl=fl∨fl=rawInt L)
  (h:∀h' T',(T=some T'∨s.heap.objs.size≤T')→qi ((env::outer).filterMap (·.frame)) e T s.heap h'→Exc h' e C dx (some T') .none→Q () {s with heap:=h'}):wpAny M A (leaving env (.ref e)) Q E s:=by
 unfold leaving
 refine wpAny_bind (J8 hfr hl hf x hfl fun h' T' hT k x'=> ?_)
 refine wA (fr:=none) (s:={s with heap:=h'}) x' fun h2 k2 x2=>h h2 T' hT (k.trans (T':=some T') ⟨k2.1,fun b o n1 n2 _ q=>k2.2.1 b o n1 n2 (by simp) q,k2.2.2⟩ ?_) x2
 rcases hT with r | r
 ·exact .inl r.symm
 ·exact .inr ⟨T',rfl,r⟩
end
end L2
namespace L2
open PySem PySem.Spec PyProof.Rows
abbrev xO(a C:Addr)(dx:Option Addr):HO:= .ext fun h=>Exc h a C dx none .none
theorem aa8{P:Program}{w:World}{H:Hp}{h:Heap}{a C:Addr}{dx:Option Addr}(x:Exc h a C dx none .none):gP P w H h a (xO a C dx):=by
 refine⟨x,?_,fun h1 h2 y k=> ?_⟩
 ·obtain⟨vs,e,_⟩:=x.at_;exact⟨_,e⟩
 ·obtain⟨vs,e,q⟩:=y.at_;exact⟨vs,k _ e,q⟩
theorem aa9{P:Program}{w:World}{H:Hp}{h:Heap}{a C:Addr}{dx:Option Addr}(x:gP P w H h a (xO a C dx)):Exc h a C dx none .none:=x.1
section
variable{X:Cx}{pins:List (Addr×Obj)}{σ:St}{H:Hp}{s:Shared}{a C:Addr}{f:Str}{A:Around}{E:Value→Shared→Prop}
theorem M_{y:V}{u:Value}{Q:Unit→Shared→Prop}(I:Inv X pins σ H s)(e:H a=some (xO a C none))(F:Dc X.K C f)(ry:RelV y u)
  (h:∀dx s',H dx=none→dx≠a→Inv X pins σ (upd (upd H dx (.xd [(f,y)])) a (xO a C (some dx))) s'→Q () s'):wpAny (model X.prog X.w) A (setAttr (.ref a) f u) Q E s:=by
 obtain⟨vs,hx,h1⟩:=(aa9 (I.hok a _ e)).at_
 refine ae_ I.ye F hx fun h' dx ed hx' hn kp=> ?_
 subst ed
 have hd0:H s.heap.objs.size=none:=I.hok.fresh (Nat.le_refl _)
 have nea:s.heap.objs.size≠a:=Nat.ne_of_gt (I.hok.lt e)
 refine h _ _ hd0 nea (I.un ⟨fun b o q n _ _=>kp b o (fun z=>by subst z;rw[e]at n;cases n) q,fun b o q n _ _=>⟨o.slots,kp b o (fun z=>by subst z;rw[e]at n;cases n) q⟩,fun b o q n _=> ?_,fun b o q _=> ?_,fun b xs q=> ?_,fun b o xs q=> ?_,fun b ps q=>⟨#[],?_⟩⟩ fun b o q=> ?_)
 ·have n1:b≠a:=fun z=>by subst z;rw[e]at n;cases n
  rw[bw n1,bw (Nat.ne_of_lt (Heap.lt_size q))];exact n
 ·by_cases z:b=a
  ·subst z;exact⟨_,hx'⟩
  ·exact⟨o,kp b o z q⟩
 ·have n1:b≠a:=fun z=>by subst z;rw[e]at q;cases q
  have n2:b≠s.heap.objs.size:=fun z=>by subst z;rw[hd0]at q;cases q
  rw[bw n1,bw n2];exact q
 ·have n1:b≠a:=fun z=>by subst z;rw[e]at q;cases q
  have n2:b≠s.heap.objs.size:=fun z=>by subst z;rw[hd0]at q;cases q
  rw[bw n1,bw n2];exact q
 ·have n1:b≠a:=fun z=>by subst z;rw[e]at q;cases q
  have n2:b≠s.heap.objs.size:=fun z=>by subst z;rw[hd0]at q;cases q
  rw[bw n1,bw n2,q];simp
 ·by_cases z:b=a
  ·subst z
   rw[dm]at q;cases q
   exact aa8 ⟨vs,hx',h1⟩
  ·rw[bw z]at q
   by_cases z2:b=s.heap.objs.size
   ·subst z2
    rw[dm]at q;cases q
    refine⟨_,hn,fun g=> ?_⟩
    by_cases zg:g=f
    ·subst zg;simp[List.lookup];exact ry
    ·have:(g==f)=false:=by simpa using zg
     simp[List.lookup,this,zg];exact True.intro
   ·rw[bw z2]at q
    refine(I.hok b o q).stay (fun b' u' hb q'=> ?_) (fun b' q'=> ?_) fun b' xs q'=> ?_
    ·refine kp b' u' (fun z'=> ?_) q'
     rcases hb with r | r
     ·exact z (r▸z')
     ·rw[z',e]at r;cases r
    ·have n1:b'≠a:=fun z=>by subst z;rw[e]at q';cases q'
     have n2:b'≠s.heap.objs.size:=fun z=>by subst z;rw[hd0]at q';cases q'
     rw[bw n1,bw n2];exact q'
    ·have n1:b'≠a:=fun z=>by subst z;rw[e]at q';cases q'
     have n2:b'≠s.heap.objs.size:=fun z=>by subst z;rw[hd0]at q';cases q'
     rw[bw n1,bw n2];exact q'
end
end L2
namespace L2
open PySem PySem.Spec PyProof.Rows
section
variable{X:Cx}{o value:Expr}{ta tv:TE}{f:Str}{pos pos':Pos}
def abg(K:PySem.W.Frag)(ta tv:TE)(f:Str):TS:=fun D σ H=>tv σ H fun y H1=>ta σ H1 fun x H2=>∃a C,x= .ref a∧H2 a=some (xO a C none)∧Dc K C f∧
 ∀dx,H2 dx=none→dx≠a→D.nx σ (upd (upd H2 dx (.xd [(f,y)])) a (xO a C (some dx)))
theorem ZV(ha:PE X o ta)(hv:PE X value tv)(hs:swapsWith value (some (.Attribute o f pos')) pos.line X.env=pure false):PS X (.Assign [.Attribute o f pos'] value pos) (abg X.K ta tv f):=by
 intro pins s σ H D I h
 refine plainObj_wpAny_Assign_Attribute (iw (hv pins s σ H _ I h) fun u s1 ⟨y,H1,I1,ry,q⟩=>iw (ha pins s1 σ H1 _ I1 q) fun ov s2 ⟨x,H2,I2,rx,a,C,ex,ea,F,q2⟩=> ?_) hs
 subst ex
 obtain rfl:ov=Value.ref a:=rx
 exact M_ I2 ea F ry fun dx s3 hd ne I3=>⟨σ,_,I3,q2 dx hd ne⟩
end
def z9(K:PySem.W.Frag)(f:Str):Sp:=fun vs H Q _=>∃a C y,vs=[.ref a,y]∧H a=some (xO a C none)∧Dc K C f∧∀dx,H dx=none→dx≠a→Q .non (upd (upd H dx (.xd [(f,y)])) a (xO a C (some dx)))
section
variable{P:Program}{w:World}{K:PySem.W.Frag}{mg:Str→Option Value}{base:Heap}
theorem Yh{x qual g:Str}{st:Stmt}{dV:Value}{f:Addr}{fd:FuncData}{N ps:List Str}{k:Nat}(F:bU K x qual st dV f fd)(S:bf N ps (au st))(hps:ps.length=2)
  (hbody:∀(cdv:Value) (A:Around) (outer:List Env) (s:Shared) (H:Hp) (E:XK),Fv (yU Rx P w K mg base N qual (au st) f cdv A outer s H E).Xp (aG st) (abg K (Za 0) (Za 1) g)):
  bx P w K mg base Rx (k+1) f fd ps (z9 K g):=by
 refine F.ok S (fun vs H Q E ⟨a,C,y,e,_⟩=>by rw[e,hps];rfl) fun cdv A outer s H vs Q E hr ⟨a,C,y,e,hH,hF,q⟩=> ?_
 subst e
 refine⟨_,hbody cdv A outer s H E,y,rfl,.ref a,rfl,a,C,rfl,hH,hF,fun dx hd ne=> .inl (q dx hd ne)⟩
end
structure XMk(K:PySem.W.Frag)(C f:Addr):Prop where
 obj:∃(nm q:Str) (N:Addr) (bs bm:List Value) (hdct:Bool) (sn:List Str) (sub:List Value) (ab:Bool) (col:Option Bool) (dd:Option Addr) (k0 k1 k2 k3 k5:Option Value),
  K.lookup C=some (excClassObj nm q C N bs bm hdct sn sub ab col dd k0 k1 k2 k3 k5 "ValueError.__new__")∧Ph "ValueError" bm∧bm.contains (.type "BaseException")=true
 init:PySem.W.findIn K (.ref C) "__init__" = some (some (.ref f))
 fn:PySem.W.isFn K (.ref f)=true
 kp:PySem.W.keepIn K (.ref C)=true
section
variable{X:Cx}{k:Nat}{f C:Addr}{fd:FuncData}{ps:List Str}{g:Str}
theorem Inv.afa{pins:List (Addr×Obj)}{σ:St}{H:Hp}{s:Shared}{h':Heap}{e:Addr}{us:List Value}(I:Inv X pins σ H s)(hs:s.heap.objs.size≤e)(m:Heap.MadeExcOf s.heap h' e (.ref C) us):
  Inv X pins σ (upd H e (xO e C none)) {s with heap:=h'}:=by
 obtain⟨t,he,_,_⟩:=m.there
 exact I.laid (t':=s.toks) (fun b u q=>m.keeps b u q) hs (aa8 ⟨_,he,rfl⟩)
theorem Uv{pins:List (Addr×Obj)}{σ:St}{H:Hp}{s:Shared}{Q:VK}{u:Value}{y:V}(M:XMk X.K C f)(hX:Dc X.K C g)(F:bx X.prog X.w X.K X.mg X.base Rx k f fd ps (z9 X.K g))(hr:lq (k+1) X.A)(hb:Binds X.K fd ps [])
  (I:Inv X pins σ H s) (r:RelV y u)
  (h:∀x dx,H x=none→H dx=none→dx≠x→s.heap.objs.size≤x→Q (.ref x) (upd (upd (upd H x (xO x C none)) dx (.xd [(g,y)])) x (xO x C (some dx)))):
  wpAny (model X.prog X.w) X.A (call (.ref C) [u]) (EP X pins σ Q) X.xe s:=by
 obtain⟨nm,q,N,bs,bm,hdct,sn,sub,ab,col,dd,k0,k1,k2,k3,k5,hC,hT,hB⟩:=M.obj
 have hfn:=beq_iff_eq.mp M.fn
 have lk:∃oI,X.K.lookup f=some oI∧oI.cls= .type "function" := by
  obtain⟨o,ho,hc⟩:=Option.map_eq_some_iff.mp hfn
  exact⟨o,ho,hc⟩
 obtain⟨oI,hoI,hcI⟩:=lk
 obtain⟨hp,gg,d,t,os⟩:=s
 refine x_call PySem.F.excBase_ValueError hT (I.ye _ _ hC) (PySem.W.looks_findIn I.ye M.init) (I.ye _ _ hoI) hcI (fun h' e hs m=> ?_) (by show 1≤sizeLine;decide)
 have I2:=I.afa hs m
 have r2:Vals [V.ref e,y] [Value.ref e,u]:= .cons rfl (.cons r .nil)
 have n0:H e=none:=I.hok.fresh hs
 have hq:z9 X.K g [V.ref e,y] (upd H e (xO e C none)) (fun v H2=>v= .non∧Q (.ref e) H2) E0:=by
  refine⟨e,C,y,rfl,dm,hX,fun dx hd ne=>⟨rfl,h e dx n0 ?_ ne hs⟩⟩
  rw[bw ne]at hd;exact hd
 have hl:([Value.ref e,u]++[]).length=ps.length:=by rw[List.append_nil,←r2.length];exact F.len _ _ _ _ hq
 refine wpAny_call (codeAny_mono (F.run _ X.stack _ _ ⟨[Value.ref e,u],[]⟩ [Value.ref e,u] _ _ E0 (hr.make C [u] []) (I2.env0.make C [u] []) (by simpa using hb _ [Value.ref e,u] I2.ye hl) r2 hq) fun r s' hq'=> ?_)
 cases r with
 | error e=>exact hq'.elim
 | ok fl=>
  cases fl with
  | ret u=>
   obtain⟨v,H',I3,rv,ev,q3⟩:=I2.after hq'
   subst ev
   exact⟨rv,⟨V.ref e,H',I3,rfl,q3⟩⟩
  | next=>exact False.elim hq'
  | brk=>exact False.elim hq'
  | cont=>exact False.elim hq'
end
end L2
namespace L2
open PySem PySem.Spec PyProof.Rows
def drop(H:Hp)(a:Addr):Hp:=fun b=>if b=a then none else H b
theorem TF{H:Hp}{a b:Addr}(h:b≠a):drop H a b=H b:=by unfold drop;rw[if_neg h]
theorem Jz{H:Hp}{a:Addr}:drop H a a=none:=by unfold drop;rw[if_pos rfl]
section
variable{X:Cx}{pins:List (Addr×Obj)}{σ:St}{H:Hp}{s:Shared}{a:Addr}{φ:Heap→Prop}
theorem Inv.ahY(I:Inv X pins σ H s)(e:H a=some (.ext φ)):Inv X pins σ (drop H a) s:=by
 have nn:∀b,H b=none→drop H a b=none:=fun b q=>by unfold drop;split<;>first | rfl | exact q
 have kk:∀b u,H b=some u→(∀ψ,u≠ .ext ψ)→drop H a b=some u:=fun b u q n=>by
  have:b≠a:=fun z=>by subst z;rw[e]at q;cases q;exact n _ rfl
  rw[TF this];exact q
 refine⟨I.ok,I.os,I.bare,⟨I.base.keep,I.base.slot,fun b o q n x=>nn b (I.base.free b o q n x),I.base.there,fun b xs q=>kk b _ (I.base.tups b xs q) (by simp),fun b o u q=>kk b _ (I.base.yS b o u q) (by simp),fun b ps q=> ?_⟩,I.loc,I.cell,nn _ I.free,fun x c q=>nn _ (I.pB x c q),fun p hp=> ?_,fun b o q=> ?_,I.len⟩
 ·obtain⟨m,z⟩:=I.base.y_ b ps q;exact⟨m,kk b _ z (by simp)⟩
 ·obtain⟨z1,z2,z3⟩:=I.pin p hp;exact⟨z1,nn _ z2,z3⟩
 ·have nb:b≠a:=fun z=>by subst z;rw[Jz]at q;cases q
  rw[TF nb]at q
  exact(I.hok b o q).stay (fun _ _ _ z=>z) (fun b' z=>kk b' _ z (by simp)) fun b' xs z=>kk b' _ z (by simp)
end
def iM(P:Program)(w:World):Rv:=fun outer H s E ev s'=>∃e C dx T H',ev=Value.ref e∧s'.os=s.os∧AllBare s'.gens∧Un (frs outer) [] H H' s.heap s'.heap∧vq P w H' s'.heap∧Exc s'.heap e C (some dx) (some T) .none∧
 s.heap.objs.size≤e∧s.heap.objs.size≤T∧H' e=none∧H' T=none∧E (.ref C) (some dx) H'
abbrev bD:=Addr→Addr→St→Hp→Prop
structure oJ(X:Cx)(pins:List (Addr×Obj))(H:Hp)(a:Addr):Prop where
 no:H a=none
 new:X.s₀.heap.objs.size≤a
 pin:∀p∈X.pn++pins,p.1≠a
def fH(X:Cx)(W:bD):Value→Shared→Prop:=fun ev s=>∃e C dx T fl pins σ H,ev=Value.ref e∧Inv X pins σ H s∧Exc s.heap e C (some dx) T fl∧(fl=fl∨fl=rawInt X.env.locals)∧oJ X pins H e∧(∀t,T=some t→oJ X pins H t)∧W C dx σ H
section
variable{X:Cx}{pins:List (Addr×Obj)}{σ:St}{H:Hp}{s:Shared}
theorem fH.Sx{W:bD}{E:XK}{ev:Value}{s':Shared}(I:Inv X pins σ H s)(h:iM X.prog X.w X.stack H s E ev s')(hE:∀C dx H',E (.ref C) (some dx) H'→W C dx σ H'):fH X W ev s':=by
 obtain⟨e,C,dx,T,H',rfl,os,bare,un,hok,x,ne,nT,fe,fT,hq⟩:=h
 have old:∀a,s.heap.objs.size≤a→∀p∈X.pn++pins,p.1≠a:=fun a ha p hp z=>by
  have:=Heap.lt_size (I.pin p hp).1
  rw[z]at this
  exact absurd (Nat.lt_of_lt_of_le this ha) (Nat.lt_irrefl _)
 exact⟨e,C,dx,some T,.none,pins,σ,H',rfl,I.call' os un hok bare (fun b z=>absurd z (by simp)),x,.inl rfl,⟨fe,Nat.le_trans I.sz ne,old e ne⟩,fun t z=>by cases z;exact⟨fT,Nat.le_trans I.sz nT,old T nT⟩,hE C dx H' hq⟩
theorem Jq{P:Program}{w:World}{fs:List Addr}{e:Addr}{T:Option Addr}{h h':Heap}(ok:vq P w H h)(k:qi fs e T h h')(he:H e=none)(hT:∀t,T=some t→H t=none)(hf:∀b∈fs,H b=none):vq P w H h':=by
 have kp:∀b u o,H b=some o→h.get? b=some u→h'.get? b=some u:=fun b u o q z=>
  k.2.1 b u (fun y=>by subst y;rw[he]at q;cases q) (fun y=>by rw[hT b y.symm]at q;cases q) (fun y=>by rw[hf b y]at q;cases q) z
 intro b o q
 refine(ok b o q).stay (fun b' u hb z=> ?_) (fun _ z=>z) fun _ _ z=>z
 rcases hb with rfl | hb
 ·exact kp _ u o q z
 ·exact kp _ u _ hb z
end
theorem fH.leave{P:Program}{w:World}{K:PySem.W.Frag}{mg:Str→Option Value}{base:Heap}{N:List Str}{qual:Str}{scope:Scope}{f:Addr}{cd:Value}{A:Around}{outer:List Env}{s:Shared}{H:Hp}{E:XK}{W:bD}{ev:Value}{s':Shared}
  (h:fH (yU (iM P w) P w K mg base N qual scope f cd A outer s H E) W ev s') (hE:∀C dx σ H',W C dx σ H'→E (.ref C) (some dx) H'):
  (yU (iM P w) P w K mg base N qual scope f cd A outer s H E).xe ev s':=by
 obtain⟨e,C,dx,T,fl,pins,σ,H',rfl,I,x,hfl,fe,fT,hW⟩:=h
 show wpAny _ _ (leaving _ (.ref e)) _ _ s'
 refine YZ I.ok.frames I.stack rfl x hfl fun h2 T' hT k x'=> ?_
 have hTn:∀t,T=some t→H' t=none:=fun t z=>(fT t z).no
 have nT:s.heap.objs.size≤T':=by
  rcases hT with r | r
  ·exact(fT T' r).new
  ·exact Nat.le_trans I.sz r
 have fT':H' T'=none:=by
  rcases hT with r | r
  ·exact hTn T' r
  ·exact I.hok.fresh r
 have ok2:=Jq I.hok k fe.no hTn I.Bw
 have ne:∀b o,s.heap.get? b=some o→b≠e∧some b≠T:=fun b o q=>⟨fun z=>absurd (Nat.lt_of_lt_of_le (Heap.lt_size q) (z▸fe.new)) (Nat.lt_irrefl _),fun z=>absurd (Nat.lt_of_lt_of_le (Heap.lt_size q) (fT b z.symm).new) (Nat.lt_irrefl _)⟩
 have nL:∀b o,s.heap.get? b=some o→b≠s.heap.objs.size:=fun b o q=>Nat.ne_of_lt (Heap.lt_size q)
 refine⟨e,C,dx,T',H',rfl,I.os,I.bare,⟨fun b o q n hb _=> ?_,fun b o q n hb _=> ?_,fun b o q n _=>I.base.free b o q n (by simp[yU]),fun b o q _=> ?_,I.base.tups,I.base.yS,I.base.y_⟩,ok2,x',fe.new,nT,fe.no,fT',hE C dx σ H' hW⟩
 ·obtain⟨n1,n2⟩:=ne b o q
  refine k.2.1 b o n1 n2 (fun z=> ?_) (I.base.keep b o q n hb (by simp[yU]))
  rcases List.mem_cons.mp (I.Gn b z)with y | y
  ·exact nL b o q y
  ·exact hb y
 ·obtain⟨n1,n2⟩:=ne b o q
  obtain⟨sl,q1⟩:=I.base.slot b o q n hb (by simp[yU])
  obtain⟨sl2,q2⟩:=k.2.2 b _ n1 n2 q1
  exact⟨sl2,q2⟩
 ·obtain⟨n1,n2⟩:=ne b o q
  obtain⟨o1,q1⟩:=I.base.there b o q (by simp[yU])
  obtain⟨sl2,q2⟩:=k.2.2 b _ n1 n2 q1
  exact⟨_,q2⟩
end L2
namespace L2
section
open PySem
variable{M:Model}{A:Around}{E:Value→Shared→Prop}{env:Env}
variable{nm q:Str}{C N:Addr}{bs bm:List Value}{hdct:Bool}{sn:List Str}{sub:List Value}{ab:Bool}{col:Option Bool}{dd:Option Addr}{k0 k1 k2 k3 k5:Option Value}{newId:String}
theorem Ng{s:Shared}{x:Sem Value}{Q:Flow→Shared→Prop}(hbase:bm.contains (.type "BaseException")=true)(hh:A.handled=none)
  (h:wpAny M A x (fun v s₁=>∃e dx vs,v= .ref e∧s₁.heap.get? C=some (excClassObj nm q C N bs bm hdct sn sub ab col dd k0 k1 k2 k3 k5 newId)∧
   s₁.heap.get? e=some {cls:= .ref C,dict:=dx,data:= .fields vs}∧vs[1]? = some .none∧E (.ref e) s₁) E s):
  wpAny M A (raiseStmt env (some x) none) Q E s:=by
 have hcB:(Value.ref C::bm).contains (.type "BaseException")=true:=by rw[List.contains_cons,hbase,Bool.or_true]
 unfold raiseStmt
 refine wpAny_bind (wpAny_mono h (fun v s₁ h₁=> ?_) fun _ _ x=>x)
 obtain⟨e,dx,vs,rfl,hC,he,h1,hE⟩:=h₁
 obtain⟨hp,g,d,tk,os⟩:=s₁
 have hfl:∀{Q:Unit→Shared→Prop},Q () ⟨hp,g,d,tk,os⟩→wpAny M A (setFlight (.ref e) none) Q E ⟨hp,g,d,tk,os⟩:=fun hQ=>by
  unfold setFlight
  refine wpAny_bind (wpAny_field he rfl h1 ?_)
  rw[if_neg (by decide)]
  exact wpAny_pure hQ
 repeat (first | with_reducible refine wpAny_loadPart_at he ?_ | with_reducible refine wpAny_loadPart_at hC ?_ | (with_reducible refine wpAny_isSubtype_exc hC ?_;rw[hcB]) | with_reducible refine hfl ?_ | wp_step)
 exact wpAny_raiseNew_none hh hE
end
section
open PySem PySem.Spec PyProof.Rows
variable{X:Cx}{k:Nat}{f C:Addr}{fd:FuncData}{ps:List Str}{g:Str}{x:Str}{np cpos pos:Pos}{arg:Expr}{ta:TA}{W:bD}
theorem Vn{H:Hp}{x dx:Addr}{o1 o2 o3:HO}(hx:H x=none)(ne:dx≠x):drop (upd (upd (upd H x o1) dx o2) x o3) x=upd H dx o2:=by
 funext b
 unfold drop upd
 by_cases z:b=x
 ·subst z;rw[if_pos rfl,if_neg (Ne.symm ne),hx]
 ·rw[if_neg z,if_neg z]
  by_cases z2:b=dx
  ·rw[if_pos z2,if_pos z2]
  ·rw[if_neg z2,if_neg z2,if_neg z]
def ab5(C:Addr)(g:Str)(W:bD)(ta:TA):TS:=fun _ σ H=>ta σ H fun vs H1=>∃y,vs=[y]∧∀dx,H1 dx=none→W C dx σ (upd H1 dx (.xd [(g,y)]))
theorem Xb(M:XMk X.K C f)(hX:Dc X.K C g)(F:bx X.prog X.w X.K X.mg X.base Rx k f fd ps (z9 X.K g))(hr:lq (k+1) X.A)(hb:Binds X.K fd ps [])(hg:Gl X x)(hm:X.mg x=some (.ref C))(hc:X.calm=true)
  (hW:∀ev s,fH X W ev s→X.xe ev s) (ha:PA X [arg] ta) (hdb:(x==("__debug__" : Str))=false:=by decide) (he:starEach [arg] X.env=[(false,eval arg X.env)]:=by rfl):
  PS X (.Raise (some (.Call (.Name x np) [arg] [] cpos)) none pos) (ab5 C g W ta):=by
 intro pins s σ H D I h
 obtain⟨nm,q,N,bs,bm,hdct,sn,sub,ab,col,dd,k0,k1,k2,k3,k5,hC,hT,hB⟩:=M.obj
 rw[arm_exec_Raise]
 refine wpAny_bind (wpAny_standAt (Ng (C:=C) (nm:=nm) (q:=q) (N:=N) (bs:=bs) (bm:=bm) (hdct:=hdct) (sn:=sn) (sub:=sub) (ab:=ab) (col:=col) (dd:=dd) (k0:=k0) (k1:=k1) (k2:=k2) (k3:=k3) (k5:=k5) (newId:= "ValueError.__new__") hB (I.ok.hd hc) ?_))
 have main:wpAny (model X.prog X.w) X.A (eval (.Call (.Name x np) [arg] [] cpos) X.env) (EP X pins σ fun v H3=>∃e dx y H1,v= .ref e∧H1 e=none∧H1 dx=none∧dx≠e∧X.s₀.heap.objs.size≤e∧(∀p∈X.pn++pins,p.1≠e)∧H3=upd (upd (upd H1 e (xO e C none)) dx (.xd [(g,y)])) e (xO e C (some dx))∧W C dx σ (upd H1 dx (.xd [(g,y)]))) X.xe s:=by
  refine wpAny_Call_Name_kw (Ga I hg hm ?_ hdb)
  refine PySem.W.callWith_K (h₀:=X.base) I.ok.mod.kin M.kp (iw (ha cpos pins s σ H _ I h) fun us s1 ⟨vs,H1,I1,r,y,ev,q⟩=>⟨I1.ye,?_⟩) he rfl
  subst ev
  cases r with
  | cons r1 r2=>
   cases r2
   refine Uv M hX F hr hb I1 r1 fun e dx n1 n2 ne hs=>⟨e,dx,y,H1,rfl,n1,n2,ne,Nat.le_trans I1.sz hs,fun p hp z=> ?_,rfl,q dx n2⟩
   have:=Heap.lt_size (I1.pin p hp).1
   rw[z]at this
   exact absurd (Nat.lt_of_lt_of_le this hs) (Nat.lt_irrefl _)
 refine wpAny_bind (iw main fun v s1 ⟨vv,H3,I3,rv,e,dx,y,H1,ev,n1,n2,ne,sz,pn,eH,hw⟩=>wpAny_bind (wpAny_standAt (wpAny_pure ?_)))
 subst ev eH
 obtain rfl:v=Value.ref e:=rv
 have x0:Exc s1.heap e C (some dx) none .none:=aa9 (I3.hok e _ dm)
 obtain⟨vs,hat,h1⟩:=x0.at_
 refine⟨e,some dx,vs,rfl,I3.ye _ _ hC,hat,h1,hW _ _ ⟨e,C,dx,none,.none,pins,σ,_,rfl,I3.ahY dm,x0,.inl rfl,⟨Jz,sz,pn⟩,(fun t z=>by cases z),?_⟩⟩
 rw[Vn n1 ne]
 exact hw
end
end L2
namespace L2
open PySem PySem.Spec PyProof.Rows
section
variable{X:Cx}{pins:List (Addr×Obj)}{σ:St}{H:Hp}{s:Shared}{e C:Addr}{dx T:Option Addr}{fl:Value}{h':Heap}{W:bD}
theorem Inv.vU{a:Addr}{o:Obj}{vs:Array Value}(I:Inv X pins σ H s)(h:s.heap.get? a=some o)(d:o.data= .fields vs):a≠X.env.locals∧∀x c,X.env.cells.lookup x=some c→c≠a:=by
 refine⟨fun z=> ?_,fun x c hc z=> ?_⟩
 ·obtain⟨m,⟨o',es,ep,ho,hd,_⟩,_⟩:=I.loc
  subst z
  rw[ho]at h;cases h;rw[hd]at d;cases d
 ·obtain⟨v,o',ho,hd⟩:=I.cell x c hc
  subst z
  rw[ho]at h;cases h;rw[hd]at d;cases d
theorem Inv.Eh(I:Inv X pins σ H s)(x:Exc s.heap e C dx T fl)(fe:oJ X pins H e)(fT:∀t,T=some t→oJ X pins H t)(k:qi (frs X.stack) e T s.heap h')(hE:∃o,h'.get? e=some o)(hTt:∀t,T=some t→∃o,h'.get? t=some o):
  Inv X pins σ H {s with heap:=h'}:=by
 obtain⟨vs,he,hT⟩:=x.at_
 have ok2:=Jq I.hok k fe.no (fun t z=>(fT t z).no) I.Bw
 refine I.call (t':=s.toks) (g':=s.gens) (d':=s.drawn) (ch:=e::T.toList) ⟨fun b o q n hb hc=> ?_,fun b o q n hb hc=> ?_,fun b o q n _=>n,fun b o q hc=> ?_,fun _ _ q=>q,fun _ _ _ q=>q,fun b ps q=>⟨#[],by rw[q];simp⟩⟩ ok2 I.bare fun b hb=> ?_
 ·simp at hc
  exact k.2.1 b o hc.1 (fun z=>hc.2 z.symm) hb q
 ·simp at hc
  exact k.2.2 b o hc.1 (fun z=>hc.2 z.symm) q
 ·simp at hc
  obtain⟨sl,z⟩:=k.2.2 b o hc.1 (fun z=>hc.2 z.symm) q
  exact⟨_,z⟩
 ·simp at hb
  rcases hb with rfl | hb
  ·exact⟨.inr fe.new,(I.vU he rfl).1,(I.vU he rfl).2,fe.pin⟩
  ·subst hb
   obtain⟨_,_,oT,ts,hoT,hd,_⟩:=hT
   exact⟨.inr (fT b rfl).new,(I.vU hoT hd).1,(I.vU hoT hd).2,(fT b rfl).pin⟩
theorem qi.mono{fs fs':List Addr}{h:Heap}(k:qi fs e T h h')(hs:∀b∈fs,b∈fs'):qi fs' e T h h':=⟨k.1,fun b o n1 n2 n3 q=>k.2.1 b o n1 n2 (fun z=>n3 (hs b z)) q,k.2.2⟩
theorem Exc.here(x:Exc h' e C dx T fl):(∃o,h'.get? e=some o)∧∀t,T=some t→∃o,h'.get? t=some o:=by
 obtain⟨vs,he,hT⟩:=x.at_
 refine⟨⟨_,he⟩,fun t z=> ?_⟩
 subst z
 obtain⟨_,_,oT,_,hoT,_⟩:=hT
 exact⟨oT,hoT⟩
theorem fH.UL(hst:X.stack=X.env::X.outer)(hf:X.env.frame=some X.env.locals){A:Around}(hA:A.frames=some X.stack):∀ev s',fH X W ev s'→wpAny (model X.prog X.w) A (noteFrame ev X.env) (fun _ s2=>cameBackBy (model X.prog X.w) X.A X.env (fH X W) ev s2) (cameBackBy (model X.prog X.w) X.A X.env (fH X W)) s':=by
 rintro ev s' ⟨e,C,dx,T,fl,pins,σ,H,rfl,I,x,hfl,fe,fT,hW⟩
 have Lr:=I.stack
 rw[hst]at Lr
 refine J8 (by rw[hA,hst]) Lr hf x hfl fun h1 T1 hT1 k1 x1=> ?_
 have VL:oJ X pins H T1:=by
  rcases hT1 with r | r
  ·exact fT T1 r
  ·refine⟨I.hok.fresh r,Nat.le_trans I.sz r,fun p hp z=> ?_⟩
   have:=Heap.lt_size (I.pin p hp).1
   rw[z]at this
   exact absurd (Nat.lt_of_lt_of_le this r) (Nat.lt_irrefl _)
 have hTt:∀t,T=some t→∃o,h1.get? t=some o:=fun t z=>by
  obtain⟨o,q⟩:=x.here.2 t z
  exact k1.1.2 t o q
 have I1:=I.Eh x fe fT (k1.mono (by rw[hst];exact fun b z=>z)) x1.here.1 hTt
 unfold cameBackBy
 obtain⟨vs,he,h2,_⟩:=x1.at_
 refine wpAny_bind (wpAny_field he rfl h2 ?_)
 rw[if_neg (by simp)]
 refine wA (s:={s' with heap:=h1}) x1 fun h2 k2 x2=>⟨e,C,dx,some T1,_,pins,σ,H,rfl,I1.Eh x1 fe (fun t z=>by cases z;exact VL) (k2.mono (by simp)) x2.here.1 x2.here.2,x2,.inr (by rw[hf];rfl),fe,fun t z=>by cases z;exact VL,hW⟩
end
end L2
namespace L2
open PySem PySem.Spec PyProof.Rows
def Tk(X:Cx)(W:bD):Prop:=∀ev s,fH X W ev s→X.xe ev s
def EW(W:bD)(σ:St):XK:=fun cv dxo H'=>∃C dx,cv=Value.ref C∧dxo=some dx∧W C dx σ H'
theorem fH.lO{X:Cx}{W W':bD}{ev:Value}{s:Shared}(h:fH (X.wish (fH X W)) W' ev s):fH X W' ev s:=by
 obtain⟨e,C,dx,T,fl,pins,σ,H,ee,I,x,hfl,fe,fT,hW⟩:=h
 exact⟨e,C,dx,T,fl,pins,σ,H,ee,I.lO,x,hfl,⟨fe.no,fe.new,fe.pin⟩,fun t z=>⟨(fT t z).no,(fT t z).new,(fT t z).pin⟩,hW⟩
theorem Tk.wish{X:Cx}{W:bD}:Tk (X.wish (fH X W)) W:=fun _ _ h=>h.lO
section
variable{X:Cx}{k:Nat}{f C:Addr}{fd:FuncData}{ps:List Str}{sp:Sp}{Ag:List V}{ds:List Value}{W:bD}{x m:Str}{p pos apos:Pos}{e o:Expr}{es:List Expr}{ta:TE}{t:TA}
theorem Kr{pins:List (Addr×Obj)}{σ:St}{H:Hp}{s:Shared}{Q:VK}{us:List Value}{vs:List V}(F:bx X.prog X.w X.K X.mg X.base (iM X.prog X.w) k f fd ps sp)(hr:lq k X.A)(hb:Binds X.K fd ps ds)(hd:Vals Ag ds)(hx:Tk X W)
  (I:Inv X pins σ H s) (r:Vals vs us) (h:sp (vs++Ag) H Q (EW W σ)):wpAny (model X.prog X.w) X.A (call (.ref f) us) (EP X pins σ Q) X.xe s:=by
 have r2:=r.append hd
 have hl:(us++ds).length=ps.length:=by rw[←r2.length];exact F.len _ _ _ _ h
 refine wpAny_call (codeAny_mono (F.run X.A X.stack s H ⟨us,[]⟩ (us++ds) (vs++Ag) Q _ hr I.env0 (hb s us I.ye hl) r2 h) fun r s' hq=> ?_)
 match r,hq with
 | .error e,hq=>exact hx _ _ (fH.Sx I hq fun C dx H' ⟨C',dx',e1,e2,w⟩=>by cases e1;cases e2;exact w)
 | .ok (.ret u),hq=>exact I.after hq
def Wh(sp:Sp)(Ag:List V)(W:bD)(t:TA):TE:=fun σ H Q=>t σ H fun vs H1=>sp (vs++Ag) H1 Q (EW W σ)
theorem Xl(F:bx X.prog X.w X.K X.mg X.base (iM X.prog X.w) k f fd ps sp)(hr:lq k X.A)(hg:Gl X x)(hm:X.mg x=some (.ref f))(hk:PySem.W.keepIn X.K (.ref f)=true)(hb:Binds X.K fd ps ds)(hd:Vals Ag ds)(hx:Tk X W)
  (ha:PA X (e::es) t) (hdb:(x==("__debug__" : Str))=false:=by decide) (he:starEach (e::es) X.env=(false,eval e X.env)::starEach es X.env:=by rfl) (hpl:(backTo pos (starEach es X.env)).any (·.1)=false:=by rfl):
  PE X (.Call (.Name x p) (e::es) [] pos) (Wh sp Ag W t):=by
 intro pins s σ H Q I h
 exact wpAny_Call_Name_kw (Ga I hg hm (PySem.W.callWith_K (h₀:=X.base) I.ok.mod.kin hk (iw (ha pos pins s σ H _ I h) fun us s1 ⟨vs,H1,I1,r,q⟩=>⟨I1.ye,Kr F hr hb hd hx I1 r q⟩) he hpl) hdb)
def Qh(C:Addr)(m:Str)(sp:Sp)(Ag:List V)(W:bD)(ta:TE)(t:TA):TE:=fun σ H Q=>ta σ H fun x H1=>∃a dx fs,x= .ref a∧H1 a=some (.ins C dx fs)∧fs.lookup m=none∧t σ H1 fun vs H2=>sp (x::(vs++Ag)) H2 Q (EW W σ)
theorem Xh{pl:Sem Bool}(he:PE X o ta)(c:PB X.K C)(hm:Meth X.K C m f)(F:bx X.prog X.w X.K X.mg X.base (iM X.prog X.w) k f fd ps sp)(hr:lq k X.A)(hb:Binds X.K fd ps ds)(hd:Vals Ag ds)(hx:Tk X W)(ha:PA X (e::es) t)
  (hst:starEach (e::es) X.env=(false,eval e X.env)::starEach es X.env:=by rfl) (hpl:(backTo pos (starEach es X.env)).any (·.1)=false:=by rfl)
  (ht:eval (.Call (.Attribute o m apos) (e::es) [] pos) X.env=(do
   let ov ←eval o X.env
   standAt apos.atName
   let(f,first) ←holding [ov] (getMethod ov m pl)
   callWith pos f first (backTo pos (starEach (e::es) X.env)) (backToKw pos (keywordEach [] X.env))):=by rfl):
  PE X (.Call (.Attribute o m apos) (e::es) [] pos) (Qh C m sp Ag W ta t):=by
 intro pins s σ H Q I h
 refine PySem.W.methodCall_KW (pl:=pl) (iw (he pins s σ H _ I h) fun u s1 ⟨x,H1,I1,rx,a,dx,fs,ex,ea,l,q⟩=> ?_) ht
 subst ex
 obtain rfl:u=Value.ref a:=rx
 refine Hu I1 ea c hm l ?_
 exact PySem.W.callWith_K (h₀:=X.base) (first:=[.ref a]) I1.ok.mod.kin hm.kp (iw (ha pos pins s1 σ H1 _ I1 q) fun us s2 ⟨vs,H2,I2,r,q2⟩=>⟨I2.ye,Kr (us:= .ref a::us) (vs:= .ref a::vs) F hr hb hd hx I2 (.cons rfl r) q2⟩) hst hpl
theorem UG{pl:Sem Bool}(he:PE X o ta)(c:PB X.K C)(hm:Meth X.K C m f)(F:bx X.prog X.w X.K X.mg X.base (iM X.prog X.w) k f fd ps sp)(hr:lq k X.A)(hb:Binds X.K fd ps ds)(hd:Vals Ag ds)(hx:Tk X W)
  (ht:eval (.Call (.Attribute o m apos) [] [] pos) X.env=(do
   let ov ←eval o X.env
   standAt apos.atName
   let(f,first) ←holding [ov] (getMethod ov m pl)
   callWith pos f first (backTo pos (starEach [] X.env)) (backToKw pos (keywordEach [] X.env))):=by rfl):
  PE X (.Call (.Attribute o m apos) [] [] pos) (Qh C m sp Ag W ta afs):=by
 intro pins s σ H Q I h
 refine PySem.W.methodCall_KW (pl:=pl) (iw (he pins s σ H _ I h) fun u s1 ⟨x,H1,I1,rx,a,dx,fs,ex,ea,l,q⟩=> ?_) ht
 subst ex
 obtain rfl:u=Value.ref a:=rx
 exact Hu I1 ea c hm l (PySem.W.callWith_K0 (first:=[.ref a]) I1.ye hm.kp (Kr (us:=[.ref a]) (vs:=[.ref a]) F hr hb hd hx I1 (.cons rfl .nil) q))
end
theorem bU.okX{P:Program}{w:World}{K:PySem.W.Frag}{mg:Str→Option Value}{base:Heap}{x qual:Str}{st:Stmt}{dV:Value}{f:Addr}{fd:FuncData}{N ps:List Str}{k:Nat}{sp:Sp}(F:bU K x qual st dV f fd)(S:bf N ps (au st))(len:∀vs H Q E,sp vs H Q E→vs.length=ps.length)
  (hbody:∀(cdv:Value) (A:Around) (outer:List Env) (s:Shared) (H:Hp) (vs:List V) (Q:VK) (E:XK),lq k (A.deeper (envOfC qual (au st) s.heap.objs.size f cdv))→sp vs H Q E→
   ∃t W,(∀C dx σ H',W C dx σ H'→E (.ref C) (some dx) H')∧Fv ((yU (iM P w) P w K mg base N qual (au st) f cdv A outer s H E).wish (fH (yU (iM P w) P w K mg base N qual (au st) f cdv A outer s H E) W)) (aG st) t∧t {nx:=fun _ H'=>gcK H Q .non H',rt:=gcK H Q} (start N vs) H):
  bx P w K mg base (iM P w) (k+1) f fd ps sp:=by
 obtain⟨oc,od,kV,doc,pm,an,cdv,ct,osl,rfl,lk,hcd⟩:=F.ex
 refine bx.gc (sp:=fun vs H Q' E=>∃Q,sp vs H Q E∧Q'=gcK H Q) (Yi lk hcd S (fun vs H Q E ⟨Q0,q,_⟩=>len vs H Q0 E q) fun A outer s H vs Q' E hr hsp=> ?_) fun vs H Q E q=>⟨Q,q,rfl⟩
 obtain⟨Q,hsp,rfl⟩:=hsp
 obtain⟨t,W,hE,h,q⟩:=hbody cdv A outer s H vs Q E hr hsp
 refine⟨t,fun pins s1 σ H1 D I h1=> ?_,q⟩
 exact wpAny_mono (h pins s1 σ H1 D (I.wish _) h1) (fun _ _ z=>z.lO) fun _ _ z=>z.leave hE
end L2
namespace L2
open PySem PySem.Spec PyProof.Rows
abbrev Cx.pp(X:Cx)(pins:List (Addr×Obj)):Cx:={X with pn:=X.pn++pins}
abbrev Cx.held(X:Cx)(e:Addr):Cx:={X with A:=X.A.mark (some (.ref e)),calm:=false,xe:=fun _ _=>False}
section
variable{X:Cx}{pins vI:List (Addr×Obj)}{σ:St}{H:Hp}{s:Shared}{e:Addr}
theorem Inv.pp(I:Inv X (pins++vI) σ H s):Inv (X.pp pins) vI σ H s:=
 ⟨⟨I.ok.mod,I.ok.kind,I.ok.glob,I.ok.blt,I.ok.above,I.ok.inj,I.ok.has,I.ok.cab,I.ok.hd,I.ok.frames,I.ok.stk,I.ok.exf,I.ok.bs,I.ok.PL,I.ok.K3,I.ok.Lz,I.ok.zJ,I.ok.Ye⟩,I.os,I.bare,I.base,I.loc,I.cell,I.free,I.pB,fun p hp=>I.pin p (by rw[←List.append_assoc];exact hp),I.hok,I.len⟩
theorem Inv.afn(I:Inv (X.pp pins) vI σ H s):Inv X (pins++vI) σ H s:=
 ⟨⟨I.ok.mod,I.ok.kind,I.ok.glob,I.ok.blt,I.ok.above,I.ok.inj,I.ok.has,I.ok.cab,I.ok.hd,I.ok.frames,I.ok.stk,I.ok.exf,I.ok.bs,I.ok.PL,I.ok.K3,I.ok.Lz,I.ok.zJ,I.ok.Ye⟩,I.os,I.bare,I.base,I.loc,I.cell,I.free,I.pB,fun p hp=>I.pin p (by rw[←List.append_assoc]at hp;exact hp),I.hok,I.len⟩
theorem Inv.fewer(I:Inv X (pins++vI) σ H s):Inv X pins σ H s:=⟨I.ok,I.os,I.bare,I.base,I.loc,I.cell,I.free,I.pB,fun p hp=>I.pin p (by rw[←List.append_assoc];exact List.mem_append_left _ hp),I.hok,I.len⟩
theorem Inv.held(I:Inv X pins σ H s)(e:Addr):Inv (X.held e) pins σ H s:=
 ⟨⟨I.ok.mod,I.ok.kind,I.ok.glob,I.ok.blt,I.ok.above,I.ok.inj,I.ok.has,I.ok.cab,(fun z=>by cases z),I.ok.frames,I.ok.stk,I.ok.exf,I.ok.bs,I.ok.PL,I.ok.K3,I.ok.Lz,I.ok.zJ,I.ok.Ye⟩,I.os,I.bare,I.base,I.loc,I.cell,I.free,I.pB,I.pin,I.hok,I.len⟩
theorem Inv.Qc(ok:X.Ok)(I:Inv (X.held e) pins σ H s):Inv X pins σ H s:=⟨ok,I.os,I.bare,I.base,I.loc,I.cell,I.free,I.pB,I.pin,I.hok,I.len⟩
theorem SP.map{X':Cx}{vI:List (Addr×Obj)}{D:Ends}{f:Flow}{s':Shared}(g:∀σ H,Inv X' vI σ H s'→Inv X pins σ H s')(h:SP X' vI D f s'):SP X pins D f s':=by
 cases f with
 | next=>obtain⟨σ',H',I,q⟩:=h;exact⟨σ',H',g _ _ I,q⟩
 | brk=>obtain⟨σ',H',I,q⟩:=h;exact⟨σ',H',g _ _ I,q⟩
 | cont=>obtain⟨σ',H',I,q⟩:=h;exact⟨σ',H',g _ _ I,q⟩
 | ret u=>obtain⟨v,σ',H',I,r,q⟩:=h;exact⟨v,σ',H',g _ _ I,r,q⟩
end
section
variable{X:Cx}{W:bD}{c:Str}{cp hpos pos:Pos}{b₀:Stmt}{suite body:List Stmt}{tb:bD→TS}{ts:TS}{cv:Value}{v:V}
theorem Exc.typ{M:Model}{h:Heap}{e C:Addr}{dx T:Option Addr}{fl:Value}(x:Exc h e C dx T fl):PySem.W.Looks M h (typeOf (.ref e)) (.ref C):=by
 obtain⟨vs,he,_⟩:=x.at_
 intro A Q E s k q
 exact wpAny_bind (wpAny_loadPart (k _ _ he) (wpAny_pure q))
end
end L2
namespace L2
open PySem PySem.Spec PyProof.Rows
abbrev xC(a C dx:Addr):HO:= .ext fun h=>∃vs,h.get? a=some {cls:= .ref C,dict:=some dx,data:= .fields vs}
section
variable{X:Cx}{pins:List (Addr×Obj)}{σ:St}{H:Hp}{s:Shared}{h':Heap}{t':Nat}
theorem Inv.locals(I:Inv X pins σ H s)(hsb:Heap.SameBut X.env.locals s.heap h')(loc:∃m,h'.Ns X.env.locals m∧∀(i:Nat) (x:Str) (v:V),X.N[i]? = some x→σ[i]? = some (some v)→Vis X.env.scope x→∃u,RelV v u∧Look X.env h' m x u):
  Inv X pins σ H {s with heap:=h',toks:=t'}:=by
 have nL:∀b o,X.s₀.heap.get? b=some o→b≠X.env.locals:=fun b o q=>Nat.ne_of_lt (Nat.lt_of_lt_of_le (Heap.lt_size q) I.ok.above)
 refine⟨I.ok,I.os,I.bare,⟨fun b o q n hb hx=>(hsb.2 b (nL b o q)).trans (I.base.keep b o q n hb hx),fun b o q n hb hx=> ?_,I.base.free,fun b o q hx=> ?_,I.base.tups,I.base.yS,I.base.y_⟩,loc,fun x c q=> ?_,I.free,I.pB,fun p hp=> ?_,fun b o q=> ?_,I.len⟩
 ·obtain⟨sl,z⟩:=I.base.slot b o q n hb hx
  exact⟨sl,(hsb.2 b (nL b o q)).trans z⟩
 ·obtain⟨o',z⟩:=I.base.there b o q hx
  exact⟨o',(hsb.2 b (nL b o q)).trans z⟩
 ·obtain⟨v,o,ho,hd⟩:=I.cell x c q
  exact⟨v,o,(hsb.2 c (I.cne x c q)).trans ho,hd⟩
 ·obtain⟨z1,z2,z3,z4⟩:=I.pin p hp
  exact⟨(hsb.2 p.1 z3).trans z1,z2,z3,z4⟩
 ·have nl:∀b u,H b=some u→b≠X.env.locals:=fun b u z y=>by rw[y,I.free]at z;cases z
  refine(I.hok b o q).stay (fun b' u hb z=> ?_) (fun _ z=>z) fun _ _ z=>z
  rcases hb with rfl | hb
  ·exact(hsb.2 _ (nl _ _ q)).trans z
  ·exact(hsb.2 _ (nl _ _ hb)).trans z
theorem Vc{env:Env}{h h':Heap}{m m':Str→Option Value}{x:Str}{u:Value}(l:Look env h m x u)(hm:m' x=m x)(hc:∀c,env.cells.lookup x=some c→h'.get? c=h.get? c):Look env h' m' x u:=by
 rcases l with⟨k,e⟩ | ⟨k,c,e,o,ho,hd⟩
 ·exact .inl ⟨k,hm.trans e⟩
 ·exact .inr ⟨k,c,e,o,(hc c e).trans ho,hd⟩
theorem name_goes{M:Model}{A:Around}{E:Value→Shared→Prop}{i:Nat}{n:Str}{pos:Pos}{Q:Unit→Shared→Prop}(I:Inv X pins σ H s)(nd:X.N.Nodup)(hi:X.N[i]? = some n)(hl:X.env.scope.names.lookup n=some .local)(hk:X.env.kindOf n=some .local)
  (hp:(X.env.scope.kind== .class||(X.env.scope.kind== .module&&X.env.locals != X.env.globals))=false)
  (h:∀s',Inv X pins (σ.set i none) H s'→Q () s'):wpAny M A (do bindName X.env n .none;unbindBehindTheSuite X.env n pos) Q E s:=by
 refine wpAny_bind (wpAny_bindName (wC (v:= .non) I nd hi (.inl hl) rfl (fun s1 I1=> ?_) (.inr hl)))
 unfold unbindBehindTheSuite
 refine wpAny_onRaise ?_
 unfold unbindName
 refine wpAny_bind (wpAny_point (wpAny_bind ?_))
 unfold deleteName
 simp only[hk,hp]
 rw[if_neg (by decide)]
 obtain⟨m,hn,hlk⟩:=I1.loc
 have il:i<σ.length:=by rw[I.len];exact(List.getElem?_eq_some_iff.mp hi).1
 have there:(m n).isSome=true:=by
  obtain⟨u,ru,l⟩:=hlk i n .non hi (by rw[List.getElem?_set_self il]) (.inl hl)
  rcases l with⟨_,z⟩ | ⟨z,_⟩
  ·rw[z];rfl
  ·rw[hk]at z;rcases z with z | z<;>cases z
 refine wpAny_bind (wpAny_nsDel_keeps hn fun h2 v hn2 hs2=> ?_)
 rw[there]
 simp only[if_true,Bool.not_true,Bool.false_eq_true,if_false]
 refine wpAny_pure (wpAny_point (h _ ?_))
 have I2:Inv X pins (σ.set i none) H s1:=I1.weak (by simp) fun j w hj=>by
  by_cases z:i=j
  ·subst z;rw[List.getElem?_set_self il]at hj;cases hj
  ·rw[List.getElem?_set_ne z]at hj ⊢;exact hj
 refine I2.locals (t':=s1.toks) hs2 ⟨_,hn2,fun j x w hj hw hv=> ?_⟩
 have ne:x≠n:=fun z=>by
  subst z
  have:j=i:=G7 nd hj hi
  subst this
  rw[List.getElem?_set_self il]at hw;cases hw
 have hw':(σ.set i (some .non))[j]? = some (some w):=by
  by_cases z:i=j
  ·subst z;rw[List.getElem?_set_self il]at hw;cases hw
  ·rw[List.getElem?_set_ne z]at hw ⊢;exact hw
 obtain⟨u,ru,l⟩:=hlk j x w hj hw' hv
 exact⟨u,ru,Vc l (by rw[if_neg ne]) fun c hc=>hs2.2 c (I1.cne x c hc)⟩
end
section
variable{X:Cx}{W:bD}{c n:Str}{cp hpos pos:Pos}{b₀:Stmt}{suite body:List Stmt}{tb:bD→TS}{ts:TS}{cv:Value}{v:V}{i:Nat}
def Ends.less(D:Ends)(i:Nat):Ends:={nx:=fun σ H=>D.nx (σ.set i none) H,bk:=fun σ H=>D.bk (σ.set i none) H,ct:=fun σ H=>D.ct (σ.set i none) H,rt:=D.rt}
def xmA(K:PySem.W.Frag)(cv:Value)(W:bD)(th:Addr→Addr→Addr→St→Hp→Prop):bD:=fun C dx σ H=>∃b,PySem.W.exmOne K (.ref C) cv=some b∧(if b=true then(∀e,H e=none→th e C dx σ H)else W C dx σ H)
theorem Inv.caught{pins:List (Addr×Obj)}{σ:St}{H:Hp}{s:Shared}{e C dx:Addr}{vs:Array Value}(I:Inv X pins σ H s)(h:s.heap.get? e=some {cls:= .ref C,dict:=some dx,data:= .fields vs})(f:oJ X pins H e):Inv X pins σ (upd H e (xC e C dx)) s:=by
 have hk:∀b u,H b=some u→upd H e (xC e C dx) b=some u:=fun b u q=>by rw[bw (dD q f.no)];exact q
 have hn:∀b,b≠e→H b=none→upd H e (xC e C dx) b=none:=fun b z q=>by rw[bw z];exact q
 refine⟨I.ok,I.os,I.bare,⟨I.base.keep,I.base.slot,fun b o q n x=>hn b (fun z=>absurd (Nat.lt_of_lt_of_le (Heap.lt_size q) (z▸f.new)) (Nat.lt_irrefl _)) (I.base.free b o q n x),I.base.there,fun b xs q=>hk _ _ (I.base.tups b xs q),fun b o u q=>hk _ _ (I.base.yS b o u q),fun b ps q=> ?_⟩,I.loc,I.cell,hn _ (Ne.symm (I.vU h rfl).1) I.free,fun x c q=>hn _ ((I.vU h rfl).2 x c q) (I.pB x c q),fun p hp=> ?_,fun b o q=> ?_,I.len⟩
 ·obtain⟨m,z⟩:=I.base.y_ b ps q;exact⟨m,hk _ _ z⟩
 ·obtain⟨z1,z2,z3⟩:=I.pin p hp;exact⟨z1,hn _ (f.pin p hp) z2,z3⟩
 ·by_cases z:b=e
  ·subst z
   rw[dm]at q;cases q
   exact⟨⟨vs,h⟩,⟨_,h⟩,fun h1 h2 ⟨vs1,y⟩ k=>⟨vs1,k _ y⟩⟩
  ·rw[bw z]at q
   exact(I.hok b o q).stay (fun _ _ _ y=>y) (fun b' y=>hk _ _ y) fun b' xs y=>hk _ _ y
theorem Xa(hst:X.stack=X.env::X.outer)(hf:X.env.frame=some X.env.locals)(hx:Tk X W)(hv:∀u,RelV v u→u=cv)(hn:∀e,PE (X.held e) (.Name c cp) (tC v))
  (nd:X.N.Nodup) (hi:X.N[i]? = some n) (hl:X.env.scope.names.lookup n=some .local) (hk:X.env.kindOf n=some .local)
  (hb:∀pins W1,Fv ((X.pp pins).wish (fH (X.pp pins) W1)) body (tb W1)) (hs:∀e,Fv (X.held e) (b₀::suite) ts):
  PS X (.Try body [.ExceptHandler (some (.Name c cp)) (some n) (b₀::suite) hpos] [] [] pos)
   (fun D σ H=>tb (xmA X.K cv W fun e C dx σ' H'=>ts (Ends.less D i) (σ'.set i (some (.ref e))) (upd H' e (xC e C dx))) D σ H):=by
 intro pins s σ H D I h
 have ok:=I.ok
 have hcls:(X.env.scope.kind== .class||(X.env.scope.kind== .module&&X.env.locals != X.env.globals))=false:=by rw[ok.kind];rfl
 refine wpAny_Try_except (wpAny_mono (hb pins (xmA X.K cv W fun e C dx σ' H'=>ts (Ends.less D i) (σ'.set i (some (.ref e))) (upd H' e (xC e C dx))) [] s σ H D (Inv.wish (Inv.pp (vI:=[]) (by rw[List.append_nil];exact I)) _) h) (fun f s1 h1=> ?_) fun ev s1 h1=> ?_)
 ·have h2:SP X pins D f s1:=SP.map (fun σ H z=>z.lO.afn.fewer) h1
  cases f with
  | next=>exact wpAny_execs_nil h2
  | brk=>exact h2
  | cont=>exact h2
  | ret u=>exact h2
 ·obtain⟨e,C,dx,T,fl,N_,σ',H',rfl,I1,x,hfl,fe,fT,hW⟩:=h1
  have J1:=I1.afn
  have Lr:=J1.stack
  rw[hst]at Lr
  have cv1:∀{a},oJ (X.pp pins) N_ H' a→oJ X (pins++N_) H' a:=fun z=>⟨z.no,z.new,fun p hp=>z.pin p (by rw[←List.append_assoc]at hp;exact hp)⟩
  have YQ:=cv1 fe
  have fT':∀t,T=some t→oJ X (pins++N_) H' t:=fun t z=>cv1 (fT t z)
  refine J8 (by rw[J1.ok.frames,hst]) Lr hf x hfl fun h1 T1 hT1 k1 x1=> ?_
  have VL:oJ X (pins++N_) H' T1:=by
   rcases hT1 with r | r
   ·exact fT' T1 r
   ·refine⟨J1.hok.fresh r,Nat.le_trans J1.sz r,fun p hp z=> ?_⟩
    have:=Heap.lt_size (J1.pin p hp).1
    rw[z]at this
    exact absurd (Nat.lt_of_lt_of_le this r) (Nat.lt_irrefl _)
  have I2:=J1.Eh x YQ fT' (k1.mono (by rw[hst];exact fun b z=>z)) x1.here.1 fun t z=>let⟨o,q⟩:=x.here.2 t z;k1.1.2 t o q
  refine wA (fr:=none) (s:={s1 with heap:=h1}) x1 fun h2 k2 x2=> ?_
  have I3:=I2.Eh x1 YQ (fun t z=>by cases z;exact VL) (k2.mono (by simp)) x2.here.1 x2.here.2
  obtain⟨vs2,he2,h12,aop,oT,ts2,hoT,hdT,h32⟩:=x2.at_
  have nfs:∀{a:Addr} {o:Obj} {vs:Array Value},h2.get? a=some o→o.data= .fields vs→a∉X.fs:=fun q d hm=>by
   obtain⟨_,o',ho',hd'⟩:=I3.zJ.mem hm
   have q':h2.get? _=some o':=ho'
   rw[q]at q';cases q';exact hd' _ d
  have I4:Inv X (pins++[(e,{cls:= .ref C,dict:=some dx,data:= .fields vs2}),(T1,oT)]) σ' H' {s1 with heap:=h2}:=I3.xU fun p hp=>by
   rcases List.mem_append.mp hp with z | z
   ·exact I3.pin p (List.mem_append_right _ (List.mem_append_left _ z))
   ·simp at z
    rcases z with rfl | rfl
    ·exact⟨he2,YQ.no,(I3.vU he2 rfl).1,nfs he2 rfl,fun v z=>by cases z⟩
    ·exact⟨hoT,VL.no,(I3.vU hoT hdT).1,nfs hoT hdT,fun v z=>by rw[hdT]at z;cases z⟩
  obtain⟨b,hm,hif⟩:=hW
  have fw:∀{a},oJ X (pins++N_) H' a→oJ (X.held e) pins H' a:=fun z=>⟨z.no,z.new,fun p hp=>z.pin p (by rw[←List.append_assoc];exact List.mem_append_left _ hp)⟩
  refine wpAny_handleBy_cons (codeAny_handlers_test (wpAny_mono (hn e _ _ σ' H' (fun v' PN=>v'=v∧PN=H') (I4.held e) ⟨rfl,rfl⟩) (fun c' s3 ⟨v',PN,I5,rv,e1,e2⟩=> ?_) fun _ _ z=>z.elim)) (by intro q;cases q)
  subst e1 e2
  obtain rfl:=hv c' rv
  have x5:Exc s3.heap e C (some dx) (some T1) .none:=⟨vs2,(I5.pin (e,_) (by simp)).1,h12,aop,oT,ts2,(I5.pin (T1,oT) (by simp)).1,hdT,h32⟩
  refine PySem.W.Looks.here (s:=s3) (PySem.W.exm_one I5.ye x5.typ hm) ?_
  cases b with
  | true=>
   refine codeAny_handlers_suite_as (wA (fr:=none) x5 fun h6 k6 x6=> ?_)
   have I6:=(I5.fewer).Eh x5 (fw YQ) (fun t z=>by cases z;exact fw VL) (k6.mono (by simp)) x6.here.1 x6.here.2
   obtain⟨vs6,he6,_⟩:=x6.at_
   have I7:=I6.caught he6 (fw YQ)
   refine wC (v:= .ref e) (I7.Qc ok) nd hi (.inl hl) rfl (fun s8 I8=> ?_) (.inr hl)
   refine wpAny_mono (hs e pins s8 _ _ (Ends.less D i) (I8.held e) (hif e YQ.no)) (fun f s9 z=> ?_) fun _ _ z=>z.elim
   show wpAny _ _ (do bindName X.env n .none;unbindBehindTheSuite X.env n hpos) _ _ _
   have z':SP X pins (Ends.less D i) f s9:=SP.map (fun _ _ y=>y.Qc ok) z
   cases f with
   | next=>obtain⟨σ9,H9,I9,q9⟩:=z';exact name_goes I9 nd hi hl hk hcls fun s' I'=>⟨_,_,I',q9⟩
   | brk=>obtain⟨σ9,H9,I9,q9⟩:=z';exact name_goes I9 nd hi hl hk hcls fun s' I'=>⟨_,_,I',q9⟩
   | cont=>obtain⟨σ9,H9,I9,q9⟩:=z';exact name_goes I9 nd hi hl hk hcls fun s' I'=>⟨_,_,I',q9⟩
   | ret u=>obtain⟨v9,σ9,H9,I9,r9,q9⟩:=z';exact name_goes I9 nd hi hl hk hcls fun s' I'=>⟨v9,_,_,I',r9,q9⟩
  | false=>
   refine wpAny_handleBy_nil ?_
   unfold PySem.passOn
   obtain⟨vs5,he5,h15,_⟩:=x5.at_
   refine wpAny_bind (wpAny_field he5 rfl h15 ?_)
   rw[if_neg (by simp)]
   refine wpAny_bind (wA x5 fun h6 k6 x6=>wpAny_throw (hx _ _ ⟨e,C,dx,some T1,_,pins,σ',PN,rfl,?_,x6,.inr (by rw[hf];rfl),⟨YQ.no,YQ.new,(fw YQ).pin⟩,fun t z=>by cases z;exact⟨VL.no,VL.new,(fw VL).pin⟩,hif⟩))
   exact((I5.fewer).Eh x5 (fw YQ) (fun t z=>by cases z;exact fw VL) (k6.mono (by simp)) x6.here.1 x6.here.2).Qc ok
end
end L2
namespace L2
open PySem PySem.Spec PyProof.Rows
section
variable{X:Cx}{e:Expr}{ta:TE}{f:Str}{pos:Pos}
def alS(K:PySem.W.Frag)(ta:TE)(f:Str):TE:=fun σ H Q=>ta σ H fun x H1=>∃a C dx fs v,x= .ref a∧H1 a=some (xC a C dx)∧H1 dx=some (.xd fs)∧Dc K C f∧PySem.W.findIn K (.ref C) "__getattr__" = some none∧fs.lookup f=some v∧Q v H1
theorem acB(he:PE X e ta)(hb:attributeBase e f X.env (eval e X.env)=eval e X.env):PE X (.Attribute e f pos) (alS X.K ta f):=by
 intro pins s σ H Q I h
 refine T9 hb (iw (he pins s σ H _ I h) fun u s1 ⟨x,H1,I1,rx,a,C,dx,fs,v,ex,ea,ed,F,hg,l,q⟩=> ?_)
 subst ex
 obtain rfl:u=Value.ref a:=rx
 obtain⟨⟨vs,hx⟩,_⟩:=(show gP X.prog X.w H1 s1.heap a (xC a C dx)from I1.hok a _ ea)
 obtain⟨mA,hn,hr⟩:=(show gP X.prog X.w H1 s1.heap dx (.xd fs)from I1.hok dx _ ed)
 have r0:=hr f
 rw[l]at r0
 cases hm:mA f with
 | none=>rw[hm]at r0;exact r0.elim
 | some u=>
  rw[hm]at r0
  exact alO I1.ye F hg hx hn hm (Jr r0) ⟨v,H1,I1.tok _,r0,q⟩
end
end L2
namespace L2
open PySem PySem.Spec PyProof.Rows
structure XIs(K:PySem.W.Frag)(C:Addr):Prop where
 gn:PySem.W.findIn K (.ref C) "__getattr__" = some none
 ca:PySem.W.findIn K (.ref C) "__class__" = some (some (.builtin "object.__class__"))
 hn:PySem.W.specialIn K (.builtin "object.__class__") "__get__" = some (some (.builtin "getset_descriptor.__get__"))
 tk:PySem.W.takesIn K (.builtin "object.__class__")=some true
 mr:PySem.W.mroIn K C (.type "object")=some true
section
variable{prog:Program}{w:World}{A:Around}{E:Value→Shared→Prop}{s:Shared}{K:PySem.W.Frag}{x C:Addr}{name:Str}{ox od:Obj}
end
end L2
namespace L2
open PySem PySem.Spec PyProof.Rows
section
variable{X:Cx}{k:Nat}{f C:Addr}{fd:FuncData}{ps:List Str}{sp:Sp}{Ag:List V}{ds:List Value}{W:bD}{x:Str}{p pos:Pos}{e:Expr}{es:List Expr}{t:TA}
def Wc(C:Addr)(sp:Sp)(Ag:List V)(W:bD)(t:TA):TE:=fun σ H Q=>t σ H fun vs H1=>∀x dx,H1 x=none→H1 dx=none→dx≠x→
 sp (.ref x::(vs++Ag)) (upd (upd H1 dx (.own x)) x (.ins C dx [])) (fun v H2=>v= .non∧Q (.ref x) H2) (EW W σ)
theorem Uw{pins:List (Addr×Obj)}{σ:St}{H:Hp}{s:Shared}{Q:VK}{us:List Value}{vs:List V}(M:Mk X.K C f)(F:bx X.prog X.w X.K X.mg X.base (iM X.prog X.w) k f fd ps sp)(hr:lq (k+1) X.A)(hb:Binds X.K fd ps ds)(hd:Vals Ag ds)
  (hx:Tk X W) (I:Inv X pins σ H s) (r:Vals vs us)
  (h:∀x dx,H x=none→H dx=none→dx≠x→sp (.ref x::(vs++Ag)) (upd (upd H dx (.own x)) x (.ins C dx [])) (fun v H2=>v= .non∧Q (.ref x) H2) (EW W σ)):
  wpAny (model X.prog X.w) X.A (call (.ref C) us) (EP X pins σ Q) X.xe s:=by
 have hq:=h (s.heap.objs.size+1) s.heap.objs.size (I.hok.fresh (Nat.le_succ _)) (I.hok.fresh (Nat.le_refl _)) (Nat.ne_of_lt (Nat.lt_succ_self _))
 have I2:=Inv.made (C:=C) I
 have r2:Vals (V.ref (s.heap.objs.size+1)::(vs++Ag)) (Value.ref (s.heap.objs.size+1)::(us++ds)):= .cons rfl (r.append hd)
 have hl:(Value.ref (s.heap.objs.size+1)::us++ds).length=ps.length:=by
  have e:=r2.length
  rw[F.len _ _ _ _ hq]at e
  exact e.symm
 refine wpAny_call (Xz (f:=f) I.ye M.makes M.init (beq_iff_eq.mp M.fn) (codeAny_mono (F.run _ X.stack _ _ ⟨Value.ref (s.heap.objs.size+1)::us,[]⟩ (Value.ref (s.heap.objs.size+1)::(us++ds)) _ _ _ (hr.make C us [])
  (I2.env0.make C us []) (hb _ (Value.ref (s.heap.objs.size+1)::us) I2.ye hl) r2 hq) fun r s' hq'=> ?_))
 match r,hq' with
 | .error e,hq'=>exact hx _ _ (fH.Sx I2 hq' fun C dx H' ⟨C',dx',e1,e2,w⟩=>by cases e1;cases e2;exact w)
 | .ok (.ret u),hq'=>
  obtain⟨v,H',I3,rv,ev,q3⟩:=I2.after hq'
  subst ev
  exact⟨rv,⟨V.ref (s.heap.objs.size+1),H',I3,rfl,q3⟩⟩
theorem Xi(M:Mk X.K C f)(F:bx X.prog X.w X.K X.mg X.base (iM X.prog X.w) k f fd ps sp)(hr:lq (k+1) X.A)(hg:Gl X x)(hm:X.mg x=some (.ref C))(hb:Binds X.K fd ps ds)(hd:Vals Ag ds)(hx:Tk X W)
  (ha:PA X (e::es) t) (hdb:(x==("__debug__" : Str))=false:=by decide) (he:starEach (e::es) X.env=(false,eval e X.env)::starEach es X.env:=by rfl) (hpl:(backTo pos (starEach es X.env)).any (·.1)=false:=by rfl):
  PE X (.Call (.Name x p) (e::es) [] pos) (Wc C sp Ag W t):=fun pins s σ H Q I h=>
 wpAny_Call_Name_kw (Ga I hg hm (PySem.W.callWith_K (h₀:=X.base) I.ok.mod.kin M.kp (iw (ha pos pins s σ H _ I h) fun us s1 ⟨vs,H1,I1,r,q⟩=>⟨I1.ye,Uw M F hr hb hd hx I1 r q⟩) he hpl) hdb)
end
end L2
namespace L2
open PySem PySem.Spec PyProof.Rows
section
variable{X:Cx}{k:Nat}{f C:Addr}{fd:FuncData}{ps:List Str}{g:Str}{x:Str}{np cpos:Pos}{arg:Expr}{ta:TA}
end
section
variable{K:PySem.W.Frag}{nm q:Str}{C N:Addr}{bs bm:List Value}{sn:List Str}{sub:List Value}{ab:Bool}{col:Option Bool}{dd:Option Addr}{k0 k1 k2 k3 k5:Option Value}{newId:String}{name:Str}
theorem Rz(lo:K.lookup C=some (excClassObj nm q C N bs bm true sn sub ab col dd k0 k1 k2 k3 k5 newId))(h1:bm.contains (.type "object")=true)(h2:bm.contains (.type "BaseException")=true)(h3:∀self,refuseLoop self "__setattr__" bm=pure ())
  (sa:PySem.W.findIn K (.ref C) "__setattr__" = some (some (.builtin "object.__setattr__"))) (ga:PySem.W.findIn K (.ref C) "__getattribute__" = some (some (.builtin "BaseException.__getattribute__"))) (no:PySem.W.findIn K (.ref C) name=some none):Dc K C name:=
 ⟨⟨_,by unfold PySem.W.clsIn;rw[lo],rfl,rfl,by rw[List.contains_cons,h1,Bool.or_true],by rw[List.contains_cons,h2,Bool.or_true],fun self=>(refuseLoop_ref self _ C bm).trans (h3 self)⟩,sa,ga,no⟩
theorem V4(lo:K.lookup C=some (excClassObj nm q C N bs bm true sn sub ab col dd k0 k1 k2 k3 k5 newId))(h1:bm.contains (.type "object")=true)(gn:PySem.W.findIn K (.ref C) "__getattr__" = some none)(ca:PySem.W.findIn K (.ref C) "__class__" = some (some (.builtin "object.__class__")))
  (hn:PySem.W.specialIn K (.builtin "object.__class__") "__get__" = some (some (.builtin "getset_descriptor.__get__"))) (tk:PySem.W.takesIn K (.builtin "object.__class__")=some true):XIs K C:=
 ⟨gn,ca,hn,tk,by unfold PySem.W.mroIn PySem.W.clsIn;rw[lo];simp only[Option.bind_some];rw[if_neg (by simp),List.contains_cons,h1,Bool.or_true]⟩
theorem V3{f:Addr}(lo:K.lookup C=some (excClassObj nm q C N bs bm true sn sub ab col dd k0 k1 k2 k3 k5 "ValueError.__new__"))(h0:bm.contains (.type "ValueError")=true)(hA:bm.contains (.type "AttributeError")=false)(hN:bm.contains (.type "NameError")=false)(h2:bm.contains (.type "BaseException")=true)
  (init:PySem.W.findIn K (.ref C) "__init__" = some (some (.ref f))) (fn:PySem.W.isFn K (.ref f)=true) (kp:PySem.W.keepIn K (.ref C)=true):XMk K C f:=
 ⟨⟨nm,q,N,bs,bm,true,sn,sub,ab,col,dd,k0,k1,k2,k3,k5,lo,⟨h0,hA,hN⟩,h2⟩,init,fn,kp⟩
theorem Te{t:Value}{b:Bool}(lo:K.lookup C=some (excClassObj nm q C N bs bm true sn sub ab col dd k0 k1 k2 k3 k5 newId))(h:PySem.W.subIn K t (.ref C)=some b):PySem.W.kitCls K t (.ref C)=some b:=by
 unfold PySem.W.kitCls
 dsimp only
 rw[if_pos,h]
 unfold PySem.W.clsIn PySem.W.typeIn
 rw[lo]
 simp[lo]
theorem sub_self(lo:K.lookup C=some (excClassObj nm q C N bs bm true sn sub ab col dd k0 k1 k2 k3 k5 newId)):PySem.W.subIn K (.ref C) (.ref C)=some true:=by
 show PySem.W.mroIn K C (.ref C)=some true
 unfold PySem.W.mroIn PySem.W.clsIn
 rw[lo]
 simp
theorem Ry{t:Value}{b:Bool}(lo:K.lookup C=some (excClassObj nm q C N bs bm true sn sub ab col dd k0 k1 k2 k3 k5 newId))(h2:bm.contains (.type "BaseException")=true)(h:PySem.W.subIn K t (.ref C)=some b):PySem.W.exmOne K t (.ref C)=some b:=by
 unfold PySem.W.exmOne
 have e:PySem.W.subIn K (.ref C) (.type "BaseException")=some true:=by
  show PySem.W.mroIn K C _=some true
  unfold PySem.W.mroIn PySem.W.clsIn
  rw[lo]
  simp only[Option.bind_some]
  rw[if_neg (by simp),List.contains_cons,h2,Bool.or_true]
 rw[if_pos (by rw[e];simp)]
 exact Te lo h
theorem Tc{t:Value}{b:Bool}(lo:K.lookup C=some (excClassObj nm q C N bs bm true sn sub ab col dd k0 k1 k2 k3 k5 newId))(h:PySem.W.subIn K t (.ref C)=some b):PySem.W.kitOne K t (.ref C)=some b:=by
 unfold PySem.W.kitOne
 split
 ·rename_i z
  have z':t= .ref C:=beq_iff_eq.mp z
  subst z'
  rw[sub_self lo]at h
  exact h
 ·exact Te lo h
end
end L2
namespace L2
open PySem
theorem Ei{bm:List Value}{cs:List Addr}(e:bm=cs.map Value.ref++[.type "ValueError",.type "Exception",.type "BaseException",.type "object"]):∀self,refuseLoop self "__setattr__" bm=pure ():=by
 subst e
 intro self
 induction cs with
 | nil=>rfl
 | cons c r ih=>simp only[List.map_cons,List.cons_append,refuseLoop_ref];exact ih
end L2
namespace L2
open PySem PySem.Spec PyProof.Rows
section
variable{prog:Program}{w:World}{A:Around}{R:Result→Shared→Prop}
theorem Uh{elt tg iter:Expr}{ifs:List Expr}{scope:Scope}{pos:Pos}{it acc:Value}{env:Env}{E:Value→Shared→Prop}(W:Nat→Shared→Prop){s:Shared}
  (turn:∀n s,W n s→wpAny (model prog w) A (pyNext it) (fun r s1=>match r with
   | none=>R (.ok .next) s1
   | some v=>wpAny (model prog w) A (letOwnedTupleGo tg it v) (fun _ s2=>wpAny (model prog w) A (assign tg env v) (fun _ s3=>
     wpAny (model prog w) A (forIn ifs true fun c r=>if r=true then do let ok ←isTrue c env (eval c env);pure (ForInStep.yield ok)else pure (ForInStep.yield r)) (fun ok s4=>
      if ok=true then wpAny (model prog w) A (eval elt env) (fun x s5=>wpAny (model prog w) A (call (.builtin "list.append") [acc,x]) (fun _ s6=>∃m,m<n∧W m s6) (fun _ _=>False) s5) E s4
      else ∃m,m<n∧W m s4) E s3) (fun _ _=>False) s2) (fun _ _=>False) s1) (fun _ _=>False) s)
  (hE:∀ev s,E ev s→notedBy (model prog w) A env (fun x s'=>R (.error x) s') ev s)
  (n:Nat) (h:W n s):codeAny (model prog w) A (.compLoop (.ListComp elt [⟨tg,iter,ifs,0⟩] scope pos) 0 it acc env) R s:=by
 have ex:∀{α:Type} {t:Sem α} {Q Q':α→Shared→Prop} {E:Value→Shared→Prop} {s:Shared},wpAny (model prog w) A t Q (fun _ _=>False) s→(∀a s,Q a s→Q' a s)→wpAny (model prog w) A t Q' E s:=
  fun h f=>wpAny_mono h f fun _ _ z=>z.elim
 have ey:∀{α:Type} {t:Sem α} {Q Q':α→Shared→Prop} {s:Shared},wpAny (model prog w) A t Q E s→(∀a s,Q a s→Q' a s)→wpAny (model prog w) A t Q' (notedBy (model prog w) A env fun x s'=>R (.error x) s') s:=
  fun h f=>wpAny_mono h f hE
 refine codeAny_loop rfl W (fun n s hI=> ?_) n h
 show wpAny _ A ((compTurn (.ListComp elt [⟨tg,iter,ifs,0⟩] scope pos) 0 it acc env).onRaise (fun x=>do noteFrame x env;theTreesLotGoes x)) _ _ s
 refine wpAny_noted ?_
 rw[compTurn_list]
 refine wpAny_bind (wpAny_standAt (wpAny_bind (ex (turn n s hI) fun r s1 h1=> ?_)))
 cases r with
 | none=>exact wpAny_pure h1
 | some v=>
  refine wpAny_bind (ex h1 fun _ s2 h2=>wpAny_bind (ex h2 fun _ s3 h3=>wpAny_bind (ey h3 fun ok s4 h4=> ?_)))
  cases ok with
  | false=>exact wpAny_pure ⟨rfl,h4⟩
  | true=>exact wpAny_bind (wpAny_bind (ey h4 fun x s5 h5=>wpAny_bind (ex h5 fun _ s6 h6=>wpAny_pure (wpAny_pure ⟨rfl,h6⟩))))
end
section
variable{X:Cx}{scope:Scope}{cl:List (Str×Addr)}{C:Addr}{N:List Str}{fp:List Addr}{s2:Shared}{H2:Hp}{W:bD}{ev:Value}{s:Shared}
theorem fH.adb{E:Value→Shared→Prop}(h:fH (aR X scope cl C N fp s2 H2) W ev s)(hst:X.stack=X.env::X.outer)(hf:X.env.frame=some X.env.locals)
  (hE:∀(e Ce dx T:Addr) (fl:Value) (pn:List (Addr×Obj)) (σ:St) (H:Hp) (s':Shared),Inv (aR X scope cl C N fp s2 H2) pn σ H s'→Exc s'.heap e Ce (some dx) (some T) fl→oJ (aR X scope cl C N fp s2 H2) pn H e→oJ (aR X scope cl C N fp s2 H2) pn H T→W Ce dx σ H→E (.ref e) s'):
  notedBy (model X.prog X.w) X.A (compEnvC scope cl C X.env) E ev s:=by
 obtain⟨e,Ce,dx,T,fl,pins,σ,H,rfl,I,x,hfl,fe,fT,hW⟩:=h
 have Lr:=I.stack
 change Heap.FunFrames s.heap _ X.stack at Lr
 rw[hst]at Lr
 show wpAny (model X.prog X.w) X.A (noteFrame (.ref e) X.env) (fun _ s''=>E (.ref e) s'') E s
 refine J8 (I.ok.frames.trans (congrArg some hst)) Lr hf x (.inl rfl) fun h1 T1 hT1 k1 x1=> ?_
 have VL:oJ (aR X scope cl C N fp s2 H2) pins H T1:=by
  rcases hT1 with r | r
  ·exact fT T1 r
  ·refine⟨I.hok.fresh r,Nat.le_trans I.sz r,fun p hp z=> ?_⟩
   have:=Heap.lt_size (I.pin p hp).1
   rw[z]at this
   exact absurd (Nat.lt_of_lt_of_le this r) (Nat.lt_irrefl _)
 have hTt:∀t,T=some t→∃o,h1.get? t=some o:=fun t z=>by
  obtain⟨o,q⟩:=x.here.2 t z
  exact k1.1.2 t o q
 have I1:=I.Eh x fe fT (k1.mono (fs':=frs X.stack) (by rw[hst];exact fun b z=>z)) x1.here.1 hTt
 exact hE e Ce dx T1 _ pins σ H _ I1 x1 fe VL hW
theorem HH{pins pn:List (Addr×Obj)}{σ σ':St}{H':Hp}{s':Shared}{e Ce dx T:Addr}{fl:Value}{use:Option (Value→Sem Unit)}{Q:Value→Shared→Prop}{acc:Value}(I2:Inv X pins σ H2 s2)(hC:s2.heap.objs.size≤C)(f2:∀b∈fp,HX X pins H2 b)(hx:Tk X W)
  (Ic:Inv (aR X scope cl C N fp s2 H2) pn σ' H' s') (x:Exc s'.heap e Ce (some dx) (some T) fl) (fe:oJ (aR X scope cl C N fp s2 H2) pn H' e) (fT:oJ (aR X scope cl C N fp s2 H2) pn H' T) (hW:W Ce dx σ H'):
  compPost (model X.prog X.w) X.A X.xe use Q acc C (.error (.ref e)) s':=by
 obtain⟨m,hn,_⟩:=id Ic.loc
 have I5:Inv X pins σ H' s':=I2.call' (ch:=fp) Ic.os Ic.base Ic.hok Ic.bare fun b hb=>⟨(f2 b hb).2.2.2.1,(f2 b hb).2.1,(f2 b hb).2.2.2.2.1,(f2 b hb).2.2.2.2.2⟩
 have fr:∀a,oJ (aR X scope cl C N fp s2 H2) pn H' a→oJ X pins H' a:=fun a f=>⟨f.no,Nat.le_trans I2.sz f.new,fun p hp z=>absurd (Nat.lt_of_lt_of_le (Heap.lt_size (I2.pin p hp).1) (z▸f.new)) (Nat.lt_irrefl _)⟩
 have main:∀h',Heap.SameBut C s'.heap h'→∀cenv:Env,cenv.locals=C→wpAny (model X.prog X.w) X.A (PySem.passOn "comprehension.variables-let-go" (.ref e) cenv:Sem Value) (fun _ _=>False) X.xe {s' with heap:=h'}:=by
  intro h' sb cenv _
  have I6:Inv X pins σ H' {s' with heap:=h'}:=I2.letGo I5 hC Ic.free sb
  obtain⟨vs,he,h1,hne,oT,ts,hoT,hd,h3⟩:=x.at_
  have Xv:e≠C:=(Ic.vU he rfl).1
  have nTC:T≠C:=(Ic.vU hoT hd).1
  have x6:Exc h' e Ce (some dx) (some T) fl:=⟨⟨vs,(sb.2 e Xv).trans he,h1,hne,oT,ts,(sb.2 T nTC).trans hoT,hd,h3⟩⟩
  unfold PySem.passOn
  refine wpAny_bind (wpAny_field ((sb.2 e Xv).trans he) rfl h1 ?_)
  rw[if_neg (by simp)]
  refine wpAny_bind (wA (s:={s' with heap:=h'}) x6 fun h2 k2 x2=>wpAny_throw (hx _ _ ?_))
  exact⟨e,Ce,dx,some T,_,pins,σ,H',rfl,I6.Eh x6 (fr e fe) (fun t z=>by cases z;exact fr T fT) (k2.mono (by simp)) x2.here.1 x2.here.2,x2,.inl rfl,fr e fe,fun t z=>by cases z;exact fr T fT,hW⟩
 cases use with
 | none=>exact⟨m,hn,main⟩
 | some u=>exact⟨m,hn,main⟩
end
section
variable{X:Cx}{x:Str}{px:Pos}{elt iter:Expr}{ifs:List Expr}{scope:Scope}{cs:List Str}{js:List Nat}{tt:TT}{te:TE}{pos:Pos}
theorem Fe{W':bD}{cl:List (Str×Addr)}{pins:List (Addr×Obj)}{σ:St}{H2:Hp}{s2:Shared}{it:Addr}{fp:List Addr}{tn:Nat→Heap→Prop}{J:It}{Q:VK}{RR:Value→Addr→Result→Shared→Prop}
  (hc:X.calm=true) (hcap:sG X scope cs js) (hst:X.stack=X.env::X.outer) (hf:X.env.frame=some X.env.locals)
  (ht:∀cl C fp s H,PTs ((aR X scope cl C (x::cs) fp s H).wish (fH (aR X scope cl C (x::cs) fp s H) W')) ifs tt) (he:∀cl C fp s H,PE ((aR X scope cl C (x::cs) fp s H).wish (fH (aR X scope cl C (x::cs) fp s H) W')) elt te)
  (hcell:∀y∈scope.names,y.2≠ .cell) (hkind:scope.kind= .function) (hx:scope.names.lookup x=some .local) (hnd:(x::cs).Nodup)
  (uN:∀n c,cl.lookup n=some c→X.env.cells.lookup n=some c) (DY:∀n,(n,NameKind.free)∈scope.names→∃c,cl.lookup n=some c)
  (I2:Inv X pins σ H2 s2) (T:Turn X.prog X.w X.K (.Name x px) J fp it tn) (st2:tn 0 s2.heap) (f2:∀b∈fp,HX X pins H2 b)
  (W:Nat→Nat→List V→Hp→Prop) (w0:∃m,W 0 m [] H2)
  (step:∀i m ys H,W i m ys H→
   (J.stop i H∧ys.length≤sizeLine∧∀p,H p=none→Q (.ref p) (upd H p (.lst ys)))∨
   (J.go i H∧∃N:List V→Hp→Prop,(∀ys' H',N ys' H'→ys'.length≤sizeLine∧∃m',m'<m∧W (i+1) m' ys' H')∧∀x H',J.YJ i H x H'→tt (some x::caps js σ) H' fun b H2=>
    if b=true then te (some x::caps js σ) H2 fun y H3=>N (ys++[y]) H3 else N ys H2))
  (fin:∀(D C:Addr) (H3:Hp) (s4:Shared) (m':Str→Option Value),Inv X pins σ H3 s4→s4.heap.Ns C m'→s2.heap.objs.size≤C→H3 C=none→Q (.ref D) H3→RR (.ref D) C (.ok .next) s4)
  (aoA:∀(D C e Ce dx T':Addr) (fl:Value) (pn:List (Addr×Obj)) (σ':St) (H':Hp) (s':Shared),s2.heap.objs.size≤C→Inv (aR X scope cl C (x::cs) fp s2 H2) pn σ' H' s'→Exc s'.heap e Ce (some dx) (some T') fl→oJ (aR X scope cl C (x::cs) fp s2 H2) pn H' e→oJ (aR X scope cl C (x::cs) fp s2 H2) pn H' T'→W' Ce dx σ' H'→RR (.ref D) C (.error (.ref e)) s'):
  wpAny (model X.prog X.w) X.A (newList []) (fun acc s3=>wpAny (model X.prog X.w) X.A (newFunctionEnv scope X.env.globals cl [] X.env.qual none .none (some X.env)) (fun cenv s4=>
   codeAny (model X.prog X.w) X.A (.compStart (.ListComp elt [⟨.Name x px,iter,ifs,0⟩] scope pos) 0 (.ref it) acc {cenv with scope:=relabel scope X.env}) (RR acc cenv.locals) s4) X.xe s3) X.xe s2:=by
 refine wpAny_newObj_type (wpAny_newFunctionEnv hcell (by intro y hy;simp at hy) (fun h1 hns hsb=> ?_) hkind)
 dsimp only at hns hsb ⊢
 generalize hP:s2.heap.push {cls:= .type "list",dict:=none,data:= .seq ([]:List Value).toArray}=hq at hns hsb ⊢
 have eC:hq.objs.size=s2.heap.objs.size+1:=by rw[←hP,Heap.size_push]
 generalize eD:s2.heap.objs.size=D at eC ⊢
 generalize eCC:hq.objs.size=C at hns hsb eC ⊢
 have DC:D≠C:=by omega
 have old:∀b o,s2.heap.get? b=some o→h1.get? b=some o:=fun b o e=>by
  have lt: @LT.lt Nat _ b s2.heap.objs.size:=Heap.lt_size e
  exact hsb.extBut b o (fun z=>by subst z;omega) (Heap.get?_push_of_some _ (hP▸Heap.get?_push_of_some _ e))
 have aeF:h1.get? D=some {cls:= .type "list",dict:=none,data:= .seq ([]:List Value).toArray}:=hsb.extBut _ _ DC (Heap.get?_push_of_some _ (hP▸eD▸Heap.get?_push_size _ rfl))
 have noD:s2.heap.get? D=none:=Heap.get?_none_of_le (by omega)
 have HD:H2 D=none:=I2.hok.fresh (by omega)
 have HC:H2 C=none:=I2.hok.fresh (by omega)
 have Yg:∀b∈fp,@LT.lt Nat _ b D:=fun b hb=>by
  obtain⟨o,e,_⟩:=T.obj _ _ st2 b hb
  have q: @LT.lt Nat _ b s2.heap.objs.size:=Heap.lt_size e
  omega
 have Dfp:D∉fp:=fun z=>Nat.lt_irrefl _ (Yg D z)
 have adK:∀b∈frs X.stack,@LT.lt Nat _ b D:=fun b hb=>by
  obtain⟨_,o,ho,_⟩:=I2.stack.mem hb
  have q: @LT.lt Nat _ b s2.heap.objs.size:=Heap.lt_size ho
  omega
 have adR:∀y c,cl.lookup y=some c→ @LT.lt Nat _ c D:=fun y c e=>by
  obtain⟨v,z⟩:=I2.cell y c (uN y c e)
  have q: @LT.lt Nat _ c s2.heap.objs.size:=z.lt
  omega
 have ok:(aR X scope cl C (x::cs) fp s2 H2).Ok:=by
  refine⟨I2.ok.mod,hkind,I2.ok.glob,I2.ok.blt,(by show s2.heap.objs.size≤C;omega),fun y z c e1 e2=>I2.ok.inj y z c (uN y c e1) (uN z c e2),fun y hy=>DY y (Kv hcell hy),fun y c e=>(by cases e),I2.ok.hd,I2.ok.frames,.inl rfl,
   fun b hb=>⟨?_,fun y c e=>(f2 b hb).2.2.2.2.1 y c (uN y c e)⟩,I2.bs,Nat.le_trans I2.ok.PL I2.sz,fun b o e hb=> ?_,fun b hb z=> ?_,I2.stack,I2.Bw⟩
  ·have q:=Yg b hb
   show b≠C
   intro z
   subst z
   omega
  ·rcases(f2 b hb).2.2.2.1 with z | z
   ·exact I2.ok.K3 b o e z
   ·have l: @LT.lt Nat _ b X.base.objs.size:=Heap.lt_size e
    have l2:=I2.ok.PL
    have l3: @LE.le Nat _ X.s₀.heap.objs.size b:=z
    omega
  ·rcases List.mem_cons.mp (I2.Gn b z)with e | e
   ·exact(f2 b hb).2.1 e
   ·exact(f2 b hb).2.2.1 e
 have I0:Inv (aR X scope cl C (x::cs) fp s2 H2) [(D,{cls:= .type "list",dict:=none,data:= .seq ([]:List Value).toArray})] (none::caps js σ) H2 {s2 with heap:=h1,toks:=s2.toks+([]:List (Str×Value)).length}:=by
  refine⟨ok,rfl,I2.bare,Un.kept old,⟨_,hns,fun i y v e1 e2 e3=> ?_⟩,fun y c e=> ?_,HC,fun y c e=>I2.pB y c (uN y c e),fun p hp=> ?_,I2.hok.kept old,?_⟩
  ·cases i with
   | zero=>simp at e2
   | succ j=>
    have e1':cs[j]? = some y:=by simpa[aR]using e1
    obtain⟨i0,q1,q2,q3,q4⟩:=hcap.get e1'
    have e2':σ[i0]? = some (some v):=by
     have z:(caps js σ)[j]? = some (some v):=by simpa using e2
     unfold caps at z
     rw[List.getElem?_map,q1]at z
     have z':(σ[i0]?).join=some v:=by simpa using z
     cases r:σ[i0]? with
     | none=>rw[r]at z';cases z'
     | some r'=>rw[r]at z';exact congrArg some z'
    obtain⟨m,_,hl⟩:=I2.loc
    obtain⟨u,r,l⟩:=hl i0 y v q2 e2' (by rcases q4 with q | q;exact .inr (.inl q);exact .inr (.inr q))
    obtain⟨c,hcy⟩:=DY y (PySem.mem_of_lookup q3)
    refine⟨u,r,.inr ⟨Qz q3,c,hcy,?_⟩⟩
    rcases l with⟨k,_⟩ | ⟨_,c',ec,o,ho,hd⟩
    ·rcases q4 with q | q<;>rw[q]at k<;>cases k
    ·rw[uN y c hcy]at ec
     cases ec
     exact⟨o,old _ _ ho,hd⟩
  ·obtain⟨v,o,ho,hd⟩:=I2.cell y c (uN y c e)
   exact⟨v,o,old _ _ ho,hd⟩
  ·have ep:p=(D,{cls:= .type "list",dict:=none,data:= .seq ([]:List Value).toArray}):=by simpa[aR]using hp
   subst ep
   exact⟨aeF,HD,(by show D≠C;omega),(fun z=>Nat.lt_irrefl _ (adK D z)),fun v z=>by cases z⟩
  ·show(none::caps js σ).length=(x::cs).length
   unfold caps
   rw[List.length_cons,List.length_cons,List.length_map,hcap.len]
 have stat:∀{pn:List (Addr×Obj)} {H':Hp},(∀b∈fp,H' b=none)→(∀p∈pn,p.1∉fp)→∀b∈fp,HX (aR X scope cl C (x::cs) fp s2 H2) pn H' b:=fun hn hpn b hb=>
  ⟨hn b hb,(ok.exf b hb).1,ok.Lz b hb,.inl hb,fun y c e=>(ok.exf b hb).2 y c e,fun p hp z=>hpn p (by simpa[aR]using hp) (z▸hb)⟩
 have loop:∀s3:Shared,s3={s2 with heap:=h1,toks:=s2.toks+([]:List (Str×Value)).length}→
   codeAny (model X.prog X.w) X.A (.compLoop (.ListComp elt [⟨.Name x px,iter,ifs,0⟩] scope pos) 0 (.ref it) (.ref D) (compEnvC scope cl C X.env)) (RR (.ref D) C) s3:=by
  rintro s3 rfl
  obtain⟨m0,w0⟩:=w0
  refine Uh (E:=fH (aR X scope cl C (x::cs) fp s2 H2) W') (fun n s=>∃(i:Nat) (ys:List V) (its:List Value) (c:Nat) (H:Hp),Inv (aR X scope cl C (x::cs) fp s2 H2) [(D,{cls:= .type "list",data:= .seq its.toArray c})] (none::caps js σ) H s∧
   tn i s.heap∧(∀b∈fp,H b=none)∧Vals ys its∧W i n ys H) ?_ (fun ev s5 z=>z.adb hst hf fun e Ce dx T' fl pn σ' H' s' i1 i2 i3 i4 i5=>aoA D C e Ce dx T' fl pn σ' H' s' (by omega) i1 i2 i3 i4 i5) m0 ⟨0,[],[],0,H2,I0,T.keep _ _ _ st2 fun b _ o e=>old b o e,fun b hb=>(f2 b hb).1,.nil,w0⟩
  rintro n s3 ⟨i,ys,its,c,H3,I3,st3,fr3,rv,w3⟩
  have pD:∀p∈[((D,{cls:= .type "list",data:= .seq its.toArray c}):Addr×Obj)],p.1∉fp:=fun p hp=>by
   have:p=(D,{cls:= .type "list",data:= .seq its.toArray c}):=by simpa using hp
   subst this
   exact Dfp
  rcases step i n ys H3 w3 with⟨stop,hlen,qn⟩ | ⟨go,N,hN,step⟩
  ·refine iw (T.done (aR X scope cl C (x::cs) fp s2 H2) rfl rfl rfl hc i _ s3 _ H3 (fun _ _=>False) I3 (stat fr3 pD) st3 stop) fun r s4 ⟨hr,I4⟩=> ?_
   subst hr
   obtain⟨gD,nD,_⟩:=I4.pin _ (List.mem_append_right _ List.mem_cons_self)
   obtain⟨m',hn',_⟩:=id I4.loc
   have u4:Un (frs X.stack) fp H2 H3 s2.heap s4.heap:=I4.base
   have k4:vq X.prog X.w (upd H3 D (.lst ys)) s4.heap:=vq.track I4.hok nD ⟨hlen,its,c,rv,gD⟩
   have I5:Inv X pins σ (upd H3 D (.lst ys)) s4:=I2.call' (ch:=fp) I4.os (u4.track noD HD) k4 I4.bare fun b hb=>⟨(f2 b hb).2.2.2.1,(f2 b hb).2.1,(f2 b hb).2.2.2.2.1,(f2 b hb).2.2.2.2.2⟩
   exact fin D C _ s4 m' I5 hn' (by omega) (by rw[bw (Ne.symm DC)];exact I4.free) (qn D nD)
  ·refine iw (T.item (aR X scope cl C (x::cs) fp s2 H2) rfl rfl rfl hc i _ s3 _ H3 (fun _ _=>False) I3 (stat fr3 pD) st3 go) fun r s4 ⟨u,hr,h4⟩=> ?_
   subst hr
   refine iw h4 fun _ s5 ⟨v,H5,I5,r5,y5,Uq,fr5⟩=> ?_
   have I5':=I5.pinned (stat fr5 pD) (T.obj _ _ Uq)
   have hxl:(compEnvC scope cl C X.env).scope.names.lookup x=some .local:=lookup_relabel_local hx
   refine wpAny_assign_Name (wC (X:=aR X scope cl C (x::cs) fp s2 H2) (i:=0) I5' hnd rfl (.inl hxl) r5 (fun s6 I6=> ?_) (.inr hxl))
   have weak:∀{pn:List (Addr×Obj)} {H':Hp} {s':Shared},Inv (aR X scope cl C (x::cs) fp s2 H2) pn (some v::caps js σ) H' s'→Inv (aR X scope cl C (x::cs) fp s2 H2) pn (none::caps js σ) H' s':=fun I'=>
    I'.weak rfl fun j z e=>by
     cases j with
     | zero=>simp at e
     | succ j=>simpa using e
   have Y9:∀{σ':St} {H':Hp} {s':Shared},Inv (aR X scope cl C (x::cs) fp s2 H2) ([(D,{cls:= .type "list",data:= .seq its.toArray c})]++Dy fp s5.heap) σ' H' s'→(∀b∈fp,∀o,s5.heap.get? b=some o→s'.heap.get? b=some o)∧∀b∈fp,H' b=none:=fun I'=>
    ⟨fun b hb o e=>(I'.pin (b,o) (List.mem_append_right _ (List.mem_append_right _ (qI hb e)))).1,fun b hb=>by
     obtain⟨o,e,_⟩:=T.obj _ _ Uq b hb
     exact(I'.pin (b,o) (List.mem_append_right _ (List.mem_append_right _ (qI hb e)))).2.1⟩
   refine iw (ht cl C fp s2 H2 _ s6 (some v::caps js σ) H5 _ (I6.wish _) (step v H5 y5)) fun b s7 ⟨H7,I7',q7⟩=> ?_
   have I7:=I7'.lO
   cases b with
   | false=>
    rw[if_neg Bool.false_ne_true]at q7 ⊢
    obtain⟨_,m',hm,w7⟩:=hN _ _ q7
    exact⟨m',hm,i+1,ys,its,c,H7,weak I7.yZ,T.keep _ _ _ Uq (Y9 I7).1,(Y9 I7).2,rv,w7⟩
   | true=>
    rw[if_pos rfl]at q7 ⊢
    refine iw (he cl C fp s2 H2 _ s7 (some v::caps js σ) H7 _ (I7.wish _) q7) fun yv s8 ⟨y,H8,I8',r8,q8⟩=> ?_
    have I8:=I8'.lO
    obtain⟨hl8,m',hm,w8⟩:=hN _ _ q8
    rw[List.length_append,List.length_singleton]at hl8
    obtain⟨gD,nD,dC,dF,_⟩:=I8.pin (D,{cls:= .type "list",data:= .seq its.toArray c}) (List.mem_append_right _ (List.mem_append_left _ List.mem_cons_self))
    have el:=rv.length
    refine wpAny_list_append_plain (hsz:=by rw[List.size_toArray];omega) ⟨c,gD⟩ fun h9 p9 sb9=> ?_
    obtain⟨c9,g9⟩:=p9
    have g9':h9.get? D=some {cls:= .type "list",data:= .seq (its++[yv]).toArray c9}:=by simpa using g9
    have I9:Inv (aR X scope cl C (x::cs) fp s2 H2) [] (none::caps js σ) H8 {s8 with heap:=h9}:=
     (weak (I8.xU (vI:=[]) (fun p hp=>nomatch hp))).turned (t':=s8.toks) (it:=D) (fun b o hb e=>(sb9.2 b hb).trans e) nD dC (.inr (by show s2.heap.objs.size≤D;omega)) (fun y c e z=>by have q:=adR y c e;subst z;omega) (fun p hp=>nomatch hp)
    refine⟨m',hm,i+1,ys++[y],its++[yv],c9,H8,I9.xU fun p hp=> ?_,?_,(Y9 I8).2,rv.append (.cons r8 .nil),w8⟩
    ·have:p=(D,{cls:= .type "list",data:= .seq (its++[yv]).toArray c9}):=by simpa using hp
     subst this
     exact⟨g9',nD,dC,dF,fun v z=>by cases z⟩
    ·exact T.keep _ _ _ Uq fun b hb o e=>(sb9.2 b (fun z=>Dfp (z▸hb))).trans ((Y9 I8).1 b hb o e)
 exact codeAny_compStart_list (loop _ rfl) (T.self _ 0 _ _ _ (T.keep _ _ _ st2 fun b _ o e=>old b o e) (loop _ rfl))
end
def Qi(js:List Nat)(wi:TI)(tt:bD→TT)(te:bD→TE)(W:bD):TE:=fun σ H Q=>wi σ H fun J H1=>YH js (tt fun C dx _ H=>W C dx σ H) (te fun C dx _ H=>W C dx σ H) σ Q J H1
section
variable{X:Cx}{x:Str}{px:Pos}{elt iter:Expr}{ifs:List Expr}{scope:Scope}{cs:List Str}{js:List Nat}{pos:Pos}
theorem Xj{wi:TI}{W:bD}{tt:bD→TT}{te:bD→TE}(hW:Tk X W)(hst:X.stack=X.env::X.outer)(hf:X.env.frame=some X.env.locals)(hc:X.calm=true)(cs:List Str)(js:List Nat)(hi:PI X (.Name x px) iter wi)(hcap:sG X scope cs js)(ht:∀cl C fp s H W',PTs ((aR X scope cl C (x::cs) fp s H).wish (fH (aR X scope cl C (x::cs) fp s H) W')) ifs (tt W'))(he:∀cl C fp s H W',PE ((aR X scope cl C (x::cs) fp s H).wish (fH (aR X scope cl C (x::cs) fp s H) W')) elt (te W'))
  (hall:∀y∈scope.names,y.2= .free→y.1∈cs) (hcell:∀y∈scope.names,y.2≠ .cell) (hnames:∀y∈scope.names,y.2= .local→scope.names.lookup y.1=some .local) (hnd:(x::cs).Nodup)
  (hkind:scope.kind= .function:=by rfl) (hx:scope.names.lookup x=some .local:=by rfl) (hs:∀v,foldedSetIterable iter X.env v=pure v:=by intro _;rfl):
  PE X (.ListComp elt [⟨.Name x px,iter,ifs,0⟩] scope pos) (Qi js wi tt te W):=by
 intro pins s σ H Q I h
 obtain⟨cl,Q8,uN,DY⟩:=yr (env:=X.env) (scope:=scope) fun n hn=>by
  obtain⟨j,hj⟩:=List.getElem?_of_mem (hall _ hn rfl)
  obtain⟨_,_,_,_,k⟩:=hcap.get hj
  exact I.ok.has n k
 rw[eval_ListComp]
 refine wpAny_comprehension_free (use:=none) rfl hs Q8 hkind hnames (iw (hi pins s σ H _ I h) fun v s1 h1=>iw h1 fun itv s2 h2=> ?_)
 obtain⟨it,fp,tn,J,H2,e,I2,T,st2,f2,Wi,w0,step⟩:=h2
 subst e
 refine Fe (W':=fun C dx _ H=>W C dx σ H) (Q:=Q) (RR:=fun acc C=>compPost (model X.prog X.w) X.A X.xe none (EP X pins σ Q) acc C) hc hcap hst hf (fun cl C fp s H=>ht cl C fp s H _) (fun cl C fp s H=>he cl C fp s H _) hcell hkind hx hnd uN DY I2 T st2 f2 Wi w0 step (fun D C H3 s4 m' I4 hn hC hH q=> ?_) fun D C e Ce dx T' fl pn σ' H' s' hC Ic x fe fT w=>HH I2 hC f2 hW Ic x fe fT w
 exact⟨m',hn,fun h' sb=>⟨.ref D,H3,I2.letGo I4 hC hH sb,rfl,q⟩⟩
theorem Xc{wi:TI}{W:bD}{tt:bD→TT}{te:bD→TE}{y:Str}{py spos:Pos}{k:Nat}(hW:Tk X W)(hst:X.stack=X.env::X.outer)(hf:X.env.frame=some X.env.locals)(hc:X.calm=true)(cs:List Str)(js:List Nat)(hN:X.N.Nodup)(hk:X.N[k]? = some y)(hy:X.env.scope.names.lookup y=some .local)(hi:PI X (.Name x px) iter wi)(hcap:sG X scope cs js)
  (ht:∀cl C fp s H W',PTs ((aR X scope cl C (x::cs) fp s H).wish (fH (aR X scope cl C (x::cs) fp s H) W')) ifs (tt W')) (he:∀cl C fp s H W',PE ((aR X scope cl C (x::cs) fp s H).wish (fH (aR X scope cl C (x::cs) fp s H) W')) elt (te W'))
  (hall:∀y∈scope.names,y.2= .free→y.1∈cs) (hcell:∀y∈scope.names,y.2≠ .cell) (hnames:∀y∈scope.names,y.2= .local→scope.names.lookup y.1=some .local) (hnd:(x::cs).Nodup)
  (hsw:swapsWith (.ListComp elt [⟨.Name x px,iter,ifs,0⟩] scope pos) (some (.Name y py)) spos.line X.env=pure true:=by rfl)
  (hkind:scope.kind= .function:=by rfl) (hx:scope.names.lookup x=some .local:=by rfl) (hs:∀v,foldedSetIterable iter X.env v=pure v:=by intro _;rfl):
  PS X (.Assign [.Name y py] (.ListComp elt [⟨.Name x px,iter,ifs,0⟩] scope pos) spos) (Wk (Qi js wi tt te W) (Jv k)):=by
 intro pins s σ H D I h
 obtain⟨cl,Q8,uN,DY⟩:=yr (env:=X.env) (scope:=scope) fun n hn=>by
  obtain⟨j,hj⟩:=List.getElem?_of_mem (hall _ hn rfl)
  obtain⟨_,_,_,_,k⟩:=hcap.get hj
  exact I.ok.has n k
 rw[exec_Assign_Name_used _ _ _ _ hsw]
 refine wpAny_bind (wpAny_standAt (wpAny_bind ?_))
 show wpAny _ X.A (do let _ ←comprehension (.ListComp elt [⟨.Name x px,iter,ifs,0⟩] scope pos) scope X.env _ (newList []) false (eval iter X.env) (some (assign (.Name y py) X.env))) _ _ s
 refine wpAny_bind (iw (wpAny_comprehension_free (use:=some (assign (.Name y py) X.env)) (Q:=fun _ s'=>SP X pins D .next s') rfl hs Q8 hkind hnames (iw (hi pins s σ H _ I h) fun v s1 h1=>iw h1 fun itv s2 h2=> ?_)) (fun _ s' q=>wpAny_pure (wpAny_pure q)))
 obtain⟨it,fp,tn,J,H2,e,I2,T,st2,f2,Wi,w0,step⟩:=h2
 subst e
 refine Fe (W':=fun C dx _ H=>W C dx σ H) (Q:=fun x H1=>Jv k x σ H1 D.nx) (RR:=fun acc C=>compPost (model X.prog X.w) X.A X.xe (some (assign (.Name y py) X.env)) (fun _ s'=>SP X pins D .next s') acc C) hc hcap hst hf (fun cl C fp s H=>ht cl C fp s H _) (fun cl C fp s H=>he cl C fp s H _) hcell hkind hx hnd uN DY I2 T st2 f2 Wi w0 step (fun D' C H3 s4 m' I4 hn hC hH q=> ?_) fun D C e Ce dx T' fl pn σ' H' s' hC Ic x fe fT w=>HH I2 hC f2 hW Ic x fe fT w
 show wpAny _ X.A (assign (.Name y py) X.env (.ref D')) _ _ _
 refine wpAny_assign_Name (Dk (v:= .ref D') I4 hN hk (.inl hy) rfl (fun s5 I5 ⟨a,sb,ha⟩=> ?_) (.inr hy))
 have Xv:C≠a:=by
  rcases ha with e | e
  ·rw[e];exact Nat.ne_of_gt (Nat.lt_of_lt_of_le I2.lt hC)
  ·intro z
   obtain⟨v,q⟩:=I2.cell y a e
   exact absurd (Nat.lt_of_lt_of_le q.lt (by rw[←z];exact hC)) (Nat.lt_irrefl _)
 exact⟨m',hn.sameBut sb Xv,fun h' sb'=>⟨_,H3,I2.letGo I5 hC hH sb',q⟩⟩
end
end L2
namespace L2
open PySem PySem.Spec PyProof.Rows
def amE:V→Option Int→Option Int→Hp→VK→Prop:=fun x lo hi H Q=>∃u,x= .str u∧u.length≤sizeLine∧Q (.str (Txt.slice u lo hi)) H
theorem ab1{X:Cx}:SlR X amE:=by
 intro pins s σ H x v vl vu lo hi sl Q I rx hs pl pu h
 obtain⟨u,rfl,hz,q⟩:=h
 obtain⟨t,rfl⟩:=rx
 have fin:∀(t':Tok) (k:Nat),EP X pins σ Q (.str (Txt.slice u lo hi) t') {s with toks:=k}:=fun t' k=>⟨.str _,H,I.tok k,⟨t',rfl⟩,q⟩
 refine⟨"str",_,F.slot_str_getitem.lookup,typeIs_str _ _ _,?_⟩
 cases pl with
 | none=>
  cases pu with
  | none=>exact wpAny_getItem_str_slice (l:=none) (u:=none) (st:=none) hs rfl (post_val_or_str ⟨Nat.le_trans (Txt.slice_le u _ _) hz,fin⟩)
  | int j uj=>exact wpAny_getItem_str_slice (l:=none) (u:=some (j,uj)) (st:=none) hs rfl (post_val_or_str ⟨Nat.le_trans (Txt.slice_le u _ _) hz,fin⟩)
 | int i ui=>
  cases pu with
  | none=>exact wpAny_getItem_str_slice (l:=some (i,ui)) (u:=none) (st:=none) hs rfl (post_val_or_str ⟨Nat.le_trans (Txt.slice_le u _ _) hz,fin⟩)
  | int j uj=>exact wpAny_getItem_str_slice (l:=some (i,ui)) (u:=some (j,uj)) (st:=none) hs rfl (post_val_or_str ⟨Nat.le_trans (Txt.slice_le u _ _) hz,fin⟩)
theorem Qf{n:Nat}(h:n≤1000000):Builtin.Str.tooLong n=false:=by
 unfold Builtin.Str.tooLong
 exact decide_eq_false (by have:(1000000:Nat)≤sizeLine:=by decide
                           omega)
theorem mulOk_of{x:Str}{n:Int}(hx:x.length≤1000)(h0: -(2 ^ 62)<n)(h1:n≤1000):MulOk x n:=by
 refine⟨?_,?_,?_⟩
 ·rw[decide_eq_false (by omega),decide_eq_false (by omega)];rfl
 ·intro a b
  have:(1000:Int)≤(2 ^ 63 - 1) / n:=by
   rw[Int.le_ediv_iff_mul_le (by omega)]
   omega
  omega
 ·intro a b
  refine Qf ?_
  have:n.toNat≤1000:=by omega
  calc x.length*n.toNat≤1000*1000:=Nat.mul_le_mul hx this
   _≤1000000:=by decide
theorem QF{X:Cx}:wz X (binaryOp .Mult) (fun x y H Q=>∃i j,x= .str i∧y= .int j∧MulOk i j∧Q (.str (PySem.Txt.mul i j)) H):=by
 intro pins s σ H x y v u Q I rx ry h
 obtain⟨i,j,rfl,rfl,hz,q⟩:=h
 obtain⟨t,rfl⟩:=rx
 obtain⟨t',rfl⟩:=ry
 exact SB.mul hz (fun t' tk=>⟨.str (PySem.Txt.mul i j),H,I.tok _,⟨_,rfl⟩,q⟩)
end L2
namespace L2
open PySem PySem.Spec PyProof.Rows
section
variable{X:Cx}
theorem ais{pins:List (Addr×Obj)}{σ:St}{H:Hp}{s:Shared}{a:Addr}(I:Inv X pins σ H s)(e:H a=some (.dK [])):Inv X pins σ (upd H a (.dT [])) s:=by
 obtain⟨z,hd,vs,rel,o,es,ep,h1,h2,h3,h4,h5,h6⟩:=ahZ I.hok e
 have hv:vs=[]:=by cases rel;rfl
 subst hv
 have he:es.toList=[]:=by
  have:=h5.length
  exact List.length_eq_zero_iff.mp (by simpa using this)
 exact aaH (t':=s.toks) (h':=s.heap) I (by rw[e];exact True.intro) ⟨rfl,fun _ _=>rfl⟩ ⟨o,h1⟩ ⟨Nat.zero_le _,hd,[],.nil,o,es,ep,h1,h2,h3,by rw[he];rfl,List.nodup_nil⟩
def aa6(H:Hp)(a:Addr)(y:V)(o:Option V)(H':Hp):Prop:=(Fz H a y o∧H'=H)∨(H a=some (.dK [])∧(∃(k:List Key) (b:Addr),y= .ref b∧H b=some (.tup (k.map kV)))∧o=none∧H'=upd H a (.dT []))
theorem aa6.inv{pins:List (Addr×Obj)}{σ:St}{H H':Hp}{s:Shared}{a:Addr}{y:V}{o:Option V}(g:aa6 H a y o H')(I:Inv X pins σ H s):Inv X pins σ H' s∧Fz H' a y o:=by
 rcases g with⟨g,rfl⟩ | ⟨e,⟨k,b,rfl,eb⟩,rfl,rfl⟩
 ·exact⟨I,g⟩
 ·refine⟨ais I e,.inr ⟨[],k,b,.inl dm,rfl,?_,rfl⟩⟩
  rw[bw (fun z=>by subst z;rw[e]at eb;cases eb)]
  exact eb
def afX(neg:Bool):R2:=fun y x H Q=>∃a o H',x= .ref a∧aa6 H a y o H'∧Q (.bl (if neg=true then !o.isSome else o.isSome)) H'
theorem ac1(hu:X.A.units+1<cLine):wz X (compareOp .In) (afX false):=by
 intro pins s σ H y x v u Q I ry rx h
 obtain⟨a,o,H',rfl,g,q⟩:=h
 obtain rfl:u=Value.ref a:=rx
 obtain⟨I1,g1⟩:=g.inv I
 exact aoD hu I1 g1 ry fun s' I'=>⟨.bl _,H',I',rfl,q⟩
def afW:R2:=fun x y H Q=>∃a v,x= .ref a∧Fz H a y (some v)∧Q v H
theorem aav(hu:X.A.units+1<cLine):IxR X afW:=by
 intro value slice pins s σ H x y v u Q I rx ry h hs
 obtain⟨a,d,rfl,g,q⟩:=h
 obtain rfl:v=Value.ref a:=rx
 exact tail_any (O6 I g) PySem.F.slot_dict_getitem.lookup (Vo hu I g ry fun w' s' I' rw'=>⟨d,H,I',rw',q⟩) hs
section
variable{o e f i value:Expr}{apos cpos pos pos':Pos}{td ty tx tv:TE}
end
end
section
variable{prog:Program}{w:World}{A:Around}{E:Value→Shared→Prop}{s:Shared}{κ:Type}[DecidableEq κ]{knd:HeapKind prog w κ}{a:Addr}{xs:List (κ×Addr×Value)}
theorem QX(hd:(a==sysModules)=false):MeetsIn prog w (Builtin.«dict.__len__» ⟨[.ref a],[]⟩) (fun _ R t=>∃ys:List (κ×Addr×Value),t.heap.DictOfH knd a ys∧R (.ok (.ret (.int ys.length t.toks))) {t with toks:=t.toks+1}):=
 .of_wp fun A R t ⟨ys,hm,q⟩=>by
  obtain⟨o,es,ep,e1,_,e2,e3,_⟩:=hm
  show wpAny _ _ (dictSize a >>= _) _ _ t
  unfold dictSize
  refine wpAny_bind (wpAny_bind (wpAny_dictEntries e1 e2 (wpAny_pure ?_)))
  show wpAny _ _ (Builtin.Dict.pendingCount a >>= _) _ _ t
  refine wpAny_bind (wpAny_pendingCount_other hd (wpAny_ret_mkInt ?_))
  have sz:es.size=ys.length:=by rw[←Array.length_toList,e3,List.length_map]
  rw[Nat.add_zero,sz]
  exact q
theorem aoc{Q:Value→Shared→Prop}(hd:(a==sysModules)=false)(hm:s.heap.DictOfH knd a xs)(hz:(xs.length:Int)<2 ^ 63)(q:Q (.int xs.length (s.toks+1)) {s with toks:=s.toks+1+1}):wpAny (model prog w) A (call (.builtin "len") [.ref a]) Q E s:=by
 refine Calls.call_function_entry kind_len plain_len entry_len (args_len1 _) ?_
 unfold Builtin.«len»
 refine wpAny_bind (m:=oneArg "len" _) (wpAny_pure (wpAny_bind (m:=callSpecial? (.ref a) (Str.ofString "__len__")) ?_))
 refine wpAny_callSpecial?_slot (name:=Str.ofString "__len__") hm.typeIs F.slot_dict_len (call_meetsIn F.slot_dict_len hm.typeIs F.entry_dict_len (F.args_dict_len_1 _) (QX (knd:=knd) hd) ⟨xs,hm,?_⟩)
 show wpAny (model prog w) _ _ _ _ {s with toks:=s.toks+1}
 refine wpAny_bind (wpAny_holding (wpAny_pure (wpAny_bind (wpAny_letGo ?_))))
 show wpAny (model prog w) _ (if((xs.length:Nat):Int)<0 then _ else _) _ _ _
 rw[if_neg (by omega)]
 show wpAny (model prog w) _ (if((xs.length:Nat):Int)≥2 ^ 63 then _ else _) _ _ _
 rw[if_neg (by omega)]
 exact wpAny_bind (wpAny_mkInt (wpAny_pure ⟨_,rfl,q⟩))
end
theorem Vs{X:Cx}:oN X (.builtin "len") (fun xs H Q=>∃a kvs,xs=[V.ref a]∧H a=some (.dT kvs)∧Q (.int kvs.length) H):=by
 intro pins s σ H xs us Q I r h
 obtain⟨a,kvs,rfl,ha,q⟩:=h
 obtain⟨u,rfl,ru⟩:=vals1 r
 cases ru
 obtain⟨z,hd,ys,rel,dd⟩:=ahW I.hok ha
 have hl:=Paired.length rel
 refine aoc hd dd (by rw[←hl];rw[sizeLine_eq]at z;omega) ⟨.int kvs.length,H,I.tok _,⟨_,by rw[hl]⟩,q⟩
end L2
namespace L2
open PySem PySem.W PyProof.Rows
section
variable{n:Nat}{O:KeyOrd}{k:Nat→O.α}
def kk(k:Nat→O.α)(p:Array Nat)(i:Nat):O.α:=k (p.getD i 0)
def Up(k:Nat→O.α)(p:Array Nat)(m:Nat):Prop:=∀i j,i≤j→j<m→O.kle (kk k p i) (kk k p j)
def Dn(k:Nat→O.α)(p:Array Nat)(m:Nat):Prop:=∀i j,i≤j→j<m→O.kle (kk k p j) (kk k p i)
theorem Up.more{p:Array Nat}{m:Nat}(h:Up (O:=O) k p m)(h1:1≤m)(e:O.kle (kk k p (m - 1)) (kk k p m)):Up k p (m+1):=fun i j a b=>by
 rcases Nat.lt_or_ge j m with q | q
 ·exact h i j a q
 ·obtain rfl:j=m:=by omega
  rcases Nat.lt_or_ge i j with z | z
  ·exact KeyOrd.kle_trans (h i (j - 1) (by omega) (by omega)) e
  ·obtain rfl:i=j:=by omega
   exact O.irrefl _
theorem Dn.more{p:Array Nat}{m:Nat}(h:Dn (O:=O) k p m)(h1:1≤m)(e:O.kle (kk k p m) (kk k p (m - 1))):Dn k p (m+1):=fun i j a b=>by
 rcases Nat.lt_or_ge j m with q | q
 ·exact h i j a q
 ·obtain rfl:j=m:=by omega
  rcases Nat.lt_or_ge i j with z | z
  ·exact KeyOrd.kle_trans e (h i (j - 1) (by omega) (by omega))
  ·obtain rfl:i=j:=by omega
   exact O.irrefl _
end
end L2
namespace L2
open PySem PySem.Spec PySem.W PyProof.Rows
def afo(s:Str):List Int:=s.cps.toList.map Int.ofNat++[-1]
def Kin(c d:List Int):Prop:=∀r r':List Int,HT.lexLt (c++r) (d++r')=if c=d then HT.lexLt r r' else HT.lexLt c d
theorem Gb:∀{c d:List Int},c.length=d.length→Kin c d
 | [],[],_=>fun r r'=>by rw[if_pos rfl];rfl
 | [],_::_,h=>by cases h
 | _::_,[],h=>by cases h
 | x::c,y::d,h=>fun r r'=>by
  have ih:=Gb (c:=c) (d:=d) (by simpa using h) r r'
  rw[List.cons_append,List.cons_append,HT.dY,HT.dY]
  by_cases e:x=y
  ·subst e
   rw[if_pos rfl,if_pos rfl,ih]
   by_cases q:c=d
   ·rw[if_pos q,if_pos (by rw[q])]
   ·rw[if_neg q,if_neg (fun z=>q (by injection z))]
  ·rw[if_neg e,if_neg e,if_neg (fun z=>e (by injection z))]
theorem S_:∀(a b:List Nat),Kin (a.map Int.ofNat++[-1]) (b.map Int.ofNat++[-1])∧HT.lexLt (a.map Int.ofNat++[-1]) (b.map Int.ofNat++[-1])=decide (a<b)∧(a.map Int.ofNat++[-1]=b.map Int.ofNat++[-1]→a=b)
 | [],[]=>⟨Gb rfl,by simp[HT.lexLt],fun _=>rfl⟩
 | [],y::b=>by
  have e:(-1:Int)≠Int.ofNat y:=by simp
  have l:(-1:Int)<Int.ofNat y:=by simp;omega
  refine⟨fun r r'=> ?_,?_,fun h=> ?_⟩
  ·simp only[List.map_nil,List.nil_append,List.map_cons,List.cons_append]
   rw[HT.dY,HT.dY,if_neg e,if_neg e,if_neg (fun z=>e (by injection z))]
  ·simp only[List.map_nil,List.nil_append,List.map_cons,List.cons_append]
   rw[HT.dY,if_neg e,decide_eq_true l]
   simp
  ·simp only[List.map_nil,List.nil_append,List.map_cons,List.cons_append]at h
   exact absurd (by injection h) e
 | x::a,[]=>by
  have e:Int.ofNat x≠(-1:Int):=by simp
  have l:¬Int.ofNat x<(-1:Int):=by simp
  refine⟨fun r r'=> ?_,?_,fun h=> ?_⟩
  ·simp only[List.map_nil,List.nil_append,List.map_cons,List.cons_append]
   rw[HT.dY,HT.dY,if_neg e,if_neg e,if_neg (fun z=>e (by injection z))]
  ·simp only[List.map_nil,List.nil_append,List.map_cons,List.cons_append]
   rw[HT.dY,if_neg e,decide_eq_false l]
   simp
  ·simp only[List.map_nil,List.nil_append,List.map_cons,List.cons_append]at h
   exact absurd (by injection h) e
 | x::a,y::b=>by
  obtain⟨k,l,i⟩:=S_ a b
  by_cases e:x=y
  ·subst e
   refine⟨fun r r'=> ?_,?_,fun h=> ?_⟩
   ·simp only[List.map_cons,List.cons_append]
    rw[HT.dY,HT.dY,if_pos rfl,if_pos rfl,k]
    by_cases q:a.map Int.ofNat++[-1]=b.map Int.ofNat++[-1]
    ·rw[if_pos q,if_pos (by rw[q])]
    ·rw[if_neg q,if_neg (fun z=>q (by injection z))]
   ·simp only[List.map_cons,List.cons_append]
    rw[HT.dY,if_pos rfl,l]
    simp
   ·simp only[List.map_cons,List.cons_append]at h
    rw[i (by injection h)]
  ·have e':Int.ofNat x≠Int.ofNat y:=fun z=>e (Int.ofNat.inj z)
   refine⟨fun r r'=> ?_,?_,fun h=> ?_⟩
   ·simp only[List.map_cons,List.cons_append]
    rw[HT.dY,HT.dY,if_neg e',if_neg e',if_neg (fun z=>e' (by injection z))]
   ·simp only[List.map_cons,List.cons_append]
    rw[HT.dY,if_neg e']
    have:(Int.ofNat x<Int.ofNat y)↔x<y:=by simp
    simp[List.cons_lt_cons_iff,e]
   ·simp only[List.map_cons,List.cons_append]at h
    exact absurd (by injection h) e'
inductive Part (K:PySem.W.Frag) (H:Hp):V→List Int→Nat→Prop
 | int (i:Int):Part K H (.int i) [i] 0
 | str (x:Str):Part K H (.str x) (afo x) 1
 | tup {a:Addr} {ns:List Int}:H a=some (.tup (ns.map V.int))→Part K H (.ref a) ns (ns.length+2)
theorem Part.kin{K:PySem.W.Frag}{H:Hp}{x y:V}{c d:List Int}{k:Nat}(h:Part K H x c k)(h':Part K H y d k):Kin c d:=by
 cases h with
 | int i=>cases h' with
  | int j=>exact Gb rfl
 | str a=>cases h' with
  | str b=>exact(S_ _ _).1
 | tup e=>
  generalize hk:_+2=k' at h'
  cases h' with
  | int j=>omega
  | str b=>omega
  | tup e'=>exact Gb (by omega)
section
variable{X:Cx}{pins:List (Addr×Obj)}{σ:St}{H:Hp}{s:Shared}{A:Around}{E:Value→Shared→Prop}
inductive Parts (K:PySem.W.Frag) (H:Hp):List V→List Int→List Nat→Prop
 | nil:Parts K H [] [] []
 | cons {x:V} {xs:List V} {c cs:List Int} {k:Nat} {ks:List Nat}:Part K H x c k→Parts K H xs cs ks→Parts K H (x::xs) (c++cs) (k::ks)
end
end L2
namespace L2
open PySem PySem.Spec PySem.W PyProof.Rows
inductive aa3 (K:PySem.W.Frag) (H:Hp):List V→List (List Int)→Prop
 | flat {ys:List V} {cs:List (List Int)} (k:Nat) (hk:k<2) (hl:cs.length=ys.length) (h:∀(i:Nat) (y:V) (c:List Int),ys[i]? = some y→cs[i]? = some c→Part K H y c k):aa3 K H ys cs
 | rows {ys:List V} {cs:List (List Int)} (k:Nat) (ks:List Nat) (hl:cs.length=ys.length) (h:∀(i:Nat) (y:V) (c:List Int),ys[i]? = some y→cs[i]? = some c→∃a xs,y=V.ref a∧H a=some (.tup xs)∧Parts K H xs c (k::ks)):aa3 K H ys cs
theorem aa3.len{K:PySem.W.Frag}{H:Hp}{ys:List V}{cs:List (List Int)}(h:aa3 K H ys cs):cs.length=ys.length:=by cases h<;>assumption
section
variable{X:Cx}{pins:List (Addr×Obj)}{σ:St}{H:Hp}{s:Shared}{A:Around}{E:Value→Shared→Prop}
end
end L2
namespace L2
open PySem PySem.Spec PySem.W PySem.Calls PyProof.Rows
def aeJ(h:Heap)(d:Addr)(es:Array DictEntry)(ep:Nat):Prop:=∃o,h.get? d=some o∧o.ExactDict∧o.data= .dict es ep
theorem aeJ.keep{h h':Heap}{d:Addr}{es:Array DictEntry}{ep:Nat}(x:aeJ h d es ep)(k:∀o,h.get? d=some o→h'.get? d=some o):aeJ h' d es ep:=
 let⟨o,a,b⟩:=x;⟨o,k o a,b⟩
def itO(f0 f1:Value)(d:Addr)(i n ep:Nat)(ok ov:Value):Obj:=
 {cls:= .type "dict_itemiterator",dict:=none,data:= .fields #[f0,f1,.ref d,.int i 0,.int n 0,.int ep 0,ok,ov],slots:= #[]}
def aeI(h:Heap)(it d S:Addr)(i n ep:Nat):Prop:=∃f0 f1 ok ov,h.get? it=some (itO f0 f1 d i n ep ok ov)∧(f0= .none∨∃(a:Addr) (b:Bool) (oa:Obj),f0=rawInt a∧f1= .bool b∧h.get? a=some oa∧a≠it∧a≠S)
theorem aeI.keep{h h':Heap}{it d S:Addr}{i n ep:Nat}(x:aeI h it d S i n ep)(k:∀b o,b≠S→h.get? b=some o→h'.get? b=some o)(hS:it≠S):aeI h' it d S i n ep:=by
 obtain⟨f0,f1,ok,ov,e,z⟩:=x
 exact⟨f0,f1,ok,ov,k _ _ hS e,z.imp id fun⟨a,b,oa,q1,q2,q3,q4,q5⟩=>⟨a,b,oa,q1,q2,k _ _ q5 q3,q4,q5⟩⟩
section
variable{prog:Program}{w:World}{A:Around}{E:Value→Shared→Prop}{s:Shared}
end
end L2
namespace L2
open PySem PySem.Spec PySem.W PySem.Calls PyProof.Rows
section
variable{X:Cx}{pins:List (Addr×Obj)}{σ:St}{H:Hp}{s:Shared}{A:Around}{E:Value→Shared→Prop}
theorem Parts.keep{K:PySem.W.Frag}{H H':Hp}(k:∀a xs,H a=some (.tup xs)→H' a=some (.tup xs)):∀{xs:List V} {c:List Int} {ks:List Nat},Parts K H xs c ks→Parts K H' xs c ks
 | _,_,_,.nil=> .nil
 | _,_,_,.cons p ps=> .cons (by
   cases p with
   | int i=>exact .int i
   | str x=>exact .str x
   | tup e=>exact .tup (k _ _ e)) (ps.keep k)
end
end L2
namespace L2
open PySem PySem.Spec PyProof.Rows
section
variable{X:Cx}{tg elt iter:Expr}{ifs:List Expr}{scope:Scope}{xs cs:List Str}{js:List Nat}{tt:TT}{te:TE}{pos:Pos}
end
end L2
namespace L2
open PySem PySem.Spec PySem.W PySem.Calls PyProof.Rows
section
variable{X:Cx}{pins:List (Addr×Obj)}{σ:St}{H:Hp}{s:Shared}
end
end L2
namespace S
open PySem PySem.Spec PyProof.Rows L2
inductive D where
 | non | bl (b:Bool) | int (i:Int) | str (x:Str) | tup (ds:List D) | ref (n:Nat) | cl (ds:List D) | ty (n:String) | cls (c:Nat) | exc (c:Nat) (d:D)
inductive MO where
 | lst (ds:List D) | ins (c:Nat) (fs:List (Str×D)) | dk (kvs:List (Key×D)) | dt (kvs:List (List Key×D))
abbrev St:=L2.St
abbrev Mem:=List MO
abbrev Sl:=List (Option D)
inductive Out (α:Type) where
 | ok (a:α) (M:Mem)
 | exc (c:Nat) (d:D) (M:Mem)
 | bad
def Out.bind{α β:Type}(o:Out α)(f:α→Mem→Out β):Out β:=match o with
 | .ok a M=>f a M
 | .exc c d M=> .exc c d M
 | .bad=> .bad
@[simp] theorem Out.jH{α β:Type}(c:Nat)(d:D)(M:Mem)(f:α→Mem→Out β):(Out.exc c d M:Out α).bind f= .exc c d M:=id rfl
@[simp] theorem Out.fY{α β:Type}(a:α)(M:Mem)(f:α→Mem→Out β):(Out.ok a M).bind f=f a M:=id rfl
@[simp] theorem Out.gO{α β:Type}(f:α→Mem→Out β):(Out.bad:Out α).bind f= .bad:=id rfl
def FrL(K:PySem.W.Frag)(H:Hp)(a:Addr)(xs:List V):Prop:=(∃o,H a=some (.Af o (.lst xs)))∨
 ∃(o:Obj) (its:Array Value) (n:Nat),K.lookup a=some o∧o.cls= .type "list" ∧ o.dict=none∧o.data= .seq its n∧its.size≤sizeLine∧Vals xs its.toList
theorem FrL.sq{K:PySem.W.Frag}{H:Hp}{a:Addr}{xs:List V}(h:FrL K H a xs):yC K H a xs:=h.elim (fun z=> .inl (.inr z)) .inr
mutual
inductive DV (K:PySem.W.Frag) (ct ι:Nat→Addr) (n:Nat) (H:Hp):D→V→Prop
 | non:DV K ct ι n H .non .non
 | bl (b:Bool):DV K ct ι n H (.bl b) (.bl b)
 | int (i:Int):DV K ct ι n H (.int i) (.int i)
 | str (x:Str):DV K ct ι n H (.str x) (.str x)
 | tup {a:Addr} {xs:List V} {ds:List D}:H a=some (.tup xs)→o4 K ct ι n H ds xs→DV K ct ι n H (.tup ds) (.ref a)
 | ref {i:Nat}:i<n→DV K ct ι n H (.ref i) (.ref (ι i))
 | cl {a:Addr} {xs:List V} {ds:List D}:FrL K H a xs→o4 K ct ι n H ds xs→DV K ct ι n H (.cl ds) (.ref a)
 | ty (s:String):DV K ct ι n H (.ty s) (.ty s)
 | cls (c:Nat):DV K ct ι n H (.cls c) (.ref (ct c))
 | exc {a dx:Addr} {c:Nat} {d:D} {v:V}:H a=some (xC a (ct c) dx)→H dx=some (.xd [("at",v)])→DV K ct ι n H d v→DV K ct ι n H (.exc c d) (.ref a)
inductive o4 (K:PySem.W.Frag) (ct ι:Nat→Addr) (n:Nat) (H:Hp):List D→List V→Prop
 | nil:o4 K ct ι n H [] []
 | cons {d:D} {x:V} {ds:List D} {xs:List V}:DV K ct ι n H d x→o4 K ct ι n H ds xs→o4 K ct ι n H (d::ds) (x::xs)
end
structure Ext(K:PySem.W.Frag)(ι:Nat→Addr)(n:Nat)(H:Hp)(ι':Nat→Addr)(n':Nat)(H':Hp):Prop where
 tup:∀a xs,H a=some (.tup xs)→H' a=some (.tup xs)
 Af:∀a xs,FrL K H a xs→FrL K H' a xs
 ex:∀a φ,H a=some (.ext φ)→H' a=some (.ext φ)
 xd:∀a fs,H a=some (.xd fs)→H' a=some (.xd fs)
 le:n≤n'
 same:∀i,i<n→ι' i=ι i
theorem Ext.refl{K:PySem.W.Frag}{ι:Nat→Addr}{n:Nat}{H:Hp}:Ext K ι n H ι n H:=⟨fun _ _ h=>h,fun _ _ h=>h,fun _ _ h=>h,fun _ _ h=>h,Nat.le_refl _,fun _ _=>rfl⟩
theorem Ext.trans{K:PySem.W.Frag}{ι gF lN:Nat→Addr}{n n1 n2:Nat}{H H1 H2:Hp}(a:Ext K ι n H gF n1 H1)(b:Ext K gF n1 H1 lN n2 H2):Ext K ι n H lN n2 H2:=
 ⟨fun x xs h=>b.tup x xs (a.tup x xs h),fun x xs h=>b.Af x xs (a.Af x xs h),fun x xs h=>b.ex x xs (a.ex x xs h),fun x xs h=>b.xd x xs (a.xd x xs h),Nat.le_trans a.le b.le,fun i hi=>(b.same i (Nat.lt_of_lt_of_le hi a.le)).trans (a.same i hi)⟩
mutual
theorem DV.mono{K:PySem.W.Frag}{ct ι ι':Nat→Addr}{n n':Nat}{H H':Hp}(e:Ext K ι n H ι' n' H'):∀{d:D} {v:V},DV K ct ι n H d v→DV K ct ι' n' H' d v
 | _,_,.non=> .non
 | _,_,.bl b=> .bl b
 | _,_,.int i=> .int i
 | _,_,.str x=> .str x
 | _,_,.tup h hs=> .tup (e.tup _ _ h) (o4.mono e hs)
 | _,_,.ref (i:=i) h=>by rw[←e.same i h];exact .ref (Nat.lt_of_lt_of_le h e.le)
 | _,_,.cl h hs=> .cl (e.Af _ _ h) (o4.mono e hs)
 | _,_,.ty s=> .ty s
 | _,_,.cls c=> .cls c
 | _,_,.exc h1 h2 h3=> .exc (e.ex _ _ h1) (e.xd _ _ h2) (DV.mono e h3)
theorem o4.mono{K:PySem.W.Frag}{ct ι ι':Nat→Addr}{n n':Nat}{H H':Hp}(e:Ext K ι n H ι' n' H'):∀{ds:List D} {vs:List V},o4 K ct ι n H ds vs→o4 K ct ι' n' H' ds vs
 | _,_,.nil=> .nil
 | _,_,.cons h hs=> .cons (DV.mono e h) (o4.mono e hs)
end
section
variable{K:PySem.W.Frag}{ct ι:Nat→Addr}{n:Nat}{H:Hp}
theorem o4.length:∀{ds:List D} {vs:List V},o4 K ct ι n H ds vs→vs.length=ds.length
 | _,_,.nil=>rfl
 | _,_,.cons _ h=>congrArg (· + 1) h.length
theorem o4.at:∀{ds:List D} {vs:List V} {i:Nat} {d:D},o4 K ct ι n H ds vs→ds[i]? = some d→∃v,vs[i]? = some v∧DV K ct ι n H d v
 | _,_,_,_,.nil,e=>by simp at e
 | _,_,0,_,.cons h _,e=>by simp at e;subst e;exact⟨_,rfl,h⟩
 | _,_,i+1,_,.cons _ hs,e=>by simpa using hs.at (i:=i) (by simpa using e)
theorem o4.append:∀{ds es:List D} {vs ws:List V},o4 K ct ι n H ds vs→o4 K ct ι n H es ws→o4 K ct ι n H (ds++es) (vs++ws)
 | _,_,_,_,.nil,h=>h
 | _,_,_,_,.cons h hs,h'=> .cons h (hs.append h')
theorem o4.take:∀{ds:List D} {vs:List V} (k:Nat),o4 K ct ι n H ds vs→o4 K ct ι n H (ds.take k) (vs.take k)
 | _,_,0,_=>by simp;exact .nil
 | _,_,_+1,.nil=>by simp;exact .nil
 | _,_,k+1,.cons h hs=>by simp;exact .cons h (hs.take k)
theorem o4.drop:∀{ds:List D} {vs:List V} (k:Nat),o4 K ct ι n H ds vs→o4 K ct ι n H (ds.drop k) (vs.drop k)
 | _,_,0,h=>by simpa using h
 | _,_,_+1,.nil=>by simp;exact .nil
 | _,_,k+1,.cons _ hs=>by simp;exact hs.drop k
theorem o4.set:∀{ds:List D} {vs:List V} {d:D} {v:V} (i:Nat),o4 K ct ι n H ds vs→DV K ct ι n H d v→o4 K ct ι n H (ds.set i d) (vs.set i v)
 | _,_,_,_,_,.nil,_=>by simp;exact .nil
 | _,_,_,_,0,.cons _ hs,h=>by simp;exact .cons h hs
 | _,_,_,_,i+1,.cons h' hs,h=>by simp;exact .cons h' (hs.set i h)
end
inductive PX (K:PySem.W.Frag) (ct ι:Nat→Addr) (n:Nat) (H:Hp):List (Str×D)→List (Str×V)→Prop
 | nil:PX K ct ι n H [] []
 | cons {x:Str} {d:D} {v:V} {fs:List (Str×D)} {vs:List (Str×V)}:DV K ct ι n H d v→PX K ct ι n H fs vs→PX K ct ι n H ((x,d)::fs) ((x,v)::vs)
theorem PX.mono{K:PySem.W.Frag}{ct ι ι':Nat→Addr}{n n':Nat}{H H':Hp}(e:Ext K ι n H ι' n' H'):∀{fs:List (Str×D)} {vs:List (Str×V)},PX K ct ι n H fs vs→PX K ct ι' n' H' fs vs
 | _,_,.nil=> .nil
 | _,_,.cons h hs=> .cons (h.mono e) (hs.mono e)
def putD(f:Str)(d:D):List (Str×D)→List (Str×D)
 | []=>[(f,d)]
 | (x,e)::r=>if x=f then(x,d)::r else(x,e)::putD f d r
section
variable{K:PySem.W.Frag}{ct ι:Nat→Addr}{n:Nat}{H:Hp}
theorem PX.length:∀{fs:List (Str×D)} {vs:List (Str×V)},PX K ct ι n H fs vs→vs.length=fs.length
 | _,_,.nil=>rfl
 | _,_,.cons _ h=>congrArg (· + 1) h.length
theorem PX.look{x:Str}:∀{fs:List (Str×D)} {vs:List (Str×V)} {d:D},PX K ct ι n H fs vs→fs.lookup x=some d→∃v,vs.lookup x=some v∧DV K ct ι n H d v
 | _,_,_,.nil,e=>by simp at e
 | _,_,d,.cons (x:=y) h hs,e=>by
  rw[List.lookup_cons]at e ⊢
  cases z:x==y with
  | true=>rw[z]at e;exact⟨_,rfl,by cases e;exact h⟩
  | false=>rw[z]at e;exact hs.look e
theorem PX.abu{x:Str}:∀{fs:List (Str×D)} {vs:List (Str×V)},PX K ct ι n H fs vs→fs.lookup x=none→vs.lookup x=none
 | _,_,.nil,_=>rfl
 | _,_,.cons (x:=y) h hs,e=>by
  rw[List.lookup_cons]at e ⊢
  cases z:x==y with
  | true=>rw[z]at e;cases e
  | false=>rw[z]at e;exact hs.abu e
end
inductive HR (K:PySem.W.Frag) (ct ι:Nat→Addr) (n:Nat) (H:Hp) {κ:Type}:List (κ×D)→List (κ×V)→Prop
 | nil:HR K ct ι n H [] []
 | cons {x:κ} {d:D} {v:V} {fs:List (κ×D)} {vs:List (κ×V)}:DV K ct ι n H d v→HR K ct ι n H fs vs→HR K ct ι n H ((x,d)::fs) ((x,v)::vs)
theorem HR.mono{K:PySem.W.Frag}{ct ι ι':Nat→Addr}{n n':Nat}{H H':Hp}(e:Ext K ι n H ι' n' H'){κ:Type}:∀{fs:List (κ×D)} {vs:List (κ×V)},HR K ct ι n H fs vs→HR K ct ι' n' H' fs vs
 | _,_,.nil=> .nil
 | _,_,.cons h hs=> .cons (h.mono e) (hs.mono e)
theorem HR.length{K:PySem.W.Frag}{ct ι:Nat→Addr}{n:Nat}{H:Hp}{κ:Type}:∀{fs:List (κ×D)} {vs:List (κ×V)},HR K ct ι n H fs vs→vs.length=fs.length
 | _,_,.nil=>rfl
 | _,_,.cons _ h=>congrArg (· + 1) h.length
def OR(K:PySem.W.Frag)(ct ι:Nat→Addr)(n:Nat)(H:Hp)(a:Addr):MO→Prop
 | .lst ds=>∃vs,H a=some (.lst vs)∧o4 K ct ι n H ds vs
 | .ins c fs=>∃dx vs,H a=some (.ins (ct c) dx vs)∧PX K ct ι n H fs vs
 | .dk kvs=>∃vs,H a=some (.dK vs)∧HR K ct ι n H kvs vs
 | .dt kvs=>∃vs,H a=some (.dT vs)∧HR K ct ι n H kvs vs
structure Rl(K:PySem.W.Frag)(ct ι:Nat→Addr)(M:Mem)(H:Hp):Prop where
 inj:∀i j,i<M.length→j<M.length→ι i=ι j→i=j
 obj:∀(i:Nat) (o:MO),M[i]? = some o→OR K ct ι M.length H (ι i) o
structure Ws(K:PySem.W.Frag)(ct ι:Nat→Addr)(e:Sl)(M:Mem)(σ:St)(H:Hp):Prop where
 rl:Rl K ct ι M H
 len:σ.length=e.length
 env:∀(i:Nat) (d:D),e[i]? = some (some d)→∃v,σ[i]? = some (some v)∧DV K ct ι M.length H d v
section
variable{K:PySem.W.Frag}{ct ι:Nat→Addr}{M:Mem}{H:Hp}
theorem OR.some{a:Addr}{n:Nat}{o:MO}(h:OR K ct ι n H a o):∃u,H a=some u:=by
 cases o with
 | lst ds=>obtain⟨vs,e,_⟩:=h;exact⟨_,e⟩
 | ins c fs=>obtain⟨dx,vs,e,_⟩:=h;exact⟨_,e⟩
 | dk kvs=>obtain⟨vs,e,_⟩:=h;exact⟨_,e⟩
 | dt kvs=>obtain⟨vs,e,_⟩:=h;exact⟨_,e⟩
theorem Ly{p:Addr}{o:HO}(hp:∀b u,H p≠some (.Af b u)){a:Addr}{xs:List V}(h:FrL K H a xs):FrL K (upd H p o) a xs:=by
 rcases h with⟨b,h⟩ | h
 ·have ne:a≠p:=fun e=>by subst e;exact hp _ _ h
  exact .inl ⟨b,by rw[bw ne];exact h⟩
 ·exact .inr h
theorem Xu{p:Addr}(hp:H p=none):∀b u,H p≠some (.Af b u):=fun b u h=>by rw[hp]at h;cases h
theorem OR.keep{ι':Nat→Addr}{n n':Nat}{H':Hp}{a a':Addr}{o:MO}(e:Ext K ι n H ι' n' H')(ea:a'=a)(hh:H' a=H a)(h:OR K ct ι n H a o):OR K ct ι' n' H' a' o:=by
 subst ea
 cases o with
 | lst ds=>obtain⟨vs,q,r⟩:=h;exact⟨vs,by rw[hh];exact q,r.mono e⟩
 | ins c fs=>obtain⟨dx,vs,q,r⟩:=h;exact⟨dx,vs,by rw[hh];exact q,r.mono e⟩
 | dk kvs=>obtain⟨vs,q,r⟩:=h;exact⟨vs,by rw[hh];exact q,r.mono e⟩
 | dt kvs=>obtain⟨vs,q,r⟩:=h;exact⟨vs,by rw[hh];exact q,r.mono e⟩
def vX(ι:Nat→Addr)(n:Nat)(p:Addr):Nat→Addr:=fun i=>if i=n then p else ι i
theorem wI{p a:Addr}{o u:HO}(hp:H p=none)(h:H a=some u):upd H p o a=some u:=by rw[bw (dD h hp)];exact h
theorem Ext.fresh{n:Nat}{p:Addr}{o:HO}(hp:H p=none):Ext K ι n H ι n (upd H p o):=⟨fun _ _ h=>wI hp h,fun _ _ h=>Ly (Xu hp) h,fun _ _ h=>wI hp h,fun _ _ h=>wI hp h,Nat.le_refl _,fun _ _=>rfl⟩
theorem Rl.lt(R:Rl K ct ι M H){i:Nat}{o:MO}(h:M[i]? = some o):∃u,H (ι i)=some u:=(R.obj i o h).some
theorem Rl.fresh(R:Rl K ct ι M H){p:Addr}{o:HO}(hp:H p=none):Rl K ct ι M (upd H p o):=by
 refine⟨R.inj,fun i x h=> ?_⟩
 obtain⟨u,hu⟩:=R.lt h
 exact(R.obj i x h).keep (Ext.fresh hp) rfl (bw (dD hu hp))
theorem Ext.new{p:Addr}{o:HO}(hp:H p=none):Ext K ι M.length H (vX ι M.length p) (M.length+1) (upd H p o):=
 ⟨fun _ _ h=>wI hp h,fun _ _ h=>Ly (Xu hp) h,fun _ _ h=>wI hp h,fun _ _ h=>wI hp h,Nat.le_succ _,fun i hi=>by unfold vX;rw[if_neg (Nat.ne_of_lt hi)]⟩
theorem Rl.new(R:Rl K ct ι M H){p:Addr}{o:HO}{x:MO}(hp:H p=none)(h:OR K ct (vX ι M.length p) (M.length+1) (upd H p o) p x):Rl K ct (vX ι M.length p) (M++[x]) (upd H p o):=by
 have ne:∀i,i<M.length→ι i≠p:=fun i hi=>by
  obtain⟨u,hu⟩:=R.lt (List.getElem?_eq_getElem hi)
  exact dD hu hp
 have el:(M++[x]).length=M.length+1:=by simp
 refine⟨fun i j hi hj e=> ?_,fun i y hy=> ?_⟩
 ·rw[el]at hi hj
  unfold vX at e
  by_cases a:i=M.length
  ·by_cases b:j=M.length
   ·rw[a,b]
   ·rw[if_pos a,if_neg b]at e
    exact absurd e.symm (ne j (by omega))
  ·by_cases b:j=M.length
   ·rw[if_neg a,if_pos b]at e
    exact absurd e (ne i (by omega))
   ·rw[if_neg a,if_neg b]at e
    exact R.inj i j (by omega) (by omega) e
 ·rw[el]
  by_cases a:i<M.length
  ·rw[List.getElem?_append_left a]at hy
   obtain⟨u,hu⟩:=R.lt hy
   refine(R.obj i y hy).keep (Ext.new hp) ?_ (bw (dD hu hp))
   unfold vX
   rw[if_neg (Nat.ne_of_lt a)]
  ·have hi:i<(M++[x]).length:=(List.getElem?_eq_some_iff.mp hy).1
   have e:i=M.length:=by rw[el]at hi;omega
   subst e
   rw[List.getElem?_append_right (Nat.le_refl _)]at hy
   simp at hy
   subst hy
   have:vX ι M.length p M.length=p:=by unfold vX;rw[if_pos rfl]
   rw[this]
   exact h
theorem Ext.chg{n:Nat}{a:Addr}{o u:HO}(h:H a=some u)(hu:∀xs,u≠ .tup xs)(hz:∀b x,u≠ .Af b x)(hx:∀φ,u≠ .ext φ:=by exact fun _ z=>nomatch z)(hd:∀fs,u≠ .xd fs:=by exact fun _ z=>nomatch z):Ext K ι n H ι n (upd H a o):=
 ⟨fun b xs q=>by
  rw[bw (fun e=>by subst e;rw[h]at q;exact hu xs (Option.some.inj q))];exact q,fun _ _ q=>Ly (fun b x r=>by rw[h]at r;exact hz b x (Option.some.inj r)) q,fun b φ q=>by
  rw[bw (fun e=>by subst e;rw[h]at q;exact hx φ (Option.some.inj q))];exact q,fun b fs q=>by
  rw[bw (fun e=>by subst e;rw[h]at q;exact hd fs (Option.some.inj q))];exact q,Nat.le_refl _,fun _ _=>rfl⟩
theorem Rl.chg(R:Rl K ct ι M H){i:Nat}{o u:HO}{x:MO}(hi:i<M.length)(h:H (ι i)=some u)(hu:∀xs,u≠ .tup xs)(hz:∀b x,u≠ .Af b x)(hx:OR K ct ι M.length (upd H (ι i) o) (ι i) x)(hex:∀φ,u≠ .ext φ:=by exact fun _ z=>nomatch z)(hxd:∀fs,u≠ .xd fs:=by exact fun _ z=>nomatch z):Rl K ct ι (M.set i x) (upd H (ι i) o):=by
 refine⟨fun j k hj hk e=>R.inj j k (by simpa using hj) (by simpa using hk) e,fun j y hy=> ?_⟩
 rw[List.length_set]
 by_cases e:i=j
 ·subst e
  rw[List.getElem?_set_self hi]at hy
  cases hy
  exact hx
 ·rw[List.getElem?_set_ne e]at hy
  have hj:j<M.length:=(List.getElem?_eq_some_iff.mp hy).1
  exact(R.obj j y hy).keep (Ext.chg h hu hz hex hxd) rfl (bw fun z=>e (R.inj i j hi hj z.symm))
theorem Ws.ext{ι':Nat→Addr}{e:Sl}{M':Mem}{σ:St}{H':Hp}(w:Ws K ct ι e M σ H)(x:Ext K ι M.length H ι' M'.length H')(r:Rl K ct ι' M' H'):Ws K ct ι' e M' σ H':=
 ⟨r,w.len,fun i d h=>let⟨v,a,b⟩:=w.env i d h;⟨v,a,b.mono x⟩⟩
theorem Ws.set{e:Sl}{σ:St}{d:D}{v:V}(w:Ws K ct ι e M σ H)(i:Nat)(h:DV K ct ι M.length H d v):Ws K ct ι (e.set i (some d)) M (σ.set i (some v)) H:=by
 refine⟨w.rl,by simp[w.len],fun j d' hj=> ?_⟩
 by_cases z:i=j
 ·subst z
  have hi:i<e.length:=by have:=(List.getElem?_eq_some_iff.mp hj).1;simpa using this
  rw[List.getElem?_set_self hi]at hj
  cases hj
  exact⟨v,List.getElem?_set_self (by rw[w.len];exact hi),h⟩
 ·rw[List.getElem?_set_ne z]at hj
  obtain⟨v',a,b⟩:=w.env j d' hj
  exact⟨v',by rw[List.getElem?_set_ne z];exact a,b⟩
end
theorem Ws.clear{K:PySem.W.Frag}{ct ι:Nat→Addr}{M:Mem}{H:Hp}{e:Sl}{σ:St}(w:Ws K ct ι e M σ H)(i:Nat):Ws K ct ι (e.set i none) M (σ.set i none) H:=by
 refine⟨w.rl,by simp[w.len],fun j d' hj=> ?_⟩
 by_cases z:i=j
 ·subst z
  have hi:i<e.length:=by have:=(List.getElem?_eq_some_iff.mp hj).1;simpa using this
  rw[List.getElem?_set_self hi]at hj
  cases hj
 ·rw[List.getElem?_set_ne z]at hj
  obtain⟨v',a,b⟩:=w.env j d' hj
  exact⟨v',by rw[List.getElem?_set_ne z];exact a,b⟩
abbrev XW:=Addr→Addr→Hp→Prop
def wAt(W:bD)(σ:St):XW:=fun C dx H=>W C dx σ H
def W0:bD:=fun _ _ _ _=>False
def jO{α β:Type}(rel:(Nat→Addr)→Mem→Hp→α→β→Prop)(K:PySem.W.Frag)(ct:Nat→Addr)(w:XW)(ι:Nat→Addr)(n:Nat)(H:Hp)(o:Out α)(Q:β→Hp→Prop):Prop:=match o with
 | .ok a M'=>∀ι' b H',Ext K ι n H ι' M'.length H'→Rl K ct ι' M' H'→rel ι' M' H' a b→Q b H'
 | .exc c d M'=>∀ι' dx v H',Ext K ι n H ι' M'.length H'→Rl K ct ι' M' H'→H' dx=some (.xd [("at",v)])→DV K ct ι' M'.length H' d v→w (ct c) dx H'
 | .bad=>False
def tG{α β:Type}(rel:(Nat→Addr)→Mem→Hp→α→β→Prop)(K:PySem.W.Frag)(ct:Nat→Addr)(W:bD)(m:Sl→Mem→Out α)(σ:St)(H:Hp)(Q:β→Hp→Prop):Prop:=
 ∃ι e M,Ws K ct ι e M σ H∧jO rel K ct (wAt W σ) ι M.length H (m e M) Q
abbrev d_(K:PySem.W.Frag)(ct:Nat→Addr):(Nat→Addr)→Mem→Hp→D→V→Prop:=fun ι M H d v=>DV K ct ι M.length H d v
abbrev Fo(K:PySem.W.Frag)(ct:Nat→Addr):(Nat→Addr)→Mem→Hp→List D→List V→Prop:=fun ι M H d v=>o4 K ct ι M.length H d v
abbrev BX:(Nat→Addr)→Mem→Hp→Bool→Bool→Prop:=fun _ _ _ a b=>a=b
abbrev ME:=Sl→Mem→Out D
abbrev MT:=Sl→Mem→Out Bool
abbrev MA:=Sl→Mem→Out (List D)
def SE(X:Cx)(ct:Nat→Addr)(W:bD)(e:Expr)(m:ME):Prop:=PE X e (tG (d_ X.K ct) X.K ct W m)
def VM(X:Cx)(ct:Nat→Addr)(W:bD)(e:Expr)(m:MT):Prop:=PT X e (tG BX X.K ct W m)
def SW(X:Cx)(ct:Nat→Addr)(W:bD)(e:Expr)(m:MT):Prop:=PW X e (tG BX X.K ct W m)
def SA(X:Cx)(ct:Nat→Addr)(W:bD)(es:List Expr)(m:MA):Prop:=PA X es (tG (Fo X.K ct) X.K ct W m)
theorem SW.pt{X:Cx}{ct:Nat→Addr}{W:bD}{e:Expr}{m:MT}(h:SW X ct W e m):VM X ct W e m:=PW.pt h
section
variable{X:Cx}{ct:Nat→Addr}
theorem PE.imp{e:Expr}{t t':TE}(h:PE X e t)(hi:∀σ H Q,t' σ H Q→t σ H Q):PE X e t':=fun pins s σ H Q I q=>h pins s σ H Q I (hi σ H Q q)
theorem PT.imp{e:Expr}{t t':TT}(h:PT X e t)(hi:∀σ H Q,t' σ H Q→t σ H Q):PT X e t':=fun pins s σ H Q I q=>h pins s σ H Q I (hi σ H Q q)
theorem PW.imp{e:Expr}{t t':TT}(h:PW X e t)(hi:∀σ H Q,t' σ H Q→t σ H Q):PW X e t':=fun wh pins s σ H Q I q=>h wh pins s σ H Q I (hi σ H Q q)
theorem PA.imp{es:List Expr}{t t':TA}(h:PA X es t)(hi:∀σ H Q,t' σ H Q→t σ H Q):PA X es t':=fun pos pins s σ H Q I q=>h pos pins s σ H Q I (hi σ H Q q)
end
theorem jO.ext{α β:Type}{rel:(Nat→Addr)→Mem→Hp→α→β→Prop}{K:PySem.W.Frag}{ct ι ι':Nat→Addr}{w:XW}{n n':Nat}{H H':Hp}{o:Out α}{Q:β→Hp→Prop}(h:jO rel K ct w ι n H o Q)(x:Ext K ι n H ι' n' H'):jO rel K ct w ι' n' H' o Q:=by
 cases o with
 | ok a M=>exact fun lN b H2 x2 r q=>h lN b H2 (x.trans x2) r q
 | exc c d M=>exact fun lN dx v H2 x2 r q1 q2=>h lN dx v H2 (x.trans x2) r q1 q2
 | bad=>exact h
theorem jO.mono{α β:Type}{rel:(Nat→Addr)→Mem→Hp→α→β→Prop}{K:PySem.W.Frag}{ct ι:Nat→Addr}{w:XW}{n:Nat}{H:Hp}{o:Out α}{Q Q':β→Hp→Prop}(h:jO rel K ct w ι n H o Q)(x:∀b H,Q b H→Q' b H):jO rel K ct w ι n H o Q':=by
 cases o with
 | ok a M=>exact fun lN b H2 x2 r q=>x b H2 (h lN b H2 x2 r q)
 | exc c d M=>exact h
 | bad=>exact h
def aoR{α β γ δ:Type}(gZ:(Nat→Addr)→Mem→Hp→α→β→Prop)(Sq:(Nat→Addr)→Mem→Hp→γ→δ→Prop)(K:PySem.W.Frag)(ct:Nat→Addr)(W:bD)(f:α→Sl→Mem→Out γ)(σ:St)(Q:δ→Hp→Prop)(b:β)(H1:Hp):Prop:=
 ∃ι e M a,Ws K ct ι e M σ H1∧gZ ι M H1 a b∧jO Sq K ct (wAt W σ) ι M.length H1 (f a e M) Q
theorem cQ{α β γ δ:Type}{gZ:(Nat→Addr)→Mem→Hp→α→β→Prop}{Sq:(Nat→Addr)→Mem→Hp→γ→δ→Prop}{K:PySem.W.Frag}{ct:Nat→Addr}{W:bD}{ma:Sl→Mem→Out α}{f:α→Sl→Mem→Out γ}{σ:St}{H:Hp}{Q:δ→Hp→Prop}
  (h:tG Sq K ct W (fun e M=>(ma e M).bind fun a M1=>f a e M1) σ H Q):tG gZ K ct W ma σ H (aoR gZ Sq K ct W f σ Q):=by
 obtain⟨ι,e,M,w,p⟩:=h
 refine⟨ι,e,M,w,?_⟩
 cases z:ma e M with
 | bad=>simp only[z,Out.gO]at p;exact p
 | exc xc xd xM=>simp only[z,Out.jH]at p;exact p
 | ok a M1=>
  simp only[z,Out.fY]at p
  exact fun gF b H1 x r q=>⟨gF,e,M1,a,w.ext x r,q,p.ext x⟩
end S
namespace S
open PySem PySem.Spec PyProof.Rows L2
section
variable{X:Cx}{ct:Nat→Addr}{W:bD}{a b c:Expr}{ma mb mc:ME}{pos:Pos}
@[irreducible] def aA(i:Nat):ME:=fun e M=>match e[i]? with
 | some (some d)=> .ok d M
 | _=> .bad
theorem aal{i:Nat}{e:Sl}{M:Mem}{d:D}(h:e[i]? = some (some d)):aA i e M= .ok d M:=by unfold aA;rw[h]
def mC(d:D):ME:=fun _ M=> .ok d M
theorem iz{e:Expr}{t:TE}{m:ME}(h:PE X e t)(hi:∀σ H Q,tG (d_ X.K ct) X.K ct W m σ H Q→t σ H Q):SE X ct W e m:=PE.imp h hi
theorem aj(i:Nat){x:Str}{pos:Pos}(hN:X.N[i]? = some x:=by rfl)(hv:Vis X.env.scope x:=by first | exact Or.inl rfl | exact Or.inr (Or.inl rfl) | exact Or.inr (Or.inr rfl))(hd:(x==("__debug__" : Str))=false:=by decide)
  (hcd:(x==("__classdict__" : Str))=false:=by decide):SE X ct W (.Name x pos) (aA i):=iz (Xf hN hv hd hcd) fun σ H Q ⟨ι,e,M,w,p⟩=>by
 unfold aA at p
 cases z:e[i]? with
 | none=>rw[z]at p;exact p.elim
 | some o=>
  cases o with
  | none=>rw[z]at p;exact p.elim
  | some d=>
   rw[z]at p
   obtain⟨v,hv,dv⟩:=w.env i d z
   exact⟨v,hv,p ι v H .refl w.rl dv⟩
theorem Gi{d:D}{v:V}{σ:St}{H:Hp}{Q:VK}(dv:∀ι n,DV X.K ct ι n H d v)(h:tG (d_ X.K ct) X.K ct W (mC d) σ H Q):tC v σ H Q:=by
 obtain⟨ι,e,M,w,p⟩:=h
 exact p ι v H .refl w.rl (dv _ _)
theorem az{i j pos}:SE X ct W (.Constant (.int i) j pos) (mC (.int i)):=iz acI fun _ _ _ h=>Gi (fun _ _=> .int i) h
theorem lU{b j pos}:SE X ct W (.Constant (.bool b) j pos) (mC (.bl b)):=iz agy fun _ _ _ h=>Gi (fun _ _=> .bl b) h
theorem pJ{j pos}:SE X ct W (.Constant .none j pos) (mC .non):=iz acG fun _ _ _ h=>Gi (fun _ _=> .non) h
theorem aL{x j pos}:SE X ct W (.Constant (.str x) j pos) (mC (.str x)):=iz acD fun _ _ _ h=>Gi (fun _ _=> .str x) h
theorem RN{x:Str}{n:String}{pos:Pos}(hg:Gl X x)(hm:X.mg x=none)(hv:bootBuiltins x=some (.type n))(hn:x≠ "__name__" := by decide)(hd:(x==("__debug__" : Str))=false:=by decide):SE X ct W (.Name x pos) (mC (.ty n)):=
 iz (Z8 (v:= .ty n) hg hm hv rfl hn hd) fun _ _ _ h=>Gi (fun _ _=> .ty n) h
abbrev ql:=D→D→Mem→Out D
def aD(op:ql)(ma mb:ME):ME:=fun e M=>(ma e M).bind fun d M1=>(mb e M1).bind fun d' M2=>op d d' M2
def JP(K:PySem.W.Frag)(ct:Nat→Addr)(op:ql)(r:R2):Prop:=
 ∀{w:XW} ι M H d d' v v' Q,Rl K ct ι M H→DV K ct ι M.length H d v→DV K ct ι M.length H d' v'→jO (d_ K ct) K ct w ι M.length H (op d d' M) Q→r v v' H Q
def ju(X:Cx)(ct:Nat→Addr)(f:Value→Value→Sem Value)(op:ql):Prop:=∃r,wz X f r∧JP X.K ct op r
theorem Ka{r:R2}{op:ql}(hs:JP X.K ct op r){σ:St}{H:Hp}{Q:VK}(h:tG (d_ X.K ct) X.K ct W (aD op ma mb) σ H Q):
  tOp r (tG (d_ X.K ct) X.K ct W ma) (tG (d_ X.K ct) X.K ct W mb) σ H Q:=by
 obtain⟨ι,e,M,w,p⟩:=cQ (gZ:=d_ X.K ct) h
 refine⟨ι,e,M,w,p.mono fun x H1 ⟨gF,e1,M1,d1,w1,q1,p1⟩=> ?_⟩
 refine⟨gF,e1,M1,w1,?_⟩
 cases z:mb e1 M1 with
 | bad=>simp only[z,Out.gO]at p1;exact p1
 | exc xc xd xM=>simp only[z,Out.jH]at p1;exact p1
 | ok d2 M2=>
  simp only[z,Out.fY]at p1
  exact fun lN y H2 x2 r2 q2=>hs lN M2 H2 d1 d2 x y Q r2 (q1.mono x2) q2 (p1.ext x2)
theorem aU{op:Operator}{VG:ql}(h:ju X ct (binaryOp op) VG)(ha:SE X ct W a ma)(hb:SE X ct W b mb):SE X ct W (.BinOp a op b pos) (aD VG ma mb):=by
 obtain⟨r,ho,hs⟩:=h
 exact iz (agv ho ha hb) fun σ H Q q=>Ka hs q
theorem qw{op:CmpOp}{VG:ql}(h:ju X ct (compareOp op) VG)(ha:SE X ct W a ma)(hb:SE X ct W b mb)(hm:behindInMarks op b=false):SE X ct W (.Compare a [op] [b] pos) (aD VG ma mb):=by
 obtain⟨r,ho,hs⟩:=h
 exact iz (Z7 ho ha hb hm) fun σ H Q q=>Ka hs q
def MP(d:D)(M:Mem):Out Bool:=match d with
 | .bl b=> .ok b M
 | _=> .bad
def bC(m:ME):MT:=fun e M=>(m e M).bind MP
theorem Nu{t:TE}{m:ME}{σ:St}{H:Hp}{Q:Bool→Hp→Prop}(hi:∀Q,tG (d_ X.K ct) X.K ct W m σ H Q→t σ H Q)(h:tG BX X.K ct W (bC m) σ H Q):abd t σ H Q:=by
 refine hi _ ?_
 obtain⟨ι,e,M,w,p⟩:=cQ (gZ:=d_ X.K ct) (f:=fun d _ M=>MP d M) h
 refine⟨ι,e,M,w,p.mono fun x H1 ⟨gF,e1,M1,d1,w1,q1,p1⟩=> ?_⟩
 cases q1 with
 | bl b=>exact⟨b,rfl,p1 gF b H1 .refl w1.rl rfl⟩
 | _=>exact False.elim p1
theorem bH{op:CmpOp}{VG:ql}(h:ju X ct (compareOp op) VG)(ha:SE X ct W a ma)(hb:SE X ct W b mb)(hm:behindInMarks op b=false):VM X ct W (.Compare a [op] [b] pos) (bC (aD VG ma mb)):=by
 obtain⟨r,ho,hs⟩:=h
 exact PT.imp (ZR ho ha hb hm) fun σ H Q q=>Nu (fun Q q=>Ka hs q) q
theorem qt{m:ME}(h:SE X ct W a m)(he:∀whole,isTrue a X.env whole=(do let v ←whole;standAt a.pos;holding [v] (truthy v)):=by intro _;rfl):VM X ct W a (bC m):=
 PT.imp (acp h he) fun σ H Q q=>Nu (fun Q q=>q) q
def Bb(o1 o2:ql)(ma mb mc:ME):ME:=fun e M=>(ma e M).bind fun d1 M1=>(mb e M1).bind fun d2 M2=>(o1 d1 d2 M2).bind fun r M3=>(MP r M3).bind fun k M4=>
 if k=true then(mc e M4).bind fun d3 M5=>o2 d2 d3 M5 else .ok (.bl false) M4
theorem Um{r r':R2}{o1 o2:ql}(h1:JP X.K ct o1 r)(h2:JP X.K ct o2 r'){σ:St}{H:Hp}{Q:VK}(h:tG (d_ X.K ct) X.K ct W (Bb o1 o2 ma mb mc) σ H Q):
  Wf r r' (tG (d_ X.K ct) X.K ct W ma) (tG (d_ X.K ct) X.K ct W mb) (tG (d_ X.K ct) X.K ct W mc) σ H Q:=by
 obtain⟨ι,e,M,w,p⟩:=cQ (gZ:=d_ X.K ct) h
 refine⟨ι,e,M,w,p.mono fun x H1 ⟨gF,e1,M1,d1,w1,q1,p1⟩=> ?_⟩
 refine⟨gF,e1,M1,w1,?_⟩
 cases z:mb e1 M1 with
 | bad=>simp only[z,Out.gO]at p1;exact p1
 | exc xc xd xM=>simp only[z,Out.jH]at p1;exact p1
 | ok d2 M2=>
  simp only[z,Out.fY]at p1
  intro lN y H2 x2 r2 q2
  refine h1 (w:=wAt W σ) lN M2 H2 d1 d2 x y _ r2 (q1.mono x2) q2 ?_
  have p2:=p1.ext x2
  cases z2:o1 d1 d2 M2 with
  | bad=>simp only[z2,Out.gO]at p2;exact p2
  | exc xc xd xM=>simp only[z2,Out.jH]at p2;exact p2
  | ok rr M3=>
   simp only[z2,Out.fY]at p2
   intro Bq zz H3 x3 r3 q3
   have p3:=p2.ext x3
   have w3:=(w1.ext x2 r2).ext x3 r3
   cases q3 with
   | bl k=>
    refine⟨k,rfl,?_⟩
    simp only[MP,Out.fY]at p3
    cases k with
    | false=>exact p3 Bq (.bl false) H3 .refl r3 (.bl false)
    | true=>
     show tG (d_ X.K ct) X.K ct W mc σ H3 _
     refine⟨Bq,e1,M3,w3,?_⟩
     simp only[if_true]at p3
     cases z4:mc e1 M3 with
     | bad=>simp only[z4,Out.gO]at p3;exact p3
     | exc xc xd xM=>simp only[z4,Out.jH]at p3;exact p3
     | ok d3 M5=>
      simp only[z4,Out.fY]at p3
      exact fun YX y5 H5 x5 r5 q5=>h2 YX M5 H5 d2 d3 y y5 Q r5 (q2.mono (x3.trans x5)) q5 (p3.ext x5)
   | _=>exact False.elim p3
theorem BK{op op':CmpOp}{o1 o2:ql}(h1:ju X ct (compareOp op) o1)(h2:ju X ct (compareOp op') o2)(ha:SE X ct W a ma)(hb:SE X ct W b mb)(hc:SE X ct W c mc)
  (hm:lastMarks [op,op'] [b,c]=false:=by with_unfolding_all rfl):SE X ct W (.Compare a [op,op'] [b,c] pos) (Bb o1 o2 ma mb mc):=by
 obtain⟨r,ho,hs⟩:=h1
 obtain⟨r',ho',hs'⟩:=h2
 exact iz (Xk ho ho' ha hb hc hm) fun σ H Q q=>Um hs hs' q
def mUn(op:D→Mem→Out D)(ma:ME):ME:=fun e M=>(ma e M).bind op
def UnS(X:Cx)(ct:Nat→Addr)(f:Value→Sem Value)(op:D→Mem→Out D):Prop:=∃r,UnR X f r∧∀{w:XW} ι M H d v Q,Rl X.K ct ι M H→DV X.K ct ι M.length H d v→jO (d_ X.K ct) X.K ct w ι M.length H (op d M) Q→r v H Q
theorem abf{op:UnaryOp}{VG:D→Mem→Out D}(h:UnS X ct (unaryOp op) VG)(ha:SE X ct W a ma):SE X ct W (.UnaryOp op a pos) (mUn VG ma):=by
 obtain⟨r,ho,hs⟩:=h
 refine iz (agt ho ha) fun σ H Q q=> ?_
 obtain⟨ι,e,M,w,p⟩:=cQ (gZ:=d_ X.K ct) (f:=fun d _ M=>VG d M) q
 exact⟨ι,e,M,w,p.mono fun x H1 ⟨gF,e1,M1,d1,w1,q1,p1⟩=>hs gF M1 H1 d1 x Q w1.rl q1 p1⟩
variable{t u:MT}{rest:List Expr}
def Hq(t u:MT):MT:=fun e M=>(t e M).bind fun k M1=>if k=true then u e M1 else .ok false M1
def mOr(t u:MT):MT:=fun e M=>(t e M).bind fun k M1=>if k=true then .ok true M1 else u e M1
def Oo(t:MT):MT:=fun e M=>(t e M).bind fun k M1=> .ok (!k) M1
theorem tY(ha:VM X ct W a t):SW X ct W (.BoolOp .And [a] pos) t:=ZM ha
theorem Dj(ha:VM X ct W a t):SW X ct W (.BoolOp .Or [a] pos) t:=acn ha
theorem xK(ha:VM X ct W a t)(hb:SW X ct W (.BoolOp .And (b::rest) pos) u):SW X ct W (.BoolOp .And (a::b::rest) pos) (Hq t u):=PW.imp (aco ha hb) fun σ H Q q=>by
 obtain⟨ι,e,M,w,p⟩:=cQ (gZ:=BX) (f:=fun k e M1=>if k=true then u e M1 else .ok false M1) q
 refine⟨ι,e,M,w,p.mono fun k H1 ⟨gF,e1,M1,d1,w1,q1,p1⟩=> ?_⟩
 have OD:d1=k:=q1;subst OD
 cases d1 with
 | true=>exact⟨gF,e1,M1,w1,p1⟩
 | false=>exact p1 gF false H1 .refl w1.rl rfl
theorem I_(ha:VM X ct W a t)(hb:SW X ct W (.BoolOp .Or (b::rest) pos) u):SW X ct W (.BoolOp .Or (a::b::rest) pos) (mOr t u):=PW.imp (afZ ha hb) fun σ H Q q=>by
 obtain⟨ι,e,M,w,p⟩:=cQ (gZ:=BX) (f:=fun k e M1=>if k=true then .ok true M1 else u e M1) q
 refine⟨ι,e,M,w,p.mono fun k H1 ⟨gF,e1,M1,d1,w1,q1,p1⟩=> ?_⟩
 have OD:d1=k:=q1;subst OD
 cases d1 with
 | false=>exact⟨gF,e1,M1,w1,p1⟩
 | true=>exact p1 gF true H1 .refl w1.rl rfl
theorem Dl(ha:VM X ct W a t):VM X ct W (.UnaryOp .Not a pos) (Oo t):=PT.imp (acq ha) fun σ H Q q=>by
 obtain⟨ι,e,M,w,p⟩:=cQ (gZ:=BX) (f:=fun k e M1=> .ok (!k) M1) q
 refine⟨ι,e,M,w,p.mono fun k H1 ⟨gF,e1,M1,d1,w1,q1,p1⟩=> ?_⟩
 have OD:d1=k:=q1;subst OD
 exact p1 gF _ H1 .refl w1.rl rfl
def Ep(ma mb:ME):ME:=fun e M=>(ma e M).bind fun d M1=>(MP d M1).bind fun k M2=>if k=true then mb e M2 else .ok (.bl false) M2
def adm(ma mb:ME):ME:=fun e M=>(ma e M).bind fun d M1=>(MP d M1).bind fun k M2=>if k=true then .ok (.bl true) M2 else mb e M2
def S6(ma:ME):ME:=fun e M=>(ma e M).bind fun d M1=>(MP d M1).bind fun k M2=> .ok (.bl (!k)) M2
theorem Gu{op}{m:ME}(h:SE X ct W a m):SE X ct W (.BoolOp op [a] pos) m:=acE h
theorem Dp(ha:SE X ct W a ma)(hb:SE X ct W (.BoolOp .And (b::rest) pos) mb):SE X ct W (.BoolOp .And (a::b::rest) pos) (Ep ma mb):=iz (acK ha hb) fun σ H Q q=>by
 obtain⟨ι,e,M,w,p⟩:=cQ (gZ:=d_ X.K ct) (f:=fun d e M1=>(MP d M1).bind fun k M2=>if k=true then mb e M2 else .ok (.bl false) M2) q
 refine⟨ι,e,M,w,p.mono fun x H1 ⟨gF,e1,M1,d1,w1,q1,p1⟩=> ?_⟩
 cases q1 with
 | bl k=>
  refine⟨k,rfl,?_⟩
  simp only[MP,Out.fY]at p1
  cases k with
  | true=>exact⟨gF,e1,M1,w1,p1⟩
  | false=>exact p1 gF _ H1 .refl w1.rl (.bl false)
 | _=>exact False.elim p1
theorem afB(ha:SE X ct W a ma)(hb:SE X ct W (.BoolOp .Or (b::rest) pos) mb):SE X ct W (.BoolOp .Or (a::b::rest) pos) (adm ma mb):=iz (agu ha hb) fun σ H Q q=>by
 obtain⟨ι,e,M,w,p⟩:=cQ (gZ:=d_ X.K ct) (f:=fun d e M1=>(MP d M1).bind fun k M2=>if k=true then .ok (.bl true) M2 else mb e M2) q
 refine⟨ι,e,M,w,p.mono fun x H1 ⟨gF,e1,M1,d1,w1,q1,p1⟩=> ?_⟩
 cases q1 with
 | bl k=>
  refine⟨k,rfl,?_⟩
  simp only[MP,Out.fY]at p1
  cases k with
  | false=>exact⟨gF,e1,M1,w1,p1⟩
  | true=>exact p1 gF _ H1 .refl w1.rl (.bl true)
 | _=>exact False.elim p1
theorem WK(ha:SE X ct W a ma):SE X ct W (.UnaryOp .Not a pos) (S6 ma):=iz (acF ha) fun σ H Q q=>by
 obtain⟨ι,e,M,w,p⟩:=cQ (gZ:=d_ X.K ct) (f:=fun d _ M1=>(MP d M1).bind fun k M2=>(Out.ok (D.bl (!k)) M2:Out D)) q
 refine⟨ι,e,M,w,p.mono fun x H1 ⟨gF,e1,M1,d1,w1,q1,p1⟩=> ?_⟩
 cases q1 with
 | bl k=>exact⟨k,rfl,p1 gF _ H1 .refl w1.rl (.bl _)⟩
 | _=>exact False.elim p1
variable{es:List Expr}{ms:MA}
def aH:MA:=fun _ M=> .ok [] M
def aq(m:ME)(ms:MA):MA:=fun e M=>(m e M).bind fun d M1=>(ms e M1).bind fun ds M2=> .ok (d::ds) M2
theorem aB:SA X ct W [] aH:=PA.imp acL fun σ H Q ⟨ι,e,M,w,p⟩=>p ι [] H .refl w.rl .nil
theorem ak(ha:SE X ct W a ma)(hr:SA X ct W es ms)(hs:starEach (a::es) X.env=(false,eval a X.env)::starEach es X.env:=by rfl):SA X ct W (a::es) (aq ma ms):=PA.imp (Z9 ha hr hs) fun σ H Q q=>by
 obtain⟨ι,e,M,w,p⟩:=cQ (gZ:=d_ X.K ct) (f:=fun d e M1=>(ms e M1).bind fun ds M2=> .ok (d::ds) M2) q
 refine⟨ι,e,M,w,p.mono fun x H1 ⟨gF,e1,M1,d1,w1,q1,p1⟩=>⟨gF,e1,M1,w1,?_⟩⟩
 cases z:ms e1 M1 with
 | bad=>simp only[z,Out.gO]at p1;exact p1
 | exc xc xd xM=>simp only[z,Out.jH]at p1;exact p1
 | ok ds M2=>
  simp only[z,Out.fY]at p1
  exact fun lN xs H2 x2 r2 q2=>p1 lN (x::xs) H2 x2 r2 (.cons (q1.mono x2) q2)
def lM(ms:MA):ME:=fun e M=>(ms e M).bind fun ds M1=>if ds.length≤sizeLine then .ok (.tup ds) M1 else .bad
def pC(ms:MA):ME:=fun e M=>(ms e M).bind fun ds M1=>if ds.length≤sizeLine then .ok (.ref M1.length) (M1++[.lst ds])else .bad
theorem BZ{w:XW}{K:PySem.W.Frag}{ι:Nat→Addr}{M:Mem}{H:Hp}{ds:List D}{xs:List V}{Q:VK}{p:Addr}(R:Rl K ct ι M H)(h:o4 K ct ι M.length H ds xs)(hp:H p=none)(q:jO (d_ K ct) K ct w ι M.length H (.ok (.tup ds) M) Q):Q (.ref p) (upd H p (.tup xs)):=
 q ι (.ref p) _ (Ext.fresh hp) (R.fresh hp) (.tup dm (h.mono (Ext.fresh hp)))
theorem uF{w:XW}{K:PySem.W.Frag}{ι:Nat→Addr}{M:Mem}{H:Hp}{ds:List D}{xs:List V}{Q:VK}{p:Addr}(R:Rl K ct ι M H)(h:o4 K ct ι M.length H ds xs)(hp:H p=none)(q:jO (d_ K ct) K ct w ι M.length H (.ok (.ref M.length) (M++[.lst ds])) Q):Q (.ref p) (upd H p (.lst xs)):=by
 have el:(M++[MO.lst ds]).length=M.length+1:=by simp
 have x:Ext K ι M.length H (vX ι M.length p) (M.length+1) (upd H p (.lst xs)):=Ext.new hp
 have e:(vX ι M.length p) M.length=p:=by unfold vX;rw[if_pos rfl]
 have dv:DV K ct (vX ι M.length p) (M++[MO.lst ds]).length (upd H p (.lst xs)) (.ref M.length) (.ref p):=by
  have:=DV.ref (K:=K) (ct:=ct) (ι:=vX ι M.length p) (n:=(M++[MO.lst ds]).length) (H:=upd H p (.lst xs)) (i:=M.length) (by rw[el];omega)
  rw[e]at this
  exact this
 exact q (vX ι M.length p) (.ref p) _ (by rw[el];exact x) (R.new hp ⟨xs,dm,h.mono x⟩) dv
theorem dB{x1}(h:SA X ct W es ms):SE X ct W (.Tuple es x1 pos) (lM ms):=iz (acC h) fun σ H Q q=>by
 obtain⟨ι,e,M,w,p⟩:=cQ (gZ:=Fo X.K ct) (f:=fun ds _ M1=>if ds.length≤sizeLine then .ok (D.tup ds) M1 else .bad) q
 refine⟨ι,e,M,w,p.mono fun xs H1 ⟨gF,e1,M1,ds,w1,q1,p1⟩=> ?_⟩
 by_cases z:ds.length≤sizeLine
 ·simp only[z,if_true]at p1
  exact⟨by rw[q1.length];exact z,fun pp hp=>BZ w1.rl q1 hp p1⟩
 ·simp only[z,if_false]at p1
  exact p1.elim
theorem iB(h:SA X ct W es ms):SE X ct W (.List es pos) (pC ms):=iz (acH h) fun σ H Q q=>by
 obtain⟨ι,e,M,w,p⟩:=cQ (gZ:=Fo X.K ct) (f:=fun ds _ M1=>if ds.length≤sizeLine then .ok (D.ref M1.length) (M1++[.lst ds])else .bad) q
 refine⟨ι,e,M,w,p.mono fun xs H1 ⟨gF,e1,M1,ds,w1,q1,p1⟩=> ?_⟩
 by_cases z:ds.length≤sizeLine
 ·simp only[z,if_true]at p1
  exact⟨by rw[q1.length];exact z,fun pp hp=>uF w1.rl q1 hp p1⟩
 ·simp only[z,if_false]at p1
  exact p1.elim
def Al(cs:List Nat)(f:Str)(d:D)(M:Mem):Out D:=match d with
 | .ref n=>match M[n]? with
  | some (.ins c fs)=>if c∈cs then(match fs.lookup f with
   | some v=> .ok v M
   | none=> .bad)else .bad
  | _=> .bad
 | _=> .bad
def j6(cs:List Nat)(m:ME)(f:Str):ME:=fun e M=>(m e M).bind (Al cs f)
def HY(K:PySem.W.Frag)(ct:Nat→Addr)(f:Str):List Nat→Prop
 | []=>True
 | c::cs=>(PB K (ct c)∧lE K (ct c) f)∧HY K ct f cs
theorem HY.get{K:PySem.W.Frag}{ct:Nat→Addr}{f:Str}:∀{cs:List Nat} {c:Nat},HY K ct f cs→c∈cs→PB K (ct c)∧lE K (ct c) f
 | [],_,_,h=>by simp at h
 | c::cs,d,⟨a,r⟩,h=>by
  rcases List.mem_cons.mp h with e | e
  ·subst e;exact a
  ·exact r.get e
theorem tH{K:PySem.W.Frag}{ι:Nat→Addr}{n:Nat}{H:Hp}{i:Nat}{v:V}(h:DV K ct ι n H (.ref i) v):i<n∧v= .ref (ι i):=by cases h with | ref h=>exact⟨h,rfl⟩
theorem cI{cs:List Nat}{f:Str}(hc:HY X.K ct f cs)(he:SE X ct W a ma)(hb:attributeBase a f X.env (eval a X.env)=eval a X.env:=by rfl):SE X ct W (.Attribute a f pos) (j6 cs ma f):=iz (acJ he hb) fun σ H Q q=>by
 obtain⟨ι,e,M,w,p⟩:=cQ (gZ:=d_ X.K ct) (f:=fun d _ M1=>Al cs f d M1) q
 refine⟨ι,e,M,w,p.mono fun x H1 ⟨gF,e1,M1,d1,w1,q1,p1⟩=> ?_⟩
 cases d1 with
 | ref n=>
  obtain⟨hn,rfl⟩:=tH q1
  simp only[Al]at p1
  cases z:M1[n]? with
  | none=>simp only[z]at p1;exact p1.elim
  | some o=>
   cases o with
   | ins c fs=>
    simp only[z]at p1
    by_cases hcs:c∈cs
    ·simp only[hcs,if_true]at p1
     cases z2:fs.lookup f with
     | none=>simp only[z2]at p1;exact p1.elim
     | some d=>
      simp only[z2]at p1
      obtain⟨dx,vs,hH,fv⟩:=w1.rl.obj n _ z
      obtain⟨v,hv,dv⟩:=fv.look z2
      exact⟨_,_,dx,vs,v,rfl,hH,(hc.get hcs).1,(hc.get hcs).2,hv,p1 gF v H1 .refl w1.rl dv⟩
    ·simp only[hcs,if_false]at p1
     exact p1.elim
   | _=>simp only[z]at p1;exact p1.elim
 | _=>exact p1.elim
abbrev Fn:=List D→Mem→Out D
def wE(E:XK):XW:=fun C dx H=>E (.ref C) (some dx) H
theorem jO.wish{α β:Type}{rel:(Nat→Addr)→Mem→Hp→α→β→Prop}{K:PySem.W.Frag}{ct ι:Nat→Addr}{w w':XW}{n:Nat}{H:Hp}{o:Out α}{Q:β→Hp→Prop}(h:jO rel K ct w ι n H o Q)(x:∀C dx H,w C dx H→w' C dx H):jO rel K ct w' ι n H o Q:=by
 cases o with
 | ok a M=>exact h
 | exc c d M=>exact fun lN dx v H2 x2 r q1 q2=>x _ _ _ (h lN dx v H2 x2 r q1 q2)
 | bad=>exact h
theorem jO.toE{α β:Type}{rel:(Nat→Addr)→Mem→Hp→α→β→Prop}{K:PySem.W.Frag}{ct ι:Nat→Addr}{W:bD}{σ:St}{n:Nat}{H:Hp}{o:Out α}{Q:β→Hp→Prop}(h:jO rel K ct (wAt W σ) ι n H o Q):jO rel K ct (wE (EW W σ)) ι n H o Q:=
 h.wish fun C dx _ q=>⟨C,dx,rfl,rfl,q⟩
def spS(K:PySem.W.Frag)(ct:Nat→Addr)(fn:Fn)(ar:Nat):Sp:=fun vs H Q E=>∃ι ds M,ds.length=ar∧Rl K ct ι M H∧o4 K ct ι M.length H ds vs∧jO (d_ K ct) K ct (wE E) ι M.length H (fn ds M) Q
inductive Cst:D→V→Value→Prop
 | bl (b:Bool):Cst (.bl b) (.bl b) (.bool b)
 | non:Cst .non .non .none
inductive De:List D→List V→List Value→Prop
 | nil:De [] [] []
 | cons {d:D} {v:V} {u:Value} {ds:List D} {vs:List V} {us:List Value}:Cst d v u→De ds vs us→De (d::ds) (v::vs) (u::us)
theorem Cst.dv{K:PySem.W.Frag}{ι:Nat→Addr}{n:Nat}{H:Hp}{d:D}{v:V}{u:Value}(h:Cst d v u):DV K ct ι n H d v:=by
 cases h with
 | bl b=>exact .bl b
 | non=>exact .non
theorem Cst.val{d:D}{v:V}{u:Value}(h:Cst d v u):RelV v u:=by
 cases h with
 | bl b=>exact rfl
 | non=>exact rfl
theorem De.dv{K:PySem.W.Frag}{ι:Nat→Addr}{n:Nat}{H:Hp}{ds:List D}{vs:List V}{us:List Value}(h:De ds vs us):o4 K ct ι n H ds vs:=by
 induction h with
 | nil=>exact .nil
 | cons c _ ih=>exact .cons c.dv ih
theorem De.vals{ds:List D}{vs:List V}{us:List Value}(h:De ds vs us):Vals vs us:=by
 induction h with
 | nil=>exact .nil
 | cons c _ ih=>exact .cons c.val ih
def jD(fn:Fn)(ar:Nat)(dv:List D)(ms:MA):ME:=fun e M=>(ms e M).bind fun ds M1=>if(ds++dv).length=ar then fn (ds++dv) M1 else .bad
variable{k:Nat}{f:Addr}{fd:FuncData}{ps:List Str}{fn:Fn}{dv:List D}{Ag:List V}{Yq:List Value}{x:Str}{p:Pos}
theorem Wg{σ:St}{H:Hp}{Q:VK}(hd:De dv Ag Yq)(h:tG (d_ X.K ct) X.K ct W (jD fn ps.length dv ms) σ H Q):Wh (spS X.K ct fn ps.length) Ag W (tG (Fo X.K ct) X.K ct W ms) σ H Q:=by
 obtain⟨ι,e,M,w,p⟩:=cQ (gZ:=Fo X.K ct) (f:=fun ds _ M1=>if(ds++dv).length=ps.length then fn (ds++dv) M1 else .bad) h
 refine⟨ι,e,M,w,p.mono fun vs H1 ⟨gF,e1,M1,ds,w1,q1,p1⟩=> ?_⟩
 by_cases z:(ds++dv).length=ps.length
 ·simp only[z,if_true]at p1
  exact⟨gF,ds++dv,M1,z,w1.rl,q1.append hd.dv,p1.toE⟩
 ·simp only[z,if_false]at p1
  exact p1.elim
theorem d8{ar:Nat}(F:bx X.prog X.w X.K X.mg X.base (iM X.prog X.w) k f fd ps (spS X.K ct fn ar))(hx:Tk X W)(hr:lq k X.A)(hg:Gl X x)(hm:X.mg x=some (.ref f))(hk:PySem.W.keepIn X.K (.ref f)=true)(hb:Binds X.K fd ps Yq)(hd:De dv Ag Yq)
  (ha:SA X ct W (a::es) ms) (hdb:(x==("__debug__" : Str))=false:=by decide) (he:starEach (a::es) X.env=(false,eval a X.env)::starEach es X.env:=by rfl) (hpl:(backTo pos (starEach es X.env)).any (·.1)=false:=by rfl) (har:ps.length=ar:=by rfl):SE X ct W (.Call (.Name x p) (a::es) [] pos) (jD fn ar dv ms):=by
 subst har
 exact iz (Xl F hr hg hm hk hb hd.vals hx ha hdb he hpl) fun σ H Q q=>Wg hd q
def Aq(k:Nat)(m:Str)(d:D)(M:Mem):Bool:=match d with
 | .ref n=>match M[n]? with
  | some (.ins c fs)=>c==k&&(fs.lookup m).isNone
  | _=>false
 | _=>false
def cN(k:Nat)(m:Str)(fn:Fn)(ar:Nat)(dv:List D)(mo:ME)(ms:MA):ME:=fun e M=>(mo e M).bind fun d M1=>if Aq k m d M1=true then(ms e M1).bind fun ds M2=>if(d::(ds++dv)).length=ar then fn (d::(ds++dv)) M2 else .bad else .bad
theorem X7{K:PySem.W.Frag}{ι:Nat→Addr}{M:Mem}{H:Hp}{k:Nat}{m:Str}{d:D}{v:V}(R:Rl K ct ι M H)(h:Aq k m d M=true)(q:DV K ct ι M.length H d v):∃a dx fs,v= .ref a∧H a=some (.ins (ct k) dx fs)∧fs.lookup m=none:=by
 cases d with
 | ref n=>
  obtain⟨hn,rfl⟩:=tH q
  unfold Aq at h
  cases z:M[n]? with
  | none=>simp only[z]at h;cases h
  | some o=>
   cases o with
   | ins c fs=>
    simp only[z,Bool.and_eq_true,beq_iff_eq,Option.isNone_iff_eq_none]at h
    obtain⟨rfl,hl⟩:=h
    obtain⟨dx,vs,hH,fv⟩:=R.obj n _ z
    exact⟨_,dx,vs,rfl,hH,fv.abu hl⟩
   | _=>simp only[z]at h;cases h
 | _=>exact absurd h Bool.false_ne_true
theorem Nv{kc:Nat}{m:Str}{mo:ME}{σ:St}{H:Hp}{Q:VK}(hd:De dv Ag Yq)(h:tG (d_ X.K ct) X.K ct W (cN kc m fn ps.length dv mo ms) σ H Q):
  Qh (ct kc) m (spS X.K ct fn ps.length) Ag W (tG (d_ X.K ct) X.K ct W mo) (tG (Fo X.K ct) X.K ct W ms) σ H Q:=by
 obtain⟨ι,e,M,w,p⟩:=cQ (gZ:=d_ X.K ct) (f:=fun d e M1=>if Aq kc m d M1=true then(ms e M1).bind fun ds M2=>if(d::(ds++dv)).length=ps.length then fn (d::(ds++dv)) M2 else .bad else .bad) h
 refine⟨ι,e,M,w,p.mono fun v H1 ⟨gF,e1,M1,d,w1,q1,p1⟩=> ?_⟩
 cases z:Aq kc m d M1 with
 | false=>simp only[z,Bool.false_eq_true,if_false]at p1;exact p1.elim
 | true=>
  simp only[z,if_true]at p1
  obtain⟨a,dx,fs,rfl,hH,hl⟩:=X7 w1.rl z q1
  refine⟨a,dx,fs,rfl,hH,hl,gF,e1,M1,w1,?_⟩
  cases z2:ms e1 M1 with
  | bad=>simp only[z2,Out.gO]at p1;exact p1
  | exc xc xd xM=>simp only[z2,Out.jH]at p1;exact p1
  | ok ds M2=>
   simp only[z2,Out.fY]at p1
   intro lN vs H2 x2 r2 q2
   by_cases z3:(d::(ds++dv)).length=ps.length
   ·rw[if_pos z3]at p1
    exact⟨lN,_,M2,z3,r2,.cons (q1.mono x2) (q2.append hd.dv),(p1.ext x2).toE⟩
   ·rw[if_neg z3]at p1
    exact p1.elim
variable{o:Expr}{mo:ME}{kc:Nat}{m:Str}{apos:Pos}
theorem cR{ar:Nat}{pl:Sem Bool}(he:SE X ct W o mo)(c:PB X.K (ct kc))(hm:Meth X.K (ct kc) m f)(F:bx X.prog X.w X.K X.mg X.base (iM X.prog X.w) k f fd ps (spS X.K ct fn ar))(hx:Tk X W)(hr:lq k X.A)(hb:Binds X.K fd ps Yq)(hd:De dv Ag Yq)(ha:SA X ct W (a::es) ms)
  (hst:starEach (a::es) X.env=(false,eval a X.env)::starEach es X.env:=by rfl) (hpl:(backTo pos (starEach es X.env)).any (·.1)=false:=by rfl)
  (ht:eval (.Call (.Attribute o m apos) (a::es) [] pos) X.env=(do
   let ov ←eval o X.env
   standAt apos.atName
   let(f,first) ←holding [ov] (getMethod ov m pl)
   callWith pos f first (backTo pos (starEach (a::es) X.env)) (backToKw pos (keywordEach [] X.env))):=by rfl) (har:ps.length=ar:=by rfl):SE X ct W (.Call (.Attribute o m apos) (a::es) [] pos) (cN kc m fn ar dv mo ms):=by
 subst har
 exact iz (Xh he c hm F hr hb hd.vals hx ha hst hpl ht) fun σ H Q q=>Nv hd q
theorem lR{ar:Nat}{pl:Sem Bool}(he:SE X ct W o mo)(c:PB X.K (ct kc))(hm:Meth X.K (ct kc) m f)(F:bx X.prog X.w X.K X.mg X.base (iM X.prog X.w) k f fd ps (spS X.K ct fn ar))(hx:Tk X W)(hr:lq k X.A)(hb:Binds X.K fd ps Yq)(hd:De dv Ag Yq)
  (ht:eval (.Call (.Attribute o m apos) [] [] pos) X.env=(do
   let ov ←eval o X.env
   standAt apos.atName
   let(f,first) ←holding [ov] (getMethod ov m pl)
   callWith pos f first (backTo pos (starEach [] X.env)) (backToKw pos (keywordEach [] X.env))):=by rfl) (har:ps.length=ar:=by rfl):SE X ct W (.Call (.Attribute o m apos) [] [] pos) (cN kc m fn ar dv mo aH):=by
 subst har
 exact iz (UG he c hm F hr hb hd.vals hx ht) fun σ H Q q=>by
  obtain⟨ι,e,M,w,p⟩:=Nv hd q
  refine⟨ι,e,M,w,p.mono fun v H1 ⟨a,dx,fs,e1,e2,e3,gF,e4,M1,w1,p1⟩=>⟨a,dx,fs,e1,e2,e3,p1 gF [] H1 .refl w1.rl .nil⟩⟩
def Ox(d:D):Bool:=match d with
 | .non=>true
 | _=>false
def Hj(kc:Nat)(fn:Fn)(ar:Nat)(dv:List D)(ms:MA):ME:=fun e M=>(ms e M).bind fun ds M1=>if(D.ref M1.length::(ds++dv)).length=ar then(fn (.ref M1.length::(ds++dv)) (M1++[.ins kc []])).bind fun r M2=>if Ox r=true then .ok (.ref M1.length) M2 else .bad else .bad
theorem Wb{σ:St}{H:Hp}{Q:VK}(hd:De dv Ag Yq)(h:tG (d_ X.K ct) X.K ct W (Hj kc fn ps.length dv ms) σ H Q):Wc (ct kc) (spS X.K ct fn ps.length) Ag W (tG (Fo X.K ct) X.K ct W ms) σ H Q:=by
 obtain⟨ι,e,M,w,p⟩:=cQ (gZ:=Fo X.K ct) (f:=fun ds _ M1=>if(D.ref M1.length::(ds++dv)).length=ps.length then(fn (D.ref M1.length::(ds++dv)) (M1++[.ins kc []])).bind fun r M2=>if Ox r=true then .ok (D.ref M1.length) M2 else .bad else .bad) h
 refine⟨ι,e,M,w,p.mono fun vs H1 ⟨gF,e1,M1,ds,w1,q1,p1⟩=> ?_⟩
 intro a dx ha hdx ne
 dsimp only at p1
 by_cases z:(D.ref M1.length::(ds++dv)).length=ps.length
 ·rw[if_pos z]at p1
  have ha':upd H1 dx (.own a) a=none:=by rw[bw (Ne.symm ne)];exact ha
  have el:(M1++[MO.ins kc []]).length=M1.length+1:=by simp
  have x1:Ext X.K gF M1.length H1 gF M1.length (upd H1 dx (.own a)):=Ext.fresh hdx
  have r1:Rl X.K ct gF M1 (upd H1 dx (.own a)):=w1.rl.fresh hdx
  have x2:Ext X.K gF M1.length (upd H1 dx (.own a)) (vX gF M1.length a) (M1.length+1) (upd (upd H1 dx (.own a)) a (.ins (ct kc) dx [])):=Ext.new ha'
  have r2:Rl X.K ct (vX gF M1.length a) (M1++[MO.ins kc []]) (upd (upd H1 dx (.own a)) a (.ins (ct kc) dx [])):=r1.new ha' ⟨dx,[],dm,.nil⟩
  have e0:(vX gF M1.length a) M1.length=a:=by unfold vX;rw[if_pos rfl]
  have dv0:DV X.K ct (vX gF M1.length a) (M1++[MO.ins kc []]).length (upd (upd H1 dx (.own a)) a (.ins (ct kc) dx [])) (.ref M1.length) (.ref a):=by
   have:=DV.ref (K:=X.K) (ct:=ct) (ι:=vX gF M1.length a) (n:=(M1++[MO.ins kc []]).length) (H:=upd (upd H1 dx (.own a)) a (.ins (ct kc) dx [])) (i:=M1.length) (by rw[el];omega)
   rw[e0]at this
   exact this
  refine⟨vX gF M1.length a,_,M1++[.ins kc []],z,r2,.cons dv0 ?_,?_⟩
  ·rw[el];exact(q1.append hd.dv).mono (x1.trans x2)
  ·cases z2:fn (.ref M1.length::(ds++dv)) (M1++[.ins kc []])with
   | bad=>rw[z2]at p1;exact p1
   | exc xc xd xM=>
    rw[z2]at p1
    simp only[Out.jH]at p1
    have p2:=(p1.ext (x1.trans x2)).toE
    rw[el]
    exact fun Bq dx3 v3 H3 x3 r3 q3 q4=>p2 Bq dx3 v3 H3 x3 r3 q3 q4
   | ok r M2=>
    rw[z2]at p1
    simp only[Out.fY]at p1
    intro Bq v3 H3 x3 r3 q3
    cases q3 with
    | non=>
     refine⟨rfl,?_⟩
     simp only[Ox,if_true]at p1
     refine p1 Bq (.ref a) H3 ((x1.trans x2).trans (by rw[el]at x3;exact x3)) r3 (dv0.mono x3)
    | _=>exact False.elim p1
 ·rw[if_neg z]at p1
  exact p1.elim
theorem FP{ar:Nat}(Mk0:Mk X.K (ct kc) f)(F:bx X.prog X.w X.K X.mg X.base (iM X.prog X.w) k f fd ps (spS X.K ct fn ar))(hx:Tk X W)(hr:lq (k+1) X.A)(hg:Gl X x)(hm:X.mg x=some (.ref (ct kc)))(hb:Binds X.K fd ps Yq)(hd:De dv Ag Yq)
  (ha:SA X ct W (a::es) ms) (hdb:(x==("__debug__" : Str))=false:=by decide) (he:starEach (a::es) X.env=(false,eval a X.env)::starEach es X.env:=by rfl) (hpl:(backTo pos (starEach es X.env)).any (·.1)=false:=by rfl) (har:ps.length=ar:=by rfl):SE X ct W (.Call (.Name x p) (a::es) [] pos) (Hj kc fn ar dv ms):=by
 subst har
 exact iz (Xi Mk0 F hr hg hm hb hd.vals hx ha hdb he hpl) fun σ H Q q=>Wb hd q
abbrev Im:=List D→Mem→Out D
def vL(op:Im)(ms:MA):ME:=fun e M=>(ms e M).bind op
def qm(X:Cx)(ct:Nat→Addr)(f:Value)(op:Im):Prop:=∃r,oN X f r∧∀{w:XW} ι M H ds vs Q,Rl X.K ct ι M H→o4 X.K ct ι M.length H ds vs→jO (d_ X.K ct) X.K ct w ι M.length H (op ds M) Q→r vs H Q
variable{id T:String}{op:Im}
theorem Wj{r:List V→Hp→VK→Prop}{σ:St}{H:Hp}{Q:VK}(hs:∀{w:XW} ι M H ds vs Q,Rl X.K ct ι M H→o4 X.K ct ι M.length H ds vs→jO (d_ X.K ct) X.K ct w ι M.length H (op ds M) Q→r vs H Q)
  (h:tG (d_ X.K ct) X.K ct W (vL op ms) σ H Q):tCB r (tG (Fo X.K ct) X.K ct W ms) σ H Q:=by
 obtain⟨ι,e,M,w,p⟩:=cQ (gZ:=Fo X.K ct) (f:=fun ds _ M1=>op ds M1) h
 exact⟨ι,e,M,w,p.mono fun vs H1 ⟨gF,e1,M1,ds,w1,q1,p1⟩=>hs gF M1 H1 ds vs Q w1.rl q1 p1⟩
theorem cT(h:qm X ct (.builtin id) op)(hg:Gl X x)(hm:X.mg x=none)(hv:bootBuiltins x=some (.builtin id))(ha:SA X ct W (a::es) ms)(hn:x≠ "__name__" := by decide)(hdb:(x==("__debug__" : Str))=false:=by decide)
  (he:starEach (a::es) X.env=(false,eval a X.env)::starEach es X.env:=by rfl) (hpl:(backTo pos (starEach es X.env)).any (·.1)=false:=by rfl):SE X ct W (.Call (.Name x p) (a::es) [] pos) (vL op ms):=by
 obtain⟨r,hr,hs⟩:=h
 exact iz (Xm hr hg hm hv ha hn hdb he hpl) fun σ H Q q=>Wj hs q
theorem jC(h:qm X ct (.type T) op)(hg:Gl X x)(hm:X.mg x=none)(hv:bootBuiltins x=some (.type T))(ha:SA X ct W (a::es) ms)(hn:x≠ "__name__" := by decide)(hdb:(x==("__debug__" : Str))=false:=by decide)
  (he:starEach (a::es) X.env=(false,eval a X.env)::starEach es X.env:=by rfl) (hpl:(backTo pos (starEach es X.env)).any (·.1)=false:=by rfl):SE X ct W (.Call (.Name x p) (a::es) [] pos) (vL op ms):=by
 obtain⟨r,hr,hs⟩:=h
 exact iz (UJ hr hg hm hv ha hn hdb he hpl) fun σ H Q q=>Wj hs q
end
end S
namespace S
open PySem PySem.Spec PyProof.Rows L2
section
variable{X:Cx}{ct:Nat→Addr}{W:bD}
theorem p7{K:PySem.W.Frag}{ι:Nat→Addr}{n:Nat}{H:Hp}{i:Int}{v:V}(h:DV K ct ι n H (.int i) v):v= .int i:=by cases h;rfl
theorem jo{K:PySem.W.Frag}{ι:Nat→Addr}{n:Nat}{H:Hp}{i:Str}{v:V}(h:DV K ct ι n H (.str i) v):v= .str i:=by cases h;rfl
theorem Rf{K:PySem.W.Frag}{ι:Nat→Addr}{n:Nat}{H:Hp}{ds:List D}{v:V}(h:DV K ct ι n H (.tup ds) v):∃a xs,v= .ref a∧vh K H a xs∧o4 K ct ι n H ds xs:=by cases h with | tup a b=>exact⟨_,_,rfl,vh.of a,b⟩
theorem uh{K:PySem.W.Frag}{ι:Nat→Addr}{n:Nat}{H:Hp}{ds:List D}{v:V}(h:DV K ct ι n H (.tup ds) v):∃a xs,v= .ref a∧H a=some (.tup xs)∧o4 K ct ι n H ds xs:=by cases h with | tup a b=>exact⟨_,_,rfl,a,b⟩
def rF(M:Mem)(n:Nat):Option (List D):=match M[n]? with
 | some (.lst ds)=>some ds
 | _=>none
theorem gG{M:Mem}{n:Nat}{ds:List D}(h:M[n]? = some (.lst ds)):rF M n=some ds:=by unfold rF;rw[h]
theorem uv{M:Mem}{n:Nat}{ds:List D}:rF M n=some ds↔M[n]? = some (.lst ds):=by
 refine⟨fun h=> ?_,gG⟩
 unfold rF at h
 split at h
 ·rename_i e;cases h;exact e
 ·cases h
def Aj(M:Mem)(d:D):Option (List D):=match d with
 | .ref n=>rF M n
 | .cl ds=>some ds
 | _=>none
theorem Rl.seq{K:PySem.W.Frag}{ι:Nat→Addr}{M:Mem}{H:Hp}(R:Rl K ct ι M H){d:D}{v:V}{ds:List D}(h:Aj M d=some ds)(q:DV K ct ι M.length H d v):∃a xs,v= .ref a∧yC K H a xs∧o4 K ct ι M.length H ds xs:=by
 cases q with
 | @ref i hi=>obtain⟨vs,q,r⟩:=R.obj i _ (uv.mp h);exact⟨_,vs,rfl,yC.of q,r⟩
 | cl h1 h2=>cases h;exact⟨_,_,rfl,h1.sq,h2⟩
 | _=>cases h
def PJ(C:Int→Int→Bool)(g:Int→Int→D):ql:=fun d e M=>match d,e with
 | .int i,.int j=>if C i j=true then .ok (g i j) M else .bad
 | _,_=> .bad
theorem Sw{C:Int→Int→Bool}{P:Int→Int→Prop}{g:Int→Int→D}{gv:Int→Int→V}(hP:∀i j,C i j=true→P i j)(hg:∀(K:PySem.W.Frag) ι n H i j,DV K ct ι n H (g i j) (gv i j)):JP X.K ct (PJ C g) (rI P gv):=by
 intro w ι M H d d' v v' Q R h h' p
 cases d with
 | int i=>
  cases d' with
  | int j=>
   cases p7 h
   cases p7 h'
   simp only[PJ]at p
   cases z:C i j with
   | false=>simp only[z,Bool.false_eq_true,if_false]at p;exact p.elim
   | true=>
    simp only[z,if_true]at p
    exact⟨i,j,rfl,rfl,hP i j z,p ι _ H .refl R (hg _ _ _ _ _ _)⟩
  | _=>exact p.elim
 | _=>cases d'<;>exact p.elim
def C1:Int→Int→Bool:=fun _ _=>true
theorem ack{g:Int→Int→V}{x y:V}{H:Hp}{Q:VK}(h:rI (fun _ _=>True) g x y H Q):YL g x y H Q:=let⟨i,j,a,b,_,q⟩:=h;⟨i,j,a,b,q⟩
theorem JP.imp{K:PySem.W.Frag}{op:ql}{r r':R2}(h:JP K ct op r)(i:∀x y H Q,r x y H Q→r' x y H Q):JP K ct op r':=fun ι M H d d' v v' Q R a b p=>i _ _ _ _ (h ι M H d d' v v' Q R a b p)
theorem wV{f:Value→Value→Sem Value}{g:Int→Int→D}{gv:Int→Int→V}(h:wz X f (YL gv))(hg:∀(K:PySem.W.Frag) ι n H i j,DV K ct ι n H (g i j) (gv i j)):ju X ct f (PJ C1 g):=
 ⟨_,h,JP.imp (Sw (P:=fun _ _=>True) (fun _ _ _=>trivial) hg) fun _ _ _ _ q=>ack q⟩
theorem C_{f:Value→Value→Sem Value}{C:Int→Int→Bool}{P:Int→Int→Prop}{g:Int→Int→D}{gv:Int→Int→V}(h:wz X f (rI P gv))(hP:∀i j,C i j=true→P i j)(hg:∀(K:PySem.W.Frag) ι n H i j,DV K ct ι n H (g i j) (gv i j)):ju X ct f (PJ C g):=
 ⟨_,h,Sw hP hg⟩
def xV(a b:ql):ql:=fun d e M=>match a d e M with
 | .bad=>b d e M
 | o=>o
theorem JP.or{K:PySem.W.Frag}{a b:ql}{r r':R2}(ha:JP K ct a r)(hb:JP K ct b r'):JP K ct (xV a b) (fun x y H Q=>r x y H Q∨r' x y H Q):=by
 intro w ι M H d d' v v' Q R q q' p
 unfold xV at p
 cases z:a d d' M with
 | ok x M1=>rw[z]at p;exact .inl (ha ι M H d d' v v' Q R q q' (by rw[z];exact p))
 | exc xc xd xM=>rw[z]at p;exact .inl (ha ι M H d d' v v' Q R q q' (by rw[z];exact p))
 | bad=>rw[z]at p;exact .inr (hb ι M H d d' v v' Q R q q' p)
theorem t8{a b:ql}{d e x:D}{M M':Mem}(h:a d e M= .ok x M'):xV a b d e M= .ok x M':=by unfold xV;rw[h]
theorem uH{a b:ql}{d e:D}{M:Mem}(h:a d e M= .bad):xV a b d e M=b d e M:=by unfold xV;rw[h]
theorem ju.or{f:Value→Value→Sem Value}{a b:ql}(ha:ju X ct f a)(hb:ju X ct f b):ju X ct f (xV a b):=by
 obtain⟨r,h,hs⟩:=ha
 obtain⟨r',h',hs'⟩:=hb
 refine⟨_,h.or h',fun ι M H d d' v v' Q R q q' p=> ?_⟩
 unfold xV at p
 cases z:a d d' M with
 | ok x M1=>rw[z]at p;exact .inl (hs ι M H d d' v v' Q R q q' (by rw[z];exact p))
 | exc xc xd xM=>rw[z]at p;exact .inl (hs ι M H d d' v v' Q R q q' (by rw[z];exact p))
 | bad=>rw[z]at p;exact .inr (hs' ι M H d d' v v' Q R q q' p)
def aez(i j:Int):Bool:=decide ((-(2 ^ 64)<i∧i<2 ^ 64)∨(-(2 ^ 64)<j∧j<2 ^ 64))
def aeA(_ j:Int):Bool:=decide (0<j∧j<1073741824)
def ai0(_ j:Int):Bool:=decide (0<j)
def YC(i j:Int):Bool:=decide (0≤j∧j≤1000000∧i.natAbs<2 ^ 64)
def abh:ql:=PJ C1 fun i j=> .int (i+j)
def NP:ql:=PJ C1 fun i j=> .int (i - j)
def WR:ql:=PJ aez fun i j=> .int (i*j)
def Kq:ql:=PJ aeA fun i j=> .int (i / j)
def nQ:ql:=PJ ai0 fun i j=> .int (i % j)
def Ko:ql:=PJ YC fun i j=> .int (i ^ j.toNat)
def Zr:ql:=PJ YC fun i j=> .int (i*2 ^ j.toNat)
def afG:ql:=PJ C1 fun i j=> .bl (decide (i<j))
def NT:ql:=PJ C1 fun i j=> .bl (decide (i≤j))
def Ig:ql:=PJ C1 fun i j=> .bl (decide (j<i))
def Zx:ql:=PJ C1 fun i j=> .bl (decide (j≤i))
theorem aaW:ju X ct (binaryOp .Add) abh:=wV ac3 fun _ _ _ _ _ _=> .int _
theorem Ed:ju X ct (binaryOp .Sub) NP:=wV acR fun _ _ _ _ _ _=> .int _
theorem aaT:ju X ct (binaryOp .Mult) WR:=C_ acV (fun i j h=>by unfold aez at h;exact(decide_eq_true_eq.mp h :)) fun _ _ _ _ _ _=> .int _
theorem Mj:ju X ct (binaryOp .FloorDiv) Kq:=C_ aac (fun i j h=>by unfold aeA at h;exact(decide_eq_true_eq.mp h :)) fun _ _ _ _ _ _=> .int _
theorem lD:ju X ct (binaryOp .Mod) nQ:=C_ acW (fun _ _ h=>of_decide_eq_true h) fun _ _ _ _ _ _=> .int _
theorem aeq:ju X ct (binaryOp .Pow) Ko:=C_ acT (fun i j h=>by unfold YC at h;exact(decide_eq_true_eq.mp h :)) fun _ _ _ _ _ _=> .int _
theorem Yv:ju X ct (binaryOp .LShift) Zr:=C_ acS (fun i j h=>by unfold YC at h;exact(decide_eq_true_eq.mp h :)) fun _ _ _ _ _ _=> .int _
theorem aiY:ju X ct (compareOp .Lt) afG:=wV agz fun _ _ _ _ _ _=> .bl _
theorem JF:ju X ct (compareOp .LtE) NT:=wV agA fun _ _ _ _ _ _=> .bl _
theorem Ff:ju X ct (compareOp .Gt) Ig:=wV agB fun _ _ _ _ _ _=> .bl _
theorem abB:ju X ct (compareOp .GtE) Zx:=wV agC fun _ _ _ _ _ _=> .bl _
def Zz:ql:=fun d e M=>match d,e with
 | .ref n,.ref m=>match M[n]?,M[m]? with
  | some (.lst xs),some (.lst ys)=>if xs.length+ys.length≤sizeLine then .ok (.ref M.length) (M++[.lst (xs++ys)])else .bad
  | _,_=> .bad
 | _,_=> .bad
theorem aex:ju X ct (binaryOp .Add) Zz:=by
 refine⟨_,ac2,fun ι M H d d' v v' Q R h h' p=> ?_⟩
 cases d with
 | ref n=>
  cases d' with
  | ref m=>
   obtain⟨_,rfl⟩:=tH h
   obtain⟨_,rfl⟩:=tH h'
   simp only[Zz]at p
   split at p
   ·rename_i xs ys e1 e2
    split at p
    ·rename_i hz
     obtain⟨vs,q,r⟩:=R.obj n _ e1
     obtain⟨vs',q',r'⟩:=R.obj m _ e2
     exact⟨_,_,vs,vs',rfl,rfl,q,q',by rw[r.length,r'.length];exact hz,fun pp hp=>uF R (r.append r') hp p⟩
    ·exact p.elim
   ·exact p.elim
  | _=>exact p.elim
 | _=>cases d'<;>exact p.elim
def Sg:ql:=fun d e M=>match d,e with
 | .str a,.str b=>if a.length+b.length≤sizeLine then .ok (.str (a++b)) M else .bad
 | _,_=> .bad
theorem aaV:ju X ct (binaryOp .Add) Sg:=by
 refine⟨_,QG,fun ι M H d d' v v' Q R h h' p=> ?_⟩
 unfold Sg at p
 split at p
 ·cases jo h
  cases jo h'
  split at p
  ·rename_i hz
   exact⟨_,_,rfl,rfl,hz,p ι _ H .refl R (.str _)⟩
  ·exact p.elim
 ·exact p.elim
def RV:ql:=fun d e M=>match d,e with
 | .str a,.int n=>if a.length≤1000∧ -(2 ^ 62)<n∧n≤1000 then .ok (.str (PySem.Txt.mul a n)) M else .bad
 | _,_=> .bad
theorem aaS:ju X ct (binaryOp .Mult) RV:=by
 refine⟨_,QF,fun ι M H d d' v v' Q R h h' p=> ?_⟩
 unfold RV at p
 split at p
 ·cases jo h
  cases p7 h'
  split at p
  ·rename_i hz
   exact⟨_,_,rfl,rfl,mulOk_of hz.1 hz.2.1 hz.2.2,p ι _ H .refl R (.str _)⟩
  ·exact p.elim
 ·exact p.elim
def Ie:ql:=xV WR RV
theorem Rh:ju X ct (binaryOp .Mult) Ie:=aaT.or aaS
def Sd:ql:=fun d e M=>match d,e with
 | .tup xs,.tup ys=>if xs.isEmpty=false∧xs.length+ys.length≤sizeLine then .ok (.tup (xs++ys)) M else .bad
 | _,_=> .bad
theorem aaU:ju X ct (binaryOp .Add) Sd:=by
 refine⟨_,aad,fun ι M H d d' v v' Q R h h' p=> ?_⟩
 unfold Sd at p
 split at p
 ·rename_i xs ys
  obtain⟨a,vs,rfl,ha,hd⟩:=uh h
  obtain⟨b,us,rfl,hb,hd'⟩:=uh h'
  split at p
  ·rename_i hz
   have l1:=hd.length
   have l2:=hd'.length
   refine⟨a,b,vs,us,rfl,rfl,vh.of ha,vh.of hb,fun z=> ?_,by omega,fun z=> ?_,fun _ pp hp=>BZ R (hd.append hd') hp p⟩
   ·rw[z]at l1
    have:=hz.1
    cases xs with
    | nil=>cases this
    | cons _ _=>simp at l1
   ·subst z
    have e:ys=[]:=List.length_eq_zero_iff.mp l2.symm
    subst e
    rw[List.append_nil]at p
    exact p ι _ H .refl R (.tup ha hd)
  ·exact p.elim
 ·exact p.elim
def d9:ql:=xV (xV abh Zz) (xV Sg Sd)
theorem dj:ju X ct (binaryOp .Add) d9:=(aaW.or aex).or (aaV.or aaU)
def ab7:ql:=fun d e M=>match d,e with
 | .str a,.str b=> .ok (.bl (decide (a.cps.toList<b.cps.toList))) M
 | _,_=> .bad
theorem aes:ju X ct (compareOp .Lt) ab7:=by
 refine⟨_,UT,fun ι M H d d' v v' Q R h h' p=> ?_⟩
 unfold ab7 at p
 split at p
 ·cases jo h
  cases jo h'
  exact⟨_,_,rfl,rfl,p ι _ H .refl R (.bl _)⟩
 ·exact p.elim
def sJ:List D→Option (List Int)
 | []=>some []
 | .int i::r=>(sJ r).map (i:: ·)
 | _=>none
theorem wB{K:PySem.W.Frag}{ι:Nat→Addr}{n:Nat}{H:Hp}:∀{ds:List D} {is:List Int} {vs:List V},sJ ds=some is→o4 K ct ι n H ds vs→vs=is.map V.int
 | [],_,_,h,.nil=>by cases h;rfl
 | d::r,is,_,h,.cons q qs=>by
  cases q with
  | int i=>
   simp only[sJ]at h
   obtain⟨js,h1,rfl⟩:=Option.map_eq_some_iff.mp h
   rw[wB h1 qs]
   rfl
  | _=>simp only[sJ]at h;cases h
def ab6:ql:=fun d e M=>match d,e with
 | .tup xs,.tup ys=>match sJ xs,sJ ys with
  | some is,some js=> .ok (.bl (HT.lexLt is js)) M
  | _,_=> .bad
 | _,_=> .bad
theorem aer(hu:X.A.units+64<cLine):ju X ct (compareOp .Lt) ab6:=by
 refine⟨_,acX (by omega),fun ι M H d d' v v' Q R h h' p=> ?_⟩
 unfold ab6 at p
 split at p
 ·obtain⟨a,vs,rfl,ha,hd⟩:=uh h
  obtain⟨b,us,rfl,hb,hd'⟩:=uh h'
  split at p
  ·rename_i is js e1 e2
   have x1:=wB e1 hd
   have x2:=wB e2 hd'
   subst x1 x2
   exact⟨a,b,is,js,rfl,rfl,vh.of ha,vh.of hb,p ι _ H .refl R (.bl _)⟩
  ·exact p.elim
 ·exact p.elim
def WT:ql:=xV (xV afG ab7) ab6
theorem yu(hu:X.A.units+64<cLine):ju X ct (compareOp .Lt) WT:=(aiY.or aes).or (aer hu)
def Zu:D→Mem→Out D:=fun d M=>match d with
 | .int i=> .ok (.int (-i)) M
 | _=> .bad
theorem V5:UnS X ct (unaryOp .USub) Zu:=⟨_,abJ,fun ι M H d v Q R h p=>by
 cases d with
 | int i=>cases p7 h;exact⟨i,rfl,p ι _ H .refl R (.int _)⟩
 | _=>exact p.elim⟩
def wH(f:D→Option Dt):List D→Option (List Dt)
 | []=>some []
 | d::ds=>match f d,wH f ds with
  | some t,some ts=>some (t::ts)
  | _,_=>none
def lK(M:Mem):Nat→D→Option Dt
 | 0,_=>none
 | k+1,d=>match d with
  | .non=>some .non
  | .bl b=>some (.bl b)
  | .int i=>some (.int i)
  | .str x=>some (.str x)
  | .tup ds=>(wH (lK M k) ds).map .tup
  | .ref n=>match rF M n with
   | some ds=>(wH (lK M k) ds).map .lst
   | none=>none
  | .cl ds=>(wH (lK M k) ds).map .lst
  | .ty _=>none
  | .cls _=>none
  | .exc _ _=>none
theorem FZ{K:PySem.W.Frag}{ι:Nat→Addr}{n:Nat}{H:Hp}{k:Nat}{f:D→Option Dt}(hf:∀d t v,f d=some t→DV K ct ι n H d v→Is K H v t∧dep t≤k):
  ∀{ds:List D} {ts:List Dt} {vs:List V},wH f ds=some ts→o4 K ct ι n H ds vs→Fw K H vs ts∧deps ts≤k
 | [],ts,_,h,.nil=>by cases h;exact⟨.nil,by unfold deps;exact Nat.zero_le _⟩
 | d::ds,ts,_,h,.cons q qs=>by
  simp only[wH]at h
  cases z:f d with
  | none=>rw[z]at h;cases h
  | some t=>
   cases z2:wH f ds with
   | none=>rw[z,z2]at h;cases h
   | some ts'=>
    rw[z,z2]at h
    cases h
    obtain⟨a,b⟩:=hf d t _ z q
    obtain⟨a',b'⟩:=FZ hf z2 qs
    exact⟨.cons a a',by unfold deps;exact Nat.max_le.mpr ⟨b,b'⟩⟩
theorem Bv{K:PySem.W.Frag}{ι:Nat→Addr}{M:Mem}{H:Hp}(R:Rl K ct ι M H):∀(k:Nat) (d:D) (t:Dt) (v:V),lK M k d=some t→DV K ct ι M.length H d v→Is K H v t∧dep t≤k
 | 0,d,t,v,h,_=>by simp only[lK]at h;cases h
 | k+1,d,t,v,h,q=>by
  cases q with
  | non=>simp only[lK]at h;cases h;exact⟨.non,by unfold dep;exact Nat.zero_le _⟩
  | bl b=>simp only[lK]at h;cases h;exact⟨.bl b,by unfold dep;exact Nat.zero_le _⟩
  | int b=>simp only[lK]at h;cases h;exact⟨.int b,by unfold dep;exact Nat.zero_le _⟩
  | str b=>simp only[lK]at h;cases h;exact⟨.str b,by unfold dep;exact Nat.zero_le _⟩
  | ty b=>simp only[lK]at h;cases h
  | cls b=>simp only[lK]at h;cases h
  | exc _ _ _=>simp only[lK]at h;cases h
  | @tup a xs ds hs hd=>
   simp only[lK]at h
   cases z:wH (lK M k) ds with
   | none=>rw[z]at h;cases h
   | some ts=>
    rw[z]at h
    cases h
    obtain⟨a,b⟩:=FZ (fun d t v=>Bv R k d t v) z hd
    exact⟨.tup (vh.of hs) a,by unfold dep;omega⟩
  | @ref i hi=>
   simp only[lK]at h
   cases z0:rF M i with
   | none=>rw[z0]at h;cases h
   | some ds=>
    rw[z0]at h
    obtain⟨xs,hs,hd⟩:=R.obj i _ (uv.mp z0)
    cases z:wH (lK M k) ds with
    | none=>simp only[z]at h;cases h
    | some ts=>
     simp only[z]at h
     cases h
     obtain⟨a,b⟩:=FZ (fun d t v=>Bv R k d t v) z hd
     exact⟨.lst (yC.of hs) a,by unfold dep;omega⟩
  | @cl a xs ds hs hd=>
   simp only[lK]at h
   cases z:wH (lK M k) ds with
   | none=>rw[z]at h;cases h
   | some ts=>
    rw[z]at h
    cases h
    obtain⟨a,b⟩:=FZ (fun d t v=>Bv R k d t v) z hd
    exact⟨.lst hs.sq a,by unfold dep;omega⟩
def Rc(M:Mem)(d e:D):Option Bool:=match lK M 12 d,lK M 12 e with
 | some a,some b=>some (cJ a b)
 | _,_=>none
def sEq:ql:=fun d e M=>match Rc M d e with
 | some b=> .ok (.bl b) M
 | none=> .bad
def sNe:ql:=fun d e M=>match Rc M d e with
 | some b=> .ok (.bl (!b)) M
 | none=> .bad
theorem Yn{K:PySem.W.Frag}{ι:Nat→Addr}{M:Mem}{H:Hp}{d e:D}{v u:V}{b:Bool}(R:Rl K ct ι M H)(h:Rc M d e=some b)(q:DV K ct ι M.length H d v)(q':DV K ct ι M.length H e u):∃x y,Is K H v x∧Is K H u y∧dep x≤20∧b=cJ x y:=by
 unfold Rc at h
 cases z:lK M 12 d with
 | none=>rw[z]at h;cases h
 | some x=>
  cases z2:lK M 12 e with
  | none=>rw[z,z2]at h;cases h
  | some y=>
   rw[z,z2]at h
   cases h
   obtain⟨a,c⟩:=Bv R 12 d x v z q
   obtain⟨a',_⟩:=Bv R 12 e y u z2 q'
   exact⟨x,y,a,a',by omega,rfl⟩
theorem lg(hu:X.A.units+64<cLine):ju X ct (compareOp .Eq) sEq:=by
 refine⟨_,ac0 hu,fun ι M H d d' v v' Q R h h' p=> ?_⟩
 unfold sEq at p
 cases z:Rc M d d' with
 | none=>rw[z]at p;exact p.elim
 | some b=>
  rw[z]at p
  obtain⟨x,y,a,a',hd,rfl⟩:=Yn R z h h'
  exact⟨x,y,a,a',hd,p ι _ H .refl R (.bl _)⟩
theorem Aw(hu:X.A.units+64<cLine):ju X ct (compareOp .NotEq) sNe:=by
 refine⟨_,acU hu,fun ι M H d d' v v' Q R h h' p=> ?_⟩
 unfold sNe at p
 cases z:Rc M d d' with
 | none=>rw[z]at p;exact p.elim
 | some b=>
  rw[z]at p
  obtain⟨x,y,a,a',hd,rfl⟩:=Yn R z h h'
  exact⟨x,y,a,a',hd,p ι _ H .refl R (.bl _)⟩
def Jp(d:D):Bool:=match d with
 | .non=>true
 | _=>false
theorem X6{K:PySem.W.Frag}{ι:Nat→Addr}{n:Nat}{H:Hp}{d:D}{v:V}(q:DV K ct ι n H d v):decide (v= .non)=Jp d:=by
 cases q<;>simp[Jp]
def sIs:ql:=fun d e M=>match e with
 | .non=> .ok (.bl (Jp d)) M
 | _=> .bad
def Qv:ql:=fun d e M=>match e with
 | .non=> .ok (.bl (!Jp d)) M
 | _=> .bad
theorem T5:ju X ct (compareOp .Is) sIs:=by
 refine⟨_,acZ,fun ι M H d d' v v' Q R h h' p=> ?_⟩
 cases h' with
 | non=>exact⟨rfl,p ι _ H .refl R (by rw[X6 h];exact .bl _)⟩
 | _=>exact p.elim
theorem Yx:ju X ct (compareOp .IsNot) Qv:=by
 refine⟨_,aab,fun ι M H d d' v v' Q R h h' p=> ?_⟩
 cases h' with
 | non=>exact⟨rfl,p ι _ H .refl R (by rw[X6 h];exact .bl _)⟩
 | _=>exact p.elim
theorem o4.Mr{K:PySem.W.Frag}{ι:Nat→Addr}{n:Nat}{H:Hp}{ds:List D}{vs:List V}{i:Int}{d:D}(h:o4 K ct ι n H ds vs)(e:L2.Mr ds i=some d):∃v,L2.Mr vs i=some v∧DV K ct ι n H d v:=by
 unfold L2.Mr at*
 rw[h.length]
 cases z:YM ds.length i with
 | none=>rw[z]at e;cases e
 | some j=>rw[z]at e;exact h.at e
variable{a b:Expr}{ma mb:ME}{pos:Pos}
section
variable{κ:Type}[DecidableEq κ]
def H_(kvs:List (κ×D))(k:κ):Option D:=(kvs.find? fun kv=>decide (kv.1=k)).map (·.2)
def af0(kvs:List (κ×D))(k:κ)(d:D):List (κ×D):=if(kvs.any fun kv=>decide (kv.1=k))=true then kvs.map (fun kv=>if kv.1=k then(kv.1,d)else kv)else kvs++[(k,d)]
variable{K:PySem.W.Frag}{ι:Nat→Addr}{n:Nat}{H:Hp}
theorem HR.val:∀{kvs:List (κ×D)} {vs:List (κ×V)},HR K ct ι n H kvs vs→∀k,(∀d,H_ kvs k=some d→∃v,cA vs k=some v∧DV K ct ι n H d v)∧(H_ kvs k=none→cA vs k=none)
 | _,_,.nil,k=>⟨fun d h=>by simp[H_]at h,fun _=>rfl⟩
 | _,_,.cons (x:=x) (d:=d) (v:=v) (fs:=fs) h hs,k=>by
  by_cases e:x=k
  ·have e1:H_ ((x,d)::fs) k=some d:=by simp[H_,e]
   rw[e1,Bs (p:=(x,v)) e]
   exact⟨fun d' q=>by cases q;exact⟨_,rfl,h⟩,fun q=>by cases q⟩
  ·have e1:H_ ((x,d)::fs) k=H_ fs k:=by simp[H_,e]
   rw[e1,Bt (p:=(x,v)) e]
   exact hs.val k
theorem HR.any:∀{kvs:List (κ×D)} {vs:List (κ×V)},HR K ct ι n H kvs vs→∀k,(vs.any fun kv=>decide (kv.1=k))=(kvs.any fun kv=>decide (kv.1=k))
 | _,_,.nil,_=>rfl
 | _,_,.cons _ hs,k=>by simp only[List.any_cons,hs.any k]
theorem HR.repl{d:D}{v:V}(hd:DV K ct ι n H d v)(k:κ):∀{kvs:List (κ×D)} {vs:List (κ×V)},HR K ct ι n H kvs vs→HR K ct ι n H (kvs.map fun kv=>if kv.1=k then(kv.1,d)else kv) (vs.map fun kv=>if kv.1=k then(kv.1,v)else kv)
 | _,_,.nil=> .nil
 | _,_,.cons (x:=x) h hs=>by
  simp only[List.map_cons]
  by_cases e:x=k
  ·rw[if_pos e,if_pos e];exact .cons hd (hs.repl hd k)
  ·rw[if_neg e,if_neg e];exact .cons h (hs.repl hd k)
theorem HR.snoc{d:D}{v:V}(hd:DV K ct ι n H d v)(k:κ):∀{kvs:List (κ×D)} {vs:List (κ×V)},HR K ct ι n H kvs vs→HR K ct ι n H (kvs++[(k,d)]) (vs++[(k,v)])
 | _,_,.nil=> .cons hd .nil
 | _,_,.cons h hs=> .cons h (hs.snoc hd k)
theorem HR.put{d:D}{v:V}{kvs:List (κ×D)}{vs:List (κ×V)}(h:HR K ct ι n H kvs vs)(hd:DV K ct ι n H d v)(k:κ):HR K ct ι n H (af0 kvs k d) (putK vs k v):=by
 unfold af0 putK
 rw[h.any k]
 split
 ·exact h.repl hd k
 ·exact h.snoc hd k
end
def toKey:D→Option Key
 | .int i=>some (.inl i)
 | .str s=>some (.inr s)
 | _=>none
def toKeys:List D→Option (List Key)
 | []=>some []
 | d::r=>match toKey d,toKeys r with
  | some k,some ks=>some (k::ks)
  | _,_=>none
section
variable{K:PySem.W.Frag}{ι:Nat→Addr}{n:Nat}{H:Hp}
theorem Np{d:D}{k:Key}{v:V}(h:toKey d=some k)(q:DV K ct ι n H d v):v=kV k:=by
 cases q<;>simp only[toKey]at h<;>cases h<;>rfl
theorem Dh:∀{ds:List D} {ks:List Key} {vs:List V},toKeys ds=some ks→o4 K ct ι n H ds vs→vs=ks.map kV
 | [],ks,_,h,.nil=>by cases h;rfl
 | d::r,ks,_,h,.cons q qs=>by
  simp only[toKeys]at h
  cases z:toKey d with
  | none=>rw[z]at h;cases h
  | some k=>
   cases z2:toKeys r with
   | none=>rw[z,z2]at h;cases h
   | some kr=>
    rw[z,z2]at h
    cases h
    rw[Np z q,Dh z2 qs]
    rfl
end
def Ys(M:Mem)(n:Nat)(y:D):Option (Option D×Mem):=match M[n]? with
 | some (.dk kvs)=>match toKey y with
  | some k=>some (H_ kvs k,M)
  | none=>match y with
   | .tup ds=>match toKeys ds with
    | some _=>if kvs.isEmpty=true then some (none,M.set n (.dt []))else none
    | none=>none
   | _=>none
 | some (.dt kvs)=>match y with
  | .tup ds=>match toKeys ds with
   | some k=>some (H_ kvs k,M)
   | none=>none
  | _=>none
 | _=>none
theorem TJ{K:PySem.W.Frag}{ι:Nat→Addr}{M M':Mem}{H:Hp}{n:Nat}{y:D}{vy:V}{o:Option D}(R:Rl K ct ι M H)(h:Ys M n y=some (o,M'))(hn:n<M.length)(q:DV K ct ι M.length H y vy):
  ∃ov H',aa6 H (ι n) vy ov H'∧Ext K ι M.length H ι M'.length H'∧Rl K ct ι M' H'∧(∀d,o=some d→∃v,ov=some v∧DV K ct ι M'.length H' d v∧H'=H∧M'=M)∧(o=none→ov=none):=by
 unfold Ys at h
 split at h
 ·rename_i kvs e
  obtain⟨vs,hH,pv⟩:=R.obj n _ e
  split at h
  ·rename_i k ek
   cases h
   have ey:=Np ek q
   subst ey
   refine⟨cA vs k,H,.inl ⟨Fz.k hH,rfl⟩,.refl,R,fun d hd=> ?_,fun hd=>(pv.val k).2 hd⟩
   obtain⟨v,h1,h2⟩:=(pv.val k).1 d hd
   exact⟨v,h1,h2,rfl,rfl⟩
  ·split at h
   ·rename_i ds
    split at h
    ·rename_i ks eks
     split at h
     ·rename_i hem
      cases h
      have ek:kvs=[]:=List.isEmpty_iff.mp hem
      subst ek
      cases pv
      obtain⟨b,xs,rfl,hb,hd⟩:=uh q
      have ex:=Dh eks hd
      subst ex
      have x2:Ext K ι M.length H ι M.length (upd H (ι n) (.dT [])):=Ext.chg hH (fun _ z=>nomatch z) (fun _ _ z=>nomatch z)
      refine⟨none,upd H (ι n) (.dT []),.inr ⟨hH,⟨ks,b,rfl,hb⟩,rfl,rfl⟩,by rw[List.length_set];exact x2,R.chg hn hH (fun _ z=>nomatch z) (fun _ _ z=>nomatch z) ⟨[],dm,.nil⟩,(fun d hd=>nomatch hd),fun _=>rfl⟩
     ·cases h
    ·cases h
   ·cases h
 ·rename_i kvs e
  obtain⟨vs,hH,pv⟩:=R.obj n _ e
  split at h
  ·rename_i ds
   split at h
   ·rename_i ks eks
    cases h
    obtain⟨b,xs,rfl,hb,hd⟩:=uh q
    have ex:=Dh eks hd
    subst ex
    refine⟨cA vs ks,H,.inl ⟨Fz.t hH hb,rfl⟩,.refl,R,fun d hd=> ?_,fun hd=>(pv.val ks).2 hd⟩
    obtain⟨v,h1,h2⟩:=(pv.val ks).1 d hd
    exact⟨v,h1,h2,rfl,rfl⟩
   ·cases h
  ·cases h
 ·cases h
def ace:ql:=fun d y M=>match d with
 | .ref n=>match Ys M n y with
  | some (some v,_)=> .ok v M
  | _=> .bad
 | _=> .bad
theorem acO{K:PySem.W.Frag}:JP K ct ace afW:=by
 intro w ι M H d d' v v' Q R h h' p
 cases d with
 | ref n=>
  obtain⟨hn,rfl⟩:=tH h
  simp only[ace]at p
  split at p
  ·rename_i x M' e
   obtain⟨ov,H',g,_,_,h1,_⟩:=TJ R e hn h'
   obtain⟨vx,rfl,dv,rfl,rfl⟩:=h1 x rfl
   rcases g with⟨g,_⟩ | ⟨_,_,z,_⟩
   ·exact⟨_,vx,rfl,g,p ι vx _ .refl R dv⟩
   ·cases z
  ·exact p.elim
 | _=>exact p.elim
def Qu:ql:=fun d e M=>match e with
 | .int i=>match d with
  | .tup ds=>match L2.Mr ds i with
   | some x=> .ok x M
   | none=> .bad
  | d=>match Aj M d with
   | some ds=>match L2.Mr ds i with
    | some x=> .ok x M
    | none=> .bad
   | none=> .bad
 | _=> .bad
theorem acN:JP X.K ct Qu (fun x y H Q=>afV X.K x y H Q∨afT X.K x y H Q):=by
 intro w ι M H d d' v v' Q R h h' p
 cases d' with
 | int i=>
  cases p7 h'
  cases d with
  | tup ds=>
   obtain⟨aa,xs,rfl,hs,hd⟩:=Rf h
   simp only[Qu]at p
   cases z:L2.Mr ds i with
   | none=>rw[z]at p;exact p.elim
   | some x=>
    rw[z]at p
    obtain⟨v,e,dv⟩:=hd.Mr z
    exact .inr ⟨_,_,_,_,rfl,rfl,hs,e,p ι v H .refl R dv⟩
  | _=>
   simp only[Qu]at p
   split at p
   ·rename_i ds z0
    obtain⟨aa,xs,rfl,hs,hd⟩:=R.seq z0 h
    cases z:L2.Mr ds i with
    | none=>rw[z]at p;exact p.elim
    | some x=>
     rw[z]at p
     obtain⟨v,e,dv⟩:=hd.Mr z
     exact .inl ⟨_,_,_,_,rfl,rfl,hs,e,p ι v H .refl R dv⟩
   ·exact p.elim
 | _=>exact p.elim
def Zv:ql:=fun d e M=>match d,e with
 | .str z,.int i=>match L2.Mr z.cps.toList i with
  | some c=>if z.length≤sizeLine then .ok (.str ⟨#[c]⟩) M else .bad
  | none=> .bad
 | _,_=> .bad
theorem acM{K:PySem.W.Frag}:JP K ct Zv afU:=by
 intro w ι M H d d' v v' Q R h h' p
 unfold Zv at p
 split at p
 ·rename_i z i
  cases jo h
  cases p7 h'
  cases e:L2.Mr z.cps.toList i with
  | none=>rw[e]at p;exact p.elim
  | some c=>
   rw[e]at p
   dsimp only at p
   split at p
   ·rename_i hz
    exact⟨z,i,c,rfl,rfl,hz,e,p ι _ H .refl R (.str _)⟩
   ·exact p.elim
 ·exact p.elim
def bh:ql:=xV (xV Qu ace) Zv
theorem aV(hu:X.A.units+64<cLine)(ha:SE X ct W a ma)(hb:SE X ct W b mb)(hs:Ua b:=by exact fun _ _=>rfl):SE X ct W (.Subscript a b pos) (aD bh ma mb):=
 iz (agw (((aau.or adz).or (aav (by omega))).or adA) ha hb hs) fun σ H Q q=>Ka (JP.or (JP.or acN acO) acM) q
def Zw(neg:Bool):ql:=fun y x M=>match x with
 | .ref n=>match Ys M n y with
  | some (o,M')=> .ok (.bl (if neg=true then !o.isSome else o.isSome)) M'
  | none=> .bad
 | _=> .bad
theorem acQ{K:PySem.W.Frag}{neg:Bool}:JP K ct (Zw neg) (afX neg):=by
 intro w ι M H d d' v v' Q R h h' p
 cases d' with
 | ref n=>
  obtain⟨hn,rfl⟩:=tH h'
  simp only[Zw]at p
  cases e:Ys M n d with
  | none=>rw[e]at p;exact p.elim
  | some oM=>
   obtain⟨o,M'⟩:=oM
   rw[e]at p
   obtain⟨ov,H',g,x,R',h1,h2⟩:=TJ R e hn h
   have es:ov.isSome=o.isSome:=by
    cases o with
    | none=>rw[h2 rfl];rfl
    | some d=>obtain⟨v,rfl,_⟩:=h1 d rfl;rfl
   exact⟨_,ov,H',rfl,g,by rw[es];exact p ι _ H' x R' (.bl _)⟩
 | _=>cases d<;>exact p.elim
def V8:D→Option V
 | .non=>some .non
 | .bl b=>some (.bl b)
 | .int i=>some (.int i)
 | .str s=>some (.str s)
 | _=>none
def Uk:List D→Option (List V)
 | []=>some []
 | d::r=>match V8 d,Uk r with
  | some v,some vs=>some (v::vs)
  | _,_=>none
theorem RG{K:PySem.W.Frag}{ι:Nat→Addr}{n:Nat}{H:Hp}{d:D}{u v:V}(h:V8 d=some u)(q:DV K ct ι n H d v):v=u∧Av u=true:=by
 cases q<;>simp only[V8]at h<;>cases h<;>exact⟨rfl,rfl⟩
theorem RD{K:PySem.W.Frag}{ι:Nat→Addr}{n:Nat}{H:Hp}:∀{ds:List D} {us vs:List V},Uk ds=some us→o4 K ct ι n H ds vs→vs=us∧us.all Av=true
 | [],_,_,h,.nil=>by cases h;exact⟨rfl,rfl⟩
 | d::r,us,_,h,.cons q qs=>by
  simp only[Uk]at h
  cases z:V8 d with
  | none=>rw[z]at h;cases h
  | some u=>
   cases z2:Uk r with
   | none=>rw[z,z2]at h;cases h
   | some ur=>
    rw[z,z2]at h
    cases h
    obtain⟨rfl,f1⟩:=RG z q
    obtain⟨rfl,f2⟩:=RD z2 qs
    exact⟨rfl,by simp[f1,f2]⟩
theorem aew(hu:X.A.units+64<cLine):ju X ct (compareOp .In) (Zw false):=⟨_,ac1 (by omega),acQ⟩
def cut{α:Type}(xs:List α)(lo hi:Option Int):List α:=(xs.drop (HT.bh xs.length 0 lo)).take (HT.bh xs.length xs.length hi - HT.bh xs.length 0 lo)
theorem o4.cut{K:PySem.W.Frag}{ι:Nat→Addr}{n:Nat}{H:Hp}{ds:List D}{vs:List V}(h:o4 K ct ι n H ds vs)(lo hi:Option Int):o4 K ct ι n H (S.cut ds lo hi) (O7 vs lo hi):=by
 unfold S.cut O7
 rw[h.length]
 exact(h.drop _).take _
abbrev MO':=Sl→Mem→Out (Option Int)
def amC:(Nat→Addr)→Mem→Hp→Option Int→Option Int→Prop:=fun _ _ _ a b=>a=b
def SO(X:Cx)(ct:Nat→Addr)(W:bD)(e:Option Expr)(m:MO'):Prop:=PO X e (tG amC X.K ct W m)
def asI(d:D)(M:Mem):Out (Option Int):=match d with
 | .int i=> .ok (some i) M
 | _=> .bad
def jy:MO':=fun _ M=> .ok none M
def pA(m:ME):MO':=fun e M=>(m e M).bind asI
theorem m5:SO X ct W none jy:=fun pins s σ H Q I ⟨ι,e,M,w,p⟩=>Z2 pins s σ H Q I (p ι none H .refl w.rl rfl)
theorem jQ(h:SE X ct W a ma):SO X ct W (some a) (pA ma):=fun pins s σ H Q I q=>Z1 h pins s σ H Q I (by
 obtain⟨ι,e,M,w,p⟩:=cQ (gZ:=d_ X.K ct) (f:=fun d _ M1=>asI d M1) q
 refine⟨ι,e,M,w,p.mono fun v H1 ⟨gF,e1,M1,d,w1,q1,p1⟩=> ?_⟩
 cases q1 with
 | int i=>exact⟨i,rfl,p1 gF _ H1 .refl w1.rl rfl⟩
 | _=>exact p1.elim)
def FQ(d:D)(lo hi:Option Int)(M:Mem):Out D:=match d with
 | .tup ds=>if HT.bh ds.length 0 lo=0∧HT.bh ds.length ds.length hi=ds.length then .bad else .ok (.tup (cut ds lo hi)) M
 | .str u=>if u.length≤sizeLine then .ok (.str (Txt.slice u lo hi)) M else .bad
 | d=>match Aj M d with
  | some ds=> .ok (.ref M.length) (M++[.lst (cut ds lo hi)])
  | none=> .bad
def MN(m:ME)(lo hi:MO'):ME:=fun e M=>(m e M).bind fun d M1=>(lo e M1).bind fun l M2=>(hi e M2).bind fun h M3=>FQ d l h M3
theorem vC{lo hi:Option Expr}{ml mh:MO'}{p2:Pos}(ha:SE X ct W a ma)(hl:SO X ct W lo ml)(hh:SO X ct W hi mh):SE X ct W (.Subscript a (.Slice lo hi none p2) pos) (MN ma ml mh):=by
 refine iz (Xg ((Zm.or ab0).or ab1) ha hl hh) fun σ H Q q=> ?_
 obtain⟨ι,e,M,w,p⟩:=cQ (gZ:=d_ X.K ct) (f:=fun d e M1=>(ml e M1).bind fun l M2=>(mh e M2).bind fun h M3=>FQ d l h M3) q
 refine⟨ι,e,M,w,p.mono fun v H1 ⟨gF,e1,M1,d,w1,q1,p1⟩=> ?_⟩
 refine⟨gF,e1,M1,w1,?_⟩
 cases z:ml e1 M1 with
 | bad=>simp only[z,Out.gO]at p1;exact p1
 | exc xc xd xM=>simp only[z,Out.jH]at p1;exact p1
 | ok l M2=>
  simp only[z,Out.fY]at p1
  intro lN l' H2 x2 r2 el
  have OD:l=l':=el;subst OD
  refine⟨lN,e1,M2,w1.ext x2 r2,?_⟩
  have p2:=p1.ext x2
  cases z2:mh e1 M2 with
  | bad=>simp only[z2,Out.gO]at p2;exact p2
  | exc xc xd xM=>simp only[z2,Out.jH]at p2;exact p2
  | ok h M3=>
   simp only[z2,Out.fY]at p2
   intro Bq h' H3 x3 r3 eh
   have OD:h=h':=eh;subst OD
   have p3:=p2.ext x3
   have q3:=(q1.mono x2).mono x3
   cases d with
   | tup ds=>
    obtain⟨aa,xs,rfl,hs,hd⟩:=Rf q3
    simp only[FQ]at p3
    split at p3
    ·exact p3.elim
    ·rename_i hw
     exact .inl (.inr ⟨_,_,rfl,hs,by rw[hd.length];exact hw,fun pp hp=>BZ r3 (hd.cut l h) hp p3⟩)
   | str u=>
    cases jo q3
    simp only[FQ]at p3
    split at p3
    ·rename_i hz
     exact .inr ⟨u,rfl,hz,p3 Bq _ H3 .refl r3 (.str _)⟩
    ·exact p3.elim
   | _=>
    simp only[FQ]at p3
    split at p3
    ·rename_i ds z0
     obtain⟨aa,xs,rfl,hs,hd⟩:=r3.seq z0 q3
     exact .inl (.inl ⟨_,_,rfl,hs,fun pp hp=>uF r3 (hd.cut l h) hp p3⟩)
    ·exact p3.elim
theorem wQ{K:PySem.W.Frag}{ι:Nat→Addr}{n:Nat}{H:Hp}{d:D}{vs:List V}(h:o4 K ct ι n H [d] vs):∃v,vs=[v]∧DV K ct ι n H d v:=by
 cases h with | cons a b=>cases b;exact⟨_,rfl,a⟩
theorem adN{K:PySem.W.Frag}{ι:Nat→Addr}{n:Nat}{H:Hp}{d d':D}{vs:List V}(h:o4 K ct ι n H [d,d'] vs):∃v v',vs=[v,v']∧DV K ct ι n H d v∧DV K ct ι n H d' v':=by
 cases h with | cons a b=>obtain⟨v,rfl,q⟩:=wQ b;exact⟨_,_,rfl,a,q⟩
def yD(M:Mem)(d:D):Option (List D):=match d with
 | .tup ds=>some ds
 | d=>Aj M d
theorem Rl.seqs{K:PySem.W.Frag}{ι:Nat→Addr}{M:Mem}{H:Hp}(R:Rl K ct ι M H){d:D}{v:V}{ds:List D}(h:yD M d=some ds)(q:DV K ct ι M.length H d v):∃a xs,v= .ref a∧(yC K H a xs∨vh K H a xs)∧o4 K ct ι M.length H ds xs:=by
 cases d with
 | tup es=>cases h;obtain⟨a,xs,e,hs,hd⟩:=Rf q;exact⟨a,xs,e,.inr hs,hd⟩
 | _=>simp only[yD]at h;obtain⟨a,xs,e,hs,hd⟩:=R.seq h q;exact⟨a,xs,e,.inl hs,hd⟩
def R8:Im:=fun ds M=>match ds with
 | [d]=>match yD M d with
  | some es=> .ok (.int es.length) M
  | none=> .bad
 | _=> .bad
theorem aaL:qm X ct (.builtin "len") R8:=by
 refine⟨_,Mi,fun ι M H ds vs Q R h p=> ?_⟩
 unfold R8 at p
 split at p
 ·rename_i d
  obtain⟨v,rfl,q⟩:=wQ h
  cases z:yD M d with
  | none=>rw[z]at p;exact p.elim
  | some es=>
   rw[z]at p
   obtain⟨a,xs,rfl,hs,hd⟩:=R.seqs z q
   exact⟨_,xs,rfl,hs,p ι _ H .refl R (by rw[hd.length];exact .int _)⟩
 ·exact p.elim
def orN(a b:Im):Im:=fun ds M=>match a ds M with
 | .bad=>b ds M
 | o=>o
theorem qm.or{f:Value}{a b:Im}(ha:qm X ct f a)(hb:qm X ct f b):qm X ct f (orN a b):=by
 obtain⟨r,h,hs⟩:=ha
 obtain⟨r',h',hs'⟩:=hb
 refine⟨_,h.or h',fun ι M H ds vs Q R q p=> ?_⟩
 unfold orN at p
 cases z:a ds M with
 | ok x M1=>rw[z]at p;exact .inl (hs ι M H ds vs Q R q (by rw[z];exact p))
 | exc xc xd xM=>rw[z]at p;exact .inl (hs ι M H ds vs Q R q (by rw[z];exact p))
 | bad=>rw[z]at p;exact .inr (hs' ι M H ds vs Q R q p)
theorem Xn{a b:Im}{ds:List D}{x:D}{M M':Mem}(h:a ds M= .ok x M'):orN a b ds M= .ok x M':=by unfold orN;rw[h]
theorem aaa{a b:Im}{ds:List D}{M:Mem}(h:a ds M= .bad):orN a b ds M=b ds M:=by unfold orN;rw[h]
def WW:Im:=fun ds M=>match ds with
 | [.ref n]=>match M[n]? with
  | some (.dk kvs)=> .ok (.int kvs.length) M
  | some (.dt kvs)=> .ok (.int kvs.length) M
  | _=> .bad
 | _=> .bad
theorem aaM:qm X ct (.builtin "len") WW:=by
 refine⟨_,Vt.or Vs,fun ι M H ds vs Q R h p=> ?_⟩
 unfold WW at p
 split at p
 ·rename_i n
  obtain⟨v,rfl,q⟩:=wQ h
  obtain⟨hn,rfl⟩:=tH q
  split at p
  ·rename_i kvs e
   obtain⟨ys,hH,pv⟩:=R.obj n _ e
   exact .inl ⟨_,ys,rfl,hH,by rw[pv.length];exact p ι _ H .refl R (.int _)⟩
  ·rename_i kvs e
   obtain⟨ys,hH,pv⟩:=R.obj n _ e
   exact .inr ⟨_,ys,rfl,hH,by rw[pv.length];exact p ι _ H .refl R (.int _)⟩
  ·exact p.elim
 ·exact p.elim
def acg(neg:Bool):ql:=fun y x M=>match V8 y,yD M x with
 | some v,some ds=>match Uk ds with
  | some vs=> .ok (.bl (if neg=true then !inV v vs else inV v vs)) M
  | none=> .bad
 | _,_=> .bad
theorem acP{K:PySem.W.Frag}{neg:Bool}:JP K ct (acg neg) (rIn K neg):=by
 intro w ι M H d d' v v' Q R h h' p
 unfold acg at p
 split at p
 ·rename_i u ds e1 e2
  obtain⟨rfl,f1⟩:=RG e1 h
  obtain⟨a,xs,rfl,hs,hd⟩:=R.seqs e2 h'
  cases e3:Uk ds with
  | none=>rw[e3]at p;exact p.elim
  | some us=>
   rw[e3]at p
   obtain⟨rfl,f2⟩:=RD e3 hd
   exact⟨a,_,rfl,hs,f1,f2,p ι _ H .refl R (.bl _)⟩
 ·exact p.elim
def sIn:ql:=xV (Zw false) (acg false)
theorem aiZ(hu:X.A.units+64<cLine):ju X ct (compareOp .In) sIn:=(aew hu).or ⟨_,U3,acP⟩
def RZ:Im:=fun ds M=>match ds with
 | [.str z]=>if z.length≤sizeLine then .ok (.int z.length) M else .bad
 | _=> .bad
theorem aaK:qm X ct (.builtin "len") RZ:=by
 refine⟨_,Mh,fun ι M H ds vs Q R h p=> ?_⟩
 unfold RZ at p
 split at p
 ·obtain⟨v,rfl,q⟩:=wQ h
  cases jo q
  split at p
  ·rename_i hz
   exact⟨_,rfl,hz,p ι _ H .refl R (.int _)⟩
  ·exact p.elim
 ·exact p.elim
def qD:Im:=orN (orN R8 WW) RZ
theorem nM:qm X ct (.builtin "len") qD:=(aaL.or aaM).or aaK
def RX:Im:=fun ds M=>match ds with
 | [.int i,.int j]=> .ok (.int (if j > i then j else i)) M
 | _=> .bad
def RW:Im:=fun ds M=>match ds with
 | [.int i,.int j]=> .ok (.int (if j<i then j else i)) M
 | _=> .bad
theorem aaJ(hc:X.calm=true):qm X ct (.builtin "max") RX:=by
 refine⟨_,Vr hc,fun ι M H ds vs Q R h p=> ?_⟩
 unfold RX at p
 split at p
 ·obtain⟨v,v',rfl,q,q'⟩:=adN h
  cases p7 q
  cases p7 q'
  exact⟨_,_,rfl,p ι _ H .refl R (.int _)⟩
 ·exact p.elim
theorem aaI(hc:X.calm=true):qm X ct (.builtin "min") RW:=by
 refine⟨_,Vq hc,fun ι M H ds vs Q R h p=> ?_⟩
 unfold RW at p
 split at p
 ·obtain⟨v,v',rfl,q,q'⟩:=adN h
  cases p7 q
  cases p7 q'
  exact⟨_,_,rfl,p ι _ H .refl R (.int _)⟩
 ·exact p.elim
def GF:Im:=fun ds M=>match ds with
 | [d]=>match yD M d with
  | some es=> .ok (.ref M.length) (M++[.lst es])
  | none=> .bad
 | _=> .bad
def vR:Im:=fun ds M=>match ds with
 | [d]=>match yD M d with
  | some es=> .ok (.tup es) M
  | none=> .bad
 | _=> .bad
theorem TV:qm X ct (.type "list") GF:=by
 refine⟨_,Mg,fun ι M H ds vs Q R h p=> ?_⟩
 unfold GF at p
 split at p
 ·rename_i d
  obtain⟨v,rfl,q⟩:=wQ h
  cases z:yD M d with
  | none=>rw[z]at p;exact p.elim
  | some es=>
   rw[z]at p
   obtain⟨a,xs,rfl,hs,hd⟩:=R.seqs z q
   exact⟨_,xs,rfl,hs,fun pp hp=>uF R hd hp p⟩
 ·exact p.elim
theorem CW:qm X ct (.type "tuple") vR:=by
 refine⟨_,Il,fun ι M H ds vs Q R h p=> ?_⟩
 unfold vR at p
 split at p
 ·rename_i d
  obtain⟨v,rfl,q⟩:=wQ h
  cases d with
  | tup es=>
   obtain⟨aa,xs,rfl,hs,hd⟩:=uh q
   exact⟨_,xs,rfl,.inr ⟨vh.of hs,p ι _ H .refl R (.tup hs hd)⟩⟩
  | _=>
   split at p
   ·rename_i es z
    simp only[yD]at z
    obtain⟨a,xs,rfl,hs,hd⟩:=R.seq z q
    exact⟨_,xs,rfl,.inl ⟨hs,fun pp hp=>BZ R hd hp p⟩⟩
   ·exact p.elim
 ·exact p.elim
def tyN(M:Mem)(d:D):Option String:=match d with
 | .non=>some "NoneType"
 | .bl _=>some "bool"
 | .int _=>some "int"
 | .str _=>some "str"
 | .tup _=>some "tuple"
 | .ref n=>(rF M n).map fun _=> "list"
 | .cl _=>some "list"
 | _=>none
def abO(a b:String):Bool:=a==b||(a== "bool" && b== "int")
def xJ:List String:=["NoneType","bool","int","str","tuple","list"]
theorem aan{K:PySem.W.Frag}:∀a∈xJ,∀b∈xJ,PySem.W.kitOne K (.type a) (.type b)=some (abO a b):=by
 intro a ha b hb
 simp only[xJ,List.mem_cons,List.not_mem_nil,or_false]at ha hb
 rcases ha with rfl | rfl | rfl | rfl | rfl | rfl<;>rcases hb with rfl | rfl | rfl | rfl | rfl | rfl<;>with_unfolding_all rfl
def Ak:Im:=fun ds M=>match ds with
 | [d,.ty b]=>match tyN M d with
  | some a=>if b∈xJ then .ok (.bl (abO a b)) M else .bad
  | none=> .bad
 | _=> .bad
@[irreducible] def W8(K:PySem.W.Frag):List V→Hp→VK→Prop:=fun xs H Q=>∃x n b,xs=[x,.ty n]∧Q (.bl b) H∧
 ((∃t,Eg K H x t∧PySem.W.kitOne K t (.type n)=some b)∨(∃a ys,x= .ref a∧vh K H a ys∧PySem.W.kitOne K (.type "tuple") (.type n)=some b)∨(∃a ys,x= .ref a∧yC K H a ys∧PySem.W.kitOne K (.type "list") (.type n)=some b))
theorem Vu:oN X (.builtin "isinstance") (W8 X.K):=by
 intro pins s σ H xs us Q I r h
 unfold W8 at h
 obtain⟨x,n,b,rfl,q,h⟩:=h
 obtain⟨u,v,rfl,rx,rc⟩:=vals2 r
 obtain rfl:v= .type n:=rc
 rcases h with⟨t,ty,e⟩ | ⟨a,ys,rfl,hs,e⟩ | ⟨a,ys,rfl,hs,e⟩
 ·exact Vi I rx ty e fun tk=>⟨.bl b,H,I.tok tk,rfl,q⟩
 ·cases(show u=Value.ref a from rx)
  obtain⟨its,_,⟨o,h1,h2,_⟩,_⟩:=I.tuple hs
  exact PySem.W.kia_one PySem.W.kitx_tuple I.ye ⟨o,h1,h2⟩ e (fun z=>nomatch z) fun tk=>⟨.bl b,H,I.tok tk,rfl,q⟩
 ·cases(show u=Value.ref a from rx)
  obtain⟨its,_,⟨o,n',h1,h2,_⟩,_⟩:=I.list hs
  exact PySem.W.kia_one PySem.W.kitx_list I.ye ⟨o,h1,h2⟩ e (fun z=>nomatch z) fun tk=>⟨.bl b,H,I.tok tk,rfl,q⟩
theorem LR:qm X ct (.builtin "isinstance") Ak:=by
 refine⟨_,Vu,fun ι M H ds vs Q R h p=> ?_⟩
 unfold Ak at p
 split at p
 ·rename_i d n
  obtain⟨v,v',rfl,q,q'⟩:=adN h
  cases q'
  unfold W8
  cases z:tyN M d with
  | none=>rw[z]at p;exact p.elim
  | some a=>
   rw[z]at p
   by_cases hn:n∈xJ
   ·simp only[hn,if_true]at p
    have ha:a∈xJ:=by
     unfold tyN at z
     cases d with
     | ref m=>
      cases z1:rF M m with
      | none=>simp only[z1]at z;cases z
      | some es=>simp only[z1]at z;cases z;show "list" ∈ xJ;decide
     | ty _=>cases z
     | cls _=>cases z
     | exc _ _=>cases z
     | _=>cases z;decide
    have e:=aan (K:=X.K) a ha n hn
    refine⟨v,n,abO a n,rfl,p ι _ H .refl R (.bl _),?_⟩
    cases q with
    | non=>cases z;exact .inl ⟨_,.non,e⟩
    | bl b=>cases z;exact .inl ⟨_,.bl b,e⟩
    | int b=>cases z;exact .inl ⟨_,.int b,e⟩
    | str b=>cases z;exact .inl ⟨_,.str b,e⟩
    | tup hs hd=>cases z;exact .inr (.inl ⟨_,_,rfl,vh.of hs,e⟩)
    | @ref i hi=>
     simp only[tyN]at z
     cases z1:rF M i with
     | none=>rw[z1]at z;cases z
     | some es=>
      rw[z1]at z
      cases z
      obtain⟨xs,hs,hd⟩:=R.obj i _ (uv.mp z1)
      exact .inr (.inr ⟨_,_,rfl,yC.of hs,e⟩)
    | cl hs hd=>cases z;exact .inr (.inr ⟨_,_,rfl,hs.sq,e⟩)
    | ty b=>cases z
    | cls b=>cases z
    | exc _ _ _=>cases z
   ·simp only[hn,if_false]at p
    exact p.elim
 ·exact p.elim
def MtS(X:Cx)(ct:Nat→Addr)(T id:String)(op:D→List D→Mem→Out D):Prop:=∃r,MtR X id r∧∀{w:XW} ι M H d ds v vs Q,Rl X.K ct ι M H→DV X.K ct ι M.length H d v→o4 X.K ct ι M.length H ds vs→jO (d_ X.K ct) X.K ct w ι M.length H (op d ds M) Q→r v vs H Q
def MK(T:String)(d:D)(M:Mem):Bool:=match d with
 | .int _=>T== "int"
 | .str _=>T== "str"
 | .ref n=>T== "list" && (rF M n).isSome
 | _=>false
theorem abL{K:PySem.W.Frag}{ι:Nat→Addr}{M:Mem}{H:Hp}{T:String}{d:D}{v:V}(R:Rl K ct ι M H)(h:MK T d M=true)(q:DV K ct ι M.length H d v):tyV K T v H:=by
 cases q with
 | int i=>exact beq_iff_eq.mp h
 | str i=>exact beq_iff_eq.mp h
 | @ref i hi=>
  simp only[MK,Bool.and_eq_true,beq_iff_eq]at h
  obtain⟨e,h2⟩:=h
  obtain⟨ds,z⟩:=Option.isSome_iff_exists.mp h2
  obtain⟨xs,hs,_⟩:=R.obj i _ (uv.mp z)
  exact .inl ⟨e,xs,yC.of hs⟩
 | _=>exact absurd h Bool.false_ne_true
def F_(T:String)(op:D→List D→Mem→Out D)(mo:ME)(ms:MA):ME:=fun e M=>(mo e M).bind fun d M1=>if MK T d M1=true then(ms e M1).bind fun ds M2=>op d ds M2 else .bad
variable{o:Expr}{es:List Expr}{mo:ME}{ms:MA}{name:Str}{apos cpos:Pos}{T id:String}{op:D→List D→Mem→Out D}
theorem rC(pa:PlainAttrs T)(slot:Slot T name id)(hty:typeOf (.builtin id)=pure (.type "method_descriptor"))(hm:MtS X ct T id op)(ho:SE X ct W o mo)(ha:SA X ct W (a::es) ms)
  (hbase:attributeBase o name X.env (eval o X.env)=eval o X.env:=by rfl)
  (hfew:((backTo cpos (starEach (a::es) X.env)).all (fun x=> !x.1)&&(backToKw cpos (keywordEach [] X.env)).all (fun x=>x.1.isSome)
   && decide ((a::es).length+([]:List Keyword).length+(if([]:List Keyword).isEmpty then 0 else 1)<30))=true:=by rfl)
  (hline:(apos.endLine==cpos.line)=true:=by rfl) (hs:starEach (a::es) X.env=(false,eval a X.env)::starEach es X.env:=by rfl) (hplain:(backTo cpos (starEach es X.env)).any (·.1)=false:=by rfl):
  SE X ct W (.Call (.Attribute o name apos) (a::es) [] cpos) (F_ T op mo ms):=by
 obtain⟨r,hr,hss⟩:=hm
 refine iz (agx pa slot hty hr ho ha hbase hfew hline hs hplain) fun σ H Q q=> ?_
 obtain⟨ι,e,M,w,p⟩:=cQ (gZ:=d_ X.K ct) (f:=fun d e M1=>if MK T d M1=true then(ms e M1).bind fun ds M2=>op d ds M2 else .bad) q
 refine⟨ι,e,M,w,p.mono fun v H1 ⟨gF,e1,M1,d,w1,q1,p1⟩=> ?_⟩
 cases z:MK T d M1 with
 | false=>simp only[z,Bool.false_eq_true,if_false]at p1;exact p1.elim
 | true=>
  simp only[z,if_true]at p1
  refine⟨abL w1.rl z q1,gF,e1,M1,w1,?_⟩
  cases z2:ms e1 M1 with
  | bad=>simp only[z2,Out.gO]at p1;exact p1
  | exc xc xd xM=>simp only[z2,Out.jH]at p1;exact p1
  | ok ds M2=>
   simp only[z2,Out.fY]at p1
   exact fun lN vs H2 x2 r2 q2=>hss lN M2 H2 d ds v vs Q r2 (q1.mono x2) q2 (p1.ext x2)
def jY:D→List D→Mem→Out D:=fun d ds M=>match d,ds with
 | .ref n,[x]=>match M[n]? with
  | some (.lst es)=>if es.length<sizeLine then .ok .non (M.set n (.lst (es++[x])))else .bad
  | _=> .bad
 | _,_=> .bad
theorem o_:MtS X ct "list" "list.append" jY:=by
 refine⟨_,U_,fun ι M H d ds v vs Q R q qs p=> ?_⟩
 unfold jY at p
 split at p
 ·rename_i n x
  obtain⟨hn,rfl⟩:=tH q
  obtain⟨y,rfl,qy⟩:=wQ qs
  split at p
  ·rename_i es e1
   split at p
   ·rename_i hz
    obtain⟨xs,hH,hd⟩:=R.obj n _ e1
    have x2:Ext X.K ι M.length H ι M.length (upd H (ι n) (.lst (xs++[y]))):=Ext.chg hH (fun _ z=>nomatch z) (fun _ _ z=>nomatch z)
    refine⟨_,xs,y,rfl,rfl,hH,by rw[hd.length];exact hz,?_⟩
    refine p ι .non _ (by rw[List.length_set];exact x2) (R.chg hn hH (fun _ z=>nomatch z) (fun _ _ z=>nomatch z) ⟨_,dm,(hd.append (.cons qy .nil)).mono x2⟩) .non
   ·exact p.elim
  ·exact p.elim
 ·exact p.elim
end
end S
namespace S
open PySem PySem.Spec PyProof.Rows L2
inductive kh where
 | next (e:Sl) (M:Mem) | ret (d:D) (M:Mem) | brk (e:Sl) (M:Mem) | cont (e:Sl) (M:Mem) | exc (c:Nat) (d:D) (e:Sl) (M:Mem) | bad
abbrev MS:=Sl→Mem→kh
def wW(K:PySem.W.Frag)(ct:Nat→Addr)(W:bD)(ι:Nat→Addr)(n:Nat)(H:Hp)(o:kh)(T:Ends):Prop:=match o with
 | .next e M=>∀ι' σ' H',Ext K ι n H ι' M.length H'→Ws K ct ι' e M σ' H'→T.nx σ' H'
 | .ret d M=>∀ι' v H',Ext K ι n H ι' M.length H'→Rl K ct ι' M H'→DV K ct ι' M.length H' d v→T.rt v H'
 | .brk e M=>∀ι' σ' H',Ext K ι n H ι' M.length H'→Ws K ct ι' e M σ' H'→T.bk σ' H'
 | .cont e M=>∀ι' σ' H',Ext K ι n H ι' M.length H'→Ws K ct ι' e M σ' H'→T.ct σ' H'
 | .exc c d e M=>∀ι' σ' dx v H',Ext K ι n H ι' M.length H'→Ws K ct ι' e M σ' H'→H' dx=some (.xd [("at",v)])→DV K ct ι' M.length H' d v→W (ct c) dx σ' H'
 | .bad=>False
def tS(K:PySem.W.Frag)(ct:Nat→Addr)(W:bD)(m:MS):TS:=fun T σ H=>∃ι e M,Ws K ct ι e M σ H∧wW K ct W ι M.length H (m e M) T
def SS(X:Cx)(ct:Nat→Addr)(W:bD)(st:Stmt)(m:MS):Prop:=PS X st (tS X.K ct W m)
def YG(X:Cx)(ct:Nat→Addr)(W:bD)(st:List Stmt)(m:MS):Prop:=Fv X st (tS X.K ct W m)
theorem wW.ext{K:PySem.W.Frag}{ct ι ι':Nat→Addr}{W:bD}{n n':Nat}{H H':Hp}{o:kh}{T:Ends}(h:wW K ct W ι n H o T)(x:Ext K ι n H ι' n' H'):wW K ct W ι' n' H' o T:=by
 cases o with
 | next e M=>exact fun lN b H2 x2 w=>h lN b H2 (x.trans x2) w
 | ret d M=>exact fun lN b H2 x2 r q=>h lN b H2 (x.trans x2) r q
 | brk e M=>exact fun lN b H2 x2 w=>h lN b H2 (x.trans x2) w
 | cont e M=>exact fun lN b H2 x2 w=>h lN b H2 (x.trans x2) w
 | exc c d e M=>exact fun lN b dx v H2 x2 w q1 q2=>h lN b dx v H2 (x.trans x2) w q1 q2
 | bad=>exact h
def Cd{α:Type}(e:Sl)(o:Out α)(f:α→Mem→kh):kh:=match o with
 | .ok a M=>f a M
 | .exc c d M=> .exc c d e M
 | .bad=> .bad
@[simp] theorem G5{α:Type}(e:Sl)(a:α)(M:Mem)(f:α→Mem→kh):Cd e (.ok a M) f=f a M:=id rfl
@[simp] theorem FT{α:Type}(e:Sl)(c:Nat)(d:D)(M:Mem)(f:α→Mem→kh):Cd e (.exc c d M:Out α) f= .exc c d e M:=id rfl
@[simp] theorem FW{α:Type}(e:Sl)(f:α→Mem→kh):Cd e (.bad:Out α) f= .bad:=id rfl
theorem vB{α β:Type}{rel:(Nat→Addr)→Mem→Hp→α→β→Prop}{K:PySem.W.Frag}{ct:Nat→Addr}{W:bD}{m:Sl→Mem→Out α}{f:α→Sl→Mem→kh}{σ:St}{H:Hp}{T:Ends}
  (h:tS K ct W (fun e M=>Cd e (m e M) fun a M1=>f a e M1) T σ H):tG rel K ct W m σ H (fun b H1=>∃ι e M a,Ws K ct ι e M σ H1∧rel ι M H1 a b∧wW K ct W ι M.length H1 (f a e M) T):=by
 obtain⟨ι,e,M,w,p⟩:=h
 refine⟨ι,e,M,w,?_⟩
 cases z:m e M with
 | bad=>simp only[z,FW]at p;exact p
 | exc xc xd xM=>simp only[z,FT]at p;exact fun gF dx v H1 x r q1 q2=>p gF σ dx v H1 x (w.ext x r) q1 q2
 | ok a M1=>
  simp only[z,G5]at p
  exact fun gF b H1 x r q=>⟨gF,e,M1,a,w.ext x r,q,p.ext x⟩
section
variable{X:Cx}{ct:Nat→Addr}{W:bD}{st:Stmt}{rest:List Stmt}{s t:MS}{a:Expr}{ma:ME}{pos:Pos}
theorem PS.imp{st:Stmt}{t t':TS}(h:PS X st t)(hi:∀T σ H,t' T σ H→t T σ H):PS X st t':=fun pins s σ H T I q=>h pins s σ H T I (hi T σ H q)
theorem Fv.imp{st:List Stmt}{t t':TS}(h:Fv X st t)(hi:∀T σ H,t' T σ H→t T σ H):Fv X st t':=fun pins s σ H T I q=>h pins s σ H T I (hi T σ H q)
def dI:MS:=fun e M=> .next e M
def aX(s t:MS):MS:=fun e M=>match s e M with
 | .next e' M'=>t e' M'
 | o=>o
theorem Wa{T:Ends}{σ:St}{H:Hp}(h:tS X.K ct W dI T σ H):abe T σ H:=let⟨ι,_,_,w,p⟩:=h;p ι σ H .refl w
theorem bZ:YG X ct W [] dI:=Fv.imp ZS fun T σ H q=>Wa q
theorem aC(h1:SS X ct W st s)(h2:YG X ct W rest t):YG X ct W (st::rest) (aX s t):=Fv.imp (W9 h1 h2) fun T σ H ⟨ι,e,M,w,p⟩=>by
 refine⟨ι,e,M,w,?_⟩
 unfold aX at p
 cases z:s e M with
 | next e' M'=>rw[z]at p;exact fun ι' σ' H' x w'=>⟨ι',e',M',w',p.ext x⟩
 | ret d M'=>rw[z]at p;exact p
 | brk d M'=>rw[z]at p;exact p
 | cont d M'=>rw[z]at p;exact p
 | exc c d e M'=>rw[z]at p;exact p
 | bad=>rw[z]at p;exact p
theorem aM(h1:SS X ct W st s):YG X ct W [st] s:=Su h1
def pN(m:ME):MS:=fun e M=>Cd e (m e M) fun _ M1=> .next e M1
theorem jP(he:SE X ct W a ma)(hs:swapsWith a none pos.line X.env=pure false:=by rfl):SS X ct W (.Expr a pos) (pN ma):=PS.imp (ZZ he hs) fun T σ H q=>by
 obtain⟨ι,e,M,w,p⟩:=vB (rel:=d_ X.K ct) (f:=fun _ e M1=> .next e M1) q
 exact⟨ι,e,M,w,p.mono fun v H1 ⟨gF,e1,M1,d,w1,q1,p1⟩=>p1 gF σ H1 .refl w1⟩
def fK(m:ME):MS:=fun e M=>Cd e (m e M) fun d M1=> .ret d M1
theorem bA(he:SE X ct W a ma):SS X ct W (.Return (some a) pos) (fK ma):=PS.imp (acs he) fun T σ H q=>by
 obtain⟨ι,e,M,w,p⟩:=vB (rel:=d_ X.K ct) (f:=fun d e M1=> .ret d M1) q
 exact⟨ι,e,M,w,p.mono fun v H1 ⟨gF,e1,M1,d,w1,q1,p1⟩=>p1 gF v H1 .refl w1.rl q1⟩
def vG(c:MT)(s t:MS):MS:=fun e M=>Cd e (c e M) fun k M1=>if k=true then s e M1 else t e M1
theorem dX{c:Expr}{b b':List Stmt}{mc:MT}(hc:VM X ct W c mc)(ha:YG X ct W b s)(hb:YG X ct W b' t):SS X ct W (.If c b b' pos) (vG mc s t):=PS.imp (af1 hc ha hb) fun T σ H q=>by
 obtain⟨ι,e,M,w,p⟩:=vB (rel:=BX) (f:=fun k e M1=>if k=true then s e M1 else t e M1) q
 refine⟨ι,e,M,w,p.mono fun k H1 ⟨gF,e1,M1,d,w1,q1,p1⟩=> ?_⟩
 have OD:d=k:=q1;subst OD
 cases d with
 | true=>exact⟨gF,e1,M1,w1,p1⟩
 | false=>exact⟨gF,e1,M1,w1,p1⟩
abbrev Tg:=D→Sl→Option Sl
abbrev YT:=List D→Sl→Option Sl
def abD(K:PySem.W.Frag)(ct ι:Nat→Addr)(M:Mem)(H:Hp)(o:Option Sl)(Q:St→Hp→Prop):Prop:=match o with
 | some e'=>∀σ',Ws K ct ι e' M σ' H→Q σ' H
 | none=>False
def tT(K:PySem.W.Frag)(ct:Nat→Addr)(g:Tg):TG:=fun v σ H Q=>∃ι e M d,Ws K ct ι e M σ H∧DV K ct ι M.length H d v∧abD K ct ι M H (g d e) Q
def tTs(K:PySem.W.Frag)(ct:Nat→Addr)(g:YT):TGs:=fun vs σ H Q=>∃ι e M ds,Ws K ct ι e M σ H∧o4 K ct ι M.length H ds vs∧abD K ct ι M H (g ds e) Q
def SG(X:Cx)(ct:Nat→Addr)(tg:Expr)(g:Tg):Prop:=PG X tg (tT X.K ct g)
def SGs(X:Cx)(ct:Nat→Addr)(tg:List Expr)(g:YT):Prop:=YW X tg (tTs X.K ct g)
theorem PG.imp{tg:Expr}{t t':TG}(h:PG X tg t)(hi:∀v σ H Q,t' v σ H Q→t v σ H Q):PG X tg t':=fun pins s σ H v u Q I r q=>h pins s σ H v u Q I r (hi v σ H Q q)
theorem YW.imp{tg:List Expr}{t t':TGs}(h:YW X tg t)(hi:∀v σ H Q,t' v σ H Q→t v σ H Q):YW X tg t':=fun pins s σ H v u Q I r q=>h pins s σ H v u Q I r (hi v σ H Q q)
def gN(i:Nat):Tg:=fun d e=>some (e.set i (some d))
theorem z_{i:Nat}{x:Str}(hN:X.N.Nodup)(hi:X.N[i]? = some x)(hx:Loc X.env.scope x)(hf:X.fn x=true∨X.env.scope.names.lookup x=some .local:=by first | exact .inl rfl | exact .inr rfl | assumption):SG X ct (.Name x pos) (gN i):=
 PG.imp (Z4 hN hi hx hf) fun v σ H Q ⟨ι,e,M,d,w,q,p⟩=>p _ (w.set i q)
def Tp:YT:=fun ds e=>match ds with
 | []=>some e
 | _=>none
def Bc(g:Tg)(gs:YT):YT:=fun ds e=>match ds with
 | d::r=>(g d e).bind fun e'=>gs r e'
 | []=>none
theorem RM:SGs X ct [] Tp:=YW.imp Z3 fun vs σ H Q ⟨ι,e,M,ds,w,q,p⟩=>by
 cases q with
 | nil=>exact⟨rfl,p σ w⟩
 | cons _ _=>exact p.elim
theorem Bx{es:List Expr}{g:Tg}{gs:YT}(h1:SG X ct a g)(h2:SGs X ct es gs)
  (hs:(assignEach (a::es) X.env).map (·.2)=assign a X.env::(assignEach es X.env).map (·.2):=by rfl):SGs X ct (a::es) (Bc g gs):=YW.imp (Xe h1 h2 hs) fun vs σ H Q ⟨ι,e,M,ds,w,q,p⟩=>by
 cases q with
 | nil=>exact p.elim
 | @cons d x ds xs h hs=>
  refine⟨x,xs,rfl,ι,e,M,d,w,h,?_⟩
  simp only[Bc]at p
  cases z:g d e with
  | none=>rw[z]at p;exact p.elim
  | some e'=>rw[z]at p;exact fun σ' w'=>⟨ι,e',M,ds,w',hs,p⟩
def gT(n:Nat)(gs:YT):Tg:=fun d e=>match d with
 | .tup ds=>if ds.length=n then gs ds e else none
 | _=>none
theorem Wy{es:List Expr}{k:Nat}{gs:YT}{n:Nat}(hc:X.calm=true)(h:SGs X ct es gs)
  (hn:(assignEach es X.env).length=n:=by rfl) (hst:(assignEach es X.env).findIdx? (·.1)=none:=by rfl):SG X ct (.Tuple es k pos) (gT n gs):=PG.imp (acA hc h hn hst) fun v σ H Q ⟨ι,e,M,d,w,q,p⟩=>by
 cases q with
 | @tup a xs ds hs hd=>
  simp only[gT]at p
  split at p
  ·rename_i hl
   exact⟨a,xs,rfl,vh.of hs,by rw[hd.length];exact hl,ι,e,M,ds,w,hd,p⟩
  ·exact p.elim
 | _=>exact p.elim
def cC(m:ME)(g:Tg):MS:=fun e M=>Cd e (m e M) fun d M1=>match g d e with
 | some e'=> .next e' M1
 | none=> .bad
theorem FN{te:TE}{tg:TG}{m:ME}{g:Tg}{T:Ends}{σ:St}{H:Hp}(he:∀Q,tG (d_ X.K ct) X.K ct W m σ H Q→te σ H Q)(hg:∀v H Q,tT X.K ct g v σ H Q→tg v σ H Q)(h:tS X.K ct W (cC m g) T σ H):Wk te tg T σ H:=by
 refine he _ ?_
 obtain⟨ι,e,M,w,p⟩:=vB (rel:=d_ X.K ct) (f:=fun d e M1=>match g d e with
  | some e'=> .next e' M1
  | none=> .bad) h
 refine⟨ι,e,M,w,p.mono fun v H1 ⟨gF,e1,M1,d,w1,q1,p1⟩=>hg _ _ _ ⟨gF,e1,M1,d,w1,q1,?_⟩⟩
 cases z:g d e1 with
 | none=>rw[z]at p1;exact p1
 | some e'=>rw[z]at p1;exact fun σ' w'=>p1 gF σ' H1 .refl w'
theorem Wr{tg:Expr}{g:Tg}(he:SE X ct W a ma)(hg:SG X ct tg g)(hs:swapsWithSole [tg] a pos.line X.env=pure false:=by rfl)(hw:swappedStores [tg] a X.env=pure none:=by rfl)
  (h1:(assignEach [tg] X.env).map (·.2)=[assign tg X.env]:=by rfl):SS X ct W (.Assign [tg] a pos) (cC ma g):=PS.imp (acw he hg hs hw h1) fun T σ H q=>FN (fun _ q=>q) (fun _ _ _ q=>q) q
theorem aW{i:Nat}{x:Str}{pos':Pos}(hN:X.N.Nodup)(hi:X.N[i]? = some x)(hx:Loc X.env.scope x)(he:SE X ct W a ma)(hs:swapsWith a (some (.Name x pos')) pos.line X.env=pure false:=by rfl)(hf:X.fn x=true∨X.env.scope.names.lookup x=some .local:=by first | exact .inl rfl | exact .inr rfl | assumption):
  SS X ct W (.Assign [.Name x pos'] a pos) (cC ma (gN i)):=PS.imp (acr hN hi hx he hs hf) fun T σ H q=>FN (fun _ q=>q) (fun v H Q ⟨ι,e,M,d,w,q,p⟩=>p _ (w.set i q)) q
def rD(cs:List Nat)(f:Str)(d:D)(o:D)(M:Mem):Option Mem:=match o with
 | .ref n=>match M[n]? with
  | some (.ins c fs)=>if c∈cs∧fs.length<1000 then some (M.set n (.ins c (putD f d fs)))else none
  | _=>none
 | _=>none
def vH(cs:List Nat)(mo mv:ME)(f:Str):MS:=fun e M=>Cd e (mv e M) fun d M1=>Cd e (mo e M1) fun o M2=>match rD cs f d o M2 with
 | some M3=> .next e M3
 | none=> .bad
theorem PX.put{K:PySem.W.Frag}{ι:Nat→Addr}{n:Nat}{H:Hp}{f:Str}{d:D}{v:V}(h:DV K ct ι n H d v):∀{fs:List (Str×D)} {vs:List (Str×V)},PX K ct ι n H fs vs→PX K ct ι n H (putD f d fs) (vV f v vs)
 | _,_,.nil=> .cons h .nil
 | _,_,.cons (x:=x) h' hs=>by
  unfold putD vV
  by_cases e:x=f
  ·rw[if_pos e,if_pos e];exact .cons h hs
  ·rw[if_neg e,if_neg e];exact .cons h' (hs.put h)
theorem uy{o:Expr}{mo:ME}{cs:List Nat}{f:Str}{pos':Pos}(hc:HY X.K ct f cs)(ho:SE X ct W o mo)(hv:SE X ct W a ma)(hs:swapsWith a (some (.Attribute o f pos')) pos.line X.env=pure false:=by rfl):
  SS X ct W (.Assign [.Attribute o f pos'] a pos) (vH cs mo ma f):=PS.imp (acv ho hv hs) fun T σ H q=>by
 obtain⟨ι,e,M,w,p⟩:=vB (rel:=d_ X.K ct) (f:=fun d e M1=>Cd e (mo e M1) fun o M2=>match rD cs f d o M2 with
  | some M3=> .next e M3
  | none=> .bad) q
 refine⟨ι,e,M,w,p.mono fun y H1 ⟨gF,e1,M1,d,w1,q1,p1⟩=>⟨gF,e1,M1,w1,?_⟩⟩
 cases z:mo e1 M1 with
 | bad=>simp only[z,FW]at p1;exact p1
 | exc xc xd xM=>simp only[z,FT]at p1;exact fun lN dx v H2 x r q1 q2=>p1 lN σ dx v H2 x (w1.ext x r) q1 q2
 | ok o' M2=>
  simp only[z,G5]at p1
  intro lN x H2 x2 r2 q2
  have p2:=p1.ext x2
  have w2:=w1.ext x2 r2
  have qd:=q1.mono x2
  cases q2 with
  | @ref n hn=>
   simp only[rD]at p2
   cases z0:M2[n]? with
   | none=>rw[z0]at p2;exact p2.elim
   | some ob=>
    cases ob with
    | lst _=>rw[z0]at p2;exact p2.elim
    | dk _=>rw[z0]at p2;exact p2.elim
    | dt _=>rw[z0]at p2;exact p2.elim
    | ins c fs=>
     simp only[z0]at p2
     by_cases hcs:c∈cs∧fs.length<1000
     ·rw[if_pos hcs]at p2
      obtain⟨dx,vs,hH,fv⟩:=r2.obj n _ z0
      have x3:Ext X.K lN M2.length H2 lN M2.length (upd H2 (lN n) (.ins (ct c) dx (vV f y vs))):=Ext.chg hH (fun _ z=>nomatch z) (fun _ _ z=>nomatch z)
      refine⟨_,_,dx,vs,rfl,hH,(hc.get hcs.1).1,(hc.get hcs.1).2,by rw[fv.length];exact hcs.2,?_⟩
      have r3:=r2.chg (o:= .ins (ct c) dx (vV f y vs)) (x:= .ins c (putD f d fs)) hn hH (fun _ z=>nomatch z) (fun _ _ z=>nomatch z) ⟨dx,_,dm,(fv.put qd).mono x3⟩
      have x3':Ext X.K lN M2.length H2 lN (M2.set n (.ins c (putD f d fs))).length (upd H2 (lN n) (.ins (ct c) dx (vV f y vs))):=by rw[List.length_set];exact x3
      exact p2 lN σ _ x3' (w2.ext x3' r3)
     ·rw[if_neg hcs]at p2
      exact p2.elim
  | _=>exact p2.elim
structure Itm where
 src:Option (Nat×List D)
 ds:List D
def oK(s:Option (Nat×List D))(M:Mem):Prop:=match s with
 | none=>True
 | some (n,ds)=>rF M n=some ds
noncomputable instance{s:Option (Nat×List D)}{M:Mem}:Decidable (oK s M):=Classical.propDecidable _
def Ux(K:PySem.W.Frag)(ct:Nat→Addr):(Nat→Addr)→Mem→Hp→Itm→It→Prop:=fun ι M H it J=>oK it.src M∧it.ds.length≤sizeLine∧∀ι' M' H',Ext K ι M.length H ι' M'.length H'→Rl K ct ι' M' H'→oK it.src M'→
 ∀i,(∀d,it.ds[i]? = some d→J.go i H'∧∀x H2,J.YJ i H' x H2→Ext K ι' M'.length H' ι' M'.length H2∧Rl K ct ι' M' H2∧DV K ct ι' M'.length H2 d x)∧(it.ds.length≤i→J.stop i H')
abbrev MI:=Sl→Mem→Out Itm
def SI(X:Cx)(ct:Nat→Addr)(W:bD)(tg e:Expr)(m:MI):Prop:=PI X tg e (tG (Ux X.K ct) X.K ct W m)
theorem PI.imp{tg e:Expr}{t t':TI}(h:PI X tg e t)(hi:∀σ H R,t' σ H R→t σ H R):PI X tg e t':=fun pins s σ H R I q=>h pins s σ H R I (hi σ H R q)
def tV(src:Option (Nat×List D))(g:Tg)(b:MS):List D→Sl→Mem→kh
 | [],e,M=>if oK src M then .next e M else .bad
 | d::ds,e,M=>if oK src M then(match g d e with
   | none=> .bad
   | some e1=>match b e1 M with
    | .next e2 M2=>tV src g b ds e2 M2
    | .cont e2 M2=>tV src g b ds e2 M2
    | .brk e2 M2=> .next e2 M2
    | .ret d M2=> .ret d M2
    | .exc c d e2 M2=> .exc c d e2 M2
    | .bad=> .bad)else .bad
def Zy(mi:MI)(g:Tg)(b:MS):MS:=fun e M=>Cd e (mi e M) fun it M1=>tV it.src g b it.ds e M1
theorem Wo{tg iter:Expr}{body:List Stmt}{mi:MI}{g:Tg}{b:MS}(hp:X.Ok→PassesOwn (model X.prog X.w) X.A X.env X.xe)(hc:X.calm=true)(hi:SI X ct W tg iter mi)(hg:SG X ct tg g)(hb:YG X ct W body b)
  (hs:∀x,foldedSetIterable iter X.env x=pure x:=by intro _;rfl):SS X ct W (.For tg iter body [] pos) (Zy mi g b):=PS.imp (fun pins s σ H D I h=>ZX (hp I.ok) hc hi hg hb hs pins s σ H D I h) fun T σ H q=>by
 obtain⟨ι,e,M,w,p⟩:=vB (rel:=Ux X.K ct) (f:=fun it e M1=>tV it.src g b it.ds e M1) q
 refine⟨ι,e,M,w,p.mono fun J H1 ⟨gF,e1,M1,it,w1,q1,p1⟩=> ?_⟩
 obtain⟨ok1,_,step⟩:=q1
 refine⟨fun i m σ' H'=>m=it.ds.length - i∧i≤it.ds.length∧∃ι' e' M',Ext X.K gF M1.length H1 ι' M'.length H'∧Ws X.K ct ι' e' M' σ' H'∧wW X.K ct W ι' M'.length H' (tV it.src g b (it.ds.drop i) e' M') T,
  ⟨it.ds.length,by simp,Nat.zero_le _,gF,e1,M1,.refl,w1,by simpa using p1⟩,?_⟩
 rintro i m σ' H' ⟨rfl,hi,ι',e',M',x',w',p'⟩
 by_cases hlt:i<it.ds.length
 ·rw[List.drop_eq_getElem_cons hlt]at p'
  unfold tV at p'
  by_cases ok':oK it.src M'
  ·rw[if_pos ok']at p'
   obtain⟨go,yl⟩:=(step ι' M' H' x' w'.rl ok' i).1 _ (List.getElem?_eq_getElem hlt)
   refine .inr ⟨go,fun σ2 H2=>∃lN e2 M2,Ext X.K gF M1.length H1 lN M2.length H2∧Ws X.K ct lN e2 M2 σ2 H2∧wW X.K ct W lN M2.length H2 (tV it.src g b (it.ds.drop (i+1)) e2 M2) T,?_,?_⟩
   ·rintro σ2 H2 ⟨lN,e2,M2,x2,w2,p2⟩
    exact⟨it.ds.length - (i+1),by omega,rfl,hlt,lN,e2,M2,x2,w2,p2⟩
   ·intro x H2 y
    obtain⟨x2,r2,dv⟩:=yl x H2 y
    have w2:=w'.ext x2 r2
    have p2:=p'.ext x2
    refine⟨ι',e',M',_,w2,dv,?_⟩
    cases z:g it.ds[i] e' with
    | none=>rw[z]at p2;exact p2
    | some e2=>
     rw[z]at p2
     intro σ3 w3
     refine⟨ι',e2,M',w3,?_⟩
     cases z3:b e2 M' with
     | next e4 M4=>simp only[z3]at p2;exact fun YX σ5 H5 x5 w5=>⟨YX,e4,M4,(x'.trans x2).trans x5,w5,p2.ext x5⟩
     | cont e4 M4=>simp only[z3]at p2;exact fun YX σ5 H5 x5 w5=>⟨YX,e4,M4,(x'.trans x2).trans x5,w5,p2.ext x5⟩
     | brk e4 M4=>simp only[z3]at p2;exact p2
     | ret d M4=>simp only[z3]at p2;exact p2
     | exc xc xd xe xM=>simp only[z3]at p2;exact p2
     | bad=>simp only[z3]at p2;exact p2
  ·rw[if_neg ok']at p'
   exact p'.elim
 ·have e0:i=it.ds.length:=by omega
  subst e0
  rw[List.drop_length]at p'
  unfold tV at p'
  by_cases ok':oK it.src M'
  ·rw[if_pos ok']at p'
   exact .inl ⟨(step ι' M' H' x' w'.rl ok' _).2 (Nat.le_refl _),p' ι' σ' H' .refl w'⟩
  ·rw[if_neg ok']at p'
   exact p'.elim
def Vh(d:D)(M1:Mem):Out Itm:=match d with
 | .ref n=>match rF M1 n with
  | some ds=> .ok ⟨some (n,ds),ds⟩ M1
  | none=> .bad
 | .cl ds=> .ok ⟨none,ds⟩ M1
 | .tup ds=> .ok ⟨none,ds⟩ M1
 | _=> .bad
def S7(m:ME):MI:=fun e M=>(m e M).bind Vh
theorem acz{tg l:Expr}{tl:TE}(hl:PE X l tl):PI X tg l (fun σ H R=>tl σ H fun x H1=>∃a,x= .ref a∧(((∃xs,yC X.K H1 a xs)∧((∀xs,yC X.K H1 a xs→xs.length≤sizeLine)→R (Itl X.K a) H1))∨((∃xs,vh X.K H1 a xs)∧((∀xs,vh X.K H1 a xs→xs.length≤sizeLine)→R (Itt X.K a) H1)))):=by
 intro pins s σ H R I h
 refine iw (hl pins s σ H _ I h) fun v s1 ⟨x,H1,I1,r1,q1⟩=> ?_
 obtain⟨a,e,q⟩:=q1
 subst e
 cases r1
 rcases q with⟨⟨xs,hq⟩,q⟩ | ⟨⟨xs,hq⟩,q⟩
 ·obtain⟨its,rv,p,hz⟩:=I1.list hq
  have q:=q fun ys hy=>by obtain⟨_,_,_,hz⟩:=I1.list hy;exact hz
  refine wpAny_pyIter_list p.isList ?_
  refine⟨s1.heap.objs.size,[s1.heap.objs.size],_,_,H1,rfl,I1.kept (t':=s1.toks) fun b o e=>Heap.get?_push_of_some _ e,Ui a _,⟨_,Heap.get?_push_size _ rfl,rfl,rfl⟩,fun b hb=> ?_,q⟩
  have e:b=s1.heap.objs.size:=by simpa using hb
  subst e
  exact I1.aaC (Nat.le_refl _) (I1.hok.fresh (Nat.le_refl _))
 ·obtain⟨its,rv,p,hz⟩:=I1.tuple hq
  have q:=q fun ys hy=>by obtain⟨_,_,_,hz⟩:=I1.tuple hy;exact hz
  refine wpAny_pyIter_tuple (show s1.heap.IsTuple a its.toArray from p) ?_
  refine⟨s1.heap.objs.size,[s1.heap.objs.size],_,_,H1,rfl,I1.kept (t':=s1.toks) fun b o e=>Heap.get?_push_of_some _ e,Qd a _,⟨_,Heap.get?_push_size _ rfl,rfl,rfl⟩,fun b hb=> ?_,q⟩
  have e:b=s1.heap.objs.size:=by simpa using hb
  subst e
  exact I1.aaC (Nat.le_refl _) (I1.hok.fresh (Nat.le_refl _))
theorem Ov{K:PySem.W.Frag}{ι:Nat→Addr}{M:Mem}{H:Hp}{a:Addr}{xs:List V}{ds:List D}(R:Rl K ct ι M H)(hq:yC K H a xs)(hd:o4 K ct ι M.length H ds xs)(i:Nat):
  (∀d,ds[i]? = some d→(Itl K a).go i H∧∀x H2,(Itl K a).YJ i H x H2→Ext K ι M.length H ι M.length H2∧Rl K ct ι M H2∧DV K ct ι M.length H2 d x)∧(ds.length≤i→(Itl K a).stop i H):=by
 refine⟨fun d e=> ?_,fun h=>⟨xs,hq,by rw[hd.length];exact h⟩⟩
 obtain⟨v,hv,dv⟩:=hd.at e
 refine⟨⟨xs,v,hq,hv⟩,fun x H2 y=> ?_⟩
 obtain⟨e2,y⟩:=y
 subst e2
 have z:=y xs hq
 rw[hv]at z
 cases z
 exact⟨.refl,R,dv⟩
theorem XX{K:PySem.W.Frag}{ι:Nat→Addr}{M:Mem}{H:Hp}{a:Addr}{xs:List V}{ds:List D}(R:Rl K ct ι M H)(hq:vh K H a xs)(hd:o4 K ct ι M.length H ds xs)(i:Nat):
  (∀d,ds[i]? = some d→(Itt K a).go i H∧∀x H2,(Itt K a).YJ i H x H2→Ext K ι M.length H ι M.length H2∧Rl K ct ι M H2∧DV K ct ι M.length H2 d x)∧(ds.length≤i→(Itt K a).stop i H):=by
 refine⟨fun d e=> ?_,fun h=>⟨xs,hq,by rw[hd.length];exact h⟩⟩
 obtain⟨v,hv,dv⟩:=hd.at e
 refine⟨⟨xs,v,hq,hv⟩,fun x H2 y=> ?_⟩
 obtain⟨e2,y⟩:=y
 subst e2
 have z:=y xs hq
 rw[hv]at z
 cases z
 exact⟨.refl,R,dv⟩
theorem Wx{tg:Expr}(hl:SE X ct W a ma):SI X ct W tg a (S7 ma):=PI.imp (acz hl) fun σ H R q=>by
 obtain⟨ι,e,M,w,p⟩:=cQ (gZ:=d_ X.K ct) (f:=fun d _ M1=>Vh d M1) q
 refine⟨ι,e,M,w,p.mono fun v H1 ⟨gF,e1,M1,d,w1,q1,p1⟩=> ?_⟩
 cases q1 with
 | @ref n hn=>
  dsimp only[Vh]at p1
  cases z:rF M1 n with
  | none=>rw[z]at p1;exact p1.elim
  | some ds=>
   rw[z]at p1
   obtain⟨xs,hH,hd⟩:=w1.rl.obj n _ (uv.mp z)
   refine⟨_,rfl,.inl ⟨⟨xs,yC.of hH⟩,fun hz=>p1 gF _ H1 .refl w1.rl ⟨z,by rw[←hd.length];exact hz xs (yC.of hH),fun lN M2 H2 x2 r2 ok2 i=> ?_⟩⟩⟩
   obtain⟨xs2,hH2,hd2⟩:=r2.obj n _ (uv.mp ok2)
   rw[←x2.same n hn]
   exact Ov r2 (yC.of hH2) hd2 i
 | cl h1 h2=>exact⟨_,rfl,.inl ⟨⟨_,h1.sq⟩,fun hz=>p1 gF _ H1 .refl w1.rl ⟨trivial,by rw[←h2.length];exact hz _ h1.sq,fun lN M2 H2 x2 r2 ok2 i=>Ov r2 (x2.Af _ _ h1).sq (h2.mono x2) i⟩⟩⟩
 | tup h1 h2=>exact⟨_,rfl,.inr ⟨⟨_,vh.of h1⟩,fun hz=>p1 gF _ H1 .refl w1.rl ⟨trivial,by rw[←h2.length];exact hz _ (vh.of h1),fun lN M2 H2 x2 r2 ok2 i=>XX r2 (vh.of (x2.tup _ _ h1)) (h2.mono x2) i⟩⟩⟩
 | _=>exact p1.elim
def Jf(lo:Int)(n:Nat):List D:=(List.range n).map fun(k:Nat)=>D.int (lo+k)
def N8(ds:List D)(M1:Mem):Out Itm:=match ds with
 | [.int j]=>if -(2 ^ 62)≤j∧j<2 ^ 24 then .ok ⟨none,Jf 0 j.toNat⟩ M1 else .bad
 | _=> .bad
def S5(ms:MA):MI:=fun e M=>(ms e M).bind N8
theorem X3{K:PySem.W.Frag}{ι:Nat→Addr}{M:Mem}{H:Hp}(R:Rl K ct ι M H)(lo:Int)(n i:Nat):
  (∀d,(Jf lo n)[i]? = some d→(Itr lo n).go i H∧∀x H2,(Itr lo n).YJ i H x H2→Ext K ι M.length H ι M.length H2∧Rl K ct ι M H2∧DV K ct ι M.length H2 d x)∧((Jf lo n).length≤i→(Itr lo n).stop i H):=by
 refine⟨fun d e=> ?_,fun h=>(by simpa[Jf]using h:n≤i)⟩
 unfold Jf at e
 rw[List.getElem?_map]at e
 obtain⟨k,hk,rfl⟩:=Option.map_eq_some_iff.mp e
 obtain⟨hi,e2⟩:=List.getElem?_eq_some_iff.mp hk
 have hi':i<n:=by simpa using hi
 have ek:k=i:=by rw[←e2];simp
 subst ek
 refine⟨hi',fun x H2 y=> ?_⟩
 obtain⟨e3,y⟩:=y
 subst e3 y
 exact⟨.refl,R,.int _⟩
theorem adp:(2 ^ 24:Nat)≤sizeLine:=by rw[sizeLine_eq];decide
theorem Jc{tg a:Expr}{ms:MA}{p pos:Pos}(hg:Gl X "range")(hm:X.mg "range" = none)(ha:SA X ct W [a] ms)(hs:starEach [a] X.env=[(false,eval a X.env)]:=by rfl):SI X ct W tg (.Call (.Name "range" p) [a] [] pos) (S5 ms):=PI.imp (Uz hg hm ha hs) fun σ H R q=>by
 obtain⟨ι,e,M,w,p⟩:=cQ (gZ:=Fo X.K ct) (f:=fun ds _ M1=>N8 ds M1) q
 refine⟨ι,e,M,w,p.mono fun v H1 ⟨gF,e1,M1,d,w1,q1,p1⟩=> ?_⟩
 dsimp only[N8]at p1
 split at p1
 ·rename_i j
  obtain⟨v,rfl,q2⟩:=wQ q1
  cases p7 q2
  split at p1
  ·rename_i hj
   have hz:=adp
   exact⟨j,rfl,hj.1,by omega,p1 gF _ H1 .refl w1.rl ⟨trivial,by simp[Jf];omega,fun lN M2 H2 x2 r2 ok2 i=>X3 r2 0 _ i⟩⟩
  ·exact p1.elim
 ·exact p1.elim
def Iw(c:MT)(b:MS):Nat→Sl→Mem→kh
 | 0,_,_=> .bad
 | n+1,e,M=>match c e M with
  | .bad=> .bad
  | .exc c d M1=> .exc c d e M1
  | .ok false M1=> .next e M1
  | .ok true M1=>match b e M1 with
   | .next e2 M2=>Iw c b n e2 M2
   | .cont e2 M2=>Iw c b n e2 M2
   | .brk e2 M2=> .next e2 M2
   | .ret d M2=> .ret d M2
   | .exc c d e2 M2=> .exc c d e2 M2
   | .bad=> .bad
theorem Gg{c:MT}{b:MS}:∀(n:Nat) (e:Sl) (M:Mem),Iw c b n e M≠ .bad→Iw c b (n+1) e M=Iw c b n e M
 | 0,_,_,h=>absurd rfl h
 | n+1,e,M,h=>by
  unfold Iw at h ⊢
  cases z:c e M with
  | bad=>rfl
  | exc _ _ _=>rfl
  | ok k M1=>
   cases k with
   | false=>rfl
   | true=>
    simp only[z]at h ⊢
    cases z2:b e M1 with
    | next e2 M2=>simp only[z2]at h ⊢;exact Gg n e2 M2 h
    | cont e2 M2=>simp only[z2]at h ⊢;exact Gg n e2 M2 h
    | brk e2 M2=>rfl
    | ret d M2=>rfl
    | exc _ _ _ _=>rfl
    | bad=>rfl
theorem Qa{c:MT}{b:MS}{n:Nat}{e:Sl}{M:Mem}(h:Iw c b n e M≠ .bad):∀k,Iw c b (n+k) e M=Iw c b n e M
 | 0=>rfl
 | k+1=>by
  have ih:=Qa h k
  rw[←Nat.add_assoc,Gg _ _ _ (by rw[ih];exact h)]
  exact ih
open Classical in
def vQ(c:MT)(b:MS):MS:=fun e M=>if h:∃n,Iw c b n e M≠ .bad then Iw c b (Classical.choose h) e M else .bad
theorem Ds{c:MT}{b:MS}{n:Nat}{e:Sl}{M:Mem}{o:kh}(h:Iw c b n e M=o)(ho:o≠ .bad):vQ c b e M=o:=by
 have ex:∃n,Iw c b n e M≠ .bad:=⟨n,by rw[h];exact ho⟩
 unfold vQ
 rw[dif_pos ex]
 have h1:=Classical.choose_spec ex
 rcases Nat.le_total n (Classical.choose ex)with l | l
 ·obtain⟨k,hk⟩:=Nat.exists_eq_add_of_le l
  rw[hk,Qa (by rw[h];exact ho) k,h]
 ·obtain⟨k,hk⟩:=Nat.exists_eq_add_of_le l
  rw[←h,hk,Qa h1 k]
theorem Gp{c:Expr}{body:List Stmt}{mc:MT}{b:MS}(hp:X.Ok→PassesOwn (model X.prog X.w) X.A X.env X.xe)(hc:VM X ct W c mc)(hb:YG X ct W body b):SS X ct W (.While c body [] pos) (vQ mc b):=PS.imp (fun pins s σ H D I h=>W_ (hp I.ok) hc hb pins s σ H D I h) fun T σ H ⟨ι,e,M,w,p⟩=>by
 unfold vQ at p
 split at p
 ·rename_i ex
  refine⟨fun m σ' H'=>∃ι' e' M',Ws X.K ct ι' e' M' σ' H'∧wW X.K ct W ι' M'.length H' (Iw mc b m e' M') T,⟨_,ι,e,M,w,p⟩,?_⟩
  rintro m σ' H' ⟨ι',e',M',w',p'⟩
  cases m with
  | zero=>exact p'.elim
  | succ m=>
   refine⟨ι',e',M',w',?_⟩
   unfold Iw at p'
   cases z:mc e' M' with
   | bad=>rw[z]at p';exact p'
   | exc xc xd xM=>rw[z]at p';exact fun lN dx v H2 x r q1 q2=>p' lN σ' dx v H2 x (w'.ext x r) q1 q2
   | ok k M1=>
    intro lN k2 H2 x2 r2 ek
    have OD:k=k2:=ek;subst OD
    have w2:=w'.ext x2 r2
    cases k with
    | false=>rw[z]at p';exact p' lN σ' H2 x2 w2
    | true=>
     simp only[z]at p'
     have p2:=p'.ext x2
     show ∃N:St→Hp→Prop,_
     refine⟨fun σ3 H3=>∃Bq e3 M3,Ws X.K ct Bq e3 M3 σ3 H3∧wW X.K ct W Bq M3.length H3 (Iw mc b m e3 M3) T,fun σ3 H3 q3=>⟨m,Nat.lt_succ_self _,q3⟩,lN,e',M1,w2,?_⟩
     cases z3:b e' M1 with
     | next e4 M4=>simp only[z3]at p2;exact fun YX σ5 H5 x5 w5=>⟨YX,e4,M4,w5,p2.ext x5⟩
     | cont e4 M4=>simp only[z3]at p2;exact fun YX σ5 H5 x5 w5=>⟨YX,e4,M4,w5,p2.ext x5⟩
     | brk e4 M4=>simp only[z3]at p2;exact p2
     | ret d M4=>simp only[z3]at p2;exact p2
     | exc xc xd xe xM=>simp only[z3]at p2;exact p2
     | bad=>simp only[z3]at p2;exact p2
 ·exact p.elim
def um(js:List Nat)(e:Sl):Sl:=js.map fun i=>(e[i]?).join
def Out.noX{α:Type}(o:Out α):Out α:=match o with
 | .ok a M=> .ok a M
 | _=> .bad
@[simp] theorem G8{α:Type}(a:α)(M:Mem):(Out.ok a M).noX= .ok a M:=id rfl
@[simp] theorem SM{α:Type}:(Out.bad:Out α).noX= .bad:=id rfl
@[simp] theorem SJ{α:Type}(c:Nat)(d:D)(M:Mem):(Out.exc c d M:Out α).noX= .bad:=id rfl
def yV(src:Option (Nat×List D))(tt:MT)(te:ME)(ce:Sl):List D→List D→Mem→Out D
 | [],ys,M=>if oK src M then .ok (.ref M.length) (M++[.lst ys])else .bad
 | d::ds,ys,M=>if oK src M then(tt (some d::ce) M).noX.bind fun k M1=>if k=true then(te (some d::ce) M1).noX.bind fun y M2=>yV src tt te ce ds (ys++[y]) M2 else yV src tt te ce ds ys M1 else .bad
def Ho(js:List Nat)(mi:MI)(tt:MT)(te:ME):ME:=fun e M=>(mi e M).bind fun it M1=>yV it.src tt te (um js e) it.ds [] M1
def STs(X:Cx)(ct:Nat→Addr)(W:bD)(ifs:List Expr)(m:MT):Prop:=PTs X ifs (tG BX X.K ct W m)
def Cw:MT:=fun _ M=> .ok true M
theorem Kc:STs X ct W [] Cw:=fun pins s σ H Q I ⟨ι,e,M,w,p⟩=>ZQ pins s σ H Q I (p ι true H .refl w.rl rfl)
theorem RK{c:Expr}{m:MT}(h:VM X ct W c m):STs X ct W [c] m:=ZP h
theorem Ws.caps{K:PySem.W.Frag}{ι:Nat→Addr}{e:Sl}{M:Mem}{σ:St}{H:Hp}{d:D}{v:V}(w:Ws K ct ι e M σ H)(js:List Nat)(h:DV K ct ι M.length H d v):Ws K ct ι (some d::um js e) M (some v::L2.caps js σ) H:=by
 refine⟨w.rl,by simp[um,L2.caps],fun i x hx=> ?_⟩
 cases i with
 | zero=>simp at hx;subst hx;exact⟨v,rfl,h⟩
 | succ i=>
  simp only[List.getElem?_cons_succ,um,List.getElem?_map]at hx
  obtain⟨j,hj,ej⟩:=Option.map_eq_some_iff.mp hx
  cases z:e[j]? with
  | none=>rw[z]at ej;cases ej
  | some o=>
   rw[z]at ej
   cases(show o=some x from ej)
   obtain⟨u,hu,du⟩:=w.env j x z
   refine⟨u,?_,du⟩
   simp only[List.getElem?_cons_succ,L2.caps,List.getElem?_map,hj,Option.map_some,hu]
   rfl
theorem Nx{js:List Nat}{mi:MI}{tt:MT}{te:ME}{σ:St}{H:Hp}{Q:VK}(h:tG (d_ X.K ct) X.K ct W (Ho js mi tt te) σ H Q):We js (tG (Ux X.K ct) X.K ct W mi) (tG BX X.K ct W0 tt) (tG (d_ X.K ct) X.K ct W0 te) σ H Q:=by
 obtain⟨ι,e,M,w,p⟩:=cQ (gZ:=Ux X.K ct) (f:=fun it e M1=>yV it.src tt te (um js e) it.ds [] M1) h
 refine⟨ι,e,M,w,p.mono fun J H1 ⟨gF,e1,M1,it,w1,q1,p1⟩=> ?_⟩
 obtain⟨ok1,hz,step⟩:=q1
 refine⟨fun i m ys H'=>m=it.ds.length - i∧i≤it.ds.length∧ys.length≤i∧∃ι' M' ds',Ext X.K gF M1.length H1 ι' M'.length H'∧Rl X.K ct ι' M' H'∧o4 X.K ct ι' M'.length H' ds' ys∧jO (d_ X.K ct) X.K ct (wAt W σ) ι' M'.length H' (yV it.src tt te (um js e1) (it.ds.drop i) ds' M') Q,
  ⟨it.ds.length,by simp,Nat.zero_le _,Nat.le_refl _,gF,M1,[],.refl,w1.rl,.nil,by simpa using p1⟩,?_⟩
 rintro i m ys H' ⟨rfl,hi,hy,ι',M',ds',x',r',dy,p'⟩
 by_cases hlt:i<it.ds.length
 ·rw[List.drop_eq_getElem_cons hlt]at p'
  unfold yV at p'
  by_cases ok':oK it.src M'
  ·rw[if_pos ok']at p'
   obtain⟨go,yl⟩:=(step ι' M' H' x' r' ok' i).1 _ (List.getElem?_eq_getElem hlt)
   refine .inr ⟨go,fun ys2 H2=>ys2.length≤i+1∧∃lN M2 ds2,Ext X.K gF M1.length H1 lN M2.length H2∧Rl X.K ct lN M2 H2∧o4 X.K ct lN M2.length H2 ds2 ys2∧jO (d_ X.K ct) X.K ct (wAt W σ) lN M2.length H2 (yV it.src tt te (um js e1) (it.ds.drop (i+1)) ds2 M2) Q,?_,?_⟩
   ·rintro ys2 H2 ⟨hl2,q2⟩
    exact⟨by omega,it.ds.length - (i+1),by omega,rfl,hlt,hl2,q2⟩
   ·intro x H2 y
    obtain⟨x2,r2,dv⟩:=yl x H2 y
    have w2:Ws X.K ct ι' (some it.ds[i]::um js e1) M' (some x::L2.caps js σ) H2:=(w1.ext (x'.trans x2) r2).caps js dv
    have p2:=p'.ext x2
    refine⟨ι',_,M',w2,?_⟩
    cases z:tt (some it.ds[i]::um js e1) M' with
    | bad=>simp only[z,SM,Out.gO]at p2;exact p2
    | exc xc xd xM=>simp only[z,SJ,Out.gO]at p2;exact p2.elim
    | ok k M3=>
     simp only[z,G8,Out.fY]at p2
     intro Bq k3 H3 x3 r3 ek
     have OD:k=k3:=ek;subst OD
     have p3:=p2.ext x3
     have w3:=w2.ext x3 r3
     have dy3:=(dy.mono x2).mono x3
     cases k with
     | false=>exact⟨by omega,Bq,M3,ds',(x'.trans x2).trans x3,r3,dy3,p3⟩
     | true=>
      simp only[if_true]at p3 ⊢
      refine⟨Bq,_,M3,w3,?_⟩
      cases z4:te (some it.ds[i]::um js e1) M3 with
      | bad=>simp only[z4,SM,Out.gO]at p3;exact p3
      | exc xc xd xM=>simp only[z4,SJ,Out.gO]at p3;exact p3.elim
      | ok yy M4=>
       simp only[z4,G8,Out.fY]at p3
       intro ι4 v4 H4 x4 r4 d4
       exact⟨by rw[List.length_append];simp;omega,ι4,M4,ds'++[yy],((x'.trans x2).trans x3).trans x4,r4,(dy3.mono x4).append (.cons d4 .nil),p3.ext x4⟩
  ·rw[if_neg ok']at p'
   exact p'.elim
 ·have e0:i=it.ds.length:=by omega
  subst e0
  rw[List.drop_length]at p'
  unfold yV at p'
  by_cases ok':oK it.src M'
  ·rw[if_pos ok']at p'
   exact .inl ⟨(step ι' M' H' x' r' ok' _).2 (Nat.le_refl _),by omega,fun pp hp=>uF r' dy hp p'⟩
  ·rw[if_neg ok']at p'
   exact p'.elim
variable{elt iter:Expr}{ifs:List Expr}{scope:Scope}{x:Str}{px:Pos}{mi:MI}{tt:MT}{te:ME}
theorem RQ(hc:X.calm=true)(cs:List Str)(js:List Nat)(hi:SI X ct W (.Name x px) iter mi)(hcap:sG X scope cs js)(ht:∀cl C fp s H,STs (aR X scope cl C (x::cs) fp s H) ct W0 ifs tt)(he:∀cl C fp s H,SE (aR X scope cl C (x::cs) fp s H) ct W0 elt te)
  (hall:∀y∈scope.names,y.2= .free→y.1∈cs) (hcell:∀y∈scope.names,y.2≠ .cell) (hnames:∀y∈scope.names,y.2= .local→scope.names.lookup y.1=some .local) (hnd:(x::cs).Nodup)
  (hkind:scope.kind= .function:=by rfl) (hx:scope.names.lookup x=some .local:=by rfl) (hs:∀v,foldedSetIterable iter X.env v=pure v:=by intro _;rfl):
  SE X ct W (.ListComp elt [⟨.Name x px,iter,ifs,0⟩] scope pos) (Ho js mi tt te):=
 iz (Z6 (tt:=tG BX X.K ct W0 tt) (te:=tG (d_ X.K ct) X.K ct W0 te) hc cs js hi hcap (fun cl C fp s H=>ht cl C fp s H) (fun cl C fp s H=>he cl C fp s H) hall hcell hnames hnd hkind hx hs) fun σ H Q q=>Nx q
theorem Zd{y:Str}{py spos:Pos}{k:Nat}(hc:X.calm=true)(cs:List Str)(js:List Nat)(hN:X.N.Nodup)(hk:X.N[k]? = some y)(hy:X.env.scope.names.lookup y=some .local)(hi:SI X ct W (.Name x px) iter mi)(hcap:sG X scope cs js)
  (ht:∀cl C fp s H,STs (aR X scope cl C (x::cs) fp s H) ct W0 ifs tt) (he:∀cl C fp s H,SE (aR X scope cl C (x::cs) fp s H) ct W0 elt te)
  (hall:∀y∈scope.names,y.2= .free→y.1∈cs) (hcell:∀y∈scope.names,y.2≠ .cell) (hnames:∀y∈scope.names,y.2= .local→scope.names.lookup y.1=some .local) (hnd:(x::cs).Nodup)
  (hsw:swapsWith (.ListComp elt [⟨.Name x px,iter,ifs,0⟩] scope pos) (some (.Name y py)) spos.line X.env=pure true:=by rfl)
  (hkind:scope.kind= .function:=by rfl) (hx:scope.names.lookup x=some .local:=by rfl) (hs:∀v,foldedSetIterable iter X.env v=pure v:=by intro _;rfl):
  SS X ct W (.Assign [.Name y py] (.ListComp elt [⟨.Name x px,iter,ifs,0⟩] scope pos) spos) (cC (Ho js mi tt te) (gN k)):=
 PS.imp (Z0 (tt:=tG BX X.K ct W0 tt) (te:=tG (d_ X.K ct) X.K ct W0 te) hc cs js hN hk hy hi hcap (fun cl C fp s H=>ht cl C fp s H) (fun cl C fp s H=>he cl C fp s H) hall hcell hnames hnd hsw hkind hx hs) fun T σ H q=>FN (fun _ q=>Nx q) (fun v H Q ⟨ι,e,M,d,w,q,p⟩=>p _ (w.set k q)) q
end
def slots(n:Nat)(ds:List D):Sl:=ds.map some++List.replicate (n - ds.length) none
def cu(n:Nat)(b:MS):Fn:=fun ds M=>match b (slots n ds) M with
 | .ret d M'=> .ok d M'
 | .next _ M'=> .ok .non M'
 | .exc c d _ M'=> .exc c d M'
 | _=> .bad
theorem Ws.start{K:PySem.W.Frag}{ct ι:Nat→Addr}{M:Mem}{H:Hp}{ds:List D}{vs:List V}(N:List Str)(R:Rl K ct ι M H)(h:o4 K ct ι M.length H ds vs):Ws K ct ι (slots N.length ds) M (L2.start N vs) H:=by
 refine⟨R,by simp[slots,L2.start,h.length],fun i d hd=> ?_⟩
 unfold slots at hd
 by_cases z:i<ds.length
 ·rw[List.getElem?_append_left (by simpa using z),List.getElem?_map]at hd
  obtain⟨d',e1,e2⟩:=Option.map_eq_some_iff.mp hd
  cases e2
  obtain⟨v,hv,dv⟩:=h.at e1
  refine⟨v,?_,dv⟩
  unfold L2.start
  rw[List.getElem?_append_left (by rw[List.length_map,h.length];exact z),List.getElem?_map,hv]
  rfl
 ·rw[List.getElem?_append_right (by simpa using z),List.getElem?_replicate]at hd
  split at hd<;>cases hd
section
variable{P:Program}{w:World}{K:PySem.W.Frag}{mg:Str→Option Value}{base:Heap}{ct:Nat→Addr}
theorem lC{n ar:Nat}{b:MS}{x qual:Str}{st:Stmt}{dV:Value}{f:Addr}{fd:FuncData}{N ps:List Str}{k:Nat}(F:bU K x qual st dV f fd)(S:bf N ps (au st))(hn:N.length=n)(har:ps.length=ar)
  (hbody:∀(cdv:Value) (A:Around) (outer:List PySem.Env) (s:Shared) (H:Hp) (E:XK) (W:bD),lq k (A.deeper (envOfC qual (au st) s.heap.objs.size f cdv))→
   YG ((yU (iM P w) P w K mg base N qual (au st) f cdv A outer s H E).wish (fH (yU (iM P w) P w K mg base N qual (au st) f cdv A outer s H E) W)) ct W (aG st) b):
  bx P w K mg base (iM P w) (k+1) f fd ps (spS K ct (cu n b) ar):=by
 subst hn har
 refine F.okX S (fun vs H Q E ⟨ι,ds,M,hl,_,hd,_⟩=>by rw[hd.length,hl]) fun cdv A outer s H vs Q E hr ⟨ι,ds,M,hl,R,hd,p⟩=> ?_
 refine⟨_,fun C dx _ H'=>E (.ref C) (some dx) H',fun C dx σ H' z=>z,hbody cdv A outer s H E _ hr,ι,slots N.length ds,M,Ws.start N R hd,?_⟩
 unfold cu at p
 cases z:b (slots N.length ds) M with
 | ret d M'=>rw[z]at p;exact fun ι' v H' x r q=> .inl (p ι' v H' x r q)
 | next e M'=>rw[z]at p;exact fun ι' σ' H' x w'=> .inl (p ι' .non H' x w'.rl .non)
 | exc c d e M'=>rw[z]at p;exact fun ι' σ' dx v H' x w' q1 q2=>p ι' dx v H' x w'.rl q1 q2
 | brk e M'=>rw[z]at p;exact p.elim
 | cont e M'=>rw[z]at p;exact p.elim
 | bad=>rw[z]at p;exact p.elim
end
theorem ahI{P:Program}{w:World}{K:PySem.W.Frag}{mg:Str→Option Value}{base:Heap}{k:Nat}{f:Addr}{fd:FuncData}{ps:List Str}{sp:Sp}(F:bx P w K mg base (iM P w) k f fd ps sp):bx P w K mg base Rx k f fd ps (fun vs H Q _=>sp vs H Q E0):=
 ⟨fun vs H Q _ h=>F.len vs H Q E0 h,fun A outer s H args us vs Q E hr he hb hv hs=>codeAny_mono (F.run A outer s H args us vs Q E0 hr he hb hv hs) fun r s' hq=>by
  match r,hq with
  | .error e,hq=>obtain⟨_,_,_,_,_,_,_,_,_,_,_,_,_,_,_,z⟩:=hq;exact z.elim
  | .ok (.ret u),hq=>exact hq⟩
theorem zj{Y:Cx}{W:bD}(hst:Y.stack=Y.env::Y.outer)(hf:Y.env.frame=some Y.env.locals)(ok:(Y.wish (fH Y W)).Ok):PassesOwn (model Y.prog Y.w) Y.A Y.env (fH Y W):=fun ev s' h=>fH.UL hst hf ok.frames ev s' h
theorem Tk.none{X:Cx}:Tk X W0:=fun _ _ ⟨_,_,_,_,_,_,_,_,_,_,_,_,_,_,z⟩=>z.elim
def spL(K:PySem.W.Frag):Sp:=fun vs H Q _=>∃(a:Addr) (ns:List Int),vs=[.ref a]∧FrL K H a (ns.map V.int)∧ns.length≤63∧∀H',Q (.bl true) H'
theorem O1{K:PySem.W.Frag}{ct ι:Nat→Addr}{n:Nat}{H:Hp}:∀ns:List Int,o4 K ct ι n H (ns.map D.int) (ns.map V.int)
 | []=> .nil
 | i::r=> .cons (.int i) (O1 r)
theorem agY{P:Program}{w:World}{K:PySem.W.Frag}{mg:Str→Option Value}{base:Heap}{ct:Nat→Addr}{k:Nat}{f:Addr}{fd:FuncData}{x:Str}{fn:Fn}(F:bx P w K mg base (iM P w) k f fd [x] (spS K ct fn 1))
  (h:∀ns:List Int,ns.length≤63→∃M,fn [.cl (ns.map D.int)] []= .ok (.bl true) M):bx P w K mg base Rx k f fd [x] (spL K):=by
 refine(ahI F).imp fun vs H Q E ⟨a,ns,e,hf,hl,q⟩=> ?_
 subst e
 obtain⟨M,e⟩:=h ns hl
 refine⟨fun _=>0,[.cl (ns.map D.int)],[],rfl,⟨fun i j hi=>absurd hi (Nat.not_lt_zero _),fun i o h=>by simp at h⟩,.cons (.cl hf (O1 ns)) .nil,?_⟩
 rw[e]
 intro ι' v H' _ _ dv
 cases dv
 exact q H'
theorem afl{l:PySem.W.OpenLaw}{q:Program}{loose:List Str}{XP:(Str→Option Value)→Heap→Prop}{YP:World→Heap→Prop}{d:DefRec}{K:Params→PySem.W.Frag}{x:Str}{k:Nat}(hn:l.most=some 63)(hdf:d.params.defaults=[])(hr:lq k callerA)
  (hY:∀(w:World) (h:Heap),YP w h→(K w.params).In h)
  (F:∀(w:World) (mg:Str→Option Value) (fa:Addr) (h:Heap),(K w.params).In h→h.Ns mainGlobals mg→mg d.name=some (.ref fa)→
   ∃fd:FuncData,(∀(s:Shared) (u:Value),BindsTo s fd ⟨[u],[]⟩ [(x,u)])∧∀base:Heap,(K w.params).In base→base.Ns mainGlobals mg→bx l.prog w (K w.params) mg base Rx k fa fd [x] (spL (K w.params))):
  PySem.W.WalkO q loose XP YP l.row.toRowW d [] (fun f vs=>PySem.call f vs):=
 Y4 (n:=63) (k:=k) (x:=x) (CX:=fun _=>Rx) (sp:=fun w=>spL (K w.params)) hn (by decide) hdf hr hY F (fun _ H a ns hl hO hS=>⟨a,ns,rfl,by
  rcases hS with(z | z) | z
  ·rcases hO a with n | ⟨o,xs,n⟩
   ·rw[n]at z;cases z
   ·rw[n]at z;cases z
  ·exact .inl z
  ·exact .inr z,hl,fun _=>rfl⟩) fun _ _ _ _ _ z=>z
end S
namespace S
open PySem PySem.Spec PyProof.Rows L2
section
variable{e:Sl}{M:Mem}
@[simp] theorem ajZ{i:Nat}{d:D}(h:e[i]? = some (some d)):aA i e M= .ok d M:=aal h
@[simp] theorem apg{d:D}:mC d e M= .ok d M:=id rfl
@[simp] theorem aj7{op:ql}{ma mb:ME}:aD op ma mb e M=(ma e M).bind fun d M1=>(mb e M1).bind fun d' M2=>op d d' M2:=id rfl
@[simp] theorem anV{op:D→Mem→Out D}{ma:ME}:mUn op ma e M=(ma e M).bind op:=id rfl
@[simp] theorem aoO{b:Bool}:MP (.bl b) M= .ok b M:=id rfl
@[simp] theorem agJ{m:ME}:bC m e M=(m e M).bind MP:=id rfl
@[simp] theorem aj8{t u:MT}:Hq t u e M=(t e M).bind fun k M1=>if k=true then u e M1 else .ok false M1:=id rfl
@[simp] theorem anZ{t u:MT}:mOr t u e M=(t e M).bind fun k M1=>if k=true then .ok true M1 else u e M1:=id rfl
@[simp] theorem aj3{t:MT}:Oo t e M=(t e M).bind fun k M1=> .ok (!k) M1:=id rfl
@[simp] theorem agU{t u:ME}:Ep t u e M=(t e M).bind fun d M1=>(MP d M1).bind fun k M2=>if k=true then u e M2 else .ok (.bl false) M2:=id rfl
@[simp] theorem aj2{t u:ME}:adm t u e M=(t e M).bind fun d M1=>(MP d M1).bind fun k M2=>if k=true then .ok (.bl true) M2 else u e M2:=id rfl
@[simp] theorem agM{t:ME}:S6 t e M=(t e M).bind fun d M1=>(MP d M1).bind fun k M2=> .ok (.bl (!k)) M2:=id rfl
@[simp] theorem aeY{o1 o2:ql}{ma mb mc:ME}:Bb o1 o2 ma mb mc e M=(ma e M).bind fun d1 M1=>(mb e M1).bind fun d2 M2=>(o1 d1 d2 M2).bind fun r M3=>(MP r M3).bind fun k M4=>
 if k=true then(mc e M4).bind fun d3 M5=>o2 d2 d3 M5 else .ok (.bl false) M4:=id rfl
@[simp] theorem aj4:aH e M= .ok [] M:=id rfl
@[simp] theorem agR{m:ME}{ms:MA}:aq m ms e M=(m e M).bind fun d M1=>(ms e M1).bind fun ds M2=> .ok (d::ds) M2:=id rfl
theorem nu:sizeLine=16777216:=sizeLine_eq
@[simp] theorem aj1{ms:MA}:lM ms e M=(ms e M).bind fun ds M1=>if ds.length≤16777216 then .ok (.tup ds) M1 else .bad:=by unfold lM;rw[nu]
@[simp] theorem aj5{ms:MA}:pC ms e M=(ms e M).bind fun ds M1=>if ds.length≤16777216 then .ok (.ref M1.length) (M1++[.lst ds])else .bad:=by unfold pC;rw[nu]
@[simp] theorem aj6{cs:List Nat}{m:ME}{f:Str}:j6 cs m f e M=(m e M).bind (Al cs f):=id rfl
theorem qZ{cs:List Nat}{f:Str}{n c:Nat}{fs:List (Str×D)}{d:D}(h:M[n]? = some (.ins c fs))(hc:c∈cs)(hf:fs.lookup f=some d):Al cs f (.ref n) M= .ok d M:=by
 unfold Al;simp only[h,hc,if_true,hf]
@[simp] theorem agT{fn:Fn}{ar:Nat}{dv:List D}{ms:MA}:jD fn ar dv ms e M=(ms e M).bind fun ds M1=>if(ds++dv).length=ar then fn (ds++dv) M1 else .bad:=id rfl
@[simp] theorem agN{k:Nat}{m:Str}{fn:Fn}{ar:Nat}{dv:List D}{mo:ME}{ms:MA}:cN k m fn ar dv mo ms e M=(mo e M).bind fun d M1=>if Aq k m d M1=true then(ms e M1).bind fun ds M2=>if(d::(ds++dv)).length=ar then fn (d::(ds++dv)) M2 else .bad else .bad:=id rfl
theorem Oz{k:Nat}{m:Str}{n:Nat}{fs:List (Str×D)}(h:M[n]? = some (.ins k fs))(hf:fs.lookup m=none):Aq k m (.ref n) M=true:=by
 unfold Aq;simp[h,hf]
@[simp] theorem agO{kc:Nat}{fn:Fn}{ar:Nat}{dv:List D}{ms:MA}:Hj kc fn ar dv ms e M=(ms e M).bind fun ds M1=>if(D.ref M1.length::(ds++dv)).length=ar then(fn (.ref M1.length::(ds++dv)) (M1++[.ins kc []])).bind fun r M2=>if Ox r=true then .ok (.ref M1.length) M2 else .bad else .bad:=id rfl
@[simp] theorem ae0:Ox .non=true:=id rfl
@[simp] theorem an_{op:Im}{ms:MA}:vL op ms e M=(ms e M).bind op:=id rfl
@[simp] theorem aoa{T:String}{op:D→List D→Mem→Out D}{mo:ME}{ms:MA}:F_ T op mo ms e M=(mo e M).bind fun d M1=>if MK T d M1=true then(ms e M1).bind fun ds M2=>op d ds M2 else .bad:=id rfl
@[simp] theorem anY{m:ME}{lo hi:MO'}:MN m lo hi e M=(m e M).bind fun d M1=>(lo e M1).bind fun l M2=>(hi e M2).bind fun h M3=>FQ d l h M3:=id rfl
@[simp] theorem agL{m:ME}:pA m e M=(m e M).bind asI:=id rfl
@[simp] theorem adn:jy e M= .ok none M:=id rfl
@[simp] theorem alF{i:Int}:asI (.int i) M= .ok (some i) M:=id rfl
@[simp] theorem agQ{m:ME}:S7 m e M=(m e M).bind Vh:=id rfl
theorem zA{n:Nat}{ds:List D}(h:M[n]? = some (.lst ds)):Vh (.ref n) M= .ok ⟨some (n,ds),ds⟩ M:=by simp only[Vh,gG h]
@[simp] theorem agK{ms:MA}:S5 ms e M=(ms e M).bind N8:=id rfl
theorem N7{j:Int}(h: -(2 ^ 62)≤j)(h2:j<2 ^ 24):N8 [.int j] M= .ok ⟨none,Jf 0 j.toNat⟩ M:=by simp only[N8];rw[if_pos ⟨h,h2⟩]
@[simp] theorem agS{js:List Nat}{mi:MI}{tt:MT}{te:ME}:Ho js mi tt te e M=(mi e M).bind fun it M1=>yV it.src tt te (um js e) it.ds [] M1:=id rfl
@[simp] theorem aam:Cw e M= .ok true M:=id rfl
@[simp] theorem Lq{C:Int→Int→Bool}{g:Int→Int→D}{i j:Int}:PJ C g (.int i) (.int j) M=if C i j=true then .ok (g i j) M else .bad:=id rfl
@[simp] theorem afO{i j:Int}:d9 (.int i) (.int j) M= .ok (.int (i+j)) M:=id rfl
@[simp] theorem afD{i j:Int}:NP (.int i) (.int j) M= .ok (.int (i - j)) M:=id rfl
@[simp] theorem ajR{i j:Int}:WT (.int i) (.int j) M= .ok (.bl (decide (i<j))) M:=id rfl
@[simp] theorem afH{i j:Int}:NT (.int i) (.int j) M= .ok (.bl (decide (i≤j))) M:=id rfl
@[simp] theorem afK{i j:Int}:Ig (.int i) (.int j) M= .ok (.bl (decide (j<i))) M:=id rfl
@[simp] theorem afL{i j:Int}:Zx (.int i) (.int j) M= .ok (.bl (decide (j≤i))) M:=id rfl
theorem NQ{i j:Int}(h:(-(2 ^ 64)<i∧i<2 ^ 64)∨(-(2 ^ 64)<j∧j<2 ^ 64)):Ie (.int i) (.int j) M= .ok (.int (i*j)) M:=by
 refine t8 ?_;unfold WR;rw[Lq,if_pos (by unfold aez;exact decide_eq_true h)]
theorem WQ{a:Str}{n:Int}(ha:a.length≤1000)(h0: -(2 ^ 62)<n)(h1:n≤1000):Ie (.str a) (.int n) M= .ok (.str (PySem.Txt.mul a n)) M:=by
 refine(uH rfl).trans ?_;simp only[RV];rw[if_pos ⟨ha,h0,h1⟩]
theorem N5{i j:Int}(h:0<j)(h2:j<1073741824):Kq (.int i) (.int j) M= .ok (.int (i / j)) M:=by
 unfold Kq;rw[Lq,if_pos (by unfold aeA;exact decide_eq_true ⟨h,h2⟩)]
theorem GD{i j:Int}(h:0<j):nQ (.int i) (.int j) M= .ok (.int (i % j)) M:=by
 unfold nQ;rw[Lq,if_pos (by unfold ai0;exact decide_eq_true h)]
theorem WN{i j:Int}(h:0≤j∧j≤1000000∧i.natAbs<2 ^ 64):Ko (.int i) (.int j) M= .ok (.int (i ^ j.toNat)) M:=by
 unfold Ko;rw[Lq,if_pos (by unfold YC;exact decide_eq_true h)]
@[simp] theorem afF{i:Int}:Zu (.int i) M= .ok (.int (-i)) M:=id rfl
theorem D_{d d':D}{a b:Dt}(h:lK M 12 d=some a)(h':lK M 12 d'=some b):Rc M d d'=some (cJ a b):=by unfold Rc;rw[h,h']
theorem Du{d d':D}{b:Bool}(h:Rc M d d'=some b):sEq d d' M= .ok (.bl b) M:=by unfold sEq;rw[h]
theorem Kp{d d':D}{b:Bool}(h:Rc M d d'=some b):sNe d d' M= .ok (.bl (!b)) M:=by unfold sNe;rw[h]
theorem Tu{i j:Int}:Rc M (.int i) (.int j)=some (decide (i=j)):=by
 rw[D_ (a:= .int i) (b:= .int j) rfl rfl];unfold cJ;rw[Bool.beq_eq_decide_eq]
theorem Tt{i j:Str}:Rc M (.str i) (.str j)=some (decide (i=j)):=by
 rw[D_ (a:= .str i) (b:= .str j) rfl rfl];unfold cJ;rw[Bool.beq_eq_decide_eq]
@[simp] theorem ajW{i j:Int}:sEq (.int i) (.int j) M= .ok (.bl (decide (i=j))) M:=Du Tu
@[simp] theorem RT{i j:Int}:sNe (.int i) (.int j) M= .ok (.bl (!decide (i=j))) M:=Kp Tu
@[simp] theorem ajV{i j:Str}:sEq (.str i) (.str j) M= .ok (.bl (decide (i=j))) M:=Du Tt
@[simp] theorem ajQ{i j:Str}:sNe (.str i) (.str j) M= .ok (.bl (!decide (i=j))) M:=Kp Tt
@[simp] theorem ajT{d:D}:sIs d .non M= .ok (.bl (Jp d)) M:=id rfl
@[simp] theorem acf{d:D}:Qv d .non M= .ok (.bl (!Jp d)) M:=id rfl
@[simp] theorem akT{i:Int}:Jp (.int i)=false:=id rfl
theorem Mp{α:Type}{xs:List α}{k:Int}(h:0≤k):Mr xs k=xs[k.toNat]? := by
 unfold Mr YM
 rw[if_pos h]
 by_cases z:k<xs.length
 ·rw[if_pos z];rfl
 ·rw[if_neg z]
  show none=_
  rw[List.getElem?_eq_none (by omega)]
theorem Ab{ds:List D}{k:Int}{d:D}(h0:0≤k)(h:ds[k.toNat]? = some d):bh (.tup ds) (.int k) M= .ok d M:=
 t8 (t8 (by simp only[Qu,Mp h0,h]))
theorem acd{ds:List D}{k:Int}{d:D}(h0:0≤k)(h:ds[k.toNat]? = some d):bh (.cl ds) (.int k) M= .ok d M:=
 t8 (t8 (by simp only[Qu,Aj,Mp h0,h]))
theorem qR{n:Nat}{ds:List D}{k:Int}{d:D}(hM:M[n]? = some (.lst ds))(h0:0≤k)(h:ds[k.toNat]? = some d):bh (.ref n) (.int k) M= .ok d M:=
 t8 (t8 (by simp only[Qu,Aj,gG hM,Mp h0,h]))
@[simp] theorem uB{d:D}{r:List D}:bh (.tup (d::r)) (.int 0) M= .ok d M:=Ab (by decide) rfl
@[simp] theorem NZ{d0 d:D}{r:List D}:bh (.tup (d0::d::r)) (.int 1) M= .ok d M:=Ab (by decide) rfl
@[simp] theorem afJ{d0 d1 d:D}{r:List D}:bh (.tup (d0::d1::d::r)) (.int 2) M= .ok d M:=Ab (by decide) rfl
theorem uA{n:Nat}{ds:List D}(hM:M[n]? = some (.lst ds)):qD [.ref n] M= .ok (.int ds.length) M:=Xn (Xn (by simp only[R8,yD,Aj,gG hM]))
@[simp] theorem ajS{ds:List D}:qD [.cl ds] M= .ok (.int ds.length) M:=id rfl
theorem Je{n:Nat}{ds:List D}(hM:M[n]? = some (.lst ds)):GF [.ref n] M= .ok (.ref M.length) (M++[.lst ds]):=by simp only[GF,yD,Aj,gG hM]
theorem qC{n:Nat}{ds:List D}(hM:M[n]? = some (.lst ds)):vR [.ref n] M= .ok (.tup ds) M:=by simp only[vR,yD,Aj,gG hM]
theorem Aa{n:Nat}{ds:List D}{lo hi:Option Int}(hM:M[n]? = some (.lst ds)):FQ (.ref n) lo hi M= .ok (.ref M.length) (M++[.lst (cut ds lo hi)]):=by simp only[FQ,Aj,gG hM]
theorem jK{n:Nat}{ds:List D}{d:D}(hM:M[n]? = some (.lst ds))(h:ds.length<16777216):jY (.ref n) [d] M= .ok .non (M.set n (.lst (ds++[d]))):=by
 simp only[jY,hM];rw[nu,if_pos h]
theorem pI{n:Nat}{ds:List D}(hM:M[n]? = some (.lst ds)):MK "list" (.ref n) M=true:=by simp[MK,gG hM]
theorem uD{n m:Nat}{ds es:List D}(h:M[n]? = some (.lst ds))(h':M[m]? = some (.lst es))(hl:ds.length+es.length≤16777216):d9 (.ref n) (.ref m) M= .ok (.ref M.length) (M++[.lst (ds++es)]):=by
 refine t8 ((uH rfl).trans ?_)
 unfold Zz
 simp only[h,h']
 rw[if_pos (by rw[nu];exact hl)]
@[simp] theorem aeP{i j:Int}:RX [.int i,.int j] M= .ok (.int (if j > i then j else i)) M:=id rfl
@[simp] theorem aeO{i j:Int}:RW [.int i,.int j] M= .ok (.int (if j<i then j else i)) M:=id rfl
@[simp] theorem YK{i:Int}:Ak [.int i,.ty "bool"] M= .ok (.bl false) M:=by unfold Ak;rfl
@[simp] theorem afE:dI e M= .next e M:=id rfl
def kh.seq(o:kh)(t:MS):kh:=match o with
 | .next e M=>t e M
 | .ret d M=> .ret d M
 | .brk e M=> .brk e M
 | .cont e M=> .cont e M
 | .exc c d e M=> .exc c d e M
 | .bad=> .bad
@[simp] theorem Zt{s t:MS}:aX s t e M=(s e M).seq t:=by
 unfold aX kh.seq
 cases s e M<;>rfl
@[simp] theorem Wz{t:MS}:(kh.next e M).seq t=t e M:=id rfl
@[simp] theorem ajN{t:MS}{d:D}:(kh.ret d M).seq t= .ret d M:=id rfl
@[simp] theorem ajO{t:MS}{c:Nat}{d:D}:(kh.exc c d e M).seq t= .exc c d e M:=id rfl
@[simp] theorem afN{m:ME}:pN m e M=Cd e (m e M) fun _ M1=> .next e M1:=id rfl
@[simp] theorem ajP{m:ME}:fK m e M=Cd e (m e M) fun d M1=> .ret d M1:=id rfl
@[simp] theorem amA{c:MT}{s t:MS}:vG c s t e M=Cd e (c e M) fun k M1=>if k=true then s e M1 else t e M1:=id rfl
def tgO(o:Option Sl)(M:Mem):kh:=match o with
 | some e'=> .next e' M
 | none=> .bad
@[simp] theorem V9:tgO (some e) M= .next e M:=id rfl
@[simp] theorem ZC{m:ME}{g:Tg}:cC m g e M=Cd e (m e M) fun d M1=>tgO (g d e) M1:=by
 unfold cC tgO;rfl
@[simp] theorem ahF{i:Nat}{d:D}:gN i d e=some (e.set i (some d)):=id rfl
@[simp] theorem apw{n:Nat}{gs:YT}{ds:List D}:gT n gs (.tup ds) e=if ds.length=n then gs ds e else none:=id rfl
@[simp] theorem ahG{g:Tg}{gs:YT}{d:D}{ds:List D}:Bc g gs (d::ds) e=(g d e).bind fun e'=>gs ds e':=id rfl
@[simp] theorem akZ:Tp [] e=some e:=id rfl
def Va(o:Option Mem)(e:Sl):kh:=match o with
 | some M=> .next e M
 | none=> .bad
@[simp] theorem aeV:Va (some M) e= .next e M:=id rfl
@[simp] theorem afM{cs:List Nat}{mo mv:ME}{f:Str}:vH cs mo mv f e M=Cd e (mv e M) fun d M1=>Cd e (mo e M1) fun o M2=>Va (rD cs f d o M2) e:=by
 unfold vH Va;rfl
theorem pO{cs:List Nat}{f:Str}{d:D}{n c:Nat}{fs:List (Str×D)}(h:M[n]? = some (.ins c fs))(hc:c∈cs)(hl:fs.length<1000):rD cs f d (.ref n) M=some (M.set n (.ins c (putD f d fs))):=by
 unfold rD;simp only[h];rw[if_pos ⟨hc,hl⟩]
@[simp] theorem ajU{mi:MI}{g:Tg}{b:MS}:Zy mi g b e M=Cd e (mi e M) fun it M1=>tV it.src g b it.ds e M1:=id rfl
@[simp] theorem Ql{n:Nat}{d:D}{ds:List D}:slots (n+1) (d::ds)=some d::slots n ds:=by
 unfold slots
 simp
@[simp] theorem Qk{n:Nat}:slots (n+1) []=none::slots n []:=by
 unfold slots
 simp[List.replicate_succ]
@[simp] theorem Qj:slots 0 []=[]:=id rfl
def W5(o:kh):Out D:=match o with
 | .ret d M=> .ok d M
 | .next _ M=> .ok .non M
 | .exc c d _ M=> .exc c d M
 | _=> .bad
@[simp] theorem ZD{n:Nat}{b:MS}{ds:List D}:cu n b ds M=W5 (b (slots n ds) M):=by
 unfold cu W5
 cases b (slots n ds) M<;>rfl
@[simp] theorem afR{d:D}:W5 (.ret d M)= .ok d M:=id rfl
@[simp] theorem afS{c:Nat}{d:D}:W5 (.exc c d e M)= .exc c d M:=id rfl
@[simp] theorem aeS:W5 (.next e M)= .ok .non M:=id rfl
end
def kh.to(o:kh)(P:Sl→Mem→Prop)(R:D→Mem→Prop):Prop:=match o with
 | .next e M=>P e M
 | .cont e M=>P e M
 | .ret d M=>R d M
 | _=>False
@[simp] theorem ajK{e:Sl}{M:Mem}{P:Sl→Mem→Prop}{R:D→Mem→Prop}:(kh.next e M).to P R=P e M:=id rfl
theorem Jw{src:Option (Nat×List D)}{g:Tg}{b:MS}(P:Nat→Sl→Mem→Prop){R:D→Mem→Prop}:∀(ds:List D) (k:Nat) {e:Sl} {M:Mem},P k e M→
  (∀i e M,k≤i→i≤k+ds.length→P i e M→oK src M)→
  (∀i d e M,ds[i]? = some d→P (k+i) e M→∃e1,g d e=some e1∧(b e1 M).to (P (k+i+1)) R)→
  (∃e' M',tV src g b ds e M= .next e' M'∧P (k+ds.length) e' M')∨∃r M',tV src g b ds e M= .ret r M'∧R r M'
 | [],k,e,M,h0,hs,_=> .inl ⟨e,M,by unfold tV;rw[if_pos (hs k e M (Nat.le_refl _) (Nat.le_refl _) h0)],h0⟩
 | d::ds,k,e,M,h0,hs,hb=>by
  unfold tV
  rw[if_pos (hs k e M (Nat.le_refl _) (Nat.le_add_right _ _) h0)]
  obtain⟨e1,hg,h⟩:=hb 0 d e M rfl h0
  rw[hg]
  have go:∀{e2:Sl} {M2:Mem},P (k+1) e2 M2→(∃e' M',tV src g b ds e2 M2= .next e' M'∧P (k+(d::ds).length) e' M')∨∃r M',tV src g b ds e2 M2= .ret r M'∧R r M':=fun{e2 M2} p=>by
   have go:=Jw (src:=src) (g:=g) (b:=b) P (R:=R) ds (k+1) (e:=e2) (M:=M2) p
    (fun i e M h1 h2=>hs i e M (by omega) (by simp only[List.length_cons];omega)) (fun i d e M hd hp=>by
     have e4:k+(i+1)=k+1+i:=by omega
     have:=hb (i+1) d e M (by simpa using hd) (by rw[e4];exact hp)
     rw[e4]at this
     exact this)
   have el:k+1+ds.length=k+(d::ds).length:=by simp only[List.length_cons];omega
   rw[el]at go
   exact go
  cases z:b e1 M with
  | next e2 M2=>rw[z]at h;simp only[z];exact go h
  | cont e2 M2=>rw[z]at h;simp only[z];exact go h
  | ret r M2=>rw[z]at h;simp only[z];exact .inr ⟨r,M2,rfl,h⟩
  | brk _ _=>rw[z]at h;exact h.elim
  | exc _ _ _ _=>rw[z]at h;exact h.elim
  | bad=>rw[z]at h;exact h.elim
theorem Jx{src:Option (Nat×List D)}{g:Tg}{b:MS}(P:Nat→Sl→Mem→Prop){ds:List D}{e:Sl}{M:Mem}(h0:P 0 e M)
  (hs:∀i e M,i≤ds.length→P i e M→oK src M)
  (hb:∀i d e M,ds[i]? = some d→P i e M→∃e1,g d e=some e1∧(b e1 M).to (P (i+1)) fun _ _=>False):
  ∃e' M',tV src g b ds e M= .next e' M'∧P ds.length e' M':=by
 rcases Jw (src:=src) (g:=g) (b:=b) P (R:=fun _ _=>False) ds 0 h0 (fun i e M _ h2=>hs i e M (by omega)) (fun i d e M hd hp=>by
  rw[Nat.zero_add]at hp ⊢
  exact hb i d e M hd hp)with h | ⟨_,_,_,h⟩
 ·simpa using h
 ·exact h.elim
theorem Yu{src:Option (Nat×List D)}{te:ME}{ce:Sl}{M:Mem}(f:D→D){ds:List D}(hs:oK src M)(hf:∀d∈ds,te (some d::ce) M= .ok (f d) M):yV src Cw te ce ds [] M= .ok (.ref M.length) (M++[.lst (ds.map f)]):=by
 have key:∀(ds ys:List D),(∀d∈ds,te (some d::ce) M= .ok (f d) M)→yV src Cw te ce ds ys M= .ok (.ref M.length) (M++[.lst (ys++ds.map f)]):=by
  intro ds
  induction ds with
  | nil=>intro ys _;unfold yV;rw[if_pos hs];simp
  | cons d r ih=>
   intro ys h
   unfold yV
   rw[if_pos hs,aam,G8,Out.fY]
   simp only[if_true]
   rw[h d List.mem_cons_self,G8,Out.fY,ih _ fun x hx=>h x (List.mem_cons_of_mem _ hx)]
   simp
 have:=key ds [] hf
 simpa using this
theorem Sh{lo:Int}{n i:Nat}{d:D}(h:(Jf lo n)[i]? = some d):i<n∧d= .int (lo+i):=by
 unfold Jf at h
 rw[List.getElem?_map]at h
 obtain⟨k,hk,rfl⟩:=Option.map_eq_some_iff.mp h
 obtain⟨hi,e⟩:=List.getElem?_eq_some_iff.mp hk
 simp at hi e
 exact⟨hi,by rw[←e]⟩
theorem ZF{lo:Int}{n:Nat}:(Jf lo n).length=n:=by simp[Jf]
end S
namespace S
open PySem PySem.Spec PyProof.Rows L2
section
variable{X:Cx}{ct:Nat→Addr}{W:bD}
def Fg:List D→Option Bool
 | []=>some true
 | .bl b::r=>(Fg r).map fun k=>b&&k
 | _=>none
theorem Pg:∀{ds:List D} {k:Bool},Fg ds=some k→∃bs:List Bool,ds=bs.map D.bl∧k=bs.all id
 | [],k,h=>by cases h;exact⟨[],rfl,rfl⟩
 | d::r,k,h=>by
  cases d with
  | bl b=>
   simp only[Fg]at h
   obtain⟨k',h1,rfl⟩:=Option.map_eq_some_iff.mp h
   obtain⟨bs,rfl,rfl⟩:=Pg h1
   exact⟨b::bs,rfl,rfl⟩
  | _=>simp only[Fg]at h;cases h
theorem Tw{K:PySem.W.Frag}{ι:Nat→Addr}{n:Nat}{H:Hp}:∀{bs:List Bool} {vs:List V},o4 K ct ι n H (bs.map D.bl) vs→vs=bs.map V.bl
 | [],_,.nil=>rfl
 | b::bs,_,.cons h hs=>by cases h;rw[Tw hs];rfl
theorem YD(bs:List Bool):(List.range bs.length).all (fun j=>bs.getD j true)=bs.all id:=by
 rw[Bool.eq_iff_iff,List.all_eq_true,List.all_eq_true]
 constructor
 ·intro h b hb
  obtain⟨j,hj,e⟩:=List.mem_iff_getElem.mp hb
  have:=h j (List.mem_range.mpr hj)
  rw[List.getD_eq_getElem?_getD,List.getElem?_eq_getElem hj]at this
  rw[←e]
  exact this
 ·intro h j hj
  have hj':=List.mem_range.mp hj
  rw[List.getD_eq_getElem?_getD,List.getElem?_eq_getElem hj']
  exact h _ (List.getElem_mem hj')
theorem Vw(hc:X.calm=true):oN X (.builtin "all") (fun xs H Q=>∃(a:Addr) (bs:List Bool),xs=[.ref a]∧yC X.K H a (bs.map V.bl)∧Q (.bl (bs.all id)) H):=by
 intro pins s σ H xs us Q I r h
 obtain⟨a,bs,rfl,hq,q⟩:=h
 obtain⟨u,rfl,ru⟩:=vals1 r
 cases(show u=Value.ref a from ru)
 obtain⟨its,rv,p,hz⟩:=I.list hq
 have hlt:a<s.heap.objs.size:=by obtain⟨o,n,e,_⟩:=p;exact Heap.lt_size e
 have hl:its.length=bs.length:=by rw[←rv.length,List.length_map]
 refine call_all_walk (wpAny_pyIter_list p.isList ⟨s.heap.objs.size,[s.heap.objs.size,a],[s.heap.objs.size],its.toArray.size,fun i v=>its.toArray[i]? = some v,_,fun j=>bs.getD j true,rfl,
  Walks.list (A:=X.A.in1) (I.ok.hd hc) s.heap.objs.size a (Nat.ne_of_lt hlt) its.toArray,⟨⟨_,Heap.get?_push_size _ rfl,rfl,rfl⟩,p.isList.push _⟩,?_,fun h' tk hk=> ?_⟩)
 ·intro i v s' Q' E' hP hQ
  have hP':its[i]? = some v:=by simpa using hP
  have hi:i<its.length:=(List.getElem?_eq_some_iff.mp hP').1
  have hb:bs[i]? = some bs[i]:=List.getElem?_eq_getElem (by omega)
  obtain⟨u,hu,ru⟩:=rv.get (i:=i) (x:=V.bl bs[i]) (by rw[List.getElem?_map,hb];rfl)
  rw[hP']at hu
  cases hu
  cases ru
  refine wpAny_truthy_bool ?_
  have e:bs.getD i true=bs[i]:=by rw[List.getD_eq_getElem?_getD,hb];rfl
  rw[←e]
  exact hQ
 ·have e:(List.range its.toArray.size).all (fun j=>bs.getD j true)=bs.all id:=by
   rw[List.size_toArray,hl]
   exact YD bs
  rw[e]
  exact⟨.bl _,H,I.kept fun b o eb=>hk b o (by simp;exact Nat.ne_of_lt (Heap.lt_size eb)) (Heap.get?_push_of_some _ eb),rfl,q⟩
def W2:Im:=fun ds M=>match ds with
 | [d]=>match Aj M d with
  | some es=>match Fg es with
   | some k=> .ok (.bl k) M
   | none=> .bad
  | none=> .bad
 | _=> .bad
theorem adQ(hc:X.calm=true):qm X ct (.builtin "all") W2:=by
 refine⟨_,Vw hc,fun ι M H ds vs Q R h p=> ?_⟩
 unfold W2 at p
 split at p
 ·rename_i d
  obtain⟨v,rfl,q⟩:=wQ h
  cases z:Aj M d with
  | none=>rw[z]at p;exact p.elim
  | some es=>
   rw[z]at p
   dsimp only at p
   obtain⟨a,xs,rfl,hs,hd⟩:=R.seq z q
   cases z2:Fg es with
   | none=>rw[z2]at p;exact p.elim
   | some k=>
    rw[z2]at p
    obtain⟨bs,rfl,rfl⟩:=Pg z2
    rw[Tw hd]at hs
    exact⟨a,bs,rfl,hs,p ι _ H .refl R (.bl _)⟩
 ·exact p.elim
theorem Vy(bs:List Bool):Fg (bs.map D.bl)=some (bs.all id):=by
 induction bs with
 | nil=>rfl
 | cons b r ih=>simp[Fg,ih]
theorem WY{M:Mem}{n:Nat}{bs:List Bool}(h:M[n]? = some (.lst (bs.map D.bl))):W2 [.ref n] M= .ok (.bl (bs.all id)) M:=by
 simp only[W2,Aj,gG h,Vy]
end
end S
namespace S
open PySem PySem.Spec PyProof.Rows L2
section
variable{X:Cx}{ct:Nat→Addr}{W:bD}
end
end S
namespace S
open PySem PySem.Spec PyProof.Rows L2
section
variable{X:Cx}{ct:Nat→Addr}{W:bD}
def one(ds:List D)(c:Nat)(e:Sl)(M:Mem):kh:=match ds with
 | [d]=> .exc c d e M
 | _=> .bad
def Qs(c:Nat)(ms:MA):MS:=fun e M=>Cd e (ms e M) fun ds M1=>one ds c e M1
theorem jB{c k:Nat}{f:Addr}{fd:FuncData}{ps:List Str}{x:Str}{np cpos pos:Pos}{arg:Expr}{ms:MA}(Mx:XMk X.K (ct c) f)(hX:Dc X.K (ct c) "at")(F:bx X.prog X.w X.K X.mg X.base Rx k f fd ps (z9 X.K "at"))(hr:lq (k+1) X.A)(hb:Binds X.K fd ps [])
  (hg:Gl X x) (hm:X.mg x=some (.ref (ct c))) (hc:X.calm=true) (hW:Tk X W) (ha:SA X ct W [arg] ms) (hdb:(x==("__debug__" : Str))=false:=by decide) (he:starEach [arg] X.env=[(false,eval arg X.env)]:=by rfl):
  SS X ct W (.Raise (some (.Call (.Name x np) [arg] [] cpos)) none pos) (Qs c ms):=PS.imp (Xb Mx hX F hr hb hg hm hc hW ha hdb he) fun T σ H q=>by
 obtain⟨ι,e,M,w,p⟩:=vB (rel:=Fo X.K ct) (f:=fun ds e M1=>one ds c e M1) q
 refine⟨ι,e,M,w,p.mono fun vs H1 ⟨gF,e1,M1,ds,w1,q1,p1⟩=> ?_⟩
 unfold one at p1
 split at p1
 ·rename_i d
  obtain⟨v,rfl,qv⟩:=wQ q1
  refine⟨v,rfl,fun dx hd=> ?_⟩
  have x2:Ext X.K gF M1.length H1 gF M1.length (upd H1 dx (.xd [("at",v)])):=Ext.fresh hd
  exact p1 gF σ dx v _ x2 (w1.ext x2 (w1.rl.fresh hd)) dm (qv.mono x2)
 ·exact p1.elim
def T_(K:PySem.W.Frag)(ct:Nat→Addr)(cv:Value):List (Nat×Bool)→Prop
 | []=>True
 | (c,b)::r=>PySem.W.exmOne K (.ref (ct c)) cv=some b∧T_ K ct cv r
theorem T_.get{K:PySem.W.Frag}{cv:Value}:∀{cl:List (Nat×Bool)} {c:Nat} {b:Bool},T_ K ct cv cl→cl.lookup c=some b→PySem.W.exmOne K (.ref (ct c)) cv=some b
 | [],_,_,_,h=>by simp at h
 | (k,b')::r,c,b,⟨h1,h2⟩,h=>by
  rw[List.lookup_cons]at h
  cases z:c==k with
  | true=>rw[z]at h;cases h;cases(beq_iff_eq.mp z);exact h1
  | false=>rw[z]at h;exact h2.get h
def kh.noX(o:kh):kh:=match o with
 | .exc _ _ _ _=> .bad
 | o=>o
def kh.less(i:Nat)(o:kh):kh:=match o with
 | .next e M=> .next (e.set i none) M
 | .brk e M=> .brk (e.set i none) M
 | .cont e M=> .cont (e.set i none) M
 | .ret d M=> .ret d M
 | .exc _ _ _ _=> .bad
 | .bad=> .bad
def Uj(cl:List (Nat×Bool))(h:Nat→D→Sl→Mem→kh)(o:kh):kh:=match o with
 | .exc c d e M=>match cl.lookup c with
  | some true=>h c d e M
  | some false=> .exc c d e M
  | none=> .bad
 | o=>o
def GC(i:Nat)(cl:List (Nat×Bool))(b s:MS):MS:=fun e M=>Uj cl (fun c d e' M'=>(s (e'.set i (some (.exc c d))) M').less i) (b e M)
theorem wW.less{K:PySem.W.Frag}{ι:Nat→Addr}{n i:Nat}{H:Hp}{o:kh}{T:Ends}(h:wW K ct W ι n H (o.less i) T):wW K ct W0 ι n H o (Ends.less T i):=by
 cases o with
 | exc c d e M=>exact False.elim h
 | next e M=>exact fun ι' σ' H' x w=>h ι' _ H' x (w.clear i)
 | ret e M=>exact h
 | brk e M=>exact fun ι' σ' H' x w=>h ι' _ H' x (w.clear i)
 | cont e M=>exact fun ι' σ' H' x w=>h ι' _ H' x (w.clear i)
 | bad=>exact h
variable{c:Str}{cp hpos pos:Pos}{b₀:Stmt}{suite body:List Stmt}{b s:MS}{cl:List (Nat×Bool)}{cv:Value}{v:V}
theorem Nz{i:Nat}{n:Str}(hst:X.stack=X.env::X.outer)(hf:X.env.frame=some X.env.locals)(hx:Tk X W)(hv:∀u,RelV v u→u=cv)(hn:∀e,PE (X.held e) (.Name c cp) (tC v))(hm:T_ X.K ct cv cl)
  (nd:X.N.Nodup) (hi:X.N[i]? = some n) (hl:X.env.scope.names.lookup n=some .local) (hk:X.env.kindOf n=some .local)
  (hb:∀pins W1,YG ((X.pp pins).wish (fH (X.pp pins) W1)) ct W1 body b) (hs:∀e,YG (X.held e) ct W0 (b₀::suite) s):
  SS X ct W (.Try body [.ExceptHandler (some (.Name c cp)) (some n) (b₀::suite) hpos] [] [] pos) (GC i cl b s):=
 PS.imp (Xa (tb:=fun W1=>tS X.K ct W1 b) (ts:=tS X.K ct W0 s) hst hf hx hv hn nd hi hl hk hb hs) fun T σ H ⟨ι,e,M,w,p⟩=>by
  refine⟨ι,e,M,w,?_⟩
  unfold GC at p
  cases z:b e M with
  | exc xc xd xe xM=>
   rw[z]at p
   simp only[Uj]at p
   cases z2:cl.lookup xc with
   | none=>simp only[z2]at p;exact p.elim
   | some k=>
    simp only[z2]at p
    have e2:=hm.get z2
    cases k with
    | false=>exact fun ι' σ' dx v' H' x w' q1 q2=>⟨false,e2,p ι' σ' dx v' H' x w' q1 q2⟩
    | true=>
     refine fun ι' σ' dx v' H' x w' q1 q2=>⟨true,e2,?_⟩
     show ∀a,H' a=none→_
     intro a ha
     have x2:Ext X.K ι' xM.length H' ι' xM.length (upd H' a (xC a (ct xc) dx)):=Ext.fresh ha
     have w2:=w'.ext x2 (w'.rl.fresh ha)
     have dvx:DV X.K ct ι' xM.length (upd H' a (xC a (ct xc) dx)) (.exc xc xd) (.ref a):= .exc dm (x2.xd _ _ q1) (q2.mono x2)
     exact⟨ι',_,xM,w2.set i dvx,(wW.less p).ext (x.trans x2)⟩
  | next _ _=>rw[z]at p;exact p
  | ret _ _=>rw[z]at p;exact p
  | brk _ _=>rw[z]at p;exact p
  | cont _ _=>rw[z]at p;exact p
  | bad=>rw[z]at p;exact p
def aa1(K:PySem.W.Frag)(ct:Nat→Addr):List Nat→Prop
 | []=>True
 | c::r=>(Dc K (ct c) "at" ∧ XIs K (ct c))∧aa1 K ct r
theorem aa1.get{K:PySem.W.Frag}:∀{cs:List Nat} {c:Nat},aa1 K ct cs→c∈cs→Dc K (ct c) "at" ∧ XIs K (ct c)
 | [],_,_,h=>by simp at h
 | c::cs,d,⟨a,r⟩,h=>by
  rcases List.mem_cons.mp h with e | e
  ·subst e;exact a
  ·exact r.get e
def Nb(cs:List Nat)(d:D)(M:Mem):Out D:=match d with
 | .exc c x=>if c∈cs then .ok x M else .bad
 | _=> .bad
def aak(cs:List Nat)(m:ME):ME:=fun e M=>(m e M).bind (Nb cs)
theorem WD{cs:List Nat}{a:Expr}{ma:ME}{pos:Pos}(hc:aa1 X.K ct cs)(ha:SE X ct W a ma)(hb:attributeBase a "at" X.env (eval a X.env)=eval a X.env:=by rfl):SE X ct W (.Attribute a "at" pos) (aak cs ma):=iz (acB ha hb) fun σ H Q q=>by
 obtain⟨ι,e,M,w,p⟩:=cQ (gZ:=d_ X.K ct) (f:=fun d _ M1=>Nb cs d M1) q
 refine⟨ι,e,M,w,p.mono fun x H1 ⟨gF,e1,M1,d,w1,q1,p1⟩=> ?_⟩
 cases q1 with
 | @exc a dx c d v h1 h2 h3=>
  simp only[Nb]at p1
  by_cases z:c∈cs
  ·rw[if_pos z]at p1
   exact⟨a,ct c,dx,_,v,rfl,h1,h2,(hc.get z).1,(hc.get z).2.gn,rfl,p1 gF v H1 .refl w1.rl h3⟩
  ·rw[if_neg z]at p1;exact p1.elim
 | _=>exact p1.elim
end
section
variable{e:Sl}{M:Mem}{c:Nat}{d:D}
@[simp] theorem amx{ms:MA}:Qs c ms e M=Cd e (ms e M) fun ds M1=>one ds c e M1:=id rfl
@[simp] theorem amL:one [d] c e M= .exc c d e M:=id rfl
@[simp] theorem aeN{i:Nat}{cl:List (Nat×Bool)}{b s:MS}:GC i cl b s e M=Uj cl (fun c d e' M'=>(s (e'.set i (some (.exc c d))) M').less i) (b e M):=id rfl
theorem Nk{cl:List (Nat×Bool)}{h:Nat→D→Sl→Mem→kh}(z:cl.lookup c=some true):Uj cl h (.exc c d e M)=h c d e M:=by simp only[Uj,z]
@[simp] theorem aeM{cl:List (Nat×Bool)}{h:Nat→D→Sl→Mem→kh}:Uj cl h (.next e M)= .next e M:=id rfl
@[simp] theorem aeZ{i:Nat}:(kh.next e M).less i= .next (e.set i none) M:=id rfl
@[simp] theorem ajY{cs:List Nat}{m:ME}:aak cs m e M=(m e M).bind (Nb cs):=id rfl
@[simp] theorem afb{cs:List Nat}:Nb cs (.exc c d) M=if c∈cs then .ok d M else .bad:=id rfl
end
end S
namespace S
open PySem PySem.Spec PyProof.Rows L2
section
variable{X:Cx}{ct:Nat→Addr}{W:bD}
end
end S
namespace S
open PySem L2
end S
namespace S
open PySem PySem.Spec PyProof.Rows L2
section
variable{X:Cx}{ct:Nat→Addr}{W:bD}{pos:Pos}
variable{o e f i value:Expr}{mo mk mx mv:ME}{apos cpos pos':Pos}
end
section
variable{e:Sl}{M:Mem}
end
end S
namespace S
open PySem L2
variable{M:Mem}
theorem W3{a b:Str}(h:a.length+b.length≤16777216):d9 (.str a) (.str b) M= .ok (.str (a++b)) M:=by
 refine(uH rfl).trans (t8 ?_)
 simp only[Sg]
 rw[if_pos (by rw[nu];exact h)]
theorem R9{a:Str}{k:Int}{c:Nat}(h0:0≤k)(h:a.cps.toList[k.toNat]? = some c)(hl:a.length≤16777216):bh (.str a) (.int k) M= .ok (.str ⟨#[c]⟩) M:=by
 refine(uH rfl).trans ?_
 simp only[Zv,Mp h0,h]
 rw[if_pos (by rw[nu];exact hl)]
end S
namespace S
open PySem PySem.Spec PyProof.Rows L2
section
variable{X:Cx}{ct:Nat→Addr}{W:bD}{pos:Pos}
variable{tg elt iter:Expr}{ifs:List Expr}{scope:Scope}{mi:MI}{g:Tg}{tt:MT}{te:ME}
end
section
variable{e:Sl}{M:Mem}
end
theorem Fd{src:Option (Nat×List D)}{tt:MT}{te:ME}{ce:Sl}{M:Mem}(c:D→Bool)(f:D→D):∀{ds ys:List D},oK src M→(∀d∈ds,tt (some d::ce) M= .ok (c d) M∧(c d=true→te (some d::ce) M= .ok (f d) M))→
  yV src tt te ce ds ys M= .ok (.ref M.length) (M++[.lst (ys++(ds.filter c).map f)])
 | [],ys,hs,_=>by unfold yV;rw[if_pos hs];simp
 | d::ds,ys,hs,h=>by
  unfold yV
  rw[if_pos hs]
  obtain⟨h2,h3⟩:=h d List.mem_cons_self
  have ih:=fun ys=>Fd (src:=src) (tt:=tt) (te:=te) (ce:=ce) (M:=M) c f (ds:=ds) (ys:=ys) hs fun d' hd'=>h d' (List.mem_cons_of_mem _ hd')
  simp only[h2,G8,Out.fY]
  cases z:c d with
  | true=>simp[h3 z,ih,z]
  | false=>simp[ih,z]
end S
namespace S
open PySem PySem.Spec PyProof.Rows L2
def lV:D→Option (List Int×Nat)
 | .int i=>some ([i],0)
 | .str s=>some (afo s,1)
 | .tup ds=>(sJ ds).map fun is=>(is,is.length+2)
 | _=>none
def uG:List D→Option (List Int×List Nat)
 | []=>some ([],[])
 | d::ds=>match lV d,uG ds with
  | some p,some q=>some (p.1++q.1,p.2::q.2)
  | _,_=>none
def Qy:D→Option (List Int×List Nat)
 | .tup ds=>uG ds
 | _=>none
def Vg(d:D):List Int:=match lV d with
 | some p=>p.1
 | none=>match Qy d with
  | some p=>p.1
  | none=>[]
theorem Nq:∀{a b:List Nat} {r r':List Int},a.map Int.ofNat++[-1]++r=b.map Int.ofNat++[-1]++r'→a=b∧r=r'
 | [],[],r,r',h=>by simpa using h
 | [],y::b,r,r',h=>by
  simp at h
 | x::a,[],r,r',h=>by
  simp at h
 | x::a,y::b,r,r',h=>by
  simp only[List.map_cons,List.cons_append]at h
  injection h with h1 h2
  obtain⟨e1,e2⟩:=Nq h2
  have:x=y:=Int.ofNat.inj h1
  exact⟨by rw[this,e1],e2⟩
theorem vA:∀{ds:List D} {is:List Int},sJ ds=some is→ds=is.map D.int
 | [],is,h=>by cases h;rfl
 | d::r,is,h=>by
  cases d with
  | int i=>
   simp only[sJ]at h
   obtain⟨js,h1,rfl⟩:=Option.map_eq_some_iff.mp h
   rw[vA h1];rfl
  | _=>simp[sJ]at h
theorem Oa{d d':D}{c c' r r':List Int}{k:Nat}(h:lV d=some (c,k))(h':lV d'=some (c',k))(e:c++r=c'++r'):d=d'∧r=r':=by
 cases d with
 | int i=>
  cases d' with
  | int j=>simp only[lV]at h h';cases h;cases h';simp at e;exact⟨by rw[e.1],e.2⟩
  | str s=>simp only[lV]at h h';cases h;cases h'
  | tup ds=>simp only[lV]at h h';cases h;obtain⟨is,_,q⟩:=Option.map_eq_some_iff.mp h';simp at q
  | _=>simp[lV]at h'
 | str s=>
  cases d' with
  | int j=>simp only[lV]at h h';cases h;cases h'
  | str s'=>
   simp only[lV]at h h'
   cases h;cases h'
   obtain⟨e1,e2⟩:=Nq e
   refine⟨?_,e2⟩
   cases s;cases s'
   simp at e1
   rw[e1]
  | tup ds=>simp only[lV]at h h';cases h;obtain⟨is,_,q⟩:=Option.map_eq_some_iff.mp h';simp at q
  | _=>simp[lV]at h'
 | tup ds=>
  simp only[lV]at h
  obtain⟨is,hi,q⟩:=Option.map_eq_some_iff.mp h
  simp at q
  obtain⟨rfl,rfl⟩:=q
  cases d' with
  | int j=>simp[lV]at h'
  | str s=>simp[lV]at h'
  | tup ds'=>
   simp only[lV]at h'
   obtain⟨js,hj,q⟩:=Option.map_eq_some_iff.mp h'
   simp at q
   obtain⟨rfl,ek⟩:=q
   obtain⟨e1,e2⟩:=List.append_inj e ek.symm
   rw[vA hi,vA hj,e1]
   exact⟨rfl,e2⟩
  | _=>simp[lV]at h'
 | _=>simp[lV]at h
theorem uo:∀{ds ds':List D} {c:List Int} {ks:List Nat},uG ds=some (c,ks)→uG ds'=some (c,ks)→ds=ds'
 | [],[],_,_,_,_=>rfl
 | [],d'::ds',c,ks,h,h'=>by
  simp only[uG]at h h'
  cases h
  split at h'<;>simp at h'
 | d::ds,[],c,ks,h,h'=>by
  simp only[uG]at h h'
  cases h'
  split at h<;>simp at h
 | d::ds,d'::ds',c,ks,h,h'=>by
  simp only[uG]at h h'
  split at h
  ·rename_i p q hp hq
   split at h'
   ·rename_i p' q' hp' hq'
    simp at h h'
    obtain⟨h1,h2⟩:=h
    obtain⟨h1',h2'⟩:=h'
    subst h1 h2
    simp at h2'
    obtain⟨e1,e2⟩:=Oa (d:=d) (d':=d') (k:=p.2) (by rw[hp]) (by rw[hp',←h2'.1]) h1'.symm
    have:=uo (ds:=ds) (ds':=ds') (c:=q.1) (ks:=q.2) (by rw[hq]) (by rw[hq',e2,←h2'.2])
    rw[e1,this]
   ·cases h'
  ·cases h
inductive Srt (ds:List D):Prop
 | flat (k:Nat) (hk:k<2) (h:∀d∈ds,∃c,lV d=some (c,k)):Srt ds
 | rows (k:Nat) (ks:List Nat) (h:∀d∈ds,∃c,Qy d=some (c,k::ks)):Srt ds
theorem Ot{d:D}{c:List Int}{k:Nat}(h:lV d=some (c,k)):Vg d=c:=by unfold Vg;rw[h]
theorem GQ:∀{is:List Int},uG (is.map D.int)=some (is,is.map fun _=>0)
 | []=>rfl
 | i::is=>by
  have:=GQ (is:=is)
  simp only[List.map_cons,uG,lV,this]
  rfl
theorem Td{d:D}{c:List Int}{ks:List Nat}(h:Qy d=some (c,ks)):Vg d=c:=by
 cases d with
 | tup ds=>
  unfold Vg
  cases z:lV (.tup ds)with
  | none=>dsimp only;rw[h]
  | some p=>
   dsimp only
   simp only[lV]at z
   obtain⟨is,hi,q⟩:=Option.map_eq_some_iff.mp z
   rw[←q]
   simp only[Qy]at h
   rw[vA hi,GQ]at h
   simp at h
   exact h.1
 | _=>simp[Qy]at h
theorem Srt.inj{ds:List D}(h:Srt ds):∀a∈ds,∀b∈ds,Vg a=Vg b→a=b:=by
 intro a ha b hb e
 cases h with
 | flat k hk h=>
  obtain⟨c,h1⟩:=h a ha
  obtain⟨c',h2⟩:=h b hb
  rw[Ot h1,Ot h2]at e
  exact(Oa (r:=[]) (r':=[]) h1 h2 (by rw[e])).1
 | rows k ks h=>
  obtain⟨c,h1⟩:=h a ha
  obtain⟨c',h2⟩:=h b hb
  rw[Td h1,Td h2]at e
  subst e
  cases a with
  | tup xs=>cases b with
   | tup ys=>rw[uo (show uG xs=some (c,k::ks)from h1) (show uG ys=some (c,k::ks)from h2)]
   | _=>simp[Qy]at h2
  | _=>simp[Qy]at h1
open Classical in
section
variable{X:Cx}{ct:Nat→Addr}{W:bD}{pos:Pos}{K:PySem.W.Frag}{ι:Nat→Addr}{n:Nat}{H:Hp}
open Classical in
variable{o:Expr}{mo:ME}{apos p1 pos1:Pos}
end
section
variable{e:Sl}{M:Mem}
end
end S
namespace S
open PySem PySem.Spec PyProof.Rows L2
section
variable{X:Cx}{ct:Nat→Addr}{W:bD}{pos:Pos}{K:PySem.W.Frag}{ι:Nat→Addr}{n:Nat}{H:Hp}
variable{o:Expr}{mo:ME}{apos p1 pos1:Pos}
end
section
variable{e:Sl}{M:Mem}
end
end S
namespace L2
open PySem PySem.Spec PyProof.Rows
section
variable{X:Cx}
theorem Iz:∀{ws:List Str} {us:List Value},Vals (ws.map V.str) us→∃l:List (Str×Tok),us=strValues l∧l.map (·.1)=ws
 | [],_,.nil=>⟨[],rfl,rfl⟩
 | w::ws,_,.cons ⟨t,e⟩ r=>by
  obtain⟨l,e1,e2⟩:=Iz r
  subst e
  exact⟨(w,t)::l,by rw[e1];rfl,by rw[←e2];rfl⟩
theorem Ja:∀(l:List (Str×Tok)),Vals ((l.map (·.1)).map V.str) (strValues l)
 | []=> .nil
 | (_,t)::l=> .cons ⟨t,rfl⟩ (Ja l)
def rJoin:V→List V→Hp→VK→Prop:=fun x vs H Q=>∃y a ws,x= .str y∧vs=[.ref a]∧H a=some (.lst (ws.map V.str))∧JoinOk y ws=true∧Q (.str (Txt.join y ws)) H
theorem aaj:MtR X "str.join" rJoin:=by
 intro pins s σ H x vs v us Q I rx r h
 obtain⟨y,a,ws,rfl,rfl,hH,hk,q⟩:=h
 obtain⟨t,rfl⟩:=rx
 obtain⟨u,rfl,ru⟩:=vals1 r
 cases ru
 obtain⟨z,its,n,rv,hl,e⟩:=I.Vb hH
 obtain⟨l,rfl,rfl⟩:=Iz rv
 exact SC.join ⟨_,e,rfl,n,rfl⟩ rfl hk fun t' k=>⟨.str _,H,I.tok k,⟨_,rfl⟩,q⟩
theorem split_len(x y:Str):(Txt.split x y).length≤x.length+2:=by
 unfold Txt.split
 split
 ·simp
 ·split
  ·simp
  ·rw[length_partsBetween]
   have:=StrLaws.occ_length_le x y 0 x.length (x.length+1)
   omega
def acj:V→List V→Hp→VK→Prop:=fun x vs H Q=>∃y z,x= .str y∧vs=[.str z]∧y.length+2≤sizeLine∧(z.length==0)=false∧∀p,H p=none→Q (.ref p) (upd H p (.lst ((Txt.split y z).map V.str)))
theorem Xw:MtR X "str.split" acj:=by
 intro pins s σ H x vs v us Q I rx r h
 obtain⟨y,z,rfl,rfl,hl,hz,q⟩:=h
 obtain⟨t,rfl⟩:=rx
 obtain⟨u,rfl,t',rfl⟩:=vals1 r
 have fin:∀(l:List (Str×Tok)) (k:Nat),l.map (·.1)=Txt.split y z→EP X pins σ Q (.ref s.heap.objs.size) {s with heap:=s.heap.push {cls:= .type "list",data:= .seq (strValues l).toArray},toks:=k}:=fun l k e=>
  ⟨.ref _,_,I.agW (t':=k) (by rw[←e];exact Ja l) (by rw[List.length_map];exact Nat.le_trans (split_len y z) hl),rfl,q _ I.fresh⟩
 have adF:(Builtin.Str.partsBetween y (Builtin.Str.occurrences y z 0 y.length (y.length+1)) z.length).length≤sizeLine:=by
  rw[length_partsBetween]
  have:=StrLaws.occ_length_le y z 0 y.length (y.length+1)
  omega
 cases h1:(decide (y.length<z.length)||decide (Builtin.Str.strKind y<Builtin.Str.strKind z))with
 | true=>exact call_meets F.slot_str_split (typeIs_str _ _ _) F.entry_str_split (F.args_str_split_2 _ _) (meets_str_split_cannot_occur y z t t' h1) (fin [(y,t)] s.toks (if_pos h1).symm)
 | false=>
  have n1:=ne_true_of_eq_false h1
  cases h2:(Builtin.Str.occurrences y z 0 y.length (y.length+1)).isEmpty with
  | true=>exact call_meets F.slot_str_split (typeIs_str _ _ _) F.entry_str_split (F.args_str_split_2 _ _) (meets_str_split_not_found y z t t' h1 hz h2) (fin [(y,t)] s.toks ((if_neg n1).trans (if_pos h2)).symm)
  | false=>
   have n2:=ne_true_of_eq_false h2
   refine call_meets F.slot_str_split (typeIs_str _ _ _) F.entry_str_split (F.args_str_split_2 _ _) (meets_str_split_sep y z t t' h1 hz h2 (by omega) adF) ?_
   have:=fin (numbered s.toks (Builtin.Str.partsBetween y (Builtin.Str.occurrences y z 0 y.length (y.length+1)) z.length)) (s.toks+(Builtin.Str.partsBetween y (Builtin.Str.occurrences y z 0 y.length (y.length+1)) z.length).length) ((numbered_texts _ _).trans ((if_neg n1).trans (if_neg n2)).symm)
   rw[←strsFrom_eq]at this
   exact this
theorem U8:MtR X "str.startswith" (fun x vs H Q=>∃y z,x= .str y∧vs=[.str z]∧Q (.bl (Txt.startswith y z)) H):=by
 intro pins s σ H x vs v us Q I rx r h
 obtain⟨y,z,rfl,rfl,q⟩:=h
 obtain⟨t,rfl⟩:=rx
 obtain⟨u,rfl,t',rfl⟩:=vals1 r
 exact SC.startswith ⟨.bl _,H,I,rfl,q⟩
theorem Vp:oN X (.type "str") (fun xs H Q=>(∃i,xs=[.int i]∧i.natAbs.log2<1920∧Q (.str (toString i)) H)∨(∃z,xs=[.str z]∧Q (.str z) H)∨xs=[.non]∧Q (.str "None") H):=by
 intro pins s σ H xs us Q I r h
 rcases h with h | ⟨z,rfl,q⟩ | ⟨rfl,q⟩
 ·exact Mf pins s σ H xs us Q I r h
 ·obtain⟨u,rfl,t,rfl⟩:=vals1 r
  exact PySem.P.str_of_str ⟨.str z,H,I,⟨_,rfl⟩,q⟩
 ·obtain⟨u,rfl,ru⟩:=vals1 r
  cases ru
  exact PySem.P.str_of_none ⟨.str _,H,I.tok _,⟨_,rfl⟩,q⟩
theorem Vv:oN X (.type "int") (fun xs H Q=>(∃i,xs=[.int i]∧Q (.int i) H)∨(∃k,xs=[.bl k]∧Q (.int (if k then 1 else 0)) H)∨∃z n,xs=[.str z]∧PySem.intText? z=some n∧z.length≤640∧Q (.int n) H):=by
 intro pins s σ H xs us Q I r h
 rcases h with h | h | ⟨z,n,rfl,e,hl,q⟩
 ·exact JC pins s σ H xs us Q I r (.inl h)
 ·exact JC pins s σ H xs us Q I r (.inr h)
 ·obtain⟨u,rfl,t,rfl⟩:=vals1 r
  exact PySem.W.KIN.call_text e hl ⟨.int n,H,I.tok _,⟨_,rfl⟩,q⟩
theorem UW:wz X (compareOp .LtE) (fun x y H Q=>∃i j,x= .str i∧y= .str j∧Q (.bl (!(decide (j.cps.toList<i.cps.toList)))) H):=by
 intro pins s σ H x y v u Q I rx ry h
 obtain⟨i,j,rfl,rfl,q⟩:=h
 obtain⟨t,rfl⟩:=rx
 obtain⟨t',rfl⟩:=ry
 exact PySem.P.le_str (Hw I q rfl)
end
end L2
namespace TLe
open PySem PyProof.Rows PySem.SeqAt
open PySem.AutoSeq1 (wpAny_loadPart')
open PySem.MeetsSeq PySem.MeetsSeq2 PySem.MeetsSeq3
def VH:List Int→List Int→Bool
 | [],_=>true
 | _::_,[]=>false
 | x::xs,y::ys=>if x=y then VH xs ys else decide (x≤y)
theorem XN:∀{vs ws:List Value} {ns ms:List Int},IntsAre vs ns→IntsAre ws ms→vs.zip ws=[]→VH ns ms=decide (ns.length≤ms.length)
 | _,_,_,_,.nil,_,_=>by simp[VH]
 | _,_,_,_,.cons _ _ _,.nil,_=>by simp[VH]
 | _,_,_,_,.cons _ _ _,.cons _ _ _,h=>by rw[List.zip_cons_cons]at h;cases h
theorem agX(l b:Addr)(its its2:Array Value)(n n2:Nat)(dd dd2:Option Addr)(sl sl2:Array (Option Value))(ns ms:List Int)(hi:IntsAre its.toList ns)(hj:IntsAre its2.toList ms):
  Meets (Builtin.«tuple.__le__» ⟨[.ref l,.ref b],[]⟩)
   (fun _ R s=>s.heap.get? l=some {cls:= .type "tuple",dict:=dd,data:= .seq its n,slots:=sl}∧s.heap.get? b=some {cls:= .type "tuple",dict:=dd2,data:= .seq its2 n2,slots:=sl2}∧
    R (.ok (.ret (.bool (VH ns ms)))) s):=
 .of_wp fun prog w A R s h=>by
  obtain⟨hp,g,d,tk,os⟩:=s
  obtain⟨hl,hb,h⟩:=h
  have f2:=AutoSeq1.sub_tuple_tuple
  have z1:its.size=ns.length:=by rw[←hi.length];simp
  have z2:its2.size=ms.length:=by rw[←hj.length];simp
  wp_walk using wpAny_loadPart' hl,wpAny_loadPart' hb,wpAny_forIn_list _ (fun rest b s'=>b.1=none∧s'=⟨hp,g,d,tk,os⟩∧∃(vs ws:List Value) (ns' ms':List Int),rest=vs.zip ws∧
   IntsAre vs ns'∧IntsAre ws ms'∧ns'.length+its2.size=ms'.length+its.size∧R (.ok (.ret (.bool (VH ns' ms')))) ⟨hp,g,d,tk,os⟩) _
  case turn=>
   rintro⟨y,x⟩ rest b s' ⟨hb',rfl,vs,ws,ns',ms',hz,hvi,hwi,hlen,hR⟩
   cases hvi with
   | nil=>rw[List.zip_nil_left]at hz;cases hz
   | cons a t hv2=>
    cases hwi with
    | nil=>rw[List.zip_nil_right]at hz;cases hz
    | cons c u hw2=>
     rw[List.zip_cons_cons]at hz
     obtain⟨hyx,hrest⟩:=List.cons.inj hz
     cases hyx
     simp only[VH]at hR
     simp only[List.length_cons]at hlen
     by_cases hac:a=c
     ·rw[if_pos hac]at hR
      refine wpAny_bind ((SeqAt.EqAt.int_int a t c u:SeqAt.EqAt A.in1 ⟨hp,g,d,tk,os⟩ _ _ _) prog w _ _ ?_)
      rw[beq_iff_eq.mpr hac]
      wp_walk
      exact⟨rfl,rfl,_,_,_,_,hrest,hv2,hw2,by omega,hR⟩
     ·rw[if_neg hac]at hR
      refine wpAny_bind ((SeqAt.EqAt.int_int a t c u:SeqAt.EqAt A.in1 ⟨hp,g,d,tk,os⟩ _ _ _) prog w _ _ ?_)
      rw[beq_eq_false_iff_ne.mpr hac]
      have hri:∀(E:Value→Shared→Prop) (Q:Value→Shared→Prop),Q (.bool (decide (a≤c))) ⟨hp,g,d,tk,os⟩→wpAny (model prog w) A.in1 (richCompare .LtE (.int a t) (.int c u)) Q E ⟨hp,g,d,tk,os⟩:=fun E Q hq=>
       (PyProof.Rows.le_int hq:wpAny (model prog w) A.in1 (compareOp .LtE (.int a t) (.int c u)) Q E ⟨hp,g,d,tk,os⟩)
      wp_walk using hri
      exact⟨_,rfl,by simpa using hR⟩
  case fin=>
   rintro⟨b1,b2⟩ s' ⟨hb',rfl,vs,ws,ns',ms',hz,hvi,hwi,hlen,hR⟩
   simp only at hb'
   subst hb'
   have hv:VH ns' ms'=decide (its.size≤its2.size):=by
    rw[XN hvi hwi hz.symm]
    exact decide_eq_decide.mpr (by omega)
   rw[hv]at hR
   wp_walk
   exact⟨_,rfl,by simpa[Builtin.Tuple.tupleCompareSizes]using hR⟩
  case h=>
   exact⟨rfl,rfl,its.toList,its2.toList,ns,ms,rfl,hi,hj,by omega,h⟩
end TLe
namespace L2
open PySem PySem.Spec PyProof.Rows
section
variable{X:Cx}
theorem acY(hu:X.A.units<cLine):wz X (compareOp .LtE) (fun x y H Q=>∃a b ns ms,x= .ref a∧y= .ref b∧vh X.K H a (ns.map V.int)∧vh X.K H b (ms.map V.int)∧Q (.bl (TLe.VH ns ms)) H):=by
 intro pins s σ H x y v u Q I rx ry h
 obtain⟨a,b,ns,ms,rfl,rfl,ha,hb,q⟩:=h
 cases rx
 cases ry
 obtain⟨its,r1,p1,_⟩:=I.tuple ha
 obtain⟨its2,r2,p2,_⟩:=I.tuple hb
 obtain⟨⟨cls,dd,data,sl⟩,ho,hc,n,hd⟩:=id p1
 obtain⟨⟨cls2,dd2,data2,sl2⟩,ho2,hc2,n2,hd2⟩:=id p2
 simp only at hc hd hc2 hd2
 subst hc hd hc2 hd2
 exact richCompare_meets_room (op:= .LtE) ⟨_,ho,rfl⟩ ⟨_,ho2,rfl⟩ PySem.F.slot_tuple_le PySem.F.entry_tuple_le (PySem.F.args_tuple_le_2 _ _) (TLe.agX a b _ _ n n2 dd dd2 sl sl2 ns ms (intsAre_of r1) (intsAre_of r2))
  ⟨ho,ho2,show Value.bool (TLe.VH ns ms)≠Value.notImplemented∧EP X pins σ Q (.bool (TLe.VH ns ms)) s from⟨(fun x=>nomatch x),⟨.bl _,H,I,rfl,q⟩⟩⟩ hu
def Its(x:Str):It:=⟨fun i _=>i<x.length,fun i H v H'=>H'=H∧∃c,x.cps.toList[i]? = some c∧v= .str ⟨#[c]⟩,fun i _=>x.length≤i⟩
theorem Ue{P:Program}{w:World}{A:Around}(hh:A.handled=none)(it:Addr)(x:Str)(t:Tok):Walks P w A it [it] [it] x.cps.size (SignAt x) (fun i h=>h.IsStrIter it (strIterType x) x t i):=by
 unfold strIterType
 cases ha:x.cps.all (· < 128)
 ·simp only[Bool.false_eq_true,if_false];exact Walks.strWide hh it x t
 ·simp only[if_true];exact Walks.strAscii hh it x t
theorem Ny(x:Str):["enumerate","zip","dict_itemiterator","dict_reverseitemiterator","odict_iterator","itertools.zip_longest","itertools.pairwise"].contains (strIterType x)=false:=by
 unfold strIterType
 split<;>decide
theorem V7{P:Program}{w:World}{K:PySem.W.Frag}{tg:Expr}(it:Addr)(x:Str)(t:Tok):Turn P w K tg (Its x) [it] it (fun i h=>h.IsStrIter it (strIterType x) x t i) where
 mem:=by simp
 obj:=fun i h st b hb=>by
  have e:b=it:=by simpa using hb
  subst e
  obtain⟨o,e,c,d⟩:=st
  exact⟨o,e,fun v z=>by rw[d]at z;cases z⟩
 keep:=fun i h h' st k=>by
  obtain⟨o,e,r⟩:=st
  exact⟨o,k it (by simp) o e,r⟩
 item:=by
  intro X hP hw hK hc i pins s σ H E I hf st hg
  subst hP hw hK
  obtain⟨f0,f1,f2,f3,f4,f5⟩:=hf it (by simp)
  refine(Ue (I.ok.hd hc) it x t).item i s _ _ hg st fun v h' tk hv st' kk=> ?_
  obtain⟨c,u,hx,rfl⟩:=hv
  have I1:Inv X pins σ H {s with heap:=h',toks:=tk}:=I.turned (fun b o hb e=>kk b o (by simpa using hb) e) f0 f1 f3 f4 f5
  obtain⟨o,e,cc,d⟩:=id st'
  exact⟨_,rfl,Tj (s:={s with heap:=h',toks:=tk}) e cc d (Ny x) ⟨.str ⟨#[c]⟩,H,I1,⟨u,rfl⟩,⟨rfl,c,by rw[←hx,Array.getElem?_toList],rfl⟩,st',fun b hb=>(hf b hb).1⟩⟩
 done:=by
  intro X hP hw hK hc i pins s σ H E I hf st hg
  subst hP hw hK
  obtain⟨f0,f1,f2,f3,f4,f5⟩:=hf it (by simp)
  have hi:x.cps.size≤i:=hg
  obtain⟨o,e,cc,d⟩:=id st
  unfold strIterType at st
  split at st
  ·exact wpAny_pyNext_ascii_end (I.ok.hd hc) st (by simp[hi]) fun h' eb=>⟨rfl,I.turned (t':=s.toks) (fun b o hb e=>eb b o hb e) f0 f1 f3 f4 f5⟩
  ·exact wpAny_pyNext_wide_end (I.ok.hd hc) st (by simp[hi]) fun h' eb=>⟨rfl,I.turned (t':=s.toks) (fun b o hb e=>eb b o hb e) f0 f1 f3 f4 f5⟩
 self:=fun A i s Q E st h=>by
  unfold strIterType at st
  split at st
  ·exact wpAny_pyIter_striter_ascii st h
  ·exact wpAny_pyIter_striter_wide st h
theorem acy{tg l:Expr}{tl:TE}(hl:PE X l tl):PI X tg l (fun σ H R=>tl σ H fun x H1=>∃u,x= .str u∧R (Its u) H1):=by
 intro pins s σ H R I h
 refine iw (hl pins s σ H _ I h) fun v s1 ⟨x,H1,I1,r1,u,e,q⟩=> ?_
 subst e
 obtain⟨t,rfl⟩:=r1
 refine wpAny_pyIter_strU ?_
 refine⟨s1.heap.objs.size,[s1.heap.objs.size],_,_,H1,rfl,I1.kept (t':=s1.toks) fun b o e=>Heap.get?_push_of_some _ e,V7 _ u t,⟨_,Heap.get?_push_size _ rfl,rfl,rfl⟩,fun b hb=> ?_,q⟩
 have e:b=s1.heap.objs.size:=by simpa using hb
 subst e
 exact I1.aaC (Nat.le_refl _) (I1.hok.fresh (Nat.le_refl _))
def afI(td ty tv:TE):TS:=fun D σ H=>tv σ H fun v H1=>td σ H1 fun x H2=>ty σ H2 fun y H3=>abl x y v H3 fun H4=>D.nx σ H4
theorem ZW{o i value:Expr}{td ty tv:TE}{pos pos':Pos}(ho:PE X o td)(hi:PE X i ty)(hv:PE X value tv)(hs:swapsWith value (some (.Subscript o i pos')) pos.line X.env=pure false):PS X (.Assign [.Subscript o i pos'] value pos) (afI td ty tv):=by
 intro pins s σ H D I h
 refine wpAny_Assign_Subscript (iw (hv pins s σ H _ I h) fun r t1 ⟨v,H1,I1,rv,q1⟩=>iw (ho pins t1 σ H1 _ I1 q1) fun u t2 ⟨x,H2,I2,rx,q2⟩=>iw (hi pins t2 σ H2 _ I2 q2) fun iv t3 ⟨y,H3,I3,ry,q3⟩=> ?_) hs
 exact iw (set_list pins t3 σ H3 x y v u iv r _ I3 rx ry rv q3) fun _ t4 ⟨H4,I4,q4⟩=>⟨σ,H4,I4,q4⟩
end
end L2
namespace L2
open PySem PySem.Spec PyProof.Rows
def aeG(K:PySem.W.Frag)(a:Addr)(T:List (Str×Int)):Prop:=(a==sysModules)=false∧∃o es ep,K.lookup a=some o∧o.ExactDict∧o.data= .dict es ep∧PyProof.Rows.KTD.Rows (fun i v=>∃t,v=Value.int i t) es.toList T
def Di(k:Str):List (Str×Int)→V
 | []=> .non
 | (x,i)::T=>if decide (k=x)=true then .int i else Di k T
section
variable{X:Cx}{o e:Expr}{apos cpos:Pos}{td ty:TE}
theorem Nr{h:Heap}{k:Str}{P:Value→Prop}:∀{T:List (Str×Int)},(∀v,RelV (Di k T) v→P v)→PyProof.Rows.KTD.Each h k P (P .none) (T.map fun p=>(p.1,PyProof.Rows.KTD.Dat.flat (PyData.int p.2)))
 | [],hp=>hp .none rfl
 | (x,i)::T,hp=>by
  show if decide (k=x)=true then _ else _
  unfold Di at hp
  by_cases hk:decide (k=x)=true
  ·rw[if_pos hk]at hp ⊢
   exact fun t=>hp _ ⟨t,rfl⟩
  ·rw[if_neg hk]at hp ⊢
   exact Nr hp
def aft(K:PySem.W.Frag)(td ty:TE):TE:=fun σ H Q=>td σ H fun x H1=>∃a T,x= .ref a∧aeG K a T∧ty σ H1 fun y H2=>∃k,y= .str k∧Q (Di k T) H2
theorem Z5(ho:PE X o td)(he:PE X e ty)(m:M1 X o "get" apos e cpos):PE X (.Call (.Attribute o "get" apos) [e] [] cpos) (aft X.K td ty):=by
 intro pins s σ H Q I h
 refine wpAny_Call_method m.base m.few m.line PySem.F.plainAttrs_dict PySem.F.slot_dict_get PySem.F.type_dict_get (iw (ho pins s σ H _ I h) fun u t ⟨x,H1,I1,rx,a,T,ex,tb,q1⟩=> ?_)
 subst ex
 obtain rfl:u=Value.ref a:=rx
 obtain⟨hs,ob,es,ep,ho',hx,hd,hr⟩:=tb
 have here:∀(h:Heap),X.K.In h→PyProof.Rows.KTD.Here h h a (T.map fun p=>(p.1,PyProof.Rows.KTD.Dat.flat (PyData.int p.2))):=fun h hk=>
  ⟨⟨hs,ob,es,ep,hk _ _ ho',hx,hd,hr.mono (R':=PyProof.Rows.KTD.Dat.At h) (f:=fun i=>PyProof.Rows.KTD.Dat.flat (PyData.int i)) fun i v ⟨t,e⟩=>by subst e;exact .int i t⟩,fun _ _ z=>z⟩
 refine⟨(here _ I1.ye).typeIs,(here _ I1.ye).noDict,?_⟩
 rw[m.trees]
 refine Calls.callWith_builtin rfl (Calls.evalArgs_plain (Calls.spliced_cons (iw (he pins t σ H1 _ I1 q1) fun iv t2 ⟨y,H2,I2,ry,k,ek,q2⟩=>Calls.spliced_nil ?_)))
 subst ek
 obtain⟨tk,rfl⟩:=ry
 exact PyProof.Rows.KTD.get1_text (here _ I2.ye) (Nr fun v rv=>⟨_,H2,I2.tok _,rv,q2⟩)
end
end L2
namespace S
open PySem PySem.Spec PyProof.Rows L2
section
variable{X:Cx}{ct:Nat→Addr}{W:bD}{pos pos':Pos}
def strsOf:List D→Option (List Str)
 | []=>some []
 | .str w::r=>(strsOf r).map (w:: ·)
 | _=>none
theorem Jb{K:PySem.W.Frag}{ι:Nat→Addr}{n:Nat}{H:Hp}:∀{ds:List D} {ws:List Str} {vs:List V},strsOf ds=some ws→o4 K ct ι n H ds vs→vs=ws.map V.str
 | [],_,_,h,.nil=>by cases h;rfl
 | d::r,ws,_,h,.cons q qs=>by
  cases q with
  | str w=>
   simp only[strsOf]at h
   obtain⟨us,h1,rfl⟩:=Option.map_eq_some_iff.mp h
   rw[Jb h1 qs]
   rfl
  | _=>simp only[strsOf]at h;cases h
theorem RL{K:PySem.W.Frag}{ι:Nat→Addr}{n:Nat}{H:Hp}:∀(ws:List Str),o4 K ct ι n H (ws.map D.str) (ws.map V.str)
 | []=> .nil
 | w::ws=> .cons (.str w) (RL ws)
def vD:D→List D→Mem→Out D:=fun d ds M=>match d,ds with
 | .str y,[.ref n]=>match M[n]? with
  | some (.lst es)=>match strsOf es with
   | some ws=>if JoinOk y ws=true then .ok (.str (Txt.join y ws)) M else .bad
   | none=> .bad
  | _=> .bad
 | _,_=> .bad
theorem Cg:MtS X ct "str" "str.join" vD:=by
 refine⟨_,aaj,fun ι M H d ds v vs Q R q qs p=> ?_⟩
 unfold vD at p
 split at p
 ·rename_i y n
  cases jo q
  obtain⟨u,rfl,qu⟩:=wQ qs
  obtain⟨hn,rfl⟩:=tH qu
  split at p
  ·rename_i es e1
   split at p
   ·rename_i ws e2
    split at p
    ·rename_i hk
     obtain⟨xs,hH,hd⟩:=R.obj n _ e1
     have ex:=Jb e2 hd
     subst ex
     exact⟨y,_,ws,rfl,rfl,hH,hk,p ι _ H .refl R (.str _)⟩
    ·exact p.elim
   ·exact p.elim
  ·exact p.elim
 ·exact p.elim
def zf:D→List D→Mem→Out D:=fun d ds M=>match d,ds with
 | .str y,[.str z]=>if y.length+2≤sizeLine∧(z.length==0)=false then .ok (.ref M.length) (M++[.lst ((Txt.split y z).map D.str)])else .bad
 | _,_=> .bad
theorem Oj:MtS X ct "str" "str.split" zf:=by
 refine⟨_,Xw,fun ι M H d ds v vs Q R q qs p=> ?_⟩
 unfold zf at p
 split at p
 ·rename_i y z
  cases jo q
  obtain⟨u,rfl,qu⟩:=wQ qs
  cases jo qu
  split at p
  ·rename_i hz
   exact⟨y,z,rfl,rfl,hz.1,hz.2,fun pp hp=>uF R (RL _) hp p⟩
  ·exact p.elim
 ·exact p.elim
def BR:D→List D→Mem→Out D:=fun d ds M=>match d,ds with
 | .str y,[.str z]=> .ok (.bl (Txt.startswith y z)) M
 | _,_=> .bad
theorem Jg:MtS X ct "str" "str.startswith" BR:=by
 refine⟨_,U8,fun ι M H d ds v vs Q R q qs p=> ?_⟩
 unfold BR at p
 split at p
 ·rename_i y z
  cases jo q
  obtain⟨u,rfl,qu⟩:=wQ qs
  cases jo qu
  exact⟨y,z,rfl,rfl,p ι _ H .refl R (.bl _)⟩
 ·exact p.elim
def xQ:Im:=fun ds M=>match ds with
 | [.int i]=>if i.natAbs.log2<1920 then .ok (.str (toString i)) M else .bad
 | [.str z]=> .ok (.str z) M
 | [.non]=> .ok (.str "None") M
 | _=> .bad
theorem HF:qm X ct (.type "str") xQ:=by
 refine⟨_,Vp,fun ι M H ds vs Q R h p=> ?_⟩
 unfold xQ at p
 split at p
 ·rename_i i
  obtain⟨v,rfl,q⟩:=wQ h
  cases p7 q
  split at p
  ·rename_i hz;exact .inl ⟨i,rfl,hz,p ι _ H .refl R (.str _)⟩
  ·exact p.elim
 ·rename_i z
  obtain⟨v,rfl,q⟩:=wQ h
  cases jo q
  exact .inr (.inl ⟨z,rfl,p ι _ H .refl R (.str _)⟩)
 ·obtain⟨v,rfl,q⟩:=wQ h
  cases q
  exact .inr (.inr ⟨rfl,p ι _ H .refl R (.str _)⟩)
 ·exact p.elim
def Qw:Im:=fun ds M=>match ds with
 | [.int i]=> .ok (.int i) M
 | [.bl k]=> .ok (.int (if k then 1 else 0)) M
 | [.str z]=>match PySem.intText? z with
  | some n=>if z.length≤640 then .ok (.int n) M else .bad
  | none=> .bad
 | _=> .bad
theorem Yt:qm X ct (.type "int") Qw:=by
 refine⟨_,Vv,fun ι M H ds vs Q R h p=> ?_⟩
 unfold Qw at p
 split at p
 ·rename_i i
  obtain⟨v,rfl,q⟩:=wQ h
  cases p7 q
  exact .inl ⟨i,rfl,p ι _ H .refl R (.int _)⟩
 ·rename_i k
  obtain⟨v,rfl,q⟩:=wQ h
  cases q
  exact .inr (.inl ⟨k,rfl,p ι _ H .refl R (.int _)⟩)
 ·rename_i z
  obtain⟨v,rfl,q⟩:=wQ h
  cases jo q
  split at p
  ·rename_i n e
   split at p
   ·rename_i hl;exact .inr (.inr ⟨z,n,rfl,e,hl,p ι _ H .refl R (.int _)⟩)
   ·exact p.elim
  ·exact p.elim
 ·exact p.elim
def ab9:ql:=fun d e M=>match d,e with
 | .str a,.str b=> .ok (.bl (!decide (b.cps.toList<a.cps.toList))) M
 | _,_=> .bad
theorem aeu:ju X ct (compareOp .LtE) ab9:=by
 refine⟨_,UW,fun ι M H d d' v v' Q R h h' p=> ?_⟩
 unfold ab9 at p
 split at p
 ·cases jo h
  cases jo h'
  exact⟨_,_,rfl,rfl,p ι _ H .refl R (.bl _)⟩
 ·exact p.elim
def ab8:ql:=fun d e M=>match d,e with
 | .tup xs,.tup ys=>match sJ xs,sJ ys with
  | some is,some js=> .ok (.bl (TLe.VH is js)) M
  | _,_=> .bad
 | _,_=> .bad
theorem aet(hu:X.A.units+64<cLine):ju X ct (compareOp .LtE) ab8:=by
 refine⟨_,acY (by omega),fun ι M H d d' v v' Q R h h' p=> ?_⟩
 unfold ab8 at p
 split at p
 ·obtain⟨a,vs,rfl,ha,hd⟩:=uh h
  obtain⟨b,us,rfl,hb,hd'⟩:=uh h'
  split at p
  ·rename_i is js e1 e2
   have x1:=wB e1 hd
   have x2:=wB e2 hd'
   subst x1 x2
   exact⟨a,b,is,js,rfl,rfl,vh.of ha,vh.of hb,p ι _ H .refl R (.bl _)⟩
  ·exact p.elim
 ·exact p.elim
def sLe:ql:=xV (xV NT ab9) ab8
theorem Yw(hu:X.A.units+64<cLine):ju X ct (compareOp .LtE) sLe:=(JF.or aeu).or (aet hu)
def Uu:ql:=fun d e M=>match d,e with
 | .str i,.str j=> .ok (.bl (!(Builtin.Str.occurrences j i 0 j.length 1).isEmpty)) M
 | _,_=> .bad
theorem aev:ju X ct (compareOp .In) Uu:=by
 refine⟨_,U0,fun ι M H d d' v v' Q R h h' p=> ?_⟩
 unfold Uu at p
 split at p
 ·cases jo h
  cases jo h'
  exact⟨_,_,rfl,rfl,p ι _ H .refl R (.bl _)⟩
 ·exact p.elim
def itS(d:D)(M1:Mem):Out Itm:=match d with
 | .str u=>if u.length≤sizeLine then .ok ⟨none,u.cps.toList.map fun c=>D.str ⟨#[c]⟩⟩ M1 else .bad
 | _=> .bad
def Hl(m:ME):MI:=fun e M=>(m e M).bind itS
theorem Qn{tg a:Expr}{ma:ME}(hl:SE X ct W a ma):SI X ct W tg a (Hl ma):=PI.imp (acy hl) fun σ H R q=>by
 obtain⟨ι,e,M,w,p⟩:=cQ (gZ:=d_ X.K ct) (f:=fun d _ M1=>itS d M1) q
 refine⟨ι,e,M,w,p.mono fun v H1 ⟨gF,e1,M1,d,w1,q1,p1⟩=> ?_⟩
 cases q1 with
 | str u=>
  dsimp only[itS]at p1
  split at p1
  ·rename_i hz
   refine⟨u,rfl,p1 gF _ H1 .refl w1.rl ⟨trivial,by rw[List.length_map,Array.length_toList];exact hz,fun lN M2 H2 x2 r2 ok2 i=>⟨fun d e=> ?_,fun h=> ?_⟩⟩⟩
   ·rw[List.getElem?_map]at e
    obtain⟨c,hc,rfl⟩:=Option.map_eq_some_iff.mp e
    have hi:i<u.length:=by have:=(List.getElem?_eq_some_iff.mp hc).1;simpa[Str.length]using this
    refine⟨hi,fun x H3 ⟨e3,c',hc',e4⟩=> ?_⟩
    subst e3 e4
    rw[hc]at hc'
    cases hc'
    exact⟨.refl,r2,.str _⟩
   ·show u.length≤i
    simpa[Str.length]using h
  ·exact p1.elim
 | _=>exact p1.elim
def R_:D→List D→Mem→Out D:=fun d ds M=>match d,ds with
 | .ref n,[.ref k]=>match M[n]?,M[k]? with
  | some (.lst es),some (.lst fs)=>if es.length+fs.length≤sizeLine then .ok .non (M.set n (.lst (es++fs)))else .bad
  | _,_=> .bad
 | _,_=> .bad
theorem aeU:MtS X ct "list" "list.extend" R_:=by
 refine⟨_,U9,fun ι M H d ds v vs Q R q qs p=> ?_⟩
 unfold R_ at p
 split at p
 ·rename_i n k
  obtain⟨hn,rfl⟩:=tH q
  obtain⟨y,rfl,qy⟩:=wQ qs
  obtain⟨hk,rfl⟩:=tH qy
  split at p
  ·rename_i es fs e1 e2
   split at p
   ·rename_i hz
    obtain⟨xs,hH,hd⟩:=R.obj n _ e1
    obtain⟨ys,hB,hd2⟩:=R.obj k _ e2
    have x2:Ext X.K ι M.length H ι M.length (upd H (ι n) (.lst (xs++ys))):=Ext.chg hH (fun _ z=>nomatch z) (fun _ _ z=>nomatch z)
    refine⟨_,_,xs,ys,rfl,rfl,hH,hB,by rw[hd.length,hd2.length];exact hz,?_⟩
    exact p ι .non _ (by rw[List.length_set];exact x2) (R.chg hn hH (fun _ z=>nomatch z) (fun _ _ z=>nomatch z) ⟨_,dm,(hd.append hd2).mono x2⟩) .non
   ·exact p.elim
  ·exact p.elim
 ·exact p.elim
def QZ(M:Mem)(o k d:D):Option Mem:=match o,k with
 | .ref n,.int i=>match M[n]? with
  | some (.lst es)=>(YM es.length i).map fun j=>M.set n (.lst (es.set j d))
  | _=>none
 | _,_=>none
def Qt(mo mk mv:ME):MS:=fun e M=>Cd e (mv e M) fun d M1=>Cd e (mo e M1) fun o M2=>Cd e (mk e M2) fun k M3=>Va (QZ M3 o k d) e
theorem Zc{o i value:Expr}{mo mk mv:ME}(ho:SE X ct W o mo)(hi:SE X ct W i mk)(hv:SE X ct W value mv)(hs:swapsWith value (some (.Subscript o i pos')) pos.line X.env=pure false:=by rfl):
  SS X ct W (.Assign [.Subscript o i pos'] value pos) (Qt mo mk mv):=PS.imp (ZW ho hi hv hs) fun T σ H q=>by
 obtain⟨ι,e,M,w,p⟩:=vB (rel:=d_ X.K ct) (f:=fun d e M1=>Cd e (mo e M1) fun o M2=>Cd e (mk e M2) fun k M3=>Va (QZ M3 o k d) e) q
 refine⟨ι,e,M,w,p.mono fun vd H1 ⟨gF,e1,M1,d,w1,q1,p1⟩=>⟨gF,e1,M1,w1,?_⟩⟩
 cases z:mo e1 M1 with
 | bad=>simp only[z,FW]at p1;exact p1
 | exc xc xd xM=>simp only[z,FT]at p1;exact fun lN dx v H2 x r q1 q2=>p1 lN σ dx v H2 x (w1.ext x r) q1 q2
 | ok o' M2=>
  simp only[z,G5]at p1
  intro lN vo H2 x2 r2 q2
  have p2:=p1.ext x2
  have w2:=w1.ext x2 r2
  refine⟨lN,e1,M2,w2,?_⟩
  cases z2:mk e1 M2 with
  | bad=>simp only[z2,FW]at p2;exact p2
  | exc xc xd xM=>simp only[z2,FT]at p2;exact fun Bq dx v H3 x r q1 q2=>p2 Bq σ dx v H3 x (w2.ext x r) q1 q2
  | ok k M3=>
   simp only[z2,G5]at p2
   intro Bq vk H3 x3 r3 q3
   have p3:=p2.ext x3
   have w3:=w2.ext x3 r3
   cases z3:QZ M3 o' k d with
   | none=>rw[z3]at p3;exact p3.elim
   | some M4=>
    rw[z3]at p3
    unfold QZ at z3
    split at z3
    ·rename_i n i
     obtain⟨hn,rfl⟩:=tH q2
     cases p7 q3
     split at z3
     ·rename_i es e1'
      obtain⟨j,hj,rfl⟩:=Option.map_eq_some_iff.mp z3
      have hn3:n<M3.length:=Nat.lt_of_lt_of_le hn x3.le
      obtain⟨xs,hH,hd⟩:=r3.obj n _ e1'
      have x4:Ext X.K Bq M3.length H3 Bq M3.length (upd H3 (Bq n) (.lst (xs.set j vd))):=Ext.chg hH (fun _ z=>nomatch z) (fun _ _ z=>nomatch z)
      have r4:Rl X.K ct Bq (M3.set n (.lst (es.set j d))) (upd H3 (Bq n) (.lst (xs.set j vd))):=r3.chg hn3 hH (fun _ z=>nomatch z) (fun _ _ z=>nomatch z) ⟨_,dm,(hd.set j ((q1.mono x2).mono x3)).mono x4⟩
      have x5:Ext X.K Bq M3.length H3 Bq (M3.set n (.lst (es.set j d))).length (upd H3 (Bq n) (.lst (xs.set j vd))):=by rw[List.length_set];exact x4
      refine⟨_,xs,i,j,rfl,rfl,?_,by rw[hd.length];exact hj,?_⟩
      ·rw[←x3.same n hn];exact hH
      ·rw[←x3.same n hn]
       exact p3 Bq σ _ x5 (w3.ext x5 r4)
     ·cases z3
    ·cases z3
theorem RP{x:Str}{z:Str}{t:Tok}{pos:Pos}(hg:Gl X x)(hm:X.mg x=some (.str z t))(hd:(x==("__debug__" : Str))=false:=by decide):SE X ct W (.Name x pos) (mC (.str z)):=
 iz (B_ (v:= .str z) hg hm ⟨t,rfl⟩ hd) fun _ _ _ h=>Gi (fun _ _=> .str z) h
theorem BJ{x:Str}{z:Int}{t:Tok}{pos:Pos}(hg:Gl X x)(hm:X.mg x=some (.int z t))(hd:(x==("__debug__" : Str))=false:=by decide):SE X ct W (.Name x pos) (mC (.int z)):=
 iz (B_ (v:= .int z) hg hm ⟨t,rfl⟩ hd) fun _ _ _ h=>Gi (fun _ _=> .int z) h
def J_(k:Str):List (Str×Int)→D
 | []=> .non
 | (x,i)::T=>if decide (k=x)=true then .int i else J_ k T
theorem RJ{K:PySem.W.Frag}{ι:Nat→Addr}{n:Nat}{H:Hp}{k:Str}:∀(T:List (Str×Int)),DV K ct ι n H (J_ k T) (Di k T)
 | []=> .non
 | (x,i)::T=>by
  unfold J_ Di
  split
  ·exact .int i
  ·exact RJ T
def aat(T:List (Str×Int))(k:D)(M:Mem):Out D:=match k with
 | .str z=> .ok (J_ z T) M
 | _=> .bad
def XF(T:List (Str×Int))(mk:ME):ME:=fun e M=>(mk e M).bind (aat T)
theorem Zo{x:Str}{e:Expr}{mk:ME}{p apos cpos:Pos}{a:Addr}(T:List (Str×Int))(hg:Gl X x)(hm:X.mg x=some (.ref a))(hT:aeG X.K a T)(he:SE X ct W e mk)(hd:(x==("__debug__" : Str))=false:=by decide)
  (base:attributeBase (.Name x p) "get" X.env (eval (.Name x p) X.env)=eval (.Name x p) X.env:=by rfl)
  (few:((backTo cpos (starEach [e] X.env)).all (fun x=> !x.1)&&(backToKw cpos (keywordEach [] X.env)).all (fun x=>x.1.isSome)
   && decide (([e]:List Expr).length+([]:List Keyword).length+(if([]:List Keyword).isEmpty then 0 else 1)<30))=true:=by rfl)
  (line:(apos.endLine==cpos.line)=true:=by rfl) (trees:backTo cpos (starEach [e] X.env)=[(false,eval e X.env)]:=by rfl):
  SE X ct W (.Call (.Attribute (.Name x p) "get" apos) [e] [] cpos) (XF T mk):=iz (Z5 (B_ (v:= .ref a) hg hm rfl hd) he ⟨base,few,line,trees⟩) fun σ H Q q=>by
 obtain⟨ι,e,M,w,p⟩:=cQ (gZ:=d_ X.K ct) (f:=fun k _ M1=>aat T k M1) q
 refine⟨a,T,rfl,hT,ι,e,M,w,p.mono fun v H1 ⟨gF,e1,M1,d,w1,q1,p1⟩=> ?_⟩
 cases q1 with
 | str z=>exact⟨_,rfl,p1 gF _ H1 .refl w1.rl (RJ T)⟩
 | _=>exact p1.elim
end
theorem yF{N ps:List Str}{sc:Scope}(h1:sc.kind= .function:=by rfl)(h2:sc.isCoroutine=false:=by rfl)(h3:sc.isGenerator=false:=by rfl)(h4:N.Nodup:=by decide +kernel)(h5:N.take ps.length=ps:=by rfl)
  (h6:∀x∈ps,sc.names.lookup x=some .local∨sc.names.lookup x=some .cell:=by decide +kernel) (h7:∀y∈sc.names,y.2≠ .free:=by decide +kernel):bf N ps sc:=⟨h1,h2,h3,h4,h5,h6,h7⟩
section
variable{e:Sl}{M:Mem}
@[simp] theorem agP{T:List (Str×Int)}{mk:ME}:XF T mk e M=(mk e M).bind (aat T):=id rfl
@[simp] theorem ahr{T:List (Str×Int)}{z:Str}:aat T (.str z) M= .ok (J_ z T) M:=id rfl
@[simp] theorem aeW{m:ME}:Hl m e M=(m e M).bind itS:=id rfl
@[simp] theorem aeQ{mo mk mv:ME}:Qt mo mk mv e M=Cd e (mv e M) fun d M1=>Cd e (mo e M1) fun o M2=>Cd e (mk e M2) fun k M3=>Va (QZ M3 o k d) e:=id rfl
theorem ab3{i:Int}(h:i.natAbs.log2<1920):xQ [.int i] M= .ok (.str (toString i)) M:=by simp only[xQ,h,if_true]
@[simp] theorem ab4{y z:Str}:BR (.str y) [.str z] M= .ok (.bl (Txt.startswith y z)) M:=id rfl
theorem Jd{y z:Str}(h:y.length+2≤16777216)(hz:(z.length==0)=false):zf (.str y) [.str z] M= .ok (.ref M.length) (M++[.lst ((Txt.split y z).map D.str)]):=by
 simp only[zf]
 rw[if_pos ⟨by rw[nu];exact h,hz⟩]
theorem Gj:∀(ws:List Str),strsOf (ws.map D.str)=some ws
 | []=>rfl
 | w::ws=>by simp only[List.map_cons,strsOf,Gj ws,Option.map_some]
theorem GJ{y:Str}{n:Nat}{ws:List Str}(h:M[n]? = some (.lst (ws.map D.str)))(hk:JoinOk y ws=true):vD (.str y) [.ref n] M= .ok (.str (Txt.join y ws)) M:=by
 simp only[vD,h,Gj,hk,if_true]
theorem WX{z:Str}{n:Int}(h:PySem.intText? z=some n)(hl:z.length≤640):Qw [.str z] M= .ok (.int n) M:=by simp only[Qw,h,hl,if_true]
end
end S
namespace S
open PySem PySem.Spec PyProof.Rows L2
section
variable{X:Cx}{ct:Nat→Addr}{W:bD}{pos pos':Pos}
def oH(src:Option (Nat×List D))(tt:MT)(te:ME)(ce:Sl):List D→List D→Mem→Out D
 | [],ys,M=>if oK src M then .ok (.ref M.length) (M++[.lst ys])else .bad
 | d::ds,ys,M=>if oK src M then(tt (some d::ce) M).bind fun k M1=>if k=true then(te (some d::ce) M1).bind fun y M2=>oH src tt te ce ds (ys++[y]) M2 else oH src tt te ce ds ys M1 else .bad
def DN(js:List Nat)(mi:MI)(tt:MT)(te:ME):ME:=fun e M=>(mi e M).bind fun it M1=>oH it.src tt te (um js e) it.ds [] M1
theorem IW{js:List Nat}{mi:MI}{tt:MT}{te:ME}{σ:St}{H:Hp}{Q:VK}(h:tG (d_ X.K ct) X.K ct W (DN js mi tt te) σ H Q):Qi js (tG (Ux X.K ct) X.K ct W mi) (fun W'=>tG BX X.K ct W' tt) (fun W'=>tG (d_ X.K ct) X.K ct W' te) W σ H Q:=by
 obtain⟨ι,e,M,w,p⟩:=cQ (gZ:=Ux X.K ct) (f:=fun it e M1=>oH it.src tt te (um js e) it.ds [] M1) h
 refine⟨ι,e,M,w,p.mono fun J H1 ⟨gF,e1,M1,it,w1,q1,p1⟩=> ?_⟩
 obtain⟨ok1,hz,step⟩:=q1
 refine⟨fun i m ys H'=>m=it.ds.length - i∧i≤it.ds.length∧ys.length≤i∧∃ι' M' ds',Ext X.K gF M1.length H1 ι' M'.length H'∧Rl X.K ct ι' M' H'∧o4 X.K ct ι' M'.length H' ds' ys∧jO (d_ X.K ct) X.K ct (wAt W σ) ι' M'.length H' (oH it.src tt te (um js e1) (it.ds.drop i) ds' M') Q,
  ⟨it.ds.length,by simp,Nat.zero_le _,Nat.le_refl _,gF,M1,[],.refl,w1.rl,.nil,by simpa using p1⟩,?_⟩
 rintro i m ys H' ⟨rfl,hi,hy,ι',M',ds',x',r',dy,p'⟩
 by_cases hlt:i<it.ds.length
 ·rw[List.drop_eq_getElem_cons hlt]at p'
  unfold oH at p'
  by_cases ok':oK it.src M'
  ·rw[if_pos ok']at p'
   obtain⟨go,yl⟩:=(step ι' M' H' x' r' ok' i).1 _ (List.getElem?_eq_getElem hlt)
   refine .inr ⟨go,fun ys2 H2=>ys2.length≤i+1∧∃lN M2 ds2,Ext X.K gF M1.length H1 lN M2.length H2∧Rl X.K ct lN M2 H2∧o4 X.K ct lN M2.length H2 ds2 ys2∧jO (d_ X.K ct) X.K ct (wAt W σ) lN M2.length H2 (oH it.src tt te (um js e1) (it.ds.drop (i+1)) ds2 M2) Q,?_,?_⟩
   ·rintro ys2 H2 ⟨hl2,q2⟩
    exact⟨by omega,it.ds.length - (i+1),by omega,rfl,hlt,hl2,q2⟩
   ·intro x H2 y
    obtain⟨x2,r2,dv⟩:=yl x H2 y
    have w2:Ws X.K ct ι' (some it.ds[i]::um js e1) M' (some x::L2.caps js σ) H2:=(w1.ext (x'.trans x2) r2).caps js dv
    have p2:=p'.ext x2
    refine⟨ι',_,M',w2,?_⟩
    cases z:tt (some it.ds[i]::um js e1) M' with
    | bad=>simp only[z,Out.gO]at p2;exact p2
    | exc xc xd xM=>simp only[z,Out.jH]at p2;exact p2
    | ok k M3=>
     simp only[z,Out.fY]at p2
     intro Bq k3 H3 x3 r3 ek
     have OD:k=k3:=ek;subst OD
     have p3:=p2.ext x3
     have w3:=w2.ext x3 r3
     have dy3:=(dy.mono x2).mono x3
     cases k with
     | false=>exact⟨by omega,Bq,M3,ds',(x'.trans x2).trans x3,r3,dy3,p3⟩
     | true=>
      simp only[if_true]at p3 ⊢
      refine⟨Bq,_,M3,w3,?_⟩
      cases z4:te (some it.ds[i]::um js e1) M3 with
      | bad=>simp only[z4,Out.gO]at p3;exact p3
      | exc xc xd xM=>simp only[z4,Out.jH]at p3;exact p3
      | ok yy M4=>
       simp only[z4,Out.fY]at p3
       intro ι4 v4 H4 x4 r4 d4
       exact⟨by rw[List.length_append];simp;omega,ι4,M4,ds'++[yy],((x'.trans x2).trans x3).trans x4,r4,(dy3.mono x4).append (.cons d4 .nil),p3.ext x4⟩
  ·rw[if_neg ok']at p'
   exact p'.elim
 ·have e0:i=it.ds.length:=by omega
  subst e0
  rw[List.drop_length]at p'
  unfold oH at p'
  by_cases ok':oK it.src M'
  ·rw[if_pos ok']at p'
   exact .inl ⟨(step ι' M' H' x' r' ok' _).2 (Nat.le_refl _),by omega,fun pp hp=>uF r' dy hp p'⟩
  ·rw[if_neg ok']at p'
   exact p'.elim
variable{elt iter:Expr}{ifs:List Expr}{scope:Scope}{x:Str}{px:Pos}{mi:MI}{tt:MT}{te:ME}
theorem WL(hW:Tk X W)(hst:X.stack=X.env::X.outer)(hf:X.env.frame=some X.env.locals)(hc:X.calm=true)(cs:List Str)(js:List Nat)(hi:SI X ct W (.Name x px) iter mi)(hcap:sG X scope cs js)(ht:∀cl C fp s H W',STs ((aR X scope cl C (x::cs) fp s H).wish (fH (aR X scope cl C (x::cs) fp s H) W')) ct W' ifs tt)(he:∀cl C fp s H W',SE ((aR X scope cl C (x::cs) fp s H).wish (fH (aR X scope cl C (x::cs) fp s H) W')) ct W' elt te)
  (hall:∀y∈scope.names,y.2= .free→y.1∈cs) (hcell:∀y∈scope.names,y.2≠ .cell) (hnames:∀y∈scope.names,y.2= .local→scope.names.lookup y.1=some .local) (hnd:(x::cs).Nodup)
  (hkind:scope.kind= .function:=by rfl) (hx:scope.names.lookup x=some .local:=by rfl) (hs:∀v,foldedSetIterable iter X.env v=pure v:=by intro _;rfl):
  SE X ct W (.ListComp elt [⟨.Name x px,iter,ifs,0⟩] scope pos) (DN js mi tt te):=
 iz (Xj (tt:=fun W'=>tG BX X.K ct W' tt) (te:=fun W'=>tG (d_ X.K ct) X.K ct W' te) hW hst hf hc cs js hi hcap (fun cl C fp s H W'=>ht cl C fp s H W') (fun cl C fp s H W'=>he cl C fp s H W') hall hcell hnames hnd hkind hx hs) fun σ H Q q=>IW q
theorem Wq{y:Str}{py spos:Pos}{k:Nat}(hW:Tk X W)(hst:X.stack=X.env::X.outer)(hf:X.env.frame=some X.env.locals)(hc:X.calm=true)(cs:List Str)(js:List Nat)(hN:X.N.Nodup)(hk:X.N[k]? = some y)(hy:X.env.scope.names.lookup y=some .local)(hi:SI X ct W (.Name x px) iter mi)(hcap:sG X scope cs js)
  (ht:∀cl C fp s H W',STs ((aR X scope cl C (x::cs) fp s H).wish (fH (aR X scope cl C (x::cs) fp s H) W')) ct W' ifs tt) (he:∀cl C fp s H W',SE ((aR X scope cl C (x::cs) fp s H).wish (fH (aR X scope cl C (x::cs) fp s H) W')) ct W' elt te)
  (hall:∀y∈scope.names,y.2= .free→y.1∈cs) (hcell:∀y∈scope.names,y.2≠ .cell) (hnames:∀y∈scope.names,y.2= .local→scope.names.lookup y.1=some .local) (hnd:(x::cs).Nodup)
  (hsw:swapsWith (.ListComp elt [⟨.Name x px,iter,ifs,0⟩] scope pos) (some (.Name y py)) spos.line X.env=pure true:=by rfl)
  (hkind:scope.kind= .function:=by rfl) (hx:scope.names.lookup x=some .local:=by rfl) (hs:∀v,foldedSetIterable iter X.env v=pure v:=by intro _;rfl):
  SS X ct W (.Assign [.Name y py] (.ListComp elt [⟨.Name x px,iter,ifs,0⟩] scope pos) spos) (cC (DN js mi tt te) (gN k)):=
 PS.imp (Xc (tt:=fun W'=>tG BX X.K ct W' tt) (te:=fun W'=>tG (d_ X.K ct) X.K ct W' te) hW hst hf hc cs js hN hk hy hi hcap (fun cl C fp s H W'=>ht cl C fp s H W') (fun cl C fp s H W'=>he cl C fp s H W') hall hcell hnames hnd hsw hkind hx hs) fun T σ H q=>FN (fun _ q=>IW q) (fun v H Q ⟨ι,e,M,d,w,q,p⟩=>p _ (w.set k q)) q
end
section
variable{X:Cx}{ct:Nat→Addr}
def notStar:Expr→Bool
 | .Starred _ _=>false
 | _=>true
theorem afz{a:Expr}{es:List Expr}{env:PySem.Env}(h:notStar a=true):starEach (a::es) env=(false,eval a env)::starEach es env:=by
 cases a<;>first | rfl | cases h
theorem aO{W:bD}{a:Expr}{es:List Expr}{ma:ME}{ms:MA}(ha:SE X ct W a ma)(hr:SA X ct W es ms)(h:notStar a=true:=by rfl):SA X ct W (a::es) (aq ma ms):=ak ha hr (afz h)
def xR:ql:=fun d e M=>match d,e with
 | .str i,.str j=> .ok (.bl (!(!(Builtin.Str.occurrences j i 0 j.length 1).isEmpty))) M
 | _,_=> .bad
theorem JD:ju X ct (compareOp .NotIn) xR:=by
 refine⟨_,KC,fun ι M H d d' v v' Q R h h' p=> ?_⟩
 unfold xR at p
 split at p
 ·cases jo h
  cases jo h'
  exact⟨_,_,rfl,rfl,p ι _ H .refl R (.bl _)⟩
 ·exact p.elim
end
section
variable{e:Sl}{M:Mem}
@[simp] theorem aeX{js:List Nat}{mi:MI}{tt:MT}{te:ME}:DN js mi tt te e M=(mi e M).bind fun it M1=>oH it.src tt te (um js e) it.ds [] M1:=id rfl
end
end S
set_option Elab.async false
set_option maxHeartbeats 0
set_option maxRecDepth 100000
set_option linter.all false
namespace My
open PySem L2 S
def jt:MS:=
 (aX (vH [3] (aA 0) (F_ "str" zf (aA 1) (aq (mC (.str "\n")) aH)) "rows")
 (vH [3] (aA 0) (mC (.int 1)) "here"))
def qW:Fn:=cu 2 jt
def wK:MS:=
 (vG (bC (aD Ig (j6 [3] (aA 0) "here") (vL qD (aq (j6 [3] (aA 0) "rows") aH)))) (Qs 2 (aq (j6 [3] (aA 0) "here") aH)) dI)
def e_:MS:=
 (aX wK
 (fK (F_ "str" zf (aD bh (j6 [3] (aA 0) "rows") (aD NP (j6 [3] (aA 0) "here") (mC (.int 1)))) (aq (mC (.str " ")) aH))))
def iH:Fn:=cu 1 e_
def tU:MS:=
 (vG (mOr (bC (aD sNe (aD bh (aA 3) (mC (.int 0))) (aA 1))) (bC (aD sNe (vL qD (aq (aA 3) aH)) (aA 2)))) (Qs 2 (aq (j6 [3] (aA 0) "here") aH)) dI)
def bQ:MS:=
 (aX (cC (cN 3 "words" iH 1 [] (aA 0) aH) (gN 3))
 (aX tU
 (fK (aA 3))))
def cM:Fn:=cu 4 bQ
def rz:MS:=
 (fK (Ep (aD NT (mC (.int 1)) (vL qD (aq (aA 0) aH))) (Ep (aD NT (vL qD (aq (aA 0) aH)) (aA 2)) (vL W2 (aq (Ho [1] (Hl (aA 0)) Cw (aD Uu (aA 0) (aA 1))) aH)))))
def xZ:Fn:=cu 3 rz
def qY:MS:=
 (vG (bC (F_ "str" BR (aA 0) (aq (mC (.str "-")) aH))) (cC (MN (aA 0) (pA (mC (.int 1))) jy) (gN 1)) dI)
def Ar:MS:=
 (vG (Oo (bC (jD xZ 3 [] (aq (aA 1) (aq (mC (.str "0123456789")) (aq (mC (.int 100)) aH)))))) (fK (mC (.bl false))) dI)
def mU:MS:=
 (aX (cC (aA 0) (gN 1))
 (aX qY
 (aX Ar
 (fK (adm (aD sEq (aA 0) (mC (.str "0"))) (S6 (F_ "str" BR (aA 1) (aq (mC (.str "0")) aH))))))))
def vJ:Fn:=cu 2 mU
def qL:MS:=
 (vG (Oo (bC (jD vJ 1 [] (aq (aA 1) aH)))) (Qs 2 (aq (j6 [3] (aA 0) "here") aH)) dI)
def bR:MS:=
 (aX qL
 (fK (vL Qw (aq (aA 1) aH))))
def bz:Fn:=cu 2 bR
def gY:MS:=
 (vG (bC (aD WT (aA 2) (mC (.int 0)))) (Qs 2 (aq (j6 [3] (aA 0) "here") aH)) dI)
def aZ:MS:=
 (aX (cC (cN 3 "whole" bz 2 [] (aA 0) (aq (aA 1) aH)) (gN 2))
 (aX gY
 (fK (aA 2))))
def bI:Fn:=cu 3 aZ
def nC:MS:=
 (vG (bC (aD Zx (aA 3) (aA 2))) (Qs 2 (aq (j6 [3] (aA 0) "here") aH)) dI)
def cY:MS:=
 (aX (cC (cN 3 "from_nought" bI 2 [] (aA 0) (aq (aA 1) aH)) (gN 3))
 (aX nC
 (fK (aA 3))))
def gq:Fn:=cu 4 cY
def ig:MS:=
 (fK (cN 3 "below" gq 3 [] (aA 0) (aq (aA 1) (aq (mC (.int 60)) aH))))
def nR:Fn:=cu 2 ig
def cX:MS:=
 (vH [3] (aA 0) (aD d9 (j6 [3] (aA 0) "here") (mC (.int 1))) "here")
def gm:Fn:=cu 1 cX
def lA:MS:=
 (vG (bC (aD sNe (aD bh (aA 1) (mC (.int 2))) (mC (.str "-")))) (cC (cN 3 "hand" nR 2 [] (aA 0) (aq (aD bh (aA 1) (mC (.int 2))) aH)) (gN 2)) dI)
def jk:MS:=
 (aX (cC (cN 3 "words_of" cM 3 [] (aA 0) (aq (mC (.str "book")) (aq (mC (.int 3)) aH))) (gN 1))
 (aX (cC (mC .non) (gN 2))
 (aX lA
 (aX (cC (lM (aq (cN 3 "from_nought" bI 2 [] (aA 0) (aq (aD bh (aA 1) (mC (.int 1))) aH)) (aq (aA 2) aH))) (gN 3))
 (aX (pN (cN 3 "go_on" gm 1 [] (aA 0) aH))
 (fK (aA 3)))))))
def pq:Fn:=cu 4 jk
def gw:MS:=
 (vG (bC (aD sEq (aD bh (aA 3) (mC (.int 0))) (mC (.int 0)))) (Qs 2 (aq (j6 [3] (aA 0) "here") aH)) dI)
def bM:MS:=
 (aX (cC (lM (aq (cN 3 "below" gq 3 [] (aA 0) (aq (aA 1) (aq (aD Zr (mC (.int 1)) (mC (.int 60))) aH))) (aq (cN 3 "below" gq 3 [] (aA 0) (aq (aA 2) (aq (aD Zr (mC (.int 1)) (mC (.int 60))) aH))) aH))) (gN 3))
 (aX gw
 (fK (aA 3))))
def cV:Fn:=cu 4 bM
def h_:MS:=
 (aX (cC (cN 3 "words_of" cM 3 [] (aA 0) (aq (mC (.str "base")) (aq (mC (.int 5)) aH))) (gN 1))
 (aX (cC (cN 3 "from_nought" bI 2 [] (aA 0) (aq (aD bh (aA 1) (mC (.int 1))) aH)) (gN 2))
 (aX (cC (lM (aq (aA 2) (aq (cN 3 "from_nought" bI 2 [] (aA 0) (aq (aD bh (aA 1) (mC (.int 2))) aH)) (aq (cN 3 "both_sets" cV 3 [] (aA 0) (aq (aD bh (aA 1) (mC (.int 3))) (aq (aD bh (aA 1) (mC (.int 4))) aH))) aH)))) (gN 3))
 (aX (pN (cN 3 "go_on" gm 1 [] (aA 0) aH))
 (fK (aA 3))))))
def lX:Fn:=cu 4 h_
def dW:MS:=
 (fK (aD sEq (aD bh (cN 3 "words" iH 1 [] (aA 0) aH) (mC (.int 0))) (aA 1)))
def gJ:Fn:=cu 2 dW
def qP:MS:=
 (fK (jD xZ 3 [] (aq (aA 0) (aq (mC (.str "abcdefghijklmnopqrstuvwxyz")) (aq (mC (.int 8)) aH)))))
def Ae:Fn:=cu 1 qP
def tu:MS:=
 (vG (Oo (bC (jD Ae 1 [] (aq (aA 1) aH)))) (Qs 2 (aq (j6 [3] (aA 0) "here") aH)) dI)
def gh:MS:=
 (aX tu
 (fK (aA 1)))
def lz:Fn:=cu 2 gh
def kI:MS:=
 (vG (mOr (bC (aD sEq (aD bh (aA 3) (mC (.int 1))) (mC (.int 0)))) (Hq (bC (aD Ig (vL qD (aq (aA 1) aH)) (mC (.int 0)))) (bC (aD sLe (aD bh (aA 3) (mC (.int 0))) (aD bh (aD bh (aA 1) (mUn Zu (mC (.int 1)))) (mC (.int 0))))))) (Qs 2 (aq (j6 [3] (aA 0) "here") aH)) dI)
def gK:MT:=
 (bC (cN 3 "begins" gJ 2 [] (aA 0) (aq (mC (.str "value")) aH)))
def fu:MS:=
 (aX (cC (cN 3 "words_of" cM 3 [] (aA 0) (aq (mC (.str "value")) (aq (mC (.int 3)) aH))) (gN 2))
 (aX (cC (lM (aq (cN 3 "name" lz 2 [] (aA 0) (aq (aD bh (aA 2) (mC (.int 1))) aH)) (aq (cN 3 "whole" bz 2 [] (aA 0) (aq (aD bh (aA 2) (mC (.int 2))) aH)) aH))) (gN 3))
 (aX kI
 (aX (pN (F_ "list" jY (aA 1) (aq (aA 3) aH)))
 (pN (cN 3 "go_on" gm 1 [] (aA 0) aH))))))
def oO:MS:=
 (vQ gK fu)
def fZ:MS:=
 (aX (cC (pC aH) (gN 1))
 (aX oO
 (fK (vL vR (aq (aA 1) aH)))))
def g_:Fn:=cu 4 fZ
def qK:MS:=
 (vG (Hq (bC (aD Ig (vL qD (aq (aA 1) aH)) (mC (.int 0)))) (bC (aD sLe (MN (aA 3) jy (pA (mC (.int 2)))) (MN (aD bh (aA 1) (mUn Zu (mC (.int 1)))) jy (pA (mC (.int 2))))))) (Qs 2 (aq (j6 [3] (aA 0) "here") aH)) dI)
def fO:MT:=
 (bC (cN 3 "begins" gJ 2 [] (aA 0) (aq (mC (.str "answer")) aH)))
def iu:MS:=
 (aX (cC (cN 3 "words_of" cM 3 [] (aA 0) (aq (mC (.str "answer")) (aq (mC (.int 4)) aH))) (gN 2))
 (aX (cC (vL vR (aq (DN [0] (S7 (MN (aA 2) (pA (mC (.int 1))) jy)) Cw (cN 3 "whole" bz 2 [] (aA 1) (aq (aA 0) aH))) aH)) (gN 3))
 (aX qK
 (aX (pN (F_ "list" jY (aA 1) (aq (aA 3) aH)))
 (pN (cN 3 "go_on" gm 1 [] (aA 0) aH))))))
def mZ:MS:=
 (vQ fO iu)
def eZ:MS:=
 (aX (cC (pC aH) (gN 1))
 (aX mZ
 (fK (vL vR (aq (aA 1) aH)))))
def iG:Fn:=cu 4 eZ
def mV:MS:=
 (aX (vH [4] (aA 0) (aA 1) "base")
 (aX (vH [4] (aA 0) (aA 2) "base_term")
 (aX (vH [4] (aA 0) (aA 3) "base_roll")
 (vH [4,5] (aA 0) (vL GF (aq (aA 4) aH)) "kept"))))
def qJ:Fn:=cu 5 mV
def l_:MS:=
 (vG (bC (aD sNe (XF [("put",3),("add",3),("swap",4)] (aD bh (aA 1) (mC (.int 0)))) (vL qD (aq (aA 1) aH)))) (Qs 2 (aq (j6 [3] (aA 0) "here") aH)) dI)
def gf:MS:=
 (aX l_
 (aX (cC (DN [0] (S7 (MN (aA 1) (pA (mC (.int 2))) jy)) Cw (cN 3 "whole" bz 2 [] (aA 1) (aq (aA 0) aH))) (gN 2))
 (fK (aD d9 (lM (aq (aD bh (aA 1) (mC (.int 0))) (aq (cN 3 "name" lz 2 [] (aA 0) (aq (aD bh (aA 1) (mC (.int 1))) aH)) aH))) (vL vR (aq (aA 2) aH))))))
def j5:Fn:=cu 3 gf
def cG:MS:=
 (vG (bC (aD sEq (aA 1) (pC (aq (mC (.str "start")) aH)))) (fK (lM (aq (mC (.str "start")) aH))) dI)
def cZ:MS:=
 (vG (Hq (bC (aD sEq (vL qD (aq (aA 1) aH)) (mC (.int 3)))) (bC (aD sEq (aD bh (aA 1) (mC (.int 0))) (mC (.str "roll"))))) (fK (aD d9 (lM (aq (mC (.str "roll")) aH)) (cN 3 "both_sets" cV 3 [] (aA 0) (aq (aD bh (aA 1) (mC (.int 1))) (aq (aD bh (aA 1) (mC (.int 2))) aH))))) dI)
def eF:MS:=
 (vG (Hq (bC (aD Ig (vL qD (aq (aA 1) aH)) (mC (.int 3)))) (bC (aD sEq (aD bh (aA 1) (mC (.int 0))) (mC (.str "ask"))))) (fK (lM (aq (mC (.str "ask")) (aq (cN 3 "whole" bz 2 [] (aA 0) (aq (aD bh (aA 1) (mC (.int 1))) aH)) (aq (cN 3 "whole" bz 2 [] (aA 0) (aq (aD bh (aA 1) (mC (.int 2))) aH)) (aq (jD j5 2 [] (aq (aA 0) (aq (MN (aA 1) (pA (mC (.int 3))) jy) aH))) aH)))))) dI)
def bV:MS:=
 (aX cG
 (aX cZ
 (aX eF
 (Qs 2 (aq (j6 [3] (aA 0) "here") aH)))))
def cU:Fn:=cu 2 bV
def jF:MT:=
 (bC (cN 3 "begins" gJ 2 [] (aA 0) (aq (mC (.str "at")) aH)))
def ir:MS:=
 (aX (cC (cN 3 "words" iH 1 [] (aA 0) aH) (gN 2))
 (aX (cC (jD cU 2 [] (aq (aA 0) (aq (MN (aA 2) (pA (mC (.int 2))) jy) aH))) (gN 3))
 (aX (pN (F_ "list" jY (aA 1) (aq (lM (aq (cN 3 "from_nought" bI 2 [] (aA 0) (aq (aD bh (aA 2) (mC (.int 1))) aH)) (aq (aA 3) aH))) aH)))
 (pN (cN 3 "go_on" gm 1 [] (aA 0) aH)))))
def qp:MS:=
 (vQ jF ir)
def gC:MS:=
 (aX (cC (pC aH) (gN 1))
 (aX qp
 (fK (aA 1))))
def iD:Fn:=cu 4 gC
def vO:MS:=
 (vG (bC (aD sNe (cN 3 "whole" bz 2 [] (aA 0) (aq (aD bh (aA 1) (mC (.int 1))) aH)) (aD NP (j6 [3] (aA 0) "here") (mC (.int 1))))) (Qs 2 (aq (j6 [3] (aA 0) "here") aH)) dI)
def vN:MS:=
 (vG (bC (aD WT (j6 [3] (aA 0) "here") (vL qD (aq (j6 [3] (aA 0) "rows") aH)))) (Qs 2 (aq (aD d9 (j6 [3] (aA 0) "here") (mC (.int 1))) aH)) dI)
def gM:MS:=
 (aX (cC (cN 3 "words_of" cM 3 [] (aA 0) (aq (mC (.str "end")) (aq (mC (.int 2)) aH))) (gN 1))
 (aX vO
 vN))
def oZ:Fn:=cu 2 gM
def o7:MS:=
 (fK (Hj 4 qJ 5 [] (aq (j6 [4] (aA 0) "base") (aq (j6 [4] (aA 0) "base_term") (aq (j6 [4] (aA 0) "base_roll") (aq (j6 [4,5] (aA 0) "kept") aH))))))
def x_:Fn:=cu 1 o7
def mW:MS:=
 (aX (vH [5] (aA 0) (aA 1) "term")
 (aX (vH [5] (aA 0) (aA 2) "vote")
 (aX (vH [5] (aA 0) (cN 4 "twin" x_ 1 [] (aA 3) aH) "row")
 (vH [4,5] (aA 0) (aA 4) "kept"))))
def vK:Fn:=cu 5 mW
def cW:MS:=
 (aX (cC (Hj 3 qW 2 [] (aq (aA 0) aH)) (gN 1))
 (aX (cC (jD pq 1 [] (aq (aA 1) aH)) (gN 2))
 (aX (cC (jD lX 1 [] (aq (aA 1) aH)) (gN 3))
 (aX (cC (jD g_ 1 [] (aq (aA 1) aH)) (gN 4))
 (aX (cC (jD iG 1 [] (aq (aA 1) aH)) (gN 5))
 (aX (cC (Hj 4 qJ 5 [] (aq (aD bh (aA 3) (mC (.int 0))) (aq (aD bh (aA 3) (mC (.int 1))) (aq (aD bh (aA 3) (mC (.int 2))) (aq (jD iD 1 [] (aq (aA 1) aH)) aH))))) (gN 6))
 (aX (pN (cN 3 "finish" oZ 1 [] (aA 1) aH))
 (fK (Hj 5 vK 5 [] (aq (aD bh (aA 2) (mC (.int 0))) (aq (aD bh (aA 2) (mC (.int 1))) (aq (aA 6) (aq (lM (aq (aA 4) (aq (aA 5) aH))) aH)))))))))))))
def cH:Fn:=cu 7 cW
def pF:MS:=
 (pN (jD cH 1 [] (aq (F_ "str" vD (mC (.str "\n")) (aq (pC (aq (mC (.str "book 0 -")) (aq (mC (.str "base 0 0 1 0")) (aq (aD d9 (mC (.str "at 7 ")) (aA 2)) (aq (mC (.str "end 3")) aH))))) aH)) aH)))
def vz:MS:=
 (cC (aak [0,2] (aA 5)) (gN 4))
def jh:MS:=
 (GC 5 [(0,false),(2,true)] pF vz)
def pX:MS:=
 (vG (bC (aA 3)) (fK (aD sIs (aA 4) (mC .non))) dI)
def fC:MS:=
 (aX (cC (pC (aq (lM (aq (mC (.str "start")) (aq (mC (.bl true)) aH))) (aq (lM (aq (mC (.str "begin")) (aq (mC (.bl false)) aH))) (aq (lM (aq (mC (.str "Start")) (aq (mC (.bl false)) aH))) (aq (lM (aq (mC (.str "start start")) (aq (mC (.bl false)) aH))) (aq (lM (aq (mC (.str "")) (aq (mC (.bl false)) aH))) aH)))))) (gN 1))
 (aX (cC (aD d9 (aA 1) (pC (aq (lM (aq (mC (.str "ask 0 1 move ab 4")) (aq (mC (.bl false)) aH))) (aq (lM (aq (mC (.str "ask 0 1 put ab 4")) (aq (mC (.bl true)) aH))) (aq (lM (aq (mC (.str "ask 0 1 swap ab 4")) (aq (mC (.bl false)) aH))) aH))))) (gN 1))
 (aX (cC (aD d9 (aA 1) (pC (aq (lM (aq (mC (.str "ask 0 1 put ab 4 5")) (aq (mC (.bl false)) aH))) (aq (lM (aq (mC (.str "ask 0 1 swap ab 4 -5")) (aq (mC (.bl true)) aH))) (aq (lM (aq (mC (.str "ask 0 put ab 4")) (aq (mC (.bl false)) aH))) aH))))) (gN 1))
 (aX (cC (aD d9 (aA 1) (pC (aq (lM (aq (mC (.str "roll 1 0")) (aq (mC (.bl true)) aH))) (aq (lM (aq (mC (.str "roll 0 1")) (aq (mC (.bl false)) aH))) (aq (lM (aq (mC (.str "roll 1 0 0")) (aq (mC (.bl false)) aH))) (aq (lM (aq (mC (.str "add ab 4")) (aq (mC (.bl false)) aH))) aH)))))) (gN 1))
 (aX (cC (aD bh (aA 1) (aD nQ (aA 0) (mC (.int 15)))) (gT 2 (Bc (gN 2) (Bc (gN 3) Tp))))
 (aX (cC (mC .non) (gN 4))
 (aX jh
 (aX pX
 (fK (aD sEq (aA 4) (mC (.int 3))))))))))))
def kE:Fn:=cu 6 fC
def ux:MS:=
 (aX (cC (aD nQ (aD d9 (aD d9 (aD Ie (aA 3) (aD d9 (aD Kq (aA 3) (mC (.int 1009))) (mC (.int 69621)))) (aA 4)) (mC (.int 1))) (mC (.int 2147483647))) (gN 3))
 (pN (F_ "list" jY (aA 2) (aq (aA 3) aH))))
def zR:MS:=
 (Zy (S5 (aq (aA 1) aH)) (gN 4) ux)
def jl:MS:=
 (aX (cC (pC aH) (gN 2))
 (aX (cC (aD nQ (aD d9 (aD Ie (aA 0) (mC (.int 48271))) (mC (.int 7919))) (mC (.int 2147483647))) (gN 3))
 (aX zR
 (fK (aA 2)))))
def m_:Fn:=cu 5 jl
def yL:MS:=
 (vG (bC (aD WT (aA 1) (vL qD (aq (aA 0) aH)))) (fK (aD bh (aA 0) (aA 1))) dI)
def ie:MS:=
 (aX yL
 (fK (mC (.int 0))))
def jn:Fn:=cu 2 ie
def ue:MS:=
 (vG (bC (aD sEq (aD nQ (aD bh (aA 0) (mC (.int 0))) (mC (.int 7))) (mC (.int 0)))) (cC (vL xQ (aq (aD d9 (aD NP (mC (.int 1152921504606846976)) (mC (.int 3))) (aD nQ (aA 1) (mC (.int 6)))) aH)) (gN 2)) dI)
def ud:MS:=
 (vG (bC (aD sEq (aD nQ (aD bh (aA 0) (mC (.int 2))) (mC (.int 3))) (mC (.int 0)))) (cC (aD bh (pC (aq (MN (mC (.str "abcxyzqrs")) jy (pA (aD d9 (mC (.int 1)) (aD nQ (aD bh (aA 0) (mC (.int 3))) (mC (.int 9)))))) (aq (mC (.str "")) (aq (mC (.str "-")) (aq (mC (.str "0")) aH))))) (aD nQ (aD Kq (aD bh (aA 0) (mC (.int 2))) (mC (.int 3))) (mC (.int 4)))) (gN 2)) dI)
def pR:MS:=
 (vG (Hq (bC (aD sEq (aD nQ (aD bh (aA 0) (mC (.int 4))) (mC (.int 3))) (mC (.int 0)))) (bC (aD sNe (aA 2) (mC (.str ""))))) (aX (cC (aD nQ (aD Kq (aD bh (aA 0) (mC (.int 4))) (mC (.int 3))) (vL qD (aq (aA 2) aH))) (gN 3))
 (aX (cC (mC (.str "aZ_.+-19{e")) (gN 4))
 (cC (aD d9 (aD d9 (MN (aA 2) jy (pA (aA 3))) (aD bh (aA 4) (aD nQ (aD Kq (aD bh (aA 0) (mC (.int 4))) (mC (.int 3000))) (mC (.int 10))))) (MN (aA 2) (pA (aD d9 (aA 3) (mC (.int 1)))) jy)) (gN 2)))) dI)
def o6:MS:=
 (aX (cC (aD bh (pC (aq (vL xQ (aq (aD nQ (aA 1) (aD Ko (mC (.int 10)) (mC (.int 40)))) aH)) (aq (vL xQ (aq (aD nQ (aA 1) (mC (.int 900))) aH)) (aq (aD d9 (aD Ie (mC (.str "7")) (mC (.int 99))) (vL xQ (aq (aD nQ (aA 1) (mC (.int 90))) aH))) (aq (vL xQ (aq (aD d9 (mC (.int 55)) (aD nQ (aA 1) (mC (.int 9)))) aH)) aH))))) (aD nQ (aD bh (aA 0) (mC (.int 0))) (mC (.int 4)))) (gN 2))
 (aX ue
 (aX (cC (aD d9 (aD bh (pC (aq (mC (.str "")) (aq (mC (.str "")) (aq (mC (.str "")) (aq (mC (.str "-")) (aq (mC (.str "+")) (aq (mC (.str "0")) (aq (mC (.str "-0")) aH)))))))) (aD nQ (aD bh (aA 0) (mC (.int 1))) (mC (.int 7)))) (aA 2)) (gN 2))
 (aX ud
 (aX pR
 (fK (aA 2)))))))
def xY:Fn:=cu 5 o6
def pW:MS:=
 (vG (bC (aD sEq (MN (aA 0) jy (pA (mC (.int 1)))) (mC (.str "-")))) (cC (MN (aA 0) (pA (mC (.int 1))) jy) (gN 1)) dI)
def nA:MS:=
 (vG (mOr (bC (aD WT (vL qD (aq (aA 1) aH)) (mC (.int 1)))) (bC (aD Ig (vL qD (aq (aA 1) aH)) (mC (.int 100))))) (fK (mC .non)) dI)
def uf:MS:=
 (vG (bC (aD sNe (Ho [] (Hl (aA 1)) (bC (aD xR (aA 0) (mC (.str "0123456789")))) (aA 0)) (pC aH))) (fK (mC .non)) dI)
def yg:MS:=
 (vG (Hq (bC (aD sEq (aD bh (aA 1) (mC (.int 0))) (mC (.str "0")))) (bC (aD sNe (aA 0) (mC (.str "0"))))) (fK (mC .non)) dI)
def iK:MS:=
 (aX (cC (aA 0) (gN 1))
 (aX pW
 (aX nA
 (aX uf
 (aX yg
 (fK (vL Qw (aq (aA 0) aH))))))))
def lY:Fn:=cu 2 iK
def rG:MS:=
 (vG (mOr (bC (aD sEq (aA 0) (mC (.int 7)))) (bC (aD sEq (aA 0) (mC (.int 12))))) (aX (cC (Ho [] (Hl (aA 1)) (bC (aD xR (aA 0) (mC (.str "abcdefghijklmnopqrstuvwxyz")))) (aA 0)) (gN 2))
 (fK (lM (aq (Ep (aD sEq (aA 2) (pC aH)) (Bb WT WT (mC (.int 0)) (vL qD (aq (aA 1) aH)) (mC (.int 9)))) (aq (aA 1) aH))))) dI)
def vM:MS:=
 (vG (Hq (bC (aD sEq (aA 0) (mC (.int 1)))) (bC (aD sEq (aA 1) (mC (.str "-"))))) (fK (lM (aq (mC (.bl true)) (aq (mC .non) aH)))) dI)
def zB:MS:=
 (vG (bC (aD sIs (aA 3) (mC .non))) (fK (lM (aq (mC (.bl false)) (aq (mC .non) aH)))) dI)
def Ey:MS:=
 (vG (bC (aD sIn (aA 0) (lM (aq (mC (.int 8)) (aq (mC (.int 9)) (aq (mC (.int 11)) (aq (mC (.int 13)) aH))))))) (fK (lM (aq (mC (.bl true)) (aq (aA 3) aH)))) dI)
def Ex:MS:=
 (vG (bC (aD Ig (aA 0) (mC (.int 13)))) (fK (lM (aq (Bb NT WT (aD NP (mC (.int 15)) (aA 0)) (aA 3) (mC (.int 1152921504606846976))) (aq (aA 3) aH)))) dI)
def Ew:MS:=
 (vG (bC (aD sEq (aA 0) (mC (.int 6)))) (fK (lM (aq (aD sNe (aA 3) (mC (.int 0))) (aq (aA 3) aH)))) dI)
def Eu:MS:=
 (vG (bC (aD sEq (aA 0) (mC (.int 1)))) (cC (Bb NT WT (mC (.int 0)) (aA 3) (mC (.int 60))) (gN 4)) dI)
def Et:MS:=
 (vG (mOr (bC (aD sEq (aA 0) (mC (.int 4)))) (bC (aD sEq (aA 0) (mC (.int 5))))) (cC (Bb NT WT (aD NP (mC (.int 5)) (aA 0)) (aA 3) (mC (.int 1152921504606846976))) (gN 4)) dI)
def lB:MS:=
 (aX rG
 (aX vM
 (aX (cC (jD lY 1 [] (aq (aA 1) aH)) (gN 3))
 (aX zB
 (aX Ey
 (aX Ex
 (aX Ew
 (aX (cC (aD Zx (aA 3) (mC (.int 0))) (gN 4))
 (aX Eu
 (aX Et
 (fK (lM (aq (aA 4) (aq (aA 3) aH))))))))))))))
def ni:Fn:=cu 5 lB
def pU:MS:=
 (vG (bC (aD Ig (aA 0) (mC (.int 13)))) (pN (F_ "list" jY (aA 3) (aq (aD d9 (aD d9 (aD d9 (mC (.str "at 3 roll ")) (aD bh (aA 2) (mC (.int 14)))) (mC (.str " "))) (aD bh (aA 2) (mC (.int 15)))) aH))) (pN (F_ "list" jY (aA 3) (aq (F_ "str" vD (mC (.str " ")) (aq (pC (aq (mC (.str "at")) (aq (aD bh (aA 2) (mC (.int 10))) (aq (mC (.str "ask 2")) (aq (aD bh (aA 2) (mC (.int 11))) (aq (mC (.str "add")) (aq (aD bh (aA 2) (mC (.int 12))) (aq (aD bh (aA 2) (mC (.int 13))) aH)))))))) aH)) aH))))
def qO:MS:=
 (aX (cC (pC (aq (mC (.str "4")) (aq (mC (.str "0")) (aq (mC (.str "2")) (aq (mC (.str "1")) (aq (mC (.str "3")) (aq (mC (.str "6")) (aq (mC (.str "8")) (aq (mC (.str "ab")) (aq (mC (.str "5")) (aq (mC (.str "0")) (aq (mC (.str "3")) (aq (mC (.str "1")) (aq (mC (.str "cd")) (aq (mC (.str "0")) (aq (mC (.str "9")) (aq (mC (.str "0")) aH))))))))))))))))) (gN 2))
 (aX (Qt (aA 2) (aA 0) (aA 1))
 (aX (cC (pC (aq (aD d9 (mC (.str "book ")) (F_ "str" vD (mC (.str " ")) (aq (MN (aA 2) jy (pA (mC (.int 2)))) aH))) (aq (aD d9 (mC (.str "base ")) (F_ "str" vD (mC (.str " ")) (aq (MN (aA 2) (pA (mC (.int 2))) (pA (mC (.int 6)))) aH))) aH))) (gN 3))
 (aX (pN (F_ "list" jY (aA 3) (aq (aD d9 (aD d9 (aD d9 (mC (.str "value ")) (aD bh (aA 2) (mC (.int 7)))) (mC (.str " "))) (aD bh (aA 2) (mC (.int 6)))) aH)))
 (aX (pN (F_ "list" jY (aA 3) (aq (aD d9 (aD d9 (aD d9 (mC (.str "answer ")) (aD bh (aA 2) (mC (.int 8)))) (mC (.str " 1 "))) (aD bh (aA 2) (mC (.int 9)))) aH)))
 (aX pU
 (fK (F_ "str" vD (mC (.str "\n")) (aq (aD d9 (aA 3) (pC (aq (mC (.str "end 5")) aH))) aH)))))))))
def Ba:Fn:=cu 4 qO
def qX:MS:=
 (vG (bC (aD sIs (aA 1) (mC .non))) (fK (aD sIs (aA 0) (mC .non))) dI)
def vZ:MS:=
 (vG (bC (vL Ak (aq (aA 1) (aq (mC (.ty "str")) aH)))) (fK (Ep (vL Ak (aq (aA 0) (aq (mC (.ty "str")) aH))) (aD sEq (aA 0) (aA 1)))) dI)
def jm:MS:=
 (aX qX
 (aX vZ
 (fK (Ep (vL Ak (aq (aA 0) (aq (mC (.ty "int")) aH))) (Ep (S6 (vL Ak (aq (aA 0) (aq (mC (.ty "bool")) aH)))) (aD sEq (aA 0) (aA 1)))))))
def jf:Fn:=cu 2 jm
def jr:MS:=
 (fK (vL GF (aq (j6 [4,5] (aA 0) "kept") aH)))
def qU:Fn:=cu 1 jr
def vY:MS:=
 (vG (bC (aD Ig (aA 1) (mC (.int 13)))) (fK (aD bh (aD bh (aA 3) (mC (.int 1))) (aD NP (aA 1) (mC (.int 13))))) dI)
def jN:MS:=
 (aX (cC (j6 [5] (aA 0) "row") (gN 2))
 (aX (cC (aD bh (cN 4 "entries" qU 1 [] (aA 2) aH) (mC (.int 0))) (gN 3))
 (aX (cC (pC (aq (j6 [5] (aA 0) "term") (aq (j6 [5] (aA 0) "vote") (aq (j6 [4] (aA 2) "base") (aq (j6 [4] (aA 2) "base_term") (aq (aD bh (j6 [4] (aA 2) "base_roll") (mC (.int 0))) (aq (aD bh (j6 [4] (aA 2) "base_roll") (mC (.int 1))) aH))))))) (gN 4))
 (aX (cC (aD d9 (aA 4) (pC (aq (aD bh (aD bh (aD bh (j6 [4,5] (aA 0) "kept") (mC (.int 0))) (mC (.int 0))) (mC (.int 1))) (aq (aD bh (aD bh (aD bh (j6 [4,5] (aA 0) "kept") (mC (.int 0))) (mC (.int 0))) (mC (.int 0))) (aq (aD bh (aD bh (aD bh (j6 [4,5] (aA 0) "kept") (mC (.int 1))) (mC (.int 0))) (mC (.int 0))) (aq (aD bh (aD bh (aD bh (j6 [4,5] (aA 0) "kept") (mC (.int 1))) (mC (.int 0))) (mC (.int 2))) aH)))))) (gN 4))
 (aX vY
 (fK (aD bh (aD d9 (aA 4) (pC (aq (aD bh (aA 3) (mC (.int 0))) (aq (aD bh (aD bh (aA 3) (mC (.int 1))) (mC (.int 2))) (aq (aD bh (aD bh (aD bh (aA 3) (mC (.int 1))) (mC (.int 3))) (mC (.int 1))) (aq (aD bh (aD bh (aD bh (aA 3) (mC (.int 1))) (mC (.int 3))) (mC (.int 2))) aH)))))) (aA 1))))))))
def lZ:Fn:=cu 5 jN
def Th:MS:=
 (vG (Oo (bC (jD kE 1 [] (aq (aD bh (jD m_ 2 [] (aq (jD jn 2 [] (aq (aA 0) (aq (mC (.int 0)) aH))) (aq (mC (.int 1)) aH))) (mC (.int 0))) aH)))) (fK (mC (.bl false))) dI)
def JV:MS:=
 (cC (jD cH 1 [] (aq (jD Ba 2 [] (aq (aA 4) (aq (aA 5) aH))) aH)) (gN 9))
def RB:MS:=
 (cC (aak [0,2] (aA 10)) (gN 8))
def CK:MS:=
 (GC 10 [(0,false),(2,true)] JV RB)
def CJ:MS:=
 (vG (Hq (bC (aA 6)) (mOr (bC (aD Qv (aA 8) (mC .non))) (Oo (bC (jD jf 2 [] (aq (jD lZ 2 [] (aq (aA 9) (aq (aA 4) aH))) (aq (aA 7) aH))))))) (fK (mC (.bl false))) dI)
def CG:MS:=
 (vG (Hq (Oo (bC (aA 6))) (bC (aD sNe (aA 8) (aD bh (pC (aq (mC (.int 1)) (aq (mC (.int 1)) (aq (mC (.int 2)) (aq (mC (.int 2)) (aq (mC (.int 2)) (aq (mC (.int 2)) (aq (mC (.int 3)) (aq (mC (.int 3)) (aq (mC (.int 4)) (aq (mC (.int 4)) (aq (mC (.int 5)) (aq (mC (.int 5)) (aq (mC (.int 5)) (aq (mC (.int 5)) (aq (mC (.int 5)) (aq (mC (.int 5)) aH))))))))))))))))) (aA 4))))) (fK (mC (.bl false))) dI)
def z8:MS:=
 (aX (cC (jD jn 2 [] (aq (aA 0) (aq (aA 1) aH))) (gN 2))
 (aX (cC (jD m_ 2 [] (aq (aA 2) (aq (mC (.int 6)) aH))) (gN 3))
 (aX (cC (aD nQ (aD bh (aA 3) (mC (.int 5))) (mC (.int 16))) (gN 4))
 (aX (cC (jD xY 2 [] (aq (aA 3) (aq (aA 2) aH))) (gN 5))
 (aX (cC (jD ni 2 [] (aq (aA 4) (aq (aA 5) aH))) (gT 2 (Bc (gN 6) (Bc (gN 7) Tp))))
 (aX (cC (mC .non) (gN 8))
 (aX (cC (mC .non) (gN 9))
 (aX CK
 (aX CJ
 CG)))))))))
def Tr:MS:=
 (Zy (S5 (aq (vL RX (aq (mC (.int 1)) (aq (vL RW (aq (vL qD (aq (aA 0) aH)) (aq (mC (.int 30)) aH))) aH))) aH)) (gN 1) z8)
def JM:MS:=
 (aX Th
 (aX Tr
 (fK (mC (.bl true)))))
def XC:Fn:=cu 11 JM
def aY(l:List Nat):Str:=⟨l.toArray⟩
@[simp] theorem cz(l:List Nat):(aY l).cps.toList=l:=by simp[aY]
theorem rA{a b:Str}(h:a.cps.toList=b.cps.toList):a=b:=Str.ext' (Array.toList_inj.mp h)
theorem adk(a:Str):aY a.cps.toList=a:=rA (by simp)
theorem K7{a b:List Nat}(h:aY a=aY b):a=b:=by
 have:=congrArg (fun s:Str=>s.cps.toList) h
 simpa using this
theorem j7(a:Str):a.length=a.cps.toList.length:=by simp[Str.length]
def o5(c:Nat):List Nat→List (List Nat)
 | []=>[[]]
 | a::l=>if a=c then[]::o5 c l else match o5 c l with
  | []=>[[a]]
  | h::t=>(a::h)::t
theorem TQ(c:Nat):∀l,o5 c l≠[]
 | []=>by simp[o5]
 | a::l=>by
  unfold o5
  split
  ·simp
  ·split<;>simp
theorem O9{c:Nat}{l:List Nat}:o5 c (c::l)=[]::o5 c l:=by rw[o5,if_pos rfl]
def yM(p:List Nat):List (List Nat)→List (List Nat)
 | []=>[p]
 | h::t=>(p++h)::t
theorem Ec{c a:Nat}{l:List Nat}(h:a≠c):o5 c (a::l)=yM [a] (o5 c l):=by
 rw[o5,if_neg h]
 cases e:o5 c l<;>simp[yM]
theorem Vl{c a:Nat}{p l:List Nat}(h:a≠c):yM p (o5 c (a::l))=yM (p++[a]) (o5 c l):=by
 rw[Ec h]
 cases o5 c l<;>simp[yM]
open Builtin.Str in
theorem K1(x:Str)(c:Nat):∀(n a:Nat) (st:Array Nat×Nat),st.2≤a→st.1.size≤a→a+n=x.length+1→
  (forIn (List.range' a n) st (StrLaws.occBody x ⟨#[c]⟩ x.length (x.length+1))).run.fst.toList=st.1.toList++(List.range' a n).filter fun i=>decide (x.cps.toList[i]? = some c)
 | 0,a,st,_,_,_=>by simp
 | n+1,a,st,h1,h2,h3=>by
  rw[List.range'_succ,List.forIn_cons,List.filter_cons]
  unfold StrLaws.occBody
  by_cases hx:x.cps.toList[a]? = some c
  ·have q:=(StrLaws.subAt_one x c a).mpr hx
   rw[if_pos ⟨⟨⟨by omega,h1⟩,q.1⟩,q.2⟩]
   have ih:=K1 x c n (a+1) (st.1.push a,a+1) (by simp) (by simp;omega) (by omega)
   simp only[hx,decide_true,if_true]
   refine ih.trans ?_
   simp
  ·have nq:¬(((st.1.size<x.length+1∧st.2≤a)∧a+(⟨#[c]⟩:Str).length≤x.length)∧subAt x ⟨#[c]⟩ a=true):=fun q=>hx ((StrLaws.subAt_one x c a).mp ⟨q.1.2,q.2⟩)
   rw[if_neg nq]
   have ih:=K1 x c n (a+1) (st.1,st.2) (by simp;omega) (by simp;omega) (by omega)
   simp only[hx,decide_false,Bool.false_eq_true,if_false]
   exact ih
theorem uo(x:Str)(c:Nat):∀(n a b:Nat),a≤b→b+n=x.length+1→0<n→
  StrLaws.partsFrom x 1 a ((List.range' b n).filter fun i=>decide (x.cps.toList[i]? = some c))=(yM ((x.cps.toList.drop a).take (b - a)) (o5 c (x.cps.toList.drop b))).map aY
 | 0,_,_,_,_,h=>absurd h (by omega)
 | n+1,a,b,hab,hb,_=>by
  have hl:=j7 x
  by_cases hn:n=0
  ·subst hn
   have e0:x.cps.toList[b]? = none:=List.getElem?_eq_none (by omega)
   have e1:x.cps.toList.drop b=[]:=List.drop_eq_nil_of_le (by omega)
   simp only[List.range'_succ,List.range'_zero,List.filter_cons,List.filter_nil,e0,e1,o5,yM]
   simp only[StrLaws.partsFrom,List.append_nil,List.map_cons,List.map_nil]
   refine congrArg (· :: []) (rA ?_)
   rw[StrLaws.strSub_toList,cz,show x.length - a=b - a from by omega]
  ·rw[List.range'_succ,List.filter_cons]
   obtain⟨v,hv⟩:∃v,x.cps.toList[b]? = some v:=⟨_,List.getElem?_eq_getElem (by omega)⟩
   have ed:x.cps.toList.drop b=v::x.cps.toList.drop (b+1):=by
    have hb':b<x.cps.toList.length:=by omega
    rw[List.drop_eq_getElem_cons hb']
    rw[List.getElem?_eq_getElem hb']at hv
    rw[Option.some.inj hv]
   rw[ed]
   by_cases hc:v=c
   ·subst hc
    simp only[hv,decide_true,if_true,StrLaws.partsFrom]
    rw[uo x v n (b+1) (b+1) (Nat.le_refl _) (by omega) (by omega)]
    simp only[Nat.sub_self,List.take_zero]
    rw[O9]
    have eg:yM [] (o5 v (x.cps.toList.drop (b+1)))=o5 v (x.cps.toList.drop (b+1)):=by
     cases e:o5 v (x.cps.toList.drop (b+1))with
     | nil=>exact absurd e (TQ _ _)
     | cons h t=>simp[yM]
    rw[eg]
    simp only[yM,List.append_nil,List.map_cons]
    refine congrArg (· :: _) (rA ?_)
    rw[StrLaws.strSub_toList,cz]
   ·have hne:¬(some v=some c):=fun z=>hc (Option.some.inj z)
    simp only[hv,hne,decide_false,Bool.false_eq_true,if_false]
    rw[uo x c n a (b+1) (by omega) (by omega) (by omega),Vl hc]
    have et:(x.cps.toList.drop a).take (b+1 - a)=(x.cps.toList.drop a).take (b - a)++[v]:=by
     have h1:b+1 - a=(b - a)+1:=by omega
     have h2:(x.cps.toList.drop a)[b - a]? = some v:=by rw[List.getElem?_drop,←hv];congr 1;omega
     rw[h1,List.take_succ,h2];rfl
    rw[et]
theorem strKind_pos(x:Str):1≤Builtin.Str.strKind x:=by
 unfold Builtin.Str.strKind
 split
 ·omega
 ·split<;>omega
theorem Ur(x:Str){c:Nat}(hc:c<256):Txt.split x ⟨#[c]⟩=(o5 c x.cps.toList).map aY:=by
 have hk:Builtin.Str.strKind ⟨#[c]⟩=1:=by
  unfold Builtin.Str.strKind
  rw[if_pos (by simp[hc])]
 have hl:=j7 x
 unfold Txt.split
 have h1:((⟨#[c]⟩:Str)).length=1:=rfl
 have hkp:=strKind_pos x
 by_cases h0:x.length<1
 ·rw[if_pos (by rw[h1,decide_eq_true h0];rfl)]
  have:x.cps.toList=[]:=List.eq_nil_of_length_eq_zero (by omega)
  rw[this]
  simp only[o5,List.map_cons,List.map_nil]
  exact congrArg (· :: []) (rA (by rw[this];simp))
 ·rw[if_neg (by rw[h1,hk,decide_eq_false h0,decide_eq_false (by omega)];decide)]
  have ho:Builtin.Str.occurrences x ⟨#[c]⟩ 0 x.length (x.length+1)=(List.range' 0 (x.length+1)).filter fun i=>decide (x.cps.toList[i]? = some c):=by
   rw[StrLaws.occ_eq]
   have:=K1 x c (x.length+1) 0 (#[],0) (Nat.le_refl _) (by simp) (by omega)
   simpa using this
  have hp:=uo x c (x.length+1) 0 0 (Nat.le_refl _) (by omega) (by omega)
  have eg:yM ((x.cps.toList.drop 0).take (0 - 0)) (o5 c (x.cps.toList.drop 0))=o5 c x.cps.toList:=by
   simp only[Nat.sub_self,List.take_zero,List.drop_zero]
   cases e:o5 c x.cps.toList with
   | nil=>exact absurd e (TQ _ _)
   | cons h t=>simp[yM]
  rw[eg]at hp
  rw[←ho]at hp
  split
  ·rename_i he
   rw[List.isEmpty_iff.mp he]at hp
   rw[←hp]
   simp only[StrLaws.partsFrom]
   exact congrArg (· :: []) (StrLaws.sub_whole x).symm
  ·rw[StrLaws.partsBetween_eq]
   exact hp
def dw(c:Nat):List (List Nat)→List Nat
 | []=>[]
 | [w]=>w
 | w::r=>w++c::dw c r
theorem yf(c:Nat):∀(ws:List (List Nat)),Txt.join ⟨#[c]⟩ (ws.map aY)=aY (dw c ws):=by
 intro ws
 unfold Txt.join
 rw[StrLaws.glued_eq_join]
 induction ws with
 | nil=>rfl
 | cons w r ih=>
  cases r with
  | nil=>rfl
  | cons v r=>
   show aY w++⟨#[c]⟩++Str.join ⟨#[c]⟩ ((v::r).map aY)=_
   rw[ih]
   apply rA
   simp[dw,Str.cps_append]
theorem O_{c:Nat}:∀{w l:List Nat},c∉w→o5 c (w++c::l)=w::o5 c l
 | [],l,_=>O9
 | a::w,l,h=>by
  have ha:a≠c:=fun z=>h (by simp[z])
  have hw:c∉w:=fun z=>h (by simp[z])
  show o5 c (a::(w++c::l))=_
  rw[Ec ha,O_ hw]
  rfl
theorem O8{c:Nat}:∀{w:List Nat},c∉w→o5 c w=[w]
 | [],_=>rfl
 | a::w,h=>by
  have ha:a≠c:=fun z=>h (by simp[z])
  have hw:c∉w:=fun z=>h (by simp[z])
  rw[Ec ha,O8 hw]
  rfl
theorem HB{c:Nat}:∀{ws:List (List Nat)},ws≠[]→(∀w∈ws,c∉w)→o5 c (dw c ws)=ws
 | [],h,_=>absurd rfl h
 | [w],_,h=>O8 (h w (by simp))
 | w::v::r,_,h=>by
  show o5 c (w++c::dw c (v::r))=_
  rw[O_ (h w (by simp)),HB (by simp) fun x hx=>h x (by simp at hx ⊢;exact .inr hx)]
theorem Gq{c:Nat}(hc:c<256){ws:List (List Nat)}(h:ws≠[])(hw:∀w∈ws,c∉w):Txt.split (Txt.join ⟨#[c]⟩ (ws.map aY)) ⟨#[c]⟩=ws.map aY:=by
 rw[yf,Ur _ hc,cz,HB h hw]
def Ik(m:Nat):List Nat:=(Nat.toDigits 10 m).map Char.toNat
def fD(n:Int):List Nat:=if n<0 then 45::Ik n.natAbs else Ik n.natAbs
theorem U5(n:Int):(Str.ofString (toString n)).cps.toList=fD n:=by
 rw[PyProof.Rows.signs_ofString]
 cases n with
 | ofNat m=>
  show(Nat.repr m).toList.map Char.toNat=_
  rw[Nat.toList_repr]
  have:¬(Int.ofNat m<0):=Int.not_lt.mpr (Int.natCast_nonneg m)
  simp only[fD,this,if_false]
  rfl
 | negSucc m=>
  show(("-" : String)++Nat.repr (m+1)).toList.map Char.toNat=_
  rw[String.toList_append,List.map_append,Nat.toList_repr]
  have:Int.negSucc m<0:=Int.negSucc_lt_zero m
  simp only[fD,this,if_true]
  rfl
theorem aah(n:Int):(Str.ofString (toString n))=aY (fD n):=rA (by rw[U5,cz])
theorem O3{m:Nat}(h:10≤m):Ik m=Ik (m / 10)++Ik (m % 10):=by
 have hm:m % 10<10:=Nat.mod_lt m (by decide)
 have t:Nat.toDigits 10 (m / 10)++Nat.toDigits 10 (m % 10)=Nat.toDigits 10 (10*(m / 10)+m % 10):=Nat.toDigits_append_toDigits (by decide) (by omega) hm
 rw[Nat.div_add_mod]at t
 unfold Ik
 rw[←t,List.map_append]
theorem zU{m:Nat}(h:m<10):Ik m=[48+m]:=by
 unfold Ik
 rw[Nat.toDigits_of_lt_base h]
 have:∀d,d<10→(Nat.digitChar d).toNat=48+d:=by decide
 simp[this m h]
theorem O5(m:Nat):∀c∈Ik m,48≤c∧c≤57:=by
 induction m using Nat.strongRecOn with
 | _ m ih=>
  by_cases h:m<10
  ·rw[zU h];intro c hc;simp at hc;omega
  ·rw[O3 (by omega)]
   intro c hc
   rcases List.mem_append.mp hc with q | q
   ·exact ih (m / 10) (by omega) c q
   ·rw[zU (Nat.mod_lt m (by decide))]at q
    simp at q
    have:=Nat.mod_lt m (show 10 > 0 by decide)
    omega
theorem O4{k:Nat}:∀{m:Nat},m<10 ^ (k+1)→(Ik m).length≤k+1:=by
 induction k with
 | zero=>intro m h;rw[zU (by omega)];simp
 | succ k ih=>
  intro m h
  by_cases h1:m<10
  ·rw[zU h1];simp
  ·rw[O3 (by omega),List.length_append,zU (Nat.mod_lt m (by decide))]
   have:m / 10<10 ^ (k+1):=by
    rw[Nat.div_lt_iff_lt_mul (by decide)]
    rw[Nat.pow_succ]at h
    exact h
   have:=ih this
   simp
   omega
theorem G6(n:Int):∀c∈fD n,c=45∨(48≤c∧c≤57):=by
 unfold fD
 split
 ·intro c hc
  rcases List.mem_cons.mp hc with q | q
  ·exact .inl q
  ·exact .inr (O5 _ c q)
 ·intro c hc;exact .inr (O5 _ c hc)
theorem zp{n:Int}(h:n.natAbs<10 ^ 41):(fD n).length≤42:=by
 have:=O4 (k:=40) h
 unfold fD
 split
 ·simp;omega
 ·omega
theorem Us{n:Int}(h:n.natAbs<10 ^ 41):n.natAbs.log2<1920:=by
 by_cases h0:n.natAbs=0
 ·rw[h0];decide
 ·rw[Nat.log2_lt h0]
  exact Nat.lt_of_lt_of_le h (by decide +kernel)
theorem adg(n:Int):32∉fD n∧10∉fD n:=⟨fun h=>by have:=G6 n _ h;omega,fun h=>by have:=G6 n _ h;omega⟩
def nF(l:List Nat):List Nat:=if l.head? = some 45 then l.tail else l
def uM(l:List Nat):Bool:=(decide (1≤(nF l).length)&&(decide ((nF l).length≤100)&&(nF l).all fun c=>decide (48≤c∧c≤57)))&&(decide (l=[48])|| !decide ((nF l).head? = some 48))
def j8(l:List Nat):Bool:=decide (1≤l.length)&&(decide (l.length≤8)&&l.all fun c=>decide (97≤c∧c≤122))
def Gr(M M':Mem):Prop:=∀(i:Nat) (o:MO),M[i]? = some o→M'[i]? = some o
theorem Gr.refl{M:Mem}:Gr M M:=fun _ _ h=>h
theorem Gr.trans{M M1 M2:Mem}(a:Gr M M1)(b:Gr M1 M2):Gr M M2:=fun i o h=>b i o (a i o h)
theorem Gr.app{M:Mem}{xs:List MO}:Gr M (M++xs):=fun i o h=>by
 rw[List.getElem?_append_left (List.getElem?_eq_some_iff.mp h).1];exact h
theorem pQ{M:Mem}{i:Nat}{o:MO}(h:M[i]? = some o):i<M.length:=(List.getElem?_eq_some_iff.mp h).1
theorem aP{M:Mem}{o:MO}:(M++[o])[M.length]? = some o:=by simp
theorem get_set{M:Mem}{n:Nat}{o x:MO}(h:M[n]? = some o):(M.set n x)[n]? = some x:=List.getElem?_set_self (pQ h)
theorem qM{M:Mem}{n i:Nat}{x:MO}(h:n≠i):(M.set n x)[i]? = M[i]? := List.getElem?_set_ne h
theorem Gr.le{M M':Mem}(h:Gr M M'):M.length≤M'.length:=by
 cases z:M.length with
 | zero=>omega
 | succ n=>
  have q:M[n]? = some M[n]:=List.getElem?_eq_getElem (by omega)
  have:=pQ (h _ _ q)
  omega
def Ch(p:Nat→Prop)(M M':Mem):Prop:=M.length≤M'.length∧∀(i:Nat) (o:MO),¬p i→M[i]? = some o→M'[i]? = some o
theorem Ch.trans{p:Nat→Prop}{M M1 M2:Mem}(a:Ch p M M1)(b:Ch p M1 M2):Ch p M M2:=⟨Nat.le_trans a.1 b.1,fun i o n h=>b.2 i o n (a.2 i o n h)⟩
theorem Ch.mono{p q:Nat→Prop}{M M1:Mem}(a:Ch p M M1)(h:∀i,i<M.length→p i→q i):Ch q M M1:=⟨a.1,fun i o n e=>a.2 i o (fun z=>n (h i (pQ e) z)) e⟩
theorem Gr.ch{p:Nat→Prop}{M M':Mem}(h:Gr M M'):Ch p M M':=⟨h.le,fun i o _ e=>h i o e⟩
theorem Ch.set{p:Nat→Prop}{M:Mem}{n:Nat}{o:MO}(h:p n):Ch p M (M.set n o):=⟨by simp,fun i x z e=>by
 rw[qM (fun q=>z (by rw[←q];exact h))];exact e⟩
theorem Ch.new{p:Nat→Prop}{M M':Mem}(h:Ch p M M')(hp:∀i,i<M.length→¬p i):Gr M M':=fun i o e=>h.2 i o (hp i (pQ e)) e
def afQ(b bt:Int)(br:D)(l:Nat):MO:= .ins 4 [("base",.int b),("base_term",.int bt),("base_roll",br),("kept",.ref l)]
structure lJ(M:Mem)(r:Nat)(b bt:Int)(br:D)(l:Nat)(es:List D):Prop where
 o:M[r]? = some (afQ b bt br l)
 k:M[l]? = some (.lst es)
section
variable{M M':Mem}{r l:Nat}{b bt:Int}{br:D}{es:List D}
theorem lJ.gr(R:lJ M r b bt br l es)(g:Gr M M'):lJ M' r b bt br l es:=⟨g _ _ R.o,g _ _ R.k⟩
theorem lJ.ch{p:Nat→Prop}(R:lJ M r b bt br l es)(g:Ch p M M')(h1:¬p r)(h2:¬p l):lJ M' r b bt br l es:=⟨g.2 _ _ h1 R.o,g.2 _ _ h2 R.k⟩
theorem lJ.fb(R:lJ M r b bt br l es):Al [4] "base" (.ref r) M= .ok (.int b) M:=qZ R.o (by simp) rfl
theorem lJ.ft(R:lJ M r b bt br l es):Al [4] "base_term" (.ref r) M= .ok (.int bt) M:=qZ R.o (by simp) rfl
theorem lJ.fr(R:lJ M r b bt br l es):Al [4] "base_roll" (.ref r) M= .ok br M:=qZ R.o (by simp) rfl
theorem lJ.fk(R:lJ M r b bt br l es):Al [4,5] "kept" (.ref r) M= .ok (.ref l) M:=qZ R.o (by simp) rfl
theorem lJ.me(R:lJ M r b bt br l es){m:Str}(h:List.lookup m [(("base" : Str),D.int b),("base_term",.int bt),("base_roll",br),("kept",.ref l)]=none):Aq 4 m (.ref r) M=true:=Oz R.o h
theorem Hy(R:lJ M r b bt br l es):qU [.ref r] M= .ok (.ref M.length) (M++[.lst es]):=by
 simp[qU,jr,R.fk,Je R.k]
end
theorem aaw{M:Mem}{n h:Nat}{b bt:Int}{br:D}{es:List D}(h0:M[n]? = some (.ins 4 []))(hh:M[h]? = some (.lst es)):
  ∃M',qJ [.ref n,.int b,.int bt,br,.ref h] M= .ok .non M'∧lJ M' n b bt br M.length es∧Ch (· = n) M M'∧M'.length=M.length+1:=by
 have ne:n≠h:=fun e=>by subst e;rw[h0]at hh;cases hh
 have e1:rD [4] "base" (.int b) (.ref n) M=some (M.set n (.ins 4 [("base",.int b)])):=pO h0 (by simp) (by simp)
 have e2:rD [4] "base_term" (.int bt) (.ref n) (M.set n (.ins 4 [("base",.int b)]))=some (M.set n (.ins 4 [("base",.int b),("base_term",.int bt)])):=by
  rw[pO (get_set h0) (by simp) (by simp),List.set_set];rfl
 have e3:rD [4] "base_roll" br (.ref n) (M.set n (.ins 4 [("base",.int b),("base_term",.int bt)]))=some (M.set n (.ins 4 [("base",.int b),("base_term",.int bt),("base_roll",br)])):=by
  rw[pO (get_set h0) (by simp) (by simp),List.set_set];rfl
 have e4:GF [.ref h] (M.set n (.ins 4 [("base",.int b),("base_term",.int bt),("base_roll",br)]))= .ok (.ref M.length) (M.set n (.ins 4 [("base",.int b),("base_term",.int bt),("base_roll",br)])++[.lst es]):=by
  rw[Je (ds:=es) (by rw[qM ne];exact hh),List.length_set]
 have hn:=pQ h0
 have g:(M.set n (.ins 4 [("base",.int b),("base_term",.int bt),("base_roll",br)])++[MO.lst es])[n]? = some (.ins 4 [("base",.int b),("base_term",.int bt),("base_roll",br)]):=by
  rw[List.getElem?_append_left (by simpa using hn)];exact get_set h0
 have e5:rD [4,5] "kept" (.ref M.length) (.ref n) (M.set n (.ins 4 [("base",.int b),("base_term",.int bt),("base_roll",br)])++[MO.lst es])=some ((M.set n (.ins 4 [("base",.int b),("base_term",.int bt),("base_roll",br)])++[MO.lst es]).set n (afQ b bt br M.length)):=by
  rw[pO g (by simp) (by simp)];rfl
 refine⟨_,by simp only[qJ,mV];simp[e1,e2,e3,e4,e5],⟨get_set g,?_⟩,⟨by simp,fun i o hi h=> ?_⟩,by simp⟩
 ·rw[qM (by omega),List.getElem?_append_right (by simp)]
  simp
 ·rw[qM (Ne.symm hi),List.getElem?_append_left (by simpa using pQ h),qM (Ne.symm hi)]
  exact h
theorem K_{M:Mem}{h:Nat}{b bt:Int}{br:D}{es:List D}(hh:M[h]? = some (.lst es)):
  ∃M',(qJ [.ref M.length,.int b,.int bt,br,.ref h] (M++[.ins 4 []]))= .ok .non M'∧lJ M' M.length b bt br (M.length+1) es∧Gr M M':=by
 obtain⟨M',e,R,k,z⟩:=aaw (M:=M++[.ins 4 []]) (n:=M.length) (h:=h) (b:=b) (bt:=bt) (br:=br) (es:=es) aP (by rw[List.getElem?_append_left (pQ hh)];exact hh)
 refine⟨M',e,?_,fun i o hi=>k.2 i o (Nat.ne_of_lt (pQ hi)) (Gr.app _ _ hi)⟩
 simpa using R
theorem Y7{M:Mem}{r l:Nat}{b bt:Int}{br:D}{es:List D}(R:lJ M r b bt br l es):∃M',x_ [.ref r] M= .ok (.ref M.length) M'∧lJ M' M.length b bt br (M.length+1) es∧Gr M M':=by
 obtain⟨M',e,R',g⟩:=K_ (M:=M) (b:=b) (bt:=bt) (br:=br) R.k
 refine⟨M',?_,R',g⟩
 simp only[x_,o7]
 simp[R.fb,R.ft,R.fr,R.fk,e]
structure Bm(M:Mem)(k r l:Nat)(tm:Int)(vt:D)(b bt:Int)(br:D)(kept:D)(es:List D):Prop where
 o:M[k]? = some (.ins 5 [("term",.int tm),("vote",vt),("row",.ref r),("kept",kept)])
 row:lJ M r b bt br l es
section
variable{M M':Mem}{k r l:Nat}{tm b bt:Int}{vt br kept:D}{es:List D}
theorem Bm.gr(B:Bm M k r l tm vt b bt br kept es)(g:Gr M M'):Bm M' k r l tm vt b bt br kept es:=⟨g _ _ B.o,B.row.gr g⟩
theorem Bm.ft(B:Bm M k r l tm vt b bt br kept es):Al [5] "term" (.ref k) M= .ok (.int tm) M:=qZ B.o (by simp) rfl
theorem Bm.fv(B:Bm M k r l tm vt b bt br kept es):Al [5] "vote" (.ref k) M= .ok vt M:=qZ B.o (by simp) rfl
theorem Bm.fr(B:Bm M k r l tm vt b bt br kept es):Al [5] "row" (.ref k) M= .ok (.ref r) M:=qZ B.o (by simp) rfl
theorem Bm.fk(B:Bm M k r l tm vt b bt br kept es):Al [4,5] "kept" (.ref k) M= .ok kept M:=qZ B.o (by simp) rfl
end
theorem T7{M:Mem}{r l:Nat}{tm b bt:Int}{vt br kept:D}{es:List D}(R:lJ M r b bt br l es):
  ∃M',vK [.ref M.length,.int tm,vt,.ref r,kept] (M++[.ins 5 []])= .ok .non M'∧Bm M' M.length (M.length+1) (M.length+2) tm vt b bt br kept es∧Gr M M':=by
 have h0:(M++[MO.ins 5 []])[M.length]? = some (.ins 5 []):=aP
 have e1:rD [5] "term" (.int tm) (.ref M.length) (M++[MO.ins 5 []])=some (M++[.ins 5 [("term",.int tm)]]):=by
  rw[pO h0 (by simp) (by simp)];simp[putD]
 have e2:rD [5] "vote" vt (.ref M.length) (M++[MO.ins 5 [("term",.int tm)]])=some (M++[.ins 5 [("term",.int tm),("vote",vt)]]):=by
  rw[pO aP (by simp) (by simp)];simp[putD];decide
 have R1:lJ (M++[MO.ins 5 [("term",.int tm),("vote",vt)]]) r b bt br l es:=R.gr Gr.app
 obtain⟨M1,e3,R2,g⟩:=Y7 R1
 have eL:(M++[MO.ins 5 [("term",.int tm),("vote",vt)]]).length=M.length+1:=by simp
 rw[eL]at e3 R2
 have q1:M1[M.length]? = some (.ins 5 [("term",.int tm),("vote",vt)]):=g _ _ aP
 have e4:rD [5] "row" (.ref (M.length+1)) (.ref M.length) M1=some (M1.set M.length (.ins 5 [("term",.int tm),("vote",vt),("row",.ref (M.length+1))])):=by
  rw[pO q1 (by simp) (by simp)];rfl
 have e5:rD [4,5] "kept" kept (.ref M.length) (M1.set M.length (.ins 5 [("term",.int tm),("vote",vt),("row",.ref (M.length+1))]))=some (M1.set M.length (.ins 5 [("term",.int tm),("vote",vt),("row",.ref (M.length+1)),("kept",kept)])):=by
  rw[pO (get_set q1) (by simp) (by simp),List.set_set];rfl
 have c:Ch (· = M.length) M1 (M1.set M.length (.ins 5 [("term",.int tm),("vote",vt),("row",.ref (M.length+1)),("kept",kept)])):=Ch.set rfl
 refine⟨_,?_,⟨get_set q1,R2.ch c (by omega) (by omega)⟩,fun i o h=>c.2 i o (Nat.ne_of_lt (pQ h)) (g _ _ (Gr.app _ _ h))⟩
 simp only[vK,mW]
 simp[e1,e2,R1.me (m:= "twin") rfl,e3,e4,e5]
theorem SN:("\n" : Str)=⟨#[10]⟩:=by decide
theorem T6:(" " : Str)=⟨#[32]⟩:=by decide
structure fJ(M:Mem)(r l:Nat)(rows:List Str)(k:Int):Prop where
 o:M[r]? = some (.ins 3 [("rows",.ref l),("here",.int k)])
 k:M[l]? = some (.lst (rows.map D.str))
section
variable{M M':Mem}{r l:Nat}{rows:List Str}{k:Int}
theorem fJ.gr(R:fJ M r l rows k)(g:Gr M M'):fJ M' r l rows k:=⟨g _ _ R.o,g _ _ R.k⟩
theorem fJ.ch{p:Nat→Prop}(R:fJ M r l rows k)(g:Ch p M M')(h1:¬p r)(h2:¬p l):fJ M' r l rows k:=⟨g.2 _ _ h1 R.o,g.2 _ _ h2 R.k⟩
theorem fJ.fr(R:fJ M r l rows k):Al [3] "rows" (.ref r) M= .ok (.ref l) M:=qZ R.o (by simp) rfl
theorem fJ.fh(R:fJ M r l rows k):Al [3] "here" (.ref r) M= .ok (.int k) M:=qZ R.o (by simp) rfl
theorem fJ.me(R:fJ M r l rows k){m:Str}(h:List.lookup m [(("rows" : Str),D.ref l),("here",.int k)]=none):Aq 3 m (.ref r) M=true:=Oz R.o h
theorem fJ.ne(R:fJ M r l rows k):l≠r:=fun e=>by subst e;have:=R.k;rw[R.o]at this;cases this
end
theorem Ss{M:Mem}{t:Str}(h:t.length+2≤16777216):
  ∃M',qW [.ref M.length,.str t] (M++[.ins 3 []])= .ok .non M'∧fJ M' M.length (M.length+1) (Txt.split t "\n") 1∧Gr M M'∧M'.length=M.length+2:=by
 have e0:zf (.str t) [.str "\n"] (M++[MO.ins 3 []])= .ok (.ref (M.length+1)) (M++[MO.ins 3 [],.lst ((Txt.split t "\n").map D.str)]):=by
  rw[Jd h (by decide)];simp
 have h0:(M++[MO.ins 3 [],.lst ((Txt.split t "\n").map D.str)])[M.length]? = some (.ins 3 []):=by simp
 have e1:rD [3] "rows" (.ref (M.length+1)) (.ref M.length) (M++[MO.ins 3 [],.lst ((Txt.split t "\n").map D.str)])=some (M++[MO.ins 3 [("rows",.ref (M.length+1))],.lst ((Txt.split t "\n").map D.str)]):=by
  rw[pO h0 (by simp) (by simp)];simp[putD]
 have h1:(M++[MO.ins 3 [("rows",.ref (M.length+1))],.lst ((Txt.split t "\n").map D.str)])[M.length]? = some (.ins 3 [("rows",.ref (M.length+1))]):=by simp
 have e2:rD [3] "here" (.int 1) (.ref M.length) (M++[MO.ins 3 [("rows",.ref (M.length+1))],.lst ((Txt.split t "\n").map D.str)])=some (M++[MO.ins 3 [("rows",.ref (M.length+1)),("here",.int 1)],.lst ((Txt.split t "\n").map D.str)]):=by
  rw[pO h1 (by simp) (by simp)];simp[putD];decide
 refine⟨_,?_,⟨?_,?_⟩,Gr.app (xs:=[MO.ins 3 [("rows",.ref (M.length+1)),("here",.int 1)],.lst ((Txt.split t "\n").map D.str)]),by simp⟩
 ·simp only[qW,jt]
  simp[e0,e1,e2,MK]
 ·simp
 ·simp
def ts(ws:List (List Nat)):List D:=ws.map fun w=>D.str (aY w)
def bL(ws:List (List Nat)):Str:=Txt.join " " (ws.map aY)
def Wd(w:List Nat):Prop:=32∉w∧10∉w∧w.length≤150
def yz(ws:List (List Nat)):Prop:=ws≠[]∧ws.length≤20∧∀w∈ws,Wd w
theorem Jl{c:Nat}:∀(ws:List (List Nat)),(∀w∈ws,w.length≤150)→(dw c ws).length≤ws.length*151
 | [],_=>by simp[dw]
 | [w],h=>by have:=h w (by simp);simp[dw];omega
 | w::v::r,h=>by
  have h1:=h w (by simp)
  have h2:=Jl (c:=c) (v::r) fun x hx=>h x (by simp at hx ⊢;exact .inr hx)
  simp only[dw,List.length_append,List.length_cons]at h2 ⊢
  omega
theorem jZ(ws:List (List Nat)):bL ws=aY (dw 32 ws):=by unfold bL;rw[T6,yf]
theorem GK{ws:List (List Nat)}(h:yz ws):(bL ws).length≤3020:=by
 rw[jZ,j7,cz]
 have:=Jl (c:=32) ws fun w hw=>(h.2.2 w hw).2.2
 have:=h.2.1
 omega
theorem Qx{ws:List (List Nat)}(h:yz ws):Txt.split (bL ws) " " = ws.map aY:=by
 unfold bL
 rw[T6]
 exact Gq (by decide) h.1 fun w hw=>(h.2.2 w hw).1
theorem aba(ws:List (List Nat)):(ws.map aY).map D.str=ts ws:=by simp[ts]
section
variable{M:Mem}{r l:Nat}{rows:List Str}{k:Int}{i:Nat}{ws:List (List Nat)}
theorem Gf(R:fJ M r l rows k)(hk:k=i+1)(h:rows[i]? = some (bL ws))(hw:yz ws):iH [.ref r] M= .ok (.ref M.length) (M++[.lst (ts ws)]):=by
 have hi:i<rows.length:=(List.getElem?_eq_some_iff.mp h).1
 have e1:bh (.ref l) (.int (k - 1)) M= .ok (.str (bL ws)) M:=qR R.k (by omega) (by rw[show(k - 1).toNat=i by omega,List.getElem?_map,h];rfl)
 have e2:zf (.str (bL ws)) [.str " "] M= .ok (.ref M.length) (M++[.lst (ts ws)]):=by
  rw[Jd (by have:=GK hw;omega) (by decide),Qx hw,aba]
 have h1:¬((rows.length:Int)<k):=by omega
 simp only[iH,e_,wK]
 simp[R.fr,R.fh,uA R.k,h1,e1,e2,MK]
theorem Vx(R:fJ M r l rows k)(hk:k=i+1){w:List Nat}(h:rows[i]? = some (bL (w::ws)))(hw:yz (w::ws))(b:Str):gJ [.ref r,.str b] M= .ok (.bl (decide (aY w=b))) (M++[.lst (ts (w::ws))]):=by
 have e1:=Gf R hk h hw
 have e2:bh (.ref M.length) (.int 0) (M++[.lst (ts (w::ws))])= .ok (.str (aY w)) (M++[.lst (ts (w::ws))]):=qR aP (by omega) rfl
 simp only[gJ,dW]
 simp[R.me (m:= "words") rfl,e1,e2]
theorem Ni(R:fJ M r l rows k)(hk:k=i+1){w:List Nat}(h:rows[i]? = some (bL (w::ws)))(hw:yz (w::ws)){b:Str}(hb:aY w=b){n:Int}(hn:n=(ws.length:Int)+1):
  cM [.ref r,.str b,.int n] M= .ok (.ref M.length) (M++[.lst (ts (w::ws))]):=by
 have e1:=Gf R hk h hw
 have e2:bh (.ref M.length) (.int 0) (M++[.lst (ts (w::ws))])= .ok (.str (aY w)) (M++[.lst (ts (w::ws))]):=qR aP (by omega) rfl
 have e3:qD [.ref M.length] (M++[.lst (ts (w::ws))])= .ok (.int n) (M++[.lst (ts (w::ws))]):=by
  rw[uA aP];simp[ts,hn]
 simp only[cM,bQ,tU]
 simp[R.me (m:= "words") rfl,e1,e2,e3,hb]
theorem zF(R:fJ M r l rows k):∃M',gm [.ref r] M= .ok .non M'∧fJ M' r l rows (k+1)∧Ch (· = r) M M'∧M'.length=M.length:=by
 have e1:rD [3] "here" (.int (k+1)) (.ref r) M=some (M.set r (.ins 3 [("rows",.ref l),("here",.int (k+1))])):=by
  rw[pO R.o (by simp) (by simp)];rfl
 refine⟨_,?_,⟨get_set R.o,?_⟩,Ch.set rfl,by simp⟩
 ·simp only[gm,cX]
  simp[R.fh,e1]
 ·rw[qM (Ne.symm R.ne)];exact R.k
end
theorem adC{c:Nat}{sg:Str}{M:Mem}:Uu (.str ⟨#[c]⟩) (.str sg) M= .ok (.bl (decide (c∈sg.cps.toList))) M:=by
 show Out.ok (D.bl (!(Builtin.Str.occurrences sg ⟨#[c]⟩ 0 sg.length 1).isEmpty)) M=_
 rw[StrLaws.found_one]
theorem S9{z:Str}{M:Mem}(h:z.length≤16777216):qD [.str z] M= .ok (.int z.length) M:=by
 unfold qD
 refine(aaa ?_).trans ?_
 ·rfl
 ·simp only[RZ]
  rw[if_pos (by rw[nu];exact h)]
def Lw(s:Str):List Nat:=s.cps.toList
@[simp] theorem yR(l:List Nat):Lw (aY l)=l:=cz l
theorem Rp{a b:Str}(h:Lw a=Lw b):a=b:=rA h
theorem wk(a:Str):a.length=(Lw a).length:=j7 a
theorem aax{c:Nat}{sg:Str}{M:Mem}:Uu (.str ⟨#[c]⟩) (.str sg) M= .ok (.bl (decide (c∈Lw sg))) M:=adC
theorem abw{w:Str}{M:Mem}(h:w.length≤16777216):itS (.str w) M= .ok ⟨none,(Lw w).map fun c=>D.str ⟨#[c]⟩⟩ M:=by
 simp only[itS];rw[if_pos (by rw[nu];exact h)];rfl
def oneOf(z:Str):Nat:=(z.cps.toList).headD 0
@[simp] theorem agF(c:Nat):oneOf ⟨#[c]⟩=c:=rfl
theorem Ri(f:Nat→Bool)(l:List Nat):(l.map f).all id=l.all f:=by simp[List.all_map]
theorem Ow{M:Mem}{w sg:Str}{n:Int}(h:w.length≤16777216):∃M',xZ [.str w,.str sg,.int n] M= .ok (.bl (decide (1≤w.length)&&(decide ((w.length:Int)≤n)&&(Lw w).all fun c=>decide (c∈(Lw sg))))) M'∧Gr M M':=by
 have e1:=S9 (M:=M) h
 by_cases h1:1≤w.length
 ·by_cases h2:(w.length:Int)≤n
  ·obtain⟨M1,nJ⟩:∃M1,M1=M++[MO.lst (((Lw w).map fun c=>decide (c∈(Lw sg))).map D.bl)]:=⟨_,rfl⟩
   refine⟨M1,?_,by rw[nJ];exact Gr.app⟩
   have e2:=abw (M:=M) h
   have e3:yV none Cw (aD Uu (aA 0) (aA 1)) [some (.str sg)] ((Lw w).map fun c=>D.str ⟨#[c]⟩) [] M= .ok (.ref M.length) (M++[.lst (((Lw w).map fun c=>decide (c∈(Lw sg))).map D.bl)]):=by
    rw[Yu (src:=none) (fun d=>match d with | .str z=> .bl (decide (oneOf z∈(Lw sg))) | _=> .non) trivial]
    ·simp[List.map_map]
     exact fun a _=>decide_eq_decide.mpr Iff.rfl
    ·intro d hd
     obtain⟨c,_,rfl⟩:=List.mem_map.mp hd
     simp[aax]
     exact decide_eq_decide.mpr Iff.rfl
   have e4:=WY (M:=M++[.lst (((Lw w).map fun c=>decide (c∈(Lw sg))).map D.bl)]) (n:=M.length) aP
   rw[Ri]at e4
   rw[←nJ]at e3 e4
   simp only[xZ,rz]
   have h1':(1:Int)≤w.length:=by omega
   have ec:um [1] [some (D.str w),some (.str sg),some (.int n)]=[some (.str sg)]:=rfl
   simp[e1,h1,h1',h2,e2,ec,e3,e4]
  ·refine⟨M,?_,Gr.refl⟩
   have h1':(1:Int)≤w.length:=by omega
   simp only[xZ,rz]
   simp[e1,h1,h1',h2]
 ·refine⟨M,?_,Gr.refl⟩
  have h1':¬((1:Int)≤w.length):=by omega
  simp only[xZ,rz]
  simp[e1,h1,h1']
theorem Yk:(Lw "0123456789")=[48,49,50,51,52,53,54,55,56,57]:=by decide
theorem XM:(Lw "abcdefghijklmnopqrstuvwxyz")=[97,98,99,100,101,102,103,104,105,106,107,108,109,110,111,112,113,114,115,116,117,118,119,120,121,122]:=by decide
theorem Tq(c:Nat):decide (c∈(Lw "0123456789"))=decide (48≤c∧c≤57):=by
 rw[Yk]
 refine decide_eq_decide.mpr ⟨fun h=> ?_,fun h=> ?_⟩
 ·simp at h;omega
 ·simp;omega
theorem S8(c:Nat):decide (c∈(Lw "abcdefghijklmnopqrstuvwxyz"))=decide (97≤c∧c≤122):=by
 rw[XM]
 refine decide_eq_decide.mpr ⟨fun h=> ?_,fun h=> ?_⟩
 ·simp at h;omega
 ·simp;omega
theorem Ay(w:Str)(c:Nat):Txt.startswith w ⟨#[c]⟩=decide ((Lw w).head? = some c):=by
 unfold Txt.startswith
 have h:(0+(⟨#[c]⟩:Str).length≤w.length∧Builtin.Str.subAt w ⟨#[c]⟩ 0=true)↔(Lw w)[0]? = some c:=StrLaws.subAt_one w c 0
 rw[←List.head?_eq_getElem?]at h
 by_cases q:(Lw w).head? = some c
 ·have:=h.mpr q
  rw[decide_eq_true q,this.2,decide_eq_true this.1];rfl
 ·rw[decide_eq_false q]
  by_cases q1:0+(⟨#[c]⟩:Str).length≤w.length
  ·have:Builtin.Str.subAt w ⟨#[c]⟩ 0=false:=by
    cases z:Builtin.Str.subAt w ⟨#[c]⟩ 0 with
    | false=>rfl
    | true=>exact absurd (h.mp ⟨q1,z⟩) q
   rw[this,Bool.and_false]
  ·rw[decide_eq_false q1,Bool.false_and]
theorem Ci:("-" : Str)=⟨#[45]⟩:=by decide
theorem Ac:("0" : Str)=⟨#[48]⟩:=by decide
theorem abZ(w:Str)(h:1≤w.length):Txt.slice w (some 1) none=aY (Lw w).tail:=by
 have hl:=wk w
 have e:=StrLaws.sliceText_from (x:=w) (i:=1) ⟨by decide,by show(1:Int)≤(Lw w).length;omega⟩
 refine Eq.trans e ?_
 apply Rp
 rw[yR]
 show((((Lw w).drop (1:Int).toNat).take _).toArray).toList=_
 rw[List.toList_toArray,←List.drop_one]
 refine List.take_of_length_le ?_
 simp only[List.length_drop]
 show(Lw w).length - 1≤(((Lw w).length:Int) - 1).toNat
 omega
theorem Lp{M:Mem}{w:Str}(h:w.length≤16777216):∃M',vJ [.str w] M= .ok (.bl (uM (Lw w))) M'∧Gr M M':=by
 have hf:∃f:Str,(Lw f)=nF (Lw w)∧f.length≤16777216∧qY [some (.str w),some (.str w)] M= .next [some (.str w),some (.str f)] M:=by
  by_cases q:(Lw w).head? = some 45
  ·have hl:1≤w.length:=by
    rw[wk]
    cases z:(Lw w)with
    | nil=>rw[z]at q;cases q
    | cons _ _=>simp
   have hs:Txt.startswith w "-" = true:=by rw[Ci,Ay,decide_eq_true q]
   refine⟨aY (Lw w).tail,by rw[yR];simp[nF,q],?_,?_⟩
   ·rw[wk,yR,List.length_tail,←wk];omega
   ·simp only[qY]
    have e:FQ (.str w) (some 1) none M= .ok (.str (aY (Lw w).tail)) M:=by
     rw[←abZ w hl]
     simp only[FQ,Aj,nu,h,if_true]
    simp[MK,hs,e]
  ·have hs:Txt.startswith w "-" = false:=by rw[Ci,Ay,decide_eq_false q]
   refine⟨w,by simp[nF,q],h,?_⟩
   simp only[qY]
   simp[MK,hs]
 obtain⟨f,hfe,hfl,ef⟩:=hf
 obtain⟨M1,e1,g1⟩:=Ow (M:=M) (w:=f) (sg:= "0123456789") (n:=100) hfl
 have ea:((Lw f).all fun c=>decide (c∈(Lw "0123456789")))=(nF (Lw w)).all fun c=>decide (48≤c∧c≤57):=by
  rw[hfe]
  congr 1
  funext c
  exact Tq c
 have el:f.length=(nF (Lw w)).length:=by rw[wk,hfe]
 rw[ea,el]at e1
 have hs:Txt.startswith f "0" = decide ((nF (Lw w)).head? = some 48):=by rw[Ac,Ay,hfe]
 have hw:(w=("0" : Str))↔(Lw w)=[48]:=⟨fun z=>by rw[z];decide,fun z=>Rp (by rw[z];decide)⟩
 refine⟨M1,?_,g1⟩
 simp only[vJ,mU,Ar]
 have hi:(((nF (Lw w)).length:Int)≤100)↔(nF (Lw w)).length≤100:=by omega
 simp only[uM]
 by_cases q:(decide (1≤(nF (Lw w)).length)&&(decide ((nF (Lw w)).length≤100)&&(nF (Lw w)).all fun c=>decide (48≤c∧c≤57)))=true
 ·have q':(decide (1≤(nF (Lw w)).length)&&(decide (((nF (Lw w)).length:Int)≤100)&&(nF (Lw w)).all fun c=>decide (48≤c∧c≤57)))=true:=by
   rw[decide_eq_decide.mpr hi];exact q
  rw[q']at e1
  rw[q]
  simp[ef,e1,hs,hw,MK]
  by_cases z:(Lw w)=[48]<;>simp[z]
 ·have q2:=Bool.eq_false_iff.mpr q
  have q':(decide (1≤(nF (Lw w)).length)&&(decide (((nF (Lw w)).length:Int)≤100)&&(nF (Lw w)).all fun c=>decide (48≤c∧c≤57)))=false:=by
   rw[decide_eq_decide.mpr hi];exact q2
  rw[q']at e1
  rw[q2]
  simp[ef,e1]
theorem Q6{M:Mem}{w:Str}(h:w.length≤16777216):∃M',Ae [.str w] M= .ok (.bl (j8 (Lw w))) M'∧Gr M M':=by
 obtain⟨M1,e1,g1⟩:=Ow (M:=M) (w:=w) (sg:= "abcdefghijklmnopqrstuvwxyz") (n:=8) h
 have ea:((Lw w).all fun c=>decide (c∈(Lw "abcdefghijklmnopqrstuvwxyz")))=(Lw w).all fun c=>decide (97≤c∧c≤122):=by
  congr 1
  funext c
  exact S8 c
 rw[ea,wk]at e1
 refine⟨M1,?_,g1⟩
 simp only[Ae,qP]
 have hi:((((Lw w)).length:Int)≤8)↔((Lw w)).length≤8:=by omega
 rw[show decide (((Lw w).length:Int)≤8)=decide ((Lw w).length≤8)from decide_eq_decide.mpr hi]at e1
 simp[e1,j8]
section
variable{M:Mem}{r l:Nat}{rows:List Str}{k:Int}
end
def W(s:Str):List Nat:=s.cps.toList
@[simp] theorem jM(s:Str):aY (W s)=s:=adk s
inductive Od where
 | put (s:List Nat) (n:Int) | add (s:List Nat) (n:Int) | swap (s:List Nat) (a n:Int)
inductive Wt where
 | start | roll (a b:Int) | ask (w n:Int) (o:Od)
def Od.d:Od→D
 | .put s n=> .tup [.str "put",.str (aY s),.int n]
 | .add s n=> .tup [.str "add",.str (aY s),.int n]
 | .swap s a n=> .tup [.str "swap",.str (aY s),.int a,.int n]
def Od.w:Od→List (List Nat)
 | .put s n=>[W "put",s,fD n]
 | .add s n=>[W "add",s,fD n]
 | .swap s a n=>[W "swap",s,fD a,fD n]
def Sm(n:Int):Prop:=n.natAbs<10 ^ 41
def Od.Ok:Od→Prop
 | .put s n=>j8 s=true∧Sm n
 | .add s n=>j8 s=true∧Sm n
 | .swap s a n=>j8 s=true∧Sm a∧Sm n
def Wt.d:Wt→D
 | .start=> .tup [.str "start"]
 | .roll a b=> .tup [.str "roll",.int a,.int b]
 | .ask w n o=> .tup [.str "ask",.int w,.int n,o.d]
def Wt.w:Wt→List (List Nat)
 | .start=>[W "start"]
 | .roll a b=>[W "roll",fD a,fD b]
 | .ask w n o=>W "ask" :: fD w::fD n::o.w
def Ro(a b:Int):Prop:=1≤a∧a<2 ^ 60∧0≤b∧b<2 ^ 60
def Wt.Ok:Wt→Prop
 | .start=>True
 | .roll a b=>Ro a b
 | .ask w n o=>Sm w∧Sm n∧o.Ok
def enW(p:Int×Wt):List (List Nat):=W "at" :: fD p.1::p.2.w
def ajD(p:Int×Wt):Prop:=0≤p.1∧Sm p.1∧p.2.Ok
def vaW(p:List Nat×Int):List (List Nat):=[W "value",p.1,fD p.2]
def ajv(p:List Nat×Int):Prop:=j8 p.1=true∧Sm p.2∧p.2≠0
def anW(p:(Int×Int)×Int):List (List Nat):=[W "answer",fD p.1.1,fD p.1.2,fD p.2]
def ajG(p:(Int×Int)×Int):Prop:=Sm p.1.1∧Sm p.1.2∧Sm p.2
def aoP(p q:(Int×Int)×Int):Prop:=p.1.1<q.1.1∨p.1.1=q.1.1∧p.1.2<q.1.2
structure Bk where
 tm:Int
 vt:Option Int
 b:Int
 bt:Int
 r1:Int
 r2:Int
 vs:List (List Nat×Int)
 as:List ((Int×Int)×Int)
 es:List (Int×Wt)
def Bk.vd(B:Bk):D:=match B.vt with
 | none=> .non
 | some v=> .int v
def Bk.vw(B:Bk):List Nat:=match B.vt with
 | none=>W "-"
 | some v=>fD v
def Bk.roll(B:Bk):D:= .tup [.int B.r1,.int B.r2]
def Bk.body(B:Bk):List (List (List Nat)):=[W "book",fD B.tm,B.vw]::[W "base",fD B.b,fD B.bt,fD B.r1,fD B.r2]::(B.vs.map vaW++(B.as.map anW++B.es.map enW))
def Bk.iR(B:Bk):List (List (List Nat)):=B.body++[[W "end",fD B.body.length]]
def Bk.text(B:Bk):Str:=Txt.join "\n" (B.iR.map bL)
structure Bk.Ok(B:Bk):Prop where
 tm:0≤B.tm∧Sm B.tm
 vt:∀v,B.vt=some v→0≤v∧v<60
 b:0≤B.b∧Sm B.b
 bt:0≤B.bt∧Sm B.bt
 ro:Ro B.r1 B.r2
 vs:∀p∈B.vs,ajv p
 vo:B.vs.Pairwise fun p q=>p.1<q.1
 as:∀p∈B.as,ajG p
 ao:B.as.Pairwise aoP
 es:∀p∈B.es,ajD p
 lv:B.vs.length<64
 la:B.as.length<64
 le:B.es.length≤64
theorem jA{n:Int}(h:Sm n):Wd (fD n):=⟨(adg n).1,(adg n).2,by have:=zp h;omega⟩
theorem J9{s:List Nat}(h:j8 s=true):Wd s:=by
 simp only[j8,Bool.and_eq_true,decide_eq_true_eq,List.all_eq_true]at h
 refine⟨fun z=> ?_,fun z=> ?_,by omega⟩
 ·have:=h.2.2 _ z;omega
 ·have:=h.2.2 _ z;omega
theorem Ai{s:Str}(h:(decide (32∉W s)&&decide (10∉W s)&&decide ((W s).length≤150))=true):Wd (W s):=by
 simp only[Bool.and_eq_true,decide_eq_true_eq]at h
 exact⟨h.1.1,h.1.2,h.2⟩
theorem Dg{ws:List (List Nat)}(h0:ws≠[])(hl:ws.length≤20)(h:∀w∈ws,Wd w):yz ws:=⟨h0,hl,h⟩
theorem agG{o:Od}(h:o.Ok):∀w∈o.w,Wd w:=by
 cases o with
 | put s n=>
  intro w hw
  simp[Od.w]at hw
  rcases hw with rfl | rfl | rfl
  ·exact Ai (by decide)
  ·exact J9 h.1
  ·exact jA h.2
 | add s n=>
  intro w hw
  simp[Od.w]at hw
  rcases hw with rfl | rfl | rfl
  ·exact Ai (by decide)
  ·exact J9 h.1
  ·exact jA h.2
 | swap s a n=>
  intro w hw
  simp[Od.w]at hw
  rcases hw with rfl | rfl | rfl | rfl
  ·exact Ai (by decide)
  ·exact J9 h.1
  ·exact jA h.2.1
  ·exact jA h.2.2
theorem ac6(o:Od):o.w.length≤4:=by cases o<;>simp[Od.w]
theorem abj{a b:Int}(h:Ro a b):Sm a∧Sm b:=by
 obtain⟨h1,h2,h3,h4⟩:=h
 unfold Sm
 constructor<;>omega
theorem afe{x:Wt}(h:x.Ok):∀w∈x.w,Wd w:=by
 cases x with
 | start=>intro w hw;simp[Wt.w]at hw;subst hw;exact Ai (by decide)
 | roll a b=>
  have:=abj h
  intro w hw
  simp[Wt.w]at hw
  rcases hw with rfl | rfl | rfl
  ·exact Ai (by decide)
  ·exact jA this.1
  ·exact jA this.2
 | ask a n o=>
  intro w hw
  simp only[Wt.w,List.mem_cons]at hw
  rcases hw with rfl | rfl | rfl | hw
  ·exact Ai (by decide)
  ·exact jA h.1
  ·exact jA h.2.1
  ·exact agG h.2.2 w hw
theorem abG(x:Wt):x.w.length≤7:=by
 cases x with
 | start=>simp[Wt.w]
 | roll a b=>simp[Wt.w]
 | ask a n o=>have:=ac6 o;simp[Wt.w];omega
theorem adM{p:Int×Wt}(h:ajD p):yz (enW p):=by
 refine Dg (by simp[enW]) (by have:=abG p.2;simp[enW];omega) fun w hw=> ?_
 simp only[enW,List.mem_cons]at hw
 rcases hw with rfl | rfl | hw
 ·exact Ai (by decide)
 ·exact jA h.2.1
 ·exact afe h.2.2 w hw
theorem abI{p:List Nat×Int}(h:ajv p):yz (vaW p):=Dg (by simp[vaW]) (by simp[vaW]) fun w hw=>by
 simp[vaW]at hw
 rcases hw with rfl | rfl | rfl
 ·exact Ai (by decide)
 ·exact J9 h.1
 ·exact jA h.2.1
theorem aeE{p:(Int×Int)×Int}(h:ajG p):yz (anW p):=Dg (by simp[anW]) (by simp[anW]) fun w hw=>by
 simp[anW]at hw
 rcases hw with rfl | rfl | rfl | rfl
 ·exact Ai (by decide)
 ·exact jA h.1
 ·exact jA h.2.1
 ·exact jA h.2.2
theorem adG{B:Bk}(h:B.Ok):yz [W "book",fD B.tm,B.vw]:=Dg (by simp) (by simp) fun w hw=>by
 simp at hw
 rcases hw with rfl | rfl | rfl
 ·exact Ai (by decide)
 ·exact jA h.tm.2
 ·unfold Bk.vw
  split
  ·exact Ai (by decide)
  ·rename_i v e
   have:=h.vt v e
   exact jA (by unfold Sm;omega)
theorem aep{B:Bk}(h:B.Ok):yz [W "base",fD B.b,fD B.bt,fD B.r1,fD B.r2]:=Dg (by simp) (by simp) fun w hw=>by
 have:=abj h.ro
 simp at hw
 rcases hw with rfl | rfl | rfl | rfl | rfl
 ·exact Ai (by decide)
 ·exact jA h.b.2
 ·exact jA h.bt.2
 ·exact jA this.1
 ·exact jA this.2
theorem Yz{B:Bk}(h:B.Ok):B.body.length=2+B.vs.length+B.as.length+B.es.length∧B.body.length≤200:=by
 have e:B.body.length=2+B.vs.length+B.as.length+B.es.length:=by simp[Bk.body];omega
 have:=h.lv
 have:=h.la
 have:=h.le
 exact⟨e,by omega⟩
theorem aaF{B:Bk}(h:B.Ok):yz [W "end",fD B.body.length]:=Dg (by simp) (by simp) fun w hw=>by
 have:=(Yz h).2
 simp at hw
 rcases hw with rfl | rfl
 ·exact Ai (by decide)
 ·exact jA (by unfold Sm;omega)
theorem ajH{B:Bk}(h:B.Ok):∀ws∈B.iR,yz ws:=by
 intro ws hw
 simp only[Bk.iR,Bk.body,List.mem_append,List.mem_cons,List.mem_map,List.not_mem_nil,or_false]at hw
 rcases hw with(rfl | rfl | ⟨p,hp,rfl⟩ | ⟨p,hp,rfl⟩ | ⟨p,hp,rfl⟩) | rfl
 ·exact adG h
 ·exact aep h
 ·exact abI (h.vs p hp)
 ·exact aeE (h.as p hp)
 ·exact adM (h.es p hp)
 ·exact aaF h
theorem Jk{c x:Nat}:∀{ws:List (List Nat)},x∈dw c ws→x=c∨∃w∈ws,x∈w
 | [],h=>by simp[dw]at h
 | [w],h=> .inr ⟨w,by simp,h⟩
 | w::v::r,h=>by
  simp only[dw,List.mem_append,List.mem_cons]at h
  rcases h with h | h | h
  ·exact .inr ⟨w,by simp,h⟩
  ·exact .inl h
  ·rcases Jk h with q | ⟨y,hy,q⟩
   ·exact .inl q
   ·exact .inr ⟨y,by simp at hy ⊢;exact .inr hy,q⟩
theorem W4{ws:List (List Nat)}(h:yz ws):10∉dw 32 ws:=fun z=>by
 rcases Jk z with q | ⟨w,hw,q⟩
 ·omega
 ·exact(h.2.2 w hw).2.1 q
theorem Gh{iR:List (List (List Nat))}(h0:iR≠[])(h:∀ws∈iR,yz ws):Txt.split (Txt.join "\n" (iR.map bL)) "\n" = iR.map bL:=by
 have e:iR.map bL=(iR.map (dw 32)).map aY:=by rw[List.map_map];exact List.map_congr_left fun ws _=>jZ ws
 rw[SN,e]
 refine Gq (by decide) (by simpa using h0) fun w hw=> ?_
 obtain⟨ws,hs,rfl⟩:=List.mem_map.mp hw
 exact W4 (h ws hs)
theorem Ht{c:Nat}{n:Nat}:∀(ws:List (List Nat)),(∀w∈ws,w.length≤n)→(dw c ws).length≤ws.length*(n+1)
 | [],_=>by simp[dw]
 | [w],h=>by have:=h w (by simp);simp[dw];omega
 | w::v::r,h=>by
  have h1:=h w (by simp)
  have h2:=Ht (c:=c) (v::r) fun x hx=>h x (by simp at hx ⊢;exact .inr hx)
  simp only[dw,List.length_append,List.length_cons]at h2 ⊢
  rw[Nat.succ_mul]
  omega
theorem text_len{iR:List (List (List Nat))}(h:∀ws∈iR,yz ws)(hl:iR.length≤300):(Txt.join "\n" (iR.map bL)).length≤906300:=by
 have e:iR.map bL=(iR.map (dw 32)).map aY:=by rw[List.map_map];exact List.map_congr_left fun ws _=>jZ ws
 rw[SN,e,yf,j7,cz]
 have:=Ht (c:=10) (n:=3020) (iR.map (dw 32)) fun w hw=>by
  obtain⟨ws,hs,rfl⟩:=List.mem_map.mp hw
  have:=GK (h ws hs)
  rw[jZ,j7,cz]at this
  exact this
 rw[List.length_map]at this
 omega
section
variable{M:Mem}{r l:Nat}{iR:List (List (List Nat))}{k:Int}{i:Nat}{ws:List (List Nat)}
theorem Ud(R:fJ M r l (iR.map bL) k)(hk:k=i+1)(h:iR[i]? = some ws)(hw:yz ws):∃x M1,iH [.ref r] M= .ok (.ref x) M1∧M1[x]? = some (.lst (ts ws))∧Gr M M1:=
 ⟨_,_,Gf R hk (by rw[List.getElem?_map,h];rfl) hw,aP,Gr.app⟩
theorem mR(R:fJ M r l (iR.map bL) k)(hk:k=i+1){w:List Nat}(h:iR[i]? = some (w::ws))(hw:yz (w::ws))(b:Str):∃M1,gJ [.ref r,.str b] M= .ok (.bl (decide (aY w=b))) M1∧Gr M M1:=
 ⟨_,Vx R hk (by rw[List.getElem?_map,h];rfl) hw b,Gr.app⟩
theorem pH(R:fJ M r l (iR.map bL) k)(hk:k=i+1){w:List Nat}(h:iR[i]? = some (w::ws))(hw:yz (w::ws)){b:Str}(hb:aY w=b){n:Int}(hn:n=(ws.length:Int)+1):
  ∃x M1,cM [.ref r,.str b,.int n] M= .ok (.ref x) M1∧M1[x]? = some (.lst (ts (w::ws)))∧Gr M M1:=
 ⟨_,_,Ni R hk (by rw[List.getElem?_map,h];rfl) hw hb hn,aP,Gr.app⟩
end
theorem iV{M:Mem}{x:Nat}{ws:List (List Nat)}{k:Int}{j:Nat}{w:List Nat}(h:M[x]? = some (.lst (ts ws)))(hk:k=j)(hw:ws[j]? = some w):bh (.ref x) (.int k) M= .ok (.str (aY w)) M:=
 qR h (by omega) (by subst hk;simp[ts,hw])
theorem Ug{M:Mem}{r l i:Nat}{iR:List (List (List Nat))}{w:List Nat}{tl:List (List Nat)}{y1 y2 y3:Option D}(R:fJ M r l (iR.map bL) ((i:Int)+1))(hw:iR[i]? = some (w::tl))(hp:yz (w::tl))(hn:aY w≠ "value"):
  ∃M',gK [some (.ref r),y1,y2,y3] M= .ok false M'∧Gr M M':=by
 obtain⟨M0,e0,g0⟩:=mR R rfl hw hp "value"
 refine⟨M0,?_,g0⟩
 simp only[gK]
 simp[R.me (m:= "begins") rfl,e0,hn]
theorem aiv{α:Type}{x:α}{xs:List α}:cut (x::xs) (some 1) none=xs:=by
 have e1:HT.bh (x::xs).length 0 (some 1)=1:=by simp[HT.bh]
 have e2:HT.bh (x::xs).length (x::xs).length none=(x::xs).length:=rfl
 unfold cut
 rw[e1,e2]
 simp
theorem abA{α:Type}{x y:α}{xs:List α}:cut (x::y::xs) (some 2) none=xs:=by
 have e1:HT.bh (x::y::xs).length 0 (some 2)=2:=by simp[HT.bh]
 have e2:HT.bh (x::y::xs).length (x::y::xs).length none=(x::y::xs).length:=rfl
 unfold cut
 rw[e1,e2]
 simp
theorem aiu{α:Type}{x y z:α}{xs:List α}:cut (x::y::z::xs) (some 3) none=xs:=by
 have e1:HT.bh (x::y::z::xs).length 0 (some 3)=3:=by simp[HT.bh]
 have e2:HT.bh (x::y::z::xs).length (x::y::z::xs).length none=(x::y::z::xs).length:=rfl
 unfold cut
 rw[e1,e2]
 simp
def Dat(k:Nat)(d:D):Prop:=∃t,∀M:Mem,lK M k d=some t
theorem Ge{k:Nat}{i:Str}:Dat (k+1) (.str i):=⟨_,fun _=>rfl⟩
theorem LQ{k:Nat}{ds:List D}(h:∀d∈ds,Dat k d):∃ts,∀M:Mem,wH (lK M k) ds=some ts:=by
 induction ds with
 | nil=>exact⟨[],fun M=>rfl⟩
 | cons d r ih=>
  obtain⟨ts,q⟩:=ih fun x hx=>h x (List.mem_cons_of_mem _ hx)
  obtain⟨t,q2⟩:=h d List.mem_cons_self
  exact⟨t::ts,fun M=>by simp only[wH,q2 M,q M]⟩
theorem JB{M:Mem}{n m:Nat}{ds:List D}(h:∀d∈ds,Dat 11 d)(h1:M[n]? = some (.lst ds))(h2:M[m]? = some (.lst ds)):Rc M (.ref n) (.ref m)=some true:=by
 obtain⟨ts,q⟩:=LQ h
 have e:∀{n:Nat},M[n]? = some (.lst ds)→lK M 12 (.ref n)=some (.lst ts):=fun{n} h=>by
  show(match rF M n with | some ds=>(wH (lK M 11) ds).map Dt.lst | none=>none)=_
  rw[gG h]
  show(wH (lK M 11) ds).map Dt.lst=_
  rw[q M]
  rfl
 rw[D_ (e h1) (e h2),Hz]
theorem N6{xs ys:List D}{M:Mem}(h:xs≠[])(hl:xs.length+ys.length≤16777216):d9 (.tup xs) (.tup ys) M= .ok (.tup (xs++ys)) M:=by
 refine(uH (uH rfl)).trans ((uH rfl).trans ?_)
 simp only[Sd]
 rw[if_pos ⟨by cases xs with | nil=>exact absurd rfl h | cons _ _=>rfl,by rw[nu];exact hl⟩]
theorem Yl{M:Mem}{n m:Nat}{ds es:List D}(h1:M[n]? = some (.lst ds))(h2:M[m]? = some (.lst es))(d1:∀d∈ds,Dat 11 d)(d2:∀d∈es,Dat 11 d)(hl:ds.length≠es.length):Rc M (.ref n) (.ref m)=some false:=by
 obtain⟨ts,q⟩:=LQ d1
 obtain⟨us,q'⟩:=LQ d2
 have e:∀{n:Nat} {ds:List D} {ts:List Dt},(∀M:Mem,wH (lK M 11) ds=some ts)→M[n]? = some (.lst ds)→lK M 12 (.ref n)=some (.lst ts):=fun{n ds ts} q h=>by
  show(match rF M n with | some ds=>(wH (lK M 11) ds).map Dt.lst | none=>none)=_
  rw[gG h]
  show(wH (lK M 11) ds).map Dt.lst=_
  rw[q M]
  rfl
 have len:∀{ds:List D} {ts:List Dt},wH (lK M 11) ds=some ts→ts.length=ds.length:=by
  intro ds
  induction ds with
  | nil=>intro ts h;cases h;rfl
  | cons d r ih=>
   intro ts h
   simp only[wH]at h
   split at h
   ·rename_i t u _ hr
    cases h
    simp[ih hr]
   ·cases h
 rw[D_ (e q h1) (e q' h2)]
 have l1:=len (q M)
 have l2:=len (q' M)
 have:zV ts us=false:=rR (by omega)
 simp only[cJ,this]
theorem abM(ws:List (List Nat)):∀d∈ts ws,Dat 11 d:=fun d hd=>by
 obtain⟨w,_,rfl⟩:=List.mem_map.mp hd
 exact Ge
def Od.k:Od→Str
 | .put _ _=> "put" | .add _ _=> "add" | .swap _ _ _=> "swap"
def Od.s:Od→List Nat
 | .put s _=>s | .add s _=>s | .swap s _ _=>s
def Od.ns:Od→List Int
 | .put _ n=>[n] | .add _ n=>[n] | .swap _ a n=>[a,n]
theorem Jo{l:List Nat}(h:uM l=true):∃n,PySem.intText? (aY l)=some n∧l.length≤101:=by
 unfold uM at h
 simp only[Bool.and_eq_true,decide_eq_true_eq,List.all_eq_true]at h
 obtain⟨⟨h1,h2,h3⟩,_⟩:=h
 by_cases q:l.head? = some 45
 ·cases l with
  | nil=>cases q
  | cons a f=>
   cases(show a=45 by simpa using q)
   have ef:nF (45::f)=f:=by simp[nF]
   rw[ef]at h1 h2 h3
   have ne:f≠[]:=fun z=>by subst z;simp at h1
   exact⟨_,PySem.intText_neg (x:=aY (45::f)) (cz _) h3 ne (by rw[j7,cz];simp;omega),by simp;omega⟩
 ·have ef:nF l=l:=by simp[nF,q]
  rw[ef]at h1 h2 h3
  have ne:l≠[]:=fun z=>by subst z;simp at h1
  exact⟨_,PySem.intText_digits (x:=aY l) (by rw[cz];exact h3) (by rw[cz];exact ne) (by rw[j7,cz];omega),by omega⟩
section
variable{M:Mem}{r l:Nat}{rows:List Str}{k:Int}{w:List Nat}
end
section
variable{M:Mem}{r l:Nat}{iR:List (List (List Nat))}{k:Int}{i:Nat}{ws:List (List Nat)}
end
section
variable{M:Mem}{r l:Nat}{rows:List Str}{k:Int}
end
def num(w:List Nat):Option Int:=if uM w=true then PySem.intText? (aY w)else none
def dG(w:List Nat):Option Int:=(num w).bind fun n=>if n<0 then none else some n
def dH(b:Int)(w:List Nat):Option Int:=(dG w).bind fun n=>if b≤n then none else some n
def bN(a b:List Nat):Option D:=(dH 1152921504606846976 a).bind fun x=>(dH 1152921504606846976 b).bind fun y=>if x=0 then none else some (.tup [.int x,.int y])
def fj(w:List Nat):Option D:=if j8 w=true then some (.str (aY w))else none
theorem U6(w:List Nat):(uM w=false∧num w=none)∨∃n,uM w=true∧PySem.intText? (aY w)=some n∧num w=some n:=by
 cases z:uM w with
 | false=>exact .inl ⟨rfl,by simp[num,z]⟩
 | true=>
  obtain⟨n,hn,_⟩:=Jo z
  exact .inr ⟨n,rfl,hn,by simp[num,z,hn]⟩
def Res(k:Int)(M:Mem)(o:Out D):Option D→Prop
 | some d=>∃M',o= .ok d M'∧Gr M M'
 | none=>∃M',o= .exc 2 (.int k) M'∧Gr M M'
section
variable{M:Mem}{r l:Nat}{rows:List Str}{k:Int}{w:List Nat}
theorem z7(R:fJ M r l rows k)(hw:w.length≤150):Res k M (bz [.ref r,.str (aY w)] M) ((num w).map D.int):=by
 have hl:(aY w).length≤150:=by rw[wk,yR];exact hw
 obtain⟨M1,e1,g1⟩:=Lp (M:=M) (w:=aY w) (by omega)
 rw[yR]at e1
 rcases U6 w with⟨z,e⟩ | ⟨n,z,hn,e⟩
 ·rw[z]at e1
  rw[e]
  refine⟨M1,?_,g1⟩
  simp only[bz,bR,qL]
  simp[e1,(R.gr g1).fh]
 ·rw[z]at e1
  rw[e]
  refine⟨M1,?_,g1⟩
  simp only[bz,bR,qL]
  simp[e1,WX hn (show(aY w).length≤640 by omega)]
theorem nU(R:fJ M r l rows k)(hw:w.length≤150):Res k M (bI [.ref r,.str (aY w)] M) ((dG w).map D.int):=by
 have h:=z7 R hw
 unfold dG
 cases e:num w with
 | none=>
  rw[e]at h
  obtain⟨M1,e1,g1⟩:=h
  refine⟨M1,?_,g1⟩
  simp only[bI,aZ,gY]
  simp[R.me (m:= "whole") rfl,e1]
 | some n=>
  rw[e]at h
  obtain⟨M1,e1,g1⟩:=h
  by_cases hn:n<0
  ·simp only[Option.bind_some,hn,if_true,Option.map_none]
   refine⟨M1,?_,g1⟩
   simp only[bI,aZ,gY]
   simp[R.me (m:= "whole") rfl,e1,hn,(R.gr g1).fh]
  ·simp only[Option.bind_some,hn,if_false,Option.map_some]
   refine⟨M1,?_,g1⟩
   simp only[bI,aZ,gY]
   simp[R.me (m:= "whole") rfl,e1,hn]
theorem Mm(R:fJ M r l rows k)(hw:w.length≤150)(b:Int):Res k M (gq [.ref r,.str (aY w),.int b] M) ((dH b w).map D.int):=by
 have h:=nU R hw
 unfold dH
 cases e:dG w with
 | none=>
  rw[e]at h
  obtain⟨M1,e1,g1⟩:=h
  refine⟨M1,?_,g1⟩
  simp only[gq,cY,nC]
  simp[R.me (m:= "from_nought") rfl,e1]
 | some n=>
  rw[e]at h
  obtain⟨M1,e1,g1⟩:=h
  by_cases hn:b≤n
  ·simp only[Option.bind_some,hn,if_true,Option.map_none]
   refine⟨M1,?_,g1⟩
   simp only[gq,cY,nC]
   simp[R.me (m:= "from_nought") rfl,e1,hn,(R.gr g1).fh]
  ·simp only[Option.bind_some,hn,if_false,Option.map_some]
   refine⟨M1,?_,g1⟩
   simp only[gq,cY,nC]
   simp[R.me (m:= "from_nought") rfl,e1,hn]
theorem adH(R:fJ M r l rows k)(hw:w.length≤150):Res k M (nR [.ref r,.str (aY w)] M) ((dH 60 w).map D.int):=by
 have h:=Mm R hw 60
 cases e:dH 60 w with
 | none=>
  rw[e]at h
  obtain⟨M1,e1,g1⟩:=h
  refine⟨M1,?_,g1⟩
  simp only[nR,ig]
  simp[R.me (m:= "below") rfl,e1]
 | some n=>
  rw[e]at h
  obtain⟨M1,e1,g1⟩:=h
  refine⟨M1,?_,g1⟩
  simp only[nR,ig]
  simp[R.me (m:= "below") rfl,e1]
theorem Yy(R:fJ M r l rows k){v:List Nat}(hw:w.length≤150)(hv:v.length≤150):Res k M (cV [.ref r,.str (aY w),.str (aY v)] M) (bN w v):=by
 have hs:∀M,Zr (.int 1) (.int 60) M= .ok (.int 1152921504606846976) M:=fun M=>by rfl
 have h:=Mm R hw 1152921504606846976
 unfold bN
 cases e:dH 1152921504606846976 w with
 | none=>
  rw[e]at h
  obtain⟨M1,e1,g1⟩:=h
  refine⟨M1,?_,g1⟩
  simp only[cV,bM,gw]
  simp[R.me (m:= "below") rfl,hs,e1]
 | some a=>
  rw[e]at h
  obtain⟨M1,e1,g1⟩:=h
  have R1:=R.gr g1
  have h2:=Mm R1 hv 1152921504606846976
  cases e':dH 1152921504606846976 v with
  | none=>
   rw[e']at h2
   obtain⟨M2,e2,g2⟩:=h2
   refine⟨M2,?_,g1.trans g2⟩
   simp only[cV,bM,gw]
   simp[R.me (m:= "below") rfl,R1.me (m:= "below") rfl,hs,e1,e2]
  | some b=>
   rw[e']at h2
   obtain⟨M2,e2,g2⟩:=h2
   by_cases hz:a=0
   ·simp only[Option.bind_some,hz,if_true]
    refine⟨M2,?_,g1.trans g2⟩
    simp only[cV,bM,gw]
    simp[R.me (m:= "below") rfl,R1.me (m:= "below") rfl,hs,e1,e2,hz,(R1.gr g2).fh]
   ·simp only[Option.bind_some,hz,if_false]
    refine⟨M2,?_,g1.trans g2⟩
    simp only[cV,bM,gw]
    simp[R.me (m:= "below") rfl,R1.me (m:= "below") rfl,hs,e1,e2,hz]
theorem abn(R:fJ M r l rows k)(hw:w.length≤150):Res k M (lz [.ref r,.str (aY w)] M) (fj w):=by
 obtain⟨M1,e1,g1⟩:=Q6 (M:=M) (w:=aY w) (by rw[wk,yR];omega)
 rw[yR]at e1
 unfold fj
 cases z:j8 w with
 | true=>
  rw[z]at e1
  simp only[if_true]
  refine⟨M1,?_,g1⟩
  simp only[lz,gh,tu]
  simp[e1]
 | false=>
  rw[z]at e1
  simp only[Bool.false_eq_true,if_false]
  refine⟨M1,?_,g1⟩
  simp only[lz,gh,tu]
  simp[e1,(R.gr g1).fh]
end
def GoX(r l:Nat)(rows:List Str)(k:Int)(M:Mem)(o:Out D):Option D→Prop
 | some d=>∃M',o= .ok d M'∧fJ M' r l rows (k+1)∧Ch (· = r) M M'
 | none=>∃M',o= .exc 2 (.int k) M'∧Ch (· = r) M M'
def bF(a b:List Nat):Option (Int×D):=(if aY b= "-" then some .non else(dH 60 b).map D.int).bind fun v=>(dG a).map fun n=>(n,v)
def bu(a b c d:List Nat):Option (Int×Int×D):=(dG a).bind fun x=>(dG b).bind fun y=>(bN c d).map fun z=>(x,y,z)
section
variable{M:Mem}{r l:Nat}{iR:List (List (List Nat))}{k:Int}{i:Nat}{w0 w1 w2 w3 w4:List Nat}
theorem Yb(R:fJ M r l (iR.map bL) k)(hk:k=i+1)(h:iR[i]? = some [w0,w1,w2])(hw:yz [w0,w1,w2])(h0:aY w0= "book"):GoX r l (iR.map bL) k M (pq [.ref r] M) ((bF w1 w2).map fun p=> .tup [.int p.1,p.2]):=by
 obtain⟨x,M1,e1,h1,g1⟩:=pH R hk h hw h0 (n:=3) rfl
 have R1:=R.gr g1
 have l1:w1.length≤150:=(hw.2.2 w1 (by simp)).2.2
 have l2:w2.length≤150:=(hw.2.2 w2 (by simp)).2.2
 have i2:bh (.ref x) (.int 2) M1= .ok (.str (aY w2)) M1:=iV h1 (j:=2) rfl rfl
 unfold bF
 have hv:match(if aY w2= "-" then some .non else(dH 60 w2).map D.int)with
   | some v=>∃M2,lA [some (.ref r),some (.ref x),some .non,none] M1= .next [some (.ref r),some (.ref x),some v,none] M2∧Gr M1 M2
   | none=>∃M2,lA [some (.ref r),some (.ref x),some .non,none] M1= .exc 2 (.int k) [some (.ref r),some (.ref x),some .non,none] M2∧Gr M1 M2:=by
  by_cases hm:aY w2=("-" : Str)
  ·rw[if_pos hm]
   exact⟨M1,by simp only[lA];simp[i2,hm],Gr.refl⟩
  ·rw[if_neg hm]
   have h:=adH R1 l2
   cases e:dH 60 w2 with
   | none=>
    rw[e]at h
    obtain⟨M2,e2,g2⟩:=h
    exact⟨M2,by simp only[lA];simp[i2,hm,R1.me (m:= "hand") rfl,e2],g2⟩
   | some n=>
    rw[e]at h
    obtain⟨M2,e2,g2⟩:=h
    exact⟨M2,by simp only[lA];simp[i2,hm,R1.me (m:= "hand") rfl,e2],g2⟩
 cases ev:(if aY w2= "-" then some D.non else(dH 60 w2).map D.int)with
 | none=>
  rw[ev]at hv
  obtain⟨M2,e2,g2⟩:=hv
  refine⟨M2,?_,(g1.trans g2).ch⟩
  simp only[pq,jk]
  simp[R.me (m:= "words_of") rfl,e1,e2]
 | some v=>
  rw[ev]at hv
  obtain⟨M2,e2,g2⟩:=hv
  have R2:=R1.gr g2
  have i1:bh (.ref x) (.int 1) M2= .ok (.str (aY w1)) M2:=iV (g2 _ _ h1) (j:=1) rfl rfl
  have h:=nU R2 l1
  cases e:dG w1 with
  | none=>
   rw[e]at h
   obtain⟨M3,e3,g3⟩:=h
   refine⟨M3,?_,((g1.trans g2).trans g3).ch⟩
   simp only[pq,jk]
   simp[R.me (m:= "words_of") rfl,e1,e2,i1,R2.me (m:= "from_nought") rfl,e3]
  | some n=>
   rw[e]at h
   obtain⟨M3,e3,g3⟩:=h
   have R3:=R2.gr g3
   obtain⟨M4,e4,R4,c4,_⟩:=zF R3
   refine⟨M4,?_,R4,((g1.trans g2).trans g3).ch.trans c4⟩
   simp only[pq,jk]
   simp[R.me (m:= "words_of") rfl,e1,e2,i1,R2.me (m:= "from_nought") rfl,e3,R3.me (m:= "go_on") rfl,e4]
theorem YB(R:fJ M r l (iR.map bL) k)(hk:k=i+1)(h:iR[i]? = some [w0,w1,w2,w3,w4])(hw:yz [w0,w1,w2,w3,w4])(h0:aY w0= "base"):GoX r l (iR.map bL) k M (lX [.ref r] M) ((bu w1 w2 w3 w4).map fun p=> .tup [.int p.1,.int p.2.1,p.2.2]):=by
 obtain⟨x,M1,e1,h1,g1⟩:=pH R hk h hw h0 (n:=5) rfl
 have R1:=R.gr g1
 have i1:bh (.ref x) (.int 1) M1= .ok (.str (aY w1)) M1:=iV h1 (j:=1) rfl rfl
 have hx1:=nU R1 (w:=w1) (hw.2.2 w1 (by simp)).2.2
 unfold bu
 cases ea:dG w1 with
 | none=>
  rw[ea]at hx1
  obtain⟨M2,e2,g2⟩:=hx1
  refine⟨M2,?_,(g1.trans g2).ch⟩
  simp only[lX,h_]
  simp[R.me (m:= "words_of") rfl,e1,i1,R1.me (m:= "from_nought") rfl,e2]
 | some a=>
  rw[ea]at hx1
  obtain⟨M2,e2,g2⟩:=hx1
  have R2:=R1.gr g2
  have i2:bh (.ref x) (.int 2) M2= .ok (.str (aY w2)) M2:=iV (g2 _ _ h1) (j:=2) rfl rfl
  have hx2:=nU R2 (w:=w2) (hw.2.2 w2 (by simp)).2.2
  cases eb:dG w2 with
  | none=>
   rw[eb]at hx2
   obtain⟨M3,e3,g3⟩:=hx2
   refine⟨M3,?_,((g1.trans g2).trans g3).ch⟩
   simp only[lX,h_]
   simp[R.me (m:= "words_of") rfl,e1,i1,R1.me (m:= "from_nought") rfl,e2,i2,R2.me (m:= "from_nought") rfl,e3]
  | some b=>
   rw[eb]at hx2
   obtain⟨M3,e3,g3⟩:=hx2
   have R3:=R2.gr g3
   have i3:bh (.ref x) (.int 3) M3= .ok (.str (aY w3)) M3:=iV (g3 _ _ (g2 _ _ h1)) (j:=3) rfl rfl
   have i4:bh (.ref x) (.int 4) M3= .ok (.str (aY w4)) M3:=iV (g3 _ _ (g2 _ _ h1)) (j:=4) rfl rfl
   have hx3:=Yy R3 (w:=w3) (v:=w4) (hw.2.2 w3 (by simp)).2.2 (hw.2.2 w4 (by simp)).2.2
   cases ec:bN w3 w4 with
   | none=>
    rw[ec]at hx3
    obtain⟨M4,e4,g4⟩:=hx3
    refine⟨M4,?_,(((g1.trans g2).trans g3).trans g4).ch⟩
    simp only[lX,h_]
    simp[R.me (m:= "words_of") rfl,e1,i1,R1.me (m:= "from_nought") rfl,e2,i2,R2.me (m:= "from_nought") rfl,e3,i3,i4,R3.me (m:= "both_sets") rfl,e4]
   | some c=>
    rw[ec]at hx3
    obtain⟨M4,e4,g4⟩:=hx3
    have R4:=R3.gr g4
    obtain⟨M5,e5,R5,c5,_⟩:=zF R4
    refine⟨M5,?_,R5,(((g1.trans g2).trans g3).trans g4).ch.trans c5⟩
    simp only[lX,h_]
    simp[R.me (m:= "words_of") rfl,e1,i1,R1.me (m:= "from_nought") rfl,e2,i2,R2.me (m:= "from_nought") rfl,e3,i3,i4,R3.me (m:= "both_sets") rfl,e4,R4.me (m:= "go_on") rfl,e5]
end
def bK:List (List Nat)→Option (List Int)
 | []=>some []
 | u::us=>(num u).bind fun n=>(bK us).map (n:: ·)
def cA(a b:List Nat):Option D:=(fj a).bind fun s=>(num b).bind fun n=>if n=0 then none else some (.tup [s,.int n])
def Nt(z:Str):Option Int:=if z= "put" then some 3 else if z= "add" then some 3 else if z= "swap" then some 4 else none
def orderV:List (List Nat)→Option D
 | a::b::tl=>if Nt (aY a)=some ((tl.length:Int)+2)then(bK tl).bind fun ns=>(fj b).map fun s=> .tup ([.str (aY a),s]++ns.map D.int)else none
 | _=>none
def bW(us:List (List Nat)):Option D:=if us=[W "start"]then some (.tup [.str "start"])else match us with
 | [a,b,c]=>if aY a= "roll" then(bN b c).bind fun d=>match d with
  | .tup ds=>some (.tup ([.str "roll"]++ds))
  | _=>none
  else none
 | a::b::c::d::tl=>if aY a= "ask" then(num b).bind fun x=>(num c).bind fun y=>(orderV (d::tl)).map fun o=> .tup [.str "ask",.int x,.int y,o]else none
 | _=>none
theorem abb(z:Str):J_ z [("put",3),("add",3),("swap",4)]=match Nt z with | some n=> .int n | none=> .non:=by
 simp only[J_,Nt,decide_eq_true_eq]
 split
 ·rfl
 ·split
  ·rfl
  ·split<;>rfl
theorem adi{n:Int}{M:Mem}:sNe .non (.int n) M= .ok (.bl true) M:=Kp (b:=false) (by rw[D_ (a:= .non) (b:= .int n) rfl rfl];unfold cJ;rfl)
section
variable{M:Mem}{r l:Nat}{rows:List Str}{k:Int}
theorem Sy(R:fJ M r l rows k){y:Nat}{all:List (List Nat)}(hy:M[y]? = some (.lst (ts all))):∀(us:List (List Nat)) (acc:List Int) (M1:Mem),(∀u∈us,u.length≤150)→Gr M M1→
  match bK us with
  | some ns=>∃x M',oH (some (y,ts all)) Cw (cN 3 "whole" bz 2 [] (aA 1) (aq (aA 0) aH)) [some (.ref r)] (ts us) (acc.map D.int) M1= .ok (.ref x) M'∧M'[x]? = some (.lst ((acc++ns).map D.int))∧Gr M M'
  | none=>∃M',oH (some (y,ts all)) Cw (cN 3 "whole" bz 2 [] (aA 1) (aq (aA 0) aH)) [some (.ref r)] (ts us) (acc.map D.int) M1= .exc 2 (.int k) M'∧Gr M M'
 | [],acc,M1,_,g=>by
  refine⟨M1.length,M1++[.lst (acc.map D.int)],?_,by simp,g.trans Gr.app⟩
  show oH _ _ _ _ [] _ _=_
  unfold oH
  rw[if_pos (show oK (some (y,ts all)) M1 from gG (g _ _ hy))]
 | u::us,acc,M1,hu,g=>by
  have R1:=R.gr g
  have h:=z7 R1 (hu u (by simp))
  have hs:oK (some (y,ts all)) M1:=gG (g _ _ hy)
  cases e:num u with
  | none=>
   rw[e]at h
   obtain⟨M2,e2,g2⟩:=h
   simp only[bK,e,Option.bind_none]
   refine⟨M2,?_,g.trans g2⟩
   show oH _ _ _ _ (.str (aY u)::ts us) _ _=_
   unfold oH
   rw[if_pos hs]
   simp[R1.me (m:= "whole") rfl,e2]
  | some n=>
   rw[e]at h
   obtain⟨M2,e2,g2⟩:=h
   have ih:=Sy R hy us (acc++[n]) M2 (fun v hv=>hu v (by simp[hv])) (g.trans g2)
   have step:oH (some (y,ts all)) Cw (cN 3 "whole" bz 2 [] (aA 1) (aq (aA 0) aH)) [some (.ref r)] (ts (u::us)) (acc.map D.int) M1=oH (some (y,ts all)) Cw (cN 3 "whole" bz 2 [] (aA 1) (aq (aA 0) aH)) [some (.ref r)] (ts us) ((acc++[n]).map D.int) M2:=by
    show oH _ _ _ _ (.str (aY u)::ts us) _ _=_
    rw[oH,if_pos hs]
    simp[R1.me (m:= "whole") rfl,e2]
   simp only[bK,e,Option.bind_some]
   cases e3:bK us with
   | none=>
    rw[e3]at ih
    obtain⟨M3,e4,g3⟩:=ih
    exact⟨M3,step.trans e4,g3⟩
   | some ns=>
    rw[e3]at ih
    obtain⟨x,M3,e4,h4,g3⟩:=ih
    exact⟨x,M3,step.trans e4,by rw[h4];simp,g3⟩
theorem Xo(R:fJ M r l rows k){y:Nat}{us:List (List Nat)}(hu:∀u∈us,u.length≤150)(hy:M[y]? = some (.lst (ts us))):
  match bK us with
  | some ns=>∃x M',oH (some (y,ts us)) Cw (cN 3 "whole" bz 2 [] (aA 1) (aq (aA 0) aH)) [some (.ref r)] (ts us) [] M= .ok (.ref x) M'∧M'[x]? = some (.lst (ns.map D.int))∧Gr M M'
  | none=>∃M',oH (some (y,ts us)) Cw (cN 3 "whole" bz 2 [] (aA 1) (aq (aA 0) aH)) [some (.ref r)] (ts us) [] M= .exc 2 (.int k) M'∧Gr M M':=by
 have h:=Sy R hy us [] M hu Gr.refl
 simpa using h
theorem Z_(R:fJ M r l rows k){y:Nat}{us:List (List Nat)}(hu:∀u∈us,u.length≤150)(h0:us≠[])(aay:us.length≤20)(hy:M[y]? = some (.lst (ts us))):Res k M (j5 [.ref r,.ref y] M) (orderV us):=by
 cases us with
 | nil=>exact absurd rfl h0
 | cons a tl=>
  have i0:bh (.ref y) (.int 0) M= .ok (.str (aY a)) M:=iV hy (j:=0) rfl rfl
  obtain⟨L,hL⟩:∃L:Int,L=(tl.length:Int)+1:=⟨_,rfl⟩
  have ln:qD [.ref y] M= .ok (.int L) M:=by rw[uA hy,hL];simp[ts]
  by_cases hc:Nt (aY a)=some L
  ·have ec:sNe (J_ (aY a) [("put",3),("add",3),("swap",4)]) (.int L) M= .ok (.bl false) M:=by rw[abb,hc,RT];simp
   cases tl with
   | nil=>
    exfalso
    simp at hL
    subst hL
    unfold Nt at hc
    split at hc
    ·cases hc
    ·split at hc
     ·cases hc
     ·split at hc<;>cases hc
   | cons b tl=>
    have s2:FQ (.ref y) (some 2) none M= .ok (.ref M.length) (M++[.lst (ts tl)]):=by
     rw[Aa hy]
     have:cut (ts (a::b::tl)) (some 2) none=ts tl:=abA
     rw[this]
    obtain⟨M1,nJ⟩:∃M1,M1=M++[MO.lst (ts tl)]:=⟨_,rfl⟩
    have h1:M1[M.length]? = some (.lst (ts tl)):=by rw[nJ];exact aP
    have g1:Gr M M1:=by rw[nJ];exact Gr.app
    rw[←nJ]at s2
    have R1:=R.gr g1
    have ecp:um [0] [some (D.ref r),some (.ref y),none]=[some (.ref r)]:=rfl
    have hcond:Nt (aY a)=some ((tl.length:Int)+2):=by rw[hc,hL];simp;omega
    have hn:=Xo R1 (us:=tl) (fun u hm=>hu u (by simp[hm])) h1
    simp only[orderV,hcond,if_true]
    cases en:bK tl with
    | none=>
     rw[en]at hn
     obtain⟨M2,e2,g2⟩:=hn
     refine⟨M2,?_,g1.trans g2⟩
     simp only[j5,gf,l_]
     simp[i0,ln,ec,s2,zA h1,ecp,e2]
    | some ns=>
     rw[en]at hn
     obtain⟨z,M2,e2,h2,g2⟩:=hn
     have R2:=R1.gr g2
     have i0':bh (.ref y) (.int 0) M2= .ok (.str (aY a)) M2:=iV (g2 _ _ (g1 _ _ hy)) (j:=0) rfl rfl
     have i1:bh (.ref y) (.int 1) M2= .ok (.str (aY b)) M2:=iV (g2 _ _ (g1 _ _ hy)) (j:=1) rfl rfl
     have hm:=abn R2 (w:=b) (hu b (by simp))
     have hnl:ns.length=tl.length:=by
      clear hcond hc ec ln hL h1 nJ s2 h2 e2 aay hy hu i0 i0' i1
      induction tl generalizing ns with
      | nil=>cases en;rfl
      | cons u us ih=>
       simp only[bK]at en
       cases e1:num u with
       | none=>rw[e1]at en;cases en
       | some n=>
        rw[e1]at en
        cases e2:bK us with
        | none=>rw[e2]at en;cases en
        | some ms=>
         rw[e2]at en
         cases en
         simp[ih (by simp) ms e2]
     cases e3:fj b with
     | none=>
      rw[e3]at hm
      obtain⟨M3,e3',g3⟩:=hm
      refine⟨M3,?_,(g1.trans g2).trans g3⟩
      simp only[j5,gf,l_]
      simp[i0,ln,ec,s2,zA h1,ecp,e2,i0',i1,R2.me (m:= "name") rfl,e3']
     | some s=>
      rw[e3]at hm
      obtain⟨M3,e3',g3⟩:=hm
      have e4:vR [.ref z] M3= .ok (.tup (ns.map D.int)) M3:=qC (g3 _ _ h2)
      have e5:d9 (.tup [.str (aY a),s]) (.tup (ns.map D.int)) M3= .ok (.tup ([.str (aY a),s]++ns.map D.int)) M3:=N6 (by simp) (by simp at aay ⊢;omega)
      refine⟨M3,?_,(g1.trans g2).trans g3⟩
      simp only[j5,gf,l_]
      simp[i0,ln,ec,s2,zA h1,ecp,e2,i0',i1,R2.me (m:= "name") rfl,e3',e4,e5]
  ·have ec:sNe (J_ (aY a) [("put",3),("add",3),("swap",4)]) (.int L) M= .ok (.bl true) M:=by
    rw[abb]
    cases e:Nt (aY a)with
    | none=>exact adi
    | some n=>
     rw[e]at hc
     have:¬(n=L):=fun z=>hc (by rw[z])
     rw[RT]
     simp[this]
   have hv:orderV (a::tl)=none:=by
    cases tl with
    | nil=>rfl
    | cons b tl=>
     simp only[orderV]
     rw[if_neg]
     intro z
     exact hc (by rw[z,hL];simp;omega)
   rw[hv]
   refine⟨M,?_,Gr.refl⟩
   simp only[j5,gf,l_]
   simp[i0,ln,ec,R.fh]
theorem abH(R:fJ M r l rows k){y:Nat}{us:List (List Nat)}(hu:∀u∈us,u.length≤150)(aay:us.length≤20)(hy:M[y]? = some (.lst (ts us))):Res k M (cU [.ref r,.ref y] M) (bW us):=by
 obtain⟨M1,nJ⟩:∃M1,M1=M++[MO.lst [D.str "start"]]:=⟨_,rfl⟩
 have h1:M1[M.length]? = some (.lst [D.str "start"]):=by rw[nJ];exact aP
 have g1:Gr M M1:=by rw[nJ];exact Gr.app
 have y1:=g1 _ _ hy
 have R1:=R.gr g1
 obtain⟨L,hL⟩:∃L:Int,L=(us.length:Int):=⟨_,rfl⟩
 have ln:qD [.ref y] M1= .ok (.int L) M1:=by rw[uA y1,hL];simp[ts]
 unfold bW
 by_cases hst:us=[W "start"]
 ·rw[if_pos hst]
  have he:sEq (.ref y) (.ref M.length) M1= .ok (.bl true) M1:=by
   refine Du (JB (ds:=[D.str "start"]) (fun d hd=>by simp at hd;subst hd;exact Ge) ?_ h1)
   rw[y1,hst];simp[ts]
  refine⟨M1,?_,g1⟩
  simp only[cU,bV,cG]
  simp[←nJ,he]
 ·rw[if_neg hst]
  have he:sEq (.ref y) (.ref M.length) M1= .ok (.bl false) M1:=by
   by_cases hl:us.length=1
   ·match us,hl with
    | [u],_=>
     have hne:aY u≠ "start" := fun z=>hst (by
      have:u=W "start" := by rw[←jM "start"]at z;exact K7 z
      rw[this])
     have f:∀{n:Nat} {z:Str},M1[n]? = some (.lst [D.str z])→lK M1 12 (.ref n)=some (.lst [.str z]):=fun{n z} h=>by
      show(match rF M1 n with | some ds=>(wH (lK M1 11) ds).map Dt.lst | none=>none)=_
      rw[gG h]
      rfl
     refine Du ?_
     rw[D_ (f (z:=aY u) (by rw[y1];rfl)) (f h1)]
     simp[cJ,zV,hne]
   ·exact Du (Yl y1 h1 (abM _) (fun d hd=>by simp at hd;subst hd;exact Ge) (by simpa[ts]using hl))
  match us,hst with
  | [],_=>
   have n3:¬(L=3):=by rw[hL];simp
   have n4:¬((3:Int)<L):=by rw[hL];simp
   refine⟨M1,?_,g1⟩
   simp only[cU,bV,cG,cZ,eF]
   simp[←nJ,he,ln,n3,n4,R1.fh]
  | [a],_=>
   have n3:¬(L=3):=by rw[hL];simp
   have n4:¬((3:Int)<L):=by rw[hL];simp
   refine⟨M1,?_,g1⟩
   simp only[cU,bV,cG,cZ,eF]
   simp[←nJ,he,ln,n3,n4,R1.fh]
  | [a,b],_=>
   have n3:¬(L=3):=by rw[hL];simp
   have n4:¬((3:Int)<L):=by rw[hL];simp
   refine⟨M1,?_,g1⟩
   simp only[cU,bV,cG,cZ,eF]
   simp[←nJ,he,ln,n3,n4,R1.fh]
  | [a,b,c],_=>
   have ln3:qD [.ref y] M1= .ok (.int 3) M1:=by rw[ln,hL];rfl
   have i0:bh (.ref y) (.int 0) M1= .ok (.str (aY a)) M1:=iV y1 (j:=0) rfl rfl
   by_cases hr:aY a= "roll"
   ·have i1:bh (.ref y) (.int 1) M1= .ok (.str (aY b)) M1:=iV y1 (j:=1) rfl rfl
    have i2:bh (.ref y) (.int 2) M1= .ok (.str (aY c)) M1:=iV y1 (j:=2) rfl rfl
    have hb:=Yy R1 (w:=b) (v:=c) (hu b (by simp)) (hu c (by simp))
    have hshape:bN b c=none∨∃x1 x2,bN b c=some (.tup [.int x1,.int x2]):=by
     unfold bN
     cases dH 1152921504606846976 b with
     | none=>exact .inl rfl
     | some x1=>
      cases dH 1152921504606846976 c with
      | none=>exact .inl rfl
      | some x2=>
       simp only[Option.bind_some]
       split
       ·exact .inl rfl
       ·exact .inr ⟨x1,x2,rfl⟩
    simp only[hr,if_true]
    rcases hshape with e | ⟨x1,x2,e⟩
    ·rw[e]at hb ⊢
     obtain⟨M2,e2,g2⟩:=hb
     refine⟨M2,?_,g1.trans g2⟩
     simp only[cU,bV,cG,cZ]
     simp[←nJ,he,ln3,i0,hr,i1,i2,R1.me (m:= "both_sets") rfl,e2]
    ·rw[e]at hb ⊢
     obtain⟨M2,e2,g2⟩:=hb
     have e3:d9 (.tup [.str "roll"]) (.tup [.int x1,.int x2]) M2= .ok (.tup [.str "roll",.int x1,.int x2]) M2:=N6 (by simp) (by simp)
     refine⟨M2,?_,g1.trans g2⟩
     simp only[cU,bV,cG,cZ]
     simp[←nJ,he,ln3,i0,hr,i1,i2,R1.me (m:= "both_sets") rfl,e2,e3]
   ·simp only[hr,if_false]
    refine⟨M1,?_,g1⟩
    simp only[cU,bV,cG,cZ,eF]
    simp[←nJ,he,ln3,i0,hr,R1.fh]
  | a::b::c::d::tl,_=>
   have n3:¬(L=3):=by rw[hL];simp;omega
   have n4:(3:Int)<L:=by rw[hL];simp;omega
   have i0:bh (.ref y) (.int 0) M1= .ok (.str (aY a)) M1:=iV y1 (j:=0) rfl rfl
   by_cases hr:aY a= "ask"
   ·simp only[hr,if_true]
    have i1:bh (.ref y) (.int 1) M1= .ok (.str (aY b)) M1:=iV y1 (j:=1) rfl rfl
    have hb:=z7 R1 (w:=b) (hu b (by simp))
    cases eb:num b with
    | none=>
     rw[eb]at hb
     obtain⟨M2,e2,g2⟩:=hb
     refine⟨M2,?_,g1.trans g2⟩
     simp only[cU,bV,cG,cZ,eF]
     simp[←nJ,he,ln,n3,n4,i0,hr,i1,R1.me (m:= "whole") rfl,e2]
    | some x1=>
     rw[eb]at hb
     obtain⟨M2,e2,g2⟩:=hb
     have R2:=R1.gr g2
     have i2:bh (.ref y) (.int 2) M2= .ok (.str (aY c)) M2:=iV (g2 _ _ y1) (j:=2) rfl rfl
     have hcx:=z7 R2 (w:=c) (hu c (by simp))
     cases ec:num c with
     | none=>
      rw[ec]at hcx
      obtain⟨M3,e3,g3⟩:=hcx
      refine⟨M3,?_,(g1.trans g2).trans g3⟩
      simp only[cU,bV,cG,cZ,eF]
      simp[←nJ,he,ln,n3,n4,i0,hr,i1,R1.me (m:= "whole") rfl,e2,i2,R2.me (m:= "whole") rfl,e3]
     | some x2=>
      rw[ec]at hcx
      obtain⟨M3,e3,g3⟩:=hcx
      have R3:=R2.gr g3
      have s3:FQ (.ref y) (some 3) none M3= .ok (.ref M3.length) (M3++[.lst (ts (d::tl))]):=by
       rw[Aa (g3 _ _ (g2 _ _ y1))]
       have:cut (ts (a::b::c::d::tl)) (some 3) none=ts (d::tl):=aiu
       rw[this]
      obtain⟨M4,Df⟩:∃M4,M4=M3++[MO.lst (ts (d::tl))]:=⟨_,rfl⟩
      have h4:M4[M3.length]? = some (.lst (ts (d::tl))):=by rw[Df];exact aP
      have g4:Gr M3 M4:=by rw[Df];exact Gr.app
      rw[←Df]at s3
      have ho:=Z_ (R3.gr g4) (us:=d::tl) (fun u hm=>hu u (by simp at hm ⊢;exact .inr (.inr (.inr hm)))) (by simp) (by simp at aay ⊢;omega) h4
      cases eo:orderV (d::tl)with
      | none=>
       rw[eo]at ho
       obtain⟨M5,e5,g5⟩:=ho
       refine⟨M5,?_,(((g1.trans g2).trans g3).trans g4).trans g5⟩
       simp only[cU,bV,cG,cZ,eF]
       simp[←nJ,he,ln,n3,n4,i0,hr,i1,R1.me (m:= "whole") rfl,e2,i2,R2.me (m:= "whole") rfl,e3,s3,e5]
      | some v=>
       rw[eo]at ho
       obtain⟨M5,e5,g5⟩:=ho
       refine⟨M5,?_,(((g1.trans g2).trans g3).trans g4).trans g5⟩
       simp only[cU,bV,cG,cZ,eF]
       simp[←nJ,he,ln,n3,n4,i0,hr,i1,R1.me (m:= "whole") rfl,e2,i2,R2.me (m:= "whole") rfl,e3,s3,e5]
   ·simp only[hr,if_false]
    refine⟨M1,?_,g1⟩
    simp only[cU,bV,cG,cZ,eF]
    simp[←nJ,he,ln,n3,n4,i0,hr,R1.fh]
end
theorem adS{r q:Nat}{M M':Mem}{o:MO}(hq:q=M.length)(c:Ch (fun j=>j=r∨j=q) (M++[o]) M'):Ch (· = r) M M':=
 ⟨Nat.le_trans (by simp) c.1,fun j x nj h=>c.2 j x (fun z=>by have:=pQ h;rcases z with z | z;exact nj z;omega) (Gr.app _ _ h)⟩
theorem XJ{c:MT}{t:MS}{r q:Nat}{M M0 M1 M2:Mem}{a b y2 y3:Option D}(h0:c [some (.ref r),some (.ref q),y2,y3] M= .ok true M0)(h1:t [some (.ref r),some (.ref q),y2,y3] M0= .next [some (.ref r),some (.ref q),a,b] M1)(h2:c [some (.ref r),some (.ref q),a,b] M1= .ok false M2):
  vQ c t [some (.ref r),some (.ref q),y2,y3] M= .next [some (.ref r),some (.ref q),a,b] M2:=by
 refine Ds (n:=2) ?_ (fun z=>nomatch z)
 rw[Iw,h0]
 simp only[h1]
 rw[Iw,h2]
theorem XH{c:MT}{t:MS}{r q x:Nat}{d:D}{M M0 M1:Mem}{y2 y3:Option D}{en:Sl}(h0:c [some (.ref r),some (.ref q),y2,y3] M= .ok true M0)(h1:t [some (.ref r),some (.ref q),y2,y3] M0= .exc x d en M1):
  vQ c t [some (.ref r),some (.ref q),y2,y3] M= .exc x d en M1:=by
 refine Ds (n:=1) ?_ (fun z=>nomatch z)
 rw[Iw,h0]
 simp only[h1]
theorem abt{c:MT}{t:MS}{r q:Nat}{M M0:Mem}{y2 y3:Option D}(h0:c [some (.ref r),some (.ref q),y2,y3] M= .ok false M0):vQ c t [some (.ref r),some (.ref q),y2,y3] M= .next [some (.ref r),some (.ref q),y2,y3] M0:=by
 refine Ds (n:=1) ?_ (fun z=>nomatch z)
 rw[Iw,h0]
section
variable{M:Mem}{r l i:Nat}{iR:List (List (List Nat))}{w0 w1 w2 w3 v:List Nat}{tl us:List (List Nat)}
theorem Y6(R:fJ M r l (iR.map bL) ((i:Int)+1))(hs:iR[i]? = some (v::tl))(hsw:yz (v::tl))(hn:aY v≠ "value"):∃M',g_ [.ref r] M= .ok (.tup []) M'∧fJ M' r l (iR.map bL) ((i:Int)+1)∧Ch (· = r) M M':=by
 have R0:fJ (M++[.lst []]) r l (iR.map bL) ((i:Int)+1):=R.gr Gr.app
 obtain⟨M1,e1,g1⟩:=mR R0 rfl hs hsw "value"
 have e0:gK [some (.ref r),some (.ref M.length),none,none] (M++[.lst []])= .ok false M1:=by simp only[gK];simp[R0.me (m:= "begins") rfl,e1,hn]
 have ew:=abt (t:=fu) e0
 refine⟨M1,?_,R0.gr g1,(Gr.app.trans g1).ch⟩
 simp only[g_,fZ,oO]
 simp[ew,qC (g1 _ _ aP)]
theorem aeD(R:fJ M r l (iR.map bL) ((i:Int)+1))(hs:iR[i]? = some (v::tl))(hsw:yz (v::tl))(hn:aY v≠ "answer"):∃M',iG [.ref r] M= .ok (.tup []) M'∧fJ M' r l (iR.map bL) ((i:Int)+1)∧Ch (· = r) M M':=by
 have R0:fJ (M++[.lst []]) r l (iR.map bL) ((i:Int)+1):=R.gr Gr.app
 obtain⟨M1,e1,g1⟩:=mR R0 rfl hs hsw "answer"
 have e0:fO [some (.ref r),some (.ref M.length),none,none] (M++[.lst []])= .ok false M1:=by simp only[fO];simp[R0.me (m:= "begins") rfl,e1,hn]
 have ew:=abt (t:=iu) e0
 refine⟨M1,?_,R0.gr g1,(Gr.app.trans g1).ch⟩
 simp only[iG,eZ,mZ]
 simp[ew,qC (g1 _ _ aP)]
theorem Y5(R:fJ M r l (iR.map bL) ((i:Int)+1))(h:iR[i]? = some [w0,w1,w2])(hw:yz [w0,w1,w2])(h0:aY w0= "value")(hs:iR[i+1]? = some (v::tl))(hsw:yz (v::tl))(hn:aY v≠ "value"):
  GoX r l (iR.map bL) ((i:Int)+1) M (g_ [.ref r] M) ((cA w1 w2).map fun d=> .tup [d]):=by
 have hr:=pQ R.o
 have hll:=pQ R.k
 obtain⟨q,hq⟩:∃q,q=M.length:=⟨_,rfl⟩
 obtain⟨Ma,Js⟩:∃Ma,Ma=M++[MO.lst []]:=⟨_,rfl⟩
 have R0:fJ Ma r l (iR.map bL) ((i:Int)+1):=by rw[Js];exact R.gr Gr.app
 have q0:Ma[q]? = some (.lst []):=by rw[Js,hq];exact aP
 obtain⟨Mb,eb,gb⟩:=mR R0 rfl h hw "value"
 have Rb:=R0.gr gb
 have ec:gK [some (.ref r),some (.ref q),none,none] Ma= .ok true Mb:=by simp only[gK];simp[R0.me (m:= "begins") rfl,eb,h0]
 obtain⟨x,M1,e1,h1,g1⟩:=pH Rb rfl h hw h0 (n:=3) rfl
 have R1:=Rb.gr g1
 have i1:bh (.ref x) (.int 1) M1= .ok (.str (aY w1)) M1:=iV h1 (j:=1) rfl rfl
 have hx1:=abn R1 (w:=w1) (hw.2.2 w1 (by simp)).2.2
 have exc:∀{en:Sl} {M2:Mem},fu [some (.ref r),some (.ref q),none,none] Mb= .exc 2 (.int ((i:Int)+1)) en M2→Gr Mb M2→GoX r l (iR.map bL) ((i:Int)+1) M (g_ [.ref r] M) none:=fun{en M2} e g=>by
  refine⟨M2,?_,?_⟩
  ·have ew:=XH ec e
   rw[Js,hq]at ew
   simp only[g_,fZ,oO]
   simp[ew]
  ·have:Gr Ma M2:=gb.trans g
   rw[Js]at this
   exact(Gr.app.trans this).ch
 unfold cA
 cases ea:fj w1 with
 | none=>
  rw[ea]at hx1
  obtain⟨M2,e2,g2⟩:=hx1
  refine exc (en:=[some (.ref r),some (.ref q),some (.ref x),none]) ?_ (g1.trans g2)
  simp only[fu]
  simp[Rb.me (m:= "words_of") rfl,e1,i1,R1.me (m:= "name") rfl,e2]
 | some s=>
  rw[ea]at hx1
  obtain⟨M2,e2,g2⟩:=hx1
  have R2:=R1.gr g2
  have i2:bh (.ref x) (.int 2) M2= .ok (.str (aY w2)) M2:=iV (g2 _ _ h1) (j:=2) rfl rfl
  have hx2:=z7 R2 (w:=w2) (hw.2.2 w2 (by simp)).2.2
  cases eb2:num w2 with
  | none=>
   rw[eb2]at hx2
   obtain⟨M3,e3,g3⟩:=hx2
   refine exc (en:=[some (.ref r),some (.ref q),some (.ref x),none]) ?_ ((g1.trans g2).trans g3)
   simp only[fu]
   simp[Rb.me (m:= "words_of") rfl,e1,i1,R1.me (m:= "name") rfl,e2,i2,R2.me (m:= "whole") rfl,e3]
  | some n=>
   rw[eb2]at hx2
   obtain⟨M3,e3,g3⟩:=hx2
   have R3:=R2.gr g3
   have g03:=((gb.trans g1).trans g2).trans g3
   have q3:=g03 _ _ q0
   by_cases hz:n=0
   ·simp only[Option.bind_some,hz,if_true]
    refine exc (en:=[some (.ref r),some (.ref q),some (.ref x),some (.tup [s,.int n])]) ?_ ((g1.trans g2).trans g3)
    have ck:kI [some (.ref r),some (.ref q),some (.ref x),some (.tup [s,.int n])] M3= .exc 2 (.int ((i:Int)+1)) [some (.ref r),some (.ref q),some (.ref x),some (.tup [s,.int n])] M3:=by
     simp only[kI]
     simp[hz,R3.fh]
    simp only[fu]
    simp[Rb.me (m:= "words_of") rfl,e1,i1,R1.me (m:= "name") rfl,e2,i2,R2.me (m:= "whole") rfl,e3,ck]
   ·simp only[Option.bind_some,hz,if_false,Option.map_some]
    have ck:kI [some (.ref r),some (.ref q),some (.ref x),some (.tup [s,.int n])] M3= .next [some (.ref r),some (.ref q),some (.ref x),some (.tup [s,.int n])] M3:=by
     simp only[kI]
     simp[hz,uA q3]
    have e4:=jK (d:= .tup [s,.int n]) q3 (by simp)
    obtain⟨M4,Df⟩:∃M4,M4=M3.set q (.lst ([]++[.tup [s,.int n]])):=⟨_,rfl⟩
    rw[←Df]at e4
    have q4:M4[q]? = some (.lst [.tup [s,.int n]]):=by rw[Df];exact get_set q3
    have R4:fJ M4 r l (iR.map bL) ((i:Int)+1):=by
     have c:Ch (· = q) M3 M4:=by rw[Df];exact Ch.set rfl
     exact R3.ch c (by omega) (by omega)
    have c4:Ch (fun j=>j=r∨j=q) M3 M4:=by rw[Df];exact Ch.set (.inr rfl)
    obtain⟨M5,e5,R5,c5,_⟩:=zF R4
    obtain⟨M6,e6,g6⟩:=Ug (i:=i+1) (y1:=some (.ref q)) (y2:=some (.ref x)) (y3:=some (.tup [s,.int n])) (by simpa using R5) hs hsw hn
    have et:fu [some (.ref r),some (.ref q),none,none] Mb= .next [some (.ref r),some (.ref q),some (.ref x),some (.tup [s,.int n])] M5:=by
     simp only[fu]
     simp[Rb.me (m:= "words_of") rfl,e1,i1,R1.me (m:= "name") rfl,e2,i2,R2.me (m:= "whole") rfl,e3,ck,pI q3,e4,R4.me (m:= "go_on") rfl,e5]
    have ew:=XJ ec et e6
    have q6:M6[q]? = some (.lst [.tup [s,.int n]]):=g6 _ _ (c5.2 _ _ (by omega) q4)
    refine⟨M6,?_,R5.gr g6,?_⟩
    ·rw[Js,hq]at ew
     rw[hq]at q6
     simp only[g_,fZ,oO]
     simp[ew,qC q6]
    ·refine adS hq (o:= .lst []) ?_
     rw[←Js]
     exact(g03.ch.trans c4).trans ((c5.mono fun j _ z=> .inl z).trans g6.ch)
def eE(a b c:List Nat):Option D:=(bK [a,b,c]).map fun ns=> .tup (ns.map D.int)
theorem aeC(R:fJ M r l (iR.map bL) ((i:Int)+1))(h:iR[i]? = some [w0,w1,w2,w3])(hw:yz [w0,w1,w2,w3])(h0:aY w0= "answer")(hs:iR[i+1]? = some (v::tl))(hsw:yz (v::tl))(hn:aY v≠ "answer"):
  GoX r l (iR.map bL) ((i:Int)+1) M (iG [.ref r] M) ((eE w1 w2 w3).map fun d=> .tup [d]):=by
 have hr:=pQ R.o
 have hll:=pQ R.k
 obtain⟨q,hq⟩:∃q,q=M.length:=⟨_,rfl⟩
 obtain⟨Ma,Js⟩:∃Ma,Ma=M++[MO.lst []]:=⟨_,rfl⟩
 have R0:fJ Ma r l (iR.map bL) ((i:Int)+1):=by rw[Js];exact R.gr Gr.app
 have q0:Ma[q]? = some (.lst []):=by rw[Js,hq];exact aP
 obtain⟨Mb,eb,gb⟩:=mR R0 rfl h hw "answer"
 have Rb:=R0.gr gb
 have ec:fO [some (.ref r),some (.ref q),none,none] Ma= .ok true Mb:=by simp only[fO];simp[R0.me (m:= "begins") rfl,eb,h0]
 obtain⟨x,M1,e1,h1,g1⟩:=pH Rb rfl h hw h0 (n:=4) rfl
 have R1:=Rb.gr g1
 have s1:FQ (.ref x) (some 1) none M1= .ok (.ref M1.length) (M1++[.lst (ts [w1,w2,w3])]):=by
  rw[Aa h1]
  have:cut (ts [w0,w1,w2,w3]) (some 1) none=ts [w1,w2,w3]:=aiv
  rw[this]
 obtain⟨M2,v_⟩:∃M2,M2=M1++[MO.lst (ts [w1,w2,w3])]:=⟨_,rfl⟩
 have h2:M2[M1.length]? = some (.lst (ts [w1,w2,w3])):=by rw[v_];exact aP
 have g2:Gr M1 M2:=by rw[v_];exact Gr.app
 rw[←v_]at s1
 have R2:=R1.gr g2
 have ecp:um [0] [some (D.ref r),some (.ref q),some (.ref x),none]=[some (.ref r)]:=rfl
 have hx:=Xo R2 (us:=[w1,w2,w3]) (fun u hu=>(hw.2.2 u (by simp at hu ⊢;exact .inr hu)).2.2) h2
 unfold eE
 cases ea:bK [w1,w2,w3]with
 | none=>
  rw[ea]at hx
  obtain⟨M3,e3,g3⟩:=hx
  refine⟨M3,?_,?_⟩
  ·have et:iu [some (.ref r),some (.ref q),none,none] Mb= .exc 2 (.int ((i:Int)+1)) [some (.ref r),some (.ref q),some (.ref x),none] M3:=by
    simp only[iu]
    simp[Rb.me (m:= "words_of") rfl,e1,s1,zA h2,ecp,e3]
   have ew:=XH ec et
   rw[Js,hq]at ew
   simp only[iG,eZ,mZ]
   simp[ew]
  ·have:Gr Ma M3:=((gb.trans g1).trans g2).trans g3
   rw[Js]at this
   exact(Gr.app.trans this).ch
 | some ns=>
  rw[ea]at hx
  obtain⟨z,M3,e3,h3,g3⟩:=hx
  have R3:=R2.gr g3
  have g03:=((gb.trans g1).trans g2).trans g3
  have q3:=g03 _ _ q0
  have et0:vR [.ref z] M3= .ok (.tup (ns.map D.int)) M3:=qC h3
  have ck:qK [some (.ref r),some (.ref q),some (.ref x),some (.tup (ns.map D.int))] M3= .next [some (.ref r),some (.ref q),some (.ref x),some (.tup (ns.map D.int))] M3:=by
   simp only[qK]
   simp[uA q3]
  have e4:=jK (d:= .tup (ns.map D.int)) q3 (by simp)
  obtain⟨M4,Df⟩:∃M4,M4=M3.set q (.lst ([]++[.tup (ns.map D.int)])):=⟨_,rfl⟩
  rw[←Df]at e4
  have q4:M4[q]? = some (.lst [.tup (ns.map D.int)]):=by rw[Df];exact get_set q3
  have R4:fJ M4 r l (iR.map bL) ((i:Int)+1):=by
   have c:Ch (· = q) M3 M4:=by rw[Df];exact Ch.set rfl
   exact R3.ch c (by omega) (by omega)
  have c4:Ch (fun j=>j=r∨j=q) M3 M4:=by rw[Df];exact Ch.set (.inr rfl)
  obtain⟨M5,e5,R5,c5,_⟩:=zF R4
  have R5':fJ M5 r l (iR.map bL) (((i+1:Nat):Int)+1):=by simpa using R5
  obtain⟨M6,e6,g6⟩:=mR R5' rfl hs hsw "answer"
  have ec2:fO [some (.ref r),some (.ref q),some (.ref x),some (.tup (ns.map D.int))] M5= .ok false M6:=by simp only[fO];simp[R5.me (m:= "begins") rfl,e6,hn]
  have et:iu [some (.ref r),some (.ref q),none,none] Mb= .next [some (.ref r),some (.ref q),some (.ref x),some (.tup (ns.map D.int))] M5:=by
   simp only[iu]
   simp[Rb.me (m:= "words_of") rfl,e1,s1,zA h2,ecp,e3,et0,ck,pI q3,e4,R4.me (m:= "go_on") rfl,e5]
  have ew:=XJ ec et ec2
  have q6:M6[q]? = some (.lst [.tup (ns.map D.int)]):=g6 _ _ (c5.2 _ _ (by omega) q4)
  refine⟨M6,?_,R5.gr g6,?_⟩
  ·rw[Js,hq]at ew
   rw[hq]at q6
   simp only[iG,eZ,mZ]
   simp[ew,qC q6]
  ·refine adS hq (o:= .lst []) ?_
   rw[←Js]
   exact(g03.ch.trans c4).trans ((c5.mono fun j _ z=> .inl z).trans g6.ch)
def cB(a:List Nat)(us:List (List Nat)):Option D:=(bW us).bind fun v=>(dG a).map fun n=> .tup [.int n,v]
theorem Tv(R:fJ M r l (iR.map bL) ((i:Int)+1))(h:iR[i]? = some (w0::w1::us))(hw:yz (w0::w1::us))(h0:aY w0= "at")(hs:iR[i+1]? = some (v::tl))(hsw:yz (v::tl))(hn:aY v≠ "at"):
  match cB w1 us with
  | some e=>∃q M',iD [.ref r] M= .ok (.ref q) M'∧M'[q]? = some (.lst [e])∧fJ M' r l (iR.map bL) ((i:Int)+1+1)∧Ch (· = r) M M'
  | none=>∃M',iD [.ref r] M= .exc 2 (.int ((i:Int)+1)) M'∧Ch (· = r) M M':=by
 have hr:=pQ R.o
 have hll:=pQ R.k
 obtain⟨q,hq⟩:∃q,q=M.length:=⟨_,rfl⟩
 obtain⟨Ma,Js⟩:∃Ma,Ma=M++[MO.lst []]:=⟨_,rfl⟩
 have R0:fJ Ma r l (iR.map bL) ((i:Int)+1):=by rw[Js];exact R.gr Gr.app
 have q0:Ma[q]? = some (.lst []):=by rw[Js,hq];exact aP
 obtain⟨Mb,eb,gb⟩:=mR R0 rfl h hw "at"
 have Rb:=R0.gr gb
 have ec:jF [some (.ref r),some (.ref q),none,none] Ma= .ok true Mb:=by simp only[jF];simp[R0.me (m:= "begins") rfl,eb,h0]
 obtain⟨x,M1,e1,h1,g1⟩:=Ud Rb rfl h hw
 have R1:=Rb.gr g1
 have s1:FQ (.ref x) (some 2) none M1= .ok (.ref M1.length) (M1++[.lst (ts us)]):=by
  rw[Aa h1]
  have:cut (ts (w0::w1::us)) (some 2) none=ts us:=abA
  rw[this]
 obtain⟨M2,v_⟩:∃M2,M2=M1++[MO.lst (ts us)]:=⟨_,rfl⟩
 have h2:M2[M1.length]? = some (.lst (ts us)):=by rw[v_];exact aP
 have g2:Gr M1 M2:=by rw[v_];exact Gr.app
 rw[←v_]at s1
 have R2:=R1.gr g2
 have hx:=abH R2 (us:=us) (fun u hu=>(hw.2.2 u (by simp[hu])).2.2) (by have:=hw.2.1;simp at this;omega) h2
 have exc:∀{en:Sl} {M3:Mem},ir [some (.ref r),some (.ref q),none,none] Mb= .exc 2 (.int ((i:Int)+1)) en M3→Gr Mb M3→∃M',iD [.ref r] M= .exc 2 (.int ((i:Int)+1)) M'∧Ch (· = r) M M':=fun{en M3} e g=>by
  refine⟨M3,?_,?_⟩
  ·have ew:=XH ec e
   rw[Js,hq]at ew
   simp only[iD,gC,qp]
   simp[ew]
  ·have:Gr Ma M3:=gb.trans g
   rw[Js]at this
   exact(Gr.app.trans this).ch
 unfold cB
 cases ea:bW us with
 | none=>
  rw[ea]at hx
  obtain⟨M3,e3,g3⟩:=hx
  refine exc (en:=[some (.ref r),some (.ref q),some (.ref x),none]) ?_ ((g1.trans g2).trans g3)
  simp only[ir]
  simp[Rb.me (m:= "words") rfl,e1,s1,e3]
 | some d=>
  rw[ea]at hx
  obtain⟨M3,e3,g3⟩:=hx
  have R3:=R2.gr g3
  have g03:=((gb.trans g1).trans g2).trans g3
  have i1:bh (.ref x) (.int 1) M3= .ok (.str (aY w1)) M3:=iV (g3 _ _ (g2 _ _ h1)) (j:=1) rfl rfl
  have t3:MK "list" (.ref q) M3=true:=pI (g03 _ _ q0)
  have hx4:=nU R3 (w:=w1) (hw.2.2 w1 (by simp)).2.2
  cases eb2:dG w1 with
  | none=>
   rw[eb2]at hx4
   obtain⟨M4,e4,g4⟩:=hx4
   refine exc (en:=[some (.ref r),some (.ref q),some (.ref x),some d]) ?_ (((g1.trans g2).trans g3).trans g4)
   simp only[ir]
   simp[Rb.me (m:= "words") rfl,e1,s1,e3,i1,R3.me (m:= "from_nought") rfl,e4,t3]
  | some n=>
   rw[eb2]at hx4
   obtain⟨M4,e4,g4⟩:=hx4
   have R4:=R3.gr g4
   have q4:=g4 _ _ (g03 _ _ q0)
   have e5:=jK (d:= .tup [.int n,d]) q4 (by simp)
   obtain⟨M5,Q9⟩:∃M5,M5=M4.set q (.lst ([]++[.tup [.int n,d]])):=⟨_,rfl⟩
   rw[←Q9]at e5
   have q5:M5[q]? = some (.lst [.tup [.int n,d]]):=by rw[Q9];exact get_set q4
   have c5:Ch (fun j=>j=r∨j=q) M4 M5:=by rw[Q9];exact Ch.set (.inr rfl)
   have R5:fJ M5 r l (iR.map bL) ((i:Int)+1):=by
    have c:Ch (· = q) M4 M5:=by rw[Q9];exact Ch.set rfl
    exact R4.ch c (by omega) (by omega)
   obtain⟨M6,e6,R6,c6,_⟩:=zF R5
   have R6':fJ M6 r l (iR.map bL) (((i+1:Nat):Int)+1):=by simpa using R6
   obtain⟨M7,e7,g7⟩:=mR R6' rfl hs hsw "at"
   have ec2:jF [some (.ref r),some (.ref q),some (.ref x),some d] M6= .ok false M7:=by simp only[jF];simp[R6.me (m:= "begins") rfl,e7,hn]
   have et:ir [some (.ref r),some (.ref q),none,none] Mb= .next [some (.ref r),some (.ref q),some (.ref x),some d] M6:=by
    simp only[ir]
    simp[Rb.me (m:= "words") rfl,e1,s1,e3,i1,R3.me (m:= "from_nought") rfl,e4,t3,e5,R5.me (m:= "go_on") rfl,e6]
   have ew:=XJ ec et ec2
   have q7:M7[q]? = some (.lst [.tup [.int n,d]]):=g7 _ _ (c6.2 _ _ (by omega) q5)
   refine⟨q,M7,?_,q7,R6.gr g7,?_⟩
   ·rw[Js,hq]at ew
    rw[hq]
    simp only[iD,gC,qp]
    simp[ew]
   ·refine adS hq (o:= .lst []) ?_
    rw[←Js]
    exact((g03.trans g4).ch.trans c5).trans ((c6.mono fun j _ z=> .inl z).trans g7.ch)
end
def Nm(M:Mem)(t:Str)(n:Int):Prop:=∃M',cH [.str t] M= .exc 2 (.int n) M'∧Gr M M'
theorem OJ{M:Mem}{r l i:Nat}{iR:List (List (List Nat))}{w0 w1:List Nat}(R:fJ M r l (iR.map bL) ((i:Int)+1))(h:iR[i]? = some [w0,w1])(hw:yz [w0,w1])(h0:aY w0= "end")(hn:num w1=some (i:Int))(hl:iR.length=i+1):∃M',oZ [.ref r] M= .ok .non M'∧Gr M M':=by
 obtain⟨x,M1,e1,h1,g1⟩:=pH R rfl h hw h0 (n:=2) rfl
 have R1:=R.gr g1
 have i1:bh (.ref x) (.int 1) M1= .ok (.str (aY w1)) M1:=iV h1 (j:=1) rfl rfl
 have hx:=z7 R1 (w:=w1) (hw.2.2 w1 (by simp)).2.2
 rw[hn]at hx
 obtain⟨M2,e2,g2⟩:=hx
 have R2:=R1.gr g2
 have hll:qD [.ref l] M2= .ok (.int ((i:Int)+1)) M2:=by rw[uA R2.k];simp[hl]
 refine⟨M2,?_,g1.trans g2⟩
 simp only[oZ,gM,vO,vN]
 simp[R.me (m:= "words_of") rfl,e1,i1,R1.me (m:= "whole") rfl,e2,R2.fh,R2.fr,hll]
def BV(a0 a1 a2 a3 a4 a5 a6 a7 a8 a9 b:List Nat)(us:List (List Nat)):List (List (List Nat)):=
 [[W "book",a0,a1],[W "base",a2,a3,a4,a5],[W "value",a7,a6],[W "answer",a8,W "1",a9],W "at" :: b::us,[W "end",W "5"]]
theorem anP:num (W "5")=some 5:=by decide +kernel
theorem anQ:num (W "3")=some 3:=by decide +kernel
theorem nes:("answer" : Str)≠ "value" ∧ ("at" : Str)≠ "answer" ∧ ("at" : Str)≠ "value" ∧ ("end" : Str)≠ "at" := by decide
theorem jz{M:Mem}{a0 a1 a2 a3 a4 a5 a6 a7 a8 a9 b:List Nat}{us:List (List Nat)}(hw:∀ws∈BV a0 a1 a2 a3 a4 a5 a6 a7 a8 a9 b us,yz ws):
  match bF a0 a1,bu a2 a3 a4 a5,cA a7 a6,eE a8 (W "1") a9,cB b us with
  | none,_,_,_,_=>Nm M (Txt.join "\n" ((BV a0 a1 a2 a3 a4 a5 a6 a7 a8 a9 b us).map bL)) 1
  | some _,none,_,_,_=>Nm M (Txt.join "\n" ((BV a0 a1 a2 a3 a4 a5 a6 a7 a8 a9 b us).map bL)) 2
  | some _,some _,none,_,_=>Nm M (Txt.join "\n" ((BV a0 a1 a2 a3 a4 a5 a6 a7 a8 a9 b us).map bL)) 3
  | some _,some _,some _,none,_=>Nm M (Txt.join "\n" ((BV a0 a1 a2 a3 a4 a5 a6 a7 a8 a9 b us).map bL)) 4
  | some _,some _,some _,some _,none=>Nm M (Txt.join "\n" ((BV a0 a1 a2 a3 a4 a5 a6 a7 a8 a9 b us).map bL)) 5
  | some h,some bs,some vv,some aa,some ee=>∃k r l M',cH [.str (Txt.join "\n" ((BV a0 a1 a2 a3 a4 a5 a6 a7 a8 a9 b us).map bL))] M= .ok (.ref k) M'∧Bm M' k r l h.1 h.2 bs.1 bs.2.1 bs.2.2 (.tup [.tup [vv],.tup [aa]]) [ee]∧Gr M M':=by
 obtain⟨iR,zE⟩:∃iR,iR=BV a0 a1 a2 a3 a4 a5 a6 a7 a8 a9 b us:=⟨_,rfl⟩
 rw[←zE]at hw ⊢
 have w0:iR[0]? = some [W "book",a0,a1]:=by rw[zE];rfl
 have w1:iR[1]? = some [W "base",a2,a3,a4,a5]:=by rw[zE];rfl
 have w2:iR[2]? = some [W "value",a7,a6]:=by rw[zE];rfl
 have w3:iR[3]? = some [W "answer",a8,W "1",a9]:=by rw[zE];rfl
 have w4:iR[4]? = some (W "at" :: b::us):=by rw[zE];rfl
 have w5:iR[5]? = some [W "end",W "5"]:=by rw[zE];rfl
 have hlen:iR.length=6:=by rw[zE];rfl
 have hW:∀{i:Nat} {ws:List (List Nat)},iR[i]? = some ws→yz ws:=fun h=>hw _ (List.mem_of_getElem? h)
 have hT:(Txt.join "\n" (iR.map bL)).length+2≤16777216:=by have:=text_len hw (by omega);omega
 obtain⟨M1,e1,R1,g1,z1⟩:=Ss (M:=M) hT
 rw[Gh (by rw[zE];simp[BV]) hw]at R1
 have gr:∀{M':Mem},Ch (· = M.length) M1 M'→Gr M M':=fun{M'} c j o hj=>c.2 j o (Nat.ne_of_lt (pQ hj)) (g1 _ _ hj)
 have h2:=Yb R1 (i:=0) rfl w0 (hW w0) (jM _)
 cases ea:bF a0 a1 with
 | none=>
  rw[ea]at h2
  obtain⟨M2,e2,c2⟩:=h2
  refine⟨M2,?_,gr c2⟩
  simp only[cH,cW]
  simp[e1,e2]
 | some hd=>
  rw[ea]at h2
  obtain⟨M2,e2,R2,c2⟩:=h2
  have h3:=YB R2 (i:=1) rfl w1 (hW w1) (jM _)
  cases eb:bu a2 a3 a4 a5 with
  | none=>
   rw[eb]at h3
   obtain⟨M3,e3,c3⟩:=h3
   refine⟨M3,?_,gr (c2.trans c3)⟩
   simp only[cH,cW]
   simp[e1,e2,e3]
  | some bs=>
   rw[eb]at h3
   obtain⟨M3,e3,R3,c3⟩:=h3
   have c23:=c2.trans c3
   have h4:=Y5 (i:=2) R3 w2 (hW w2) (jM _) w3 (hW w3) (by rw[jM];exact nes.1)
   cases ec:cA a7 a6 with
   | none=>
    rw[ec]at h4
    obtain⟨M4,e4,c4⟩:=h4
    refine⟨M4,?_,gr (c23.trans c4)⟩
    simp only[cH,cW]
    simp[e1,e2,e3,e4]
   | some vv=>
    rw[ec]at h4
    obtain⟨M4,e4,R4,c4⟩:=h4
    have c24:=c23.trans c4
    have h5:=aeC (i:=3) R4 w3 (hW w3) (jM _) w4 (hW w4) (by rw[jM];exact nes.2.1)
    cases ed:eE a8 (W "1") a9 with
    | none=>
     rw[ed]at h5
     obtain⟨M5,e5,c5⟩:=h5
     refine⟨M5,?_,gr (c24.trans c5)⟩
     simp only[cH,cW]
     simp[e1,e2,e3,e4,e5]
    | some aa=>
     rw[ed]at h5
     obtain⟨M5,e5,R5,c5⟩:=h5
     have YS:=c24.trans c5
     have h6:=Tv (i:=4) R5 w4 (hW w4) (jM _) w5 (hW w5) (by rw[jM];exact nes.2.2.2)
     cases ee:cB b us with
     | none=>
      rw[ee]at h6
      obtain⟨M6,e6,c6⟩:=h6
      refine⟨M6,?_,gr (YS.trans c6)⟩
      simp only[cH,cW]
      simp[e1,e2,e3,e4,e5,e6]
     | some en=>
      rw[ee]at h6
      obtain⟨q,M6,e6,q6,R6,c6⟩:=h6
      obtain⟨M7,e7,Rw,g7⟩:=K_ (M:=M6) (b:=bs.1) (bt:=bs.2.1) (br:=bs.2.2) q6
      have R7:=R6.gr g7
      obtain⟨M8,e8,g8⟩:=OJ (i:=5) R7 w5 (hW w5) (jM _) anP hlen
      obtain⟨M9,e9,K9,g9⟩:=T7 (tm:=hd.1) (vt:=hd.2) (kept:= .tup [.tup [vv],.tup [aa]]) (Rw.gr g8)
      refine⟨_,_,_,M9,?_,K9,(gr (((YS.trans c6).trans g7.ch).trans g8.ch)).trans g9⟩
      simp only[cH,cW]
      simp[e1,e2,e3,e4,e5,e6,e7,R7.me (m:= "finish") rfl,e8,e9]
def BW(us:List (List Nat)):List (List (List Nat)):=[[W "book",W "0",W "-"],[W "base",W "0",W "0",W "1",W "0"],W "at" :: W "7" :: us,[W "end",W "3"]]
theorem aaY{M:Mem}{us:List (List Nat)}(hw:∀ws∈BW us,yz ws)(hh:bF (W "0") (W "-")=some (0,.non))(hb:bu (W "0") (W "0") (W "1") (W "0")=some (0,0,.tup [.int 1,.int 0])):
  match cB (W "7") us with
  | none=>Nm M (Txt.join "\n" ((BW us).map bL)) 3
  | some _=>∃k M',cH [.str (Txt.join "\n" ((BW us).map bL))] M= .ok (.ref k) M'∧Gr M M':=by
 obtain⟨iR,zE⟩:∃iR,iR=BW us:=⟨_,rfl⟩
 rw[←zE]at hw ⊢
 have w0:iR[0]? = some [W "book",W "0",W "-"]:=by rw[zE];rfl
 have w1:iR[1]? = some [W "base",W "0",W "0",W "1",W "0"]:=by rw[zE];rfl
 have w2:iR[2]? = some (W "at" :: W "7" :: us):=by rw[zE];rfl
 have w3:iR[3]? = some [W "end",W "3"]:=by rw[zE];rfl
 have hlen:iR.length=4:=by rw[zE];rfl
 have hW:∀{i:Nat} {ws:List (List Nat)},iR[i]? = some ws→yz ws:=fun h=>hw _ (List.mem_of_getElem? h)
 have hT:(Txt.join "\n" (iR.map bL)).length+2≤16777216:=by have:=text_len hw (by omega);omega
 obtain⟨M1,e1,R1,g1,z1⟩:=Ss (M:=M) hT
 rw[Gh (by rw[zE];simp[BW]) hw]at R1
 have gr:∀{M':Mem},Ch (· = M.length) M1 M'→Gr M M':=fun{M'} c j o hj=>c.2 j o (Nat.ne_of_lt (pQ hj)) (g1 _ _ hj)
 have h2:=Yb R1 (i:=0) rfl w0 (hW w0) (jM _)
 rw[hh]at h2
 obtain⟨M2,e2,R2,c2⟩:=h2
 have h3:=YB R2 (i:=1) rfl w1 (hW w1) (jM _)
 rw[hb]at h3
 obtain⟨M3,e3,R3,c3⟩:=h3
 obtain⟨M4,e4,R4,c4⟩:=Y6 (i:=2) R3 w2 (hW w2) (by rw[jM];exact nes.2.2.1)
 obtain⟨M5,e5,R5,c5⟩:=aeD (i:=2) R4 w2 (hW w2) (by rw[jM];exact nes.2.1)
 have YS:=((c2.trans c3).trans c4).trans c5
 have h6:=Tv (i:=2) R5 w2 (hW w2) (jM _) w3 (hW w3) (by rw[jM];exact nes.2.2.2)
 cases ee:cB (W "7") us with
 | none=>
  rw[ee]at h6
  obtain⟨M6,e6,c6⟩:=h6
  refine⟨M6,?_,gr (YS.trans c6)⟩
  simp only[cH,cW]
  simp[e1,e2,e3,e4,e5,e6]
 | some en=>
  rw[ee]at h6
  obtain⟨q,M6,e6,q6,R6,c6⟩:=h6
  obtain⟨M7,e7,Rw,g7⟩:=K_ (M:=M6) (b:=0) (bt:=0) (br:= .tup [.int 1,.int 0]) q6
  have R7:=R6.gr g7
  obtain⟨M8,e8,g8⟩:=OJ (i:=3) R7 w3 (hW w3) (jM _) anQ hlen
  obtain⟨M9,e9,K9,g9⟩:=T7 (tm:=0) (vt:= .non) (kept:= .tup [.tup [],.tup []]) (Rw.gr g8)
  refine⟨M8.length,M9,?_,(gr (((YS.trans c6).trans g7.ch).trans g8.ch)).trans g9⟩
  simp only[cH,cW]
  simp[e1,e2,e3,e4,e5,e6,e7,R7.me (m:= "finish") rfl,e8,e9]
theorem T3{M:Mem}(ns:List Int)(k:Nat){kk:Int}(hk:kk=k):jn [.cl (ns.map D.int),.int kk] M= .ok (.int (cell ns k)) M:=by
 subst hk
 simp only[jn,ie,yL]
 by_cases h:k<ns.length
 ·have e:bh (.cl (ns.map D.int)) (.int k) M= .ok (.int ns[k]) M:=acd (by omega) (by simp[h])
  simp[h,e,cell]
 ·simp[h,cell]
def Pj(n:Nat)(xs:List Int):Prop:=xs.length=n∧∀x∈xs,0≤x∧x<2147483647
structure Rm(M:Mem)(c:Int)(n i:Nat)(e:Sl)(M':Mem):Prop where
 h:∃(xs:List Int) (num:Int) (v:Option D),Pj i xs∧0≤num∧num<2147483647∧e=[some (.int c),some (.int n),some (.ref M.length),some (.int num),v]∧M'=M++[.lst (xs.map D.int)]
theorem Xx(z:Int):0≤z % 2147483647∧z % 2147483647<2147483647:=⟨Int.emod_nonneg _ (by omega),Int.emod_lt_of_pos _ (by omega)⟩
theorem Wl{M:Mem}{c:Int}{n i:Nat}{d:D}{e:Sl}{M2:Mem}(hn:n≤1000)(hd:(Jf 0 n)[i]? = some d)(h:Rm M c n i e M2):∃e1,gN 4 d e=some e1∧
  (ux e1 M2).to (Rm M c n (i+1)) fun _ _=>False:=by
 obtain⟨xs,num,v,⟨hx,hxb⟩,h0,h1,rfl,rfl⟩:=h
 obtain⟨hi,rfl⟩:=Sh hd
 refine⟨_,rfl,?_⟩
 have a1:Kq (.int num) (.int 1009) (M++[.lst (xs.map D.int)])= .ok (.int (num / 1009)) (M++[.lst (xs.map D.int)]):=N5 (by omega) (by omega)
 have a2:Ie (.int num) (.int (num / 1009+69621)) (M++[.lst (xs.map D.int)])= .ok (.int (num*(num / 1009+69621))) (M++[.lst (xs.map D.int)]):=NQ (.inl (by constructor<;>omega))
 have a3:∀z:Int,nQ (.int z) (.int 2147483647) (M++[.lst (xs.map D.int)])= .ok (.int (z % 2147483647)) (M++[.lst (xs.map D.int)]):=fun z=>GD (by omega)
 have a4:MK "list" (.ref M.length) (M++[.lst (xs.map D.int)])=true:=pI aP
 have a5:∀z:Int,jY (.ref M.length) [.int z] (M++[.lst (xs.map D.int)])= .ok .non (M++[.lst ((xs++[z]).map D.int)]):=fun z=>by
  rw[jK aP (by rw[List.length_map];omega)]
  simp
 simp[ux,a1,a2,a3,a4,a5]
 refine⟨xs++[(num*(num / 1009+69621)+i+1) % 2147483647],(num*(num / 1009+69621)+i+1) % 2147483647,_,⟨by simp[hx],fun x hm=> ?_⟩,(Xx _).1,(Xx _).2,rfl,by simp⟩
 rcases List.mem_append.mp hm with h | h
 ·exact hxb x h
 ·rw[List.mem_singleton.mp h];exact Xx _
theorem Uo{M:Mem}(c:Int)(n:Nat){nn:Int}(hnn:nn=n)(hn:n≤1000):∃xs:List Int,Pj n xs∧m_ [.int c,.int nn] M= .ok (.ref M.length) (M++[.lst (xs.map D.int)]):=by
 subst hnn
 have e1:Ie (.int c) (.int 48271) (M++[.lst []])= .ok (.int (c*48271)) (M++[.lst []]):=NQ (.inr (by omega))
 have e2:nQ (.int (c*48271+7919)) (.int 2147483647) (M++[.lst []])= .ok (.int ((c*48271+7919) % 2147483647)) (M++[.lst []]):=GD (by omega)
 have e3:N8 [.int n] (M++[.lst []])= .ok ⟨none,Jf 0 n⟩ (M++[.lst []]):=by
  have:=N7 (M:=M++[.lst []]) (j:=n) (by omega) (by omega)
  simpa using this
 obtain⟨e',M',hl,hh⟩:=Jx (Rm M c n) (ds:=Jf 0 n) (e:=[some (.int c),some (.int n),some (.ref M.length),some (.int ((c*48271+7919) % 2147483647)),none]) (M:=M++[.lst []]) (src:=none)
  ⟨[],_,none,⟨rfl,by simp⟩,(Xx _).1,(Xx _).2,rfl,rfl⟩ (fun _ _ _ _ _=>trivial) fun i d e M2 hd h=>Wl hn hd h
 obtain⟨xs,num,v,hx,_,_,rfl,rfl⟩:=hh
 rw[ZF]at hx
 refine⟨xs,hx,?_⟩
 simp only[m_,jl,zR]
 simp[e1,e2,e3,hl]
theorem xN{n:Nat}{xs:List Int}(h:Pj n xs){i:Nat}(hi:i<n):∃x,xs[i]? = some x∧0≤x∧x<2147483647:=by
 have hl:i<xs.length:=by rw[h.1];exact hi
 exact⟨xs[i],List.getElem?_eq_getElem hl,h.2 _ (List.getElem_mem hl)⟩
theorem uc{M:Mem}{n i:Nat}{xs:List Int}{x:Int}{k:Int}(hM:M[n]? = some (.lst (xs.map D.int)))(hk:k=i)(h:xs[i]? = some x):bh (.ref n) (.int k) M= .ok (.int x) M:=
 qR hM (by omega) (by subst hk;simp[h])
theorem Gk{M:Mem}(c:Int)(n:Nat){nn:Int}(hnn:nn=n)(hn:n≤1000):∃xs x M1,Pj n xs∧m_ [.int c,.int nn] M= .ok (.ref x) M1∧M1[x]? = some (.lst (xs.map D.int))∧Gr M M1:=by
 obtain⟨xs,h,e⟩:=Uo (M:=M) c n hnn hn
 exact⟨xs,_,_,h,e,aP,Gr.app⟩
theorem An(z:Int){j:Int}(h:0<j):0≤z % j∧z % j<j:=⟨Int.emod_nonneg _ (by omega),Int.emod_lt_of_pos _ h⟩
theorem Sv{M:Mem}{n:Nat}{ds:List D}{z j:Int}(h:M[n]? = some (.lst ds))(hj:j=ds.length)(h0:0<j):∃d∈ds,bh (.ref n) (.int (z % j)) M= .ok d M:=by
 have:=An z h0
 have hl:(z % j).toNat<ds.length:=by omega
 exact⟨ds[(z % j).toNat],List.getElem_mem hl,qR h this.1 (List.getElem?_eq_getElem hl)⟩
theorem md(z j:Int)(M:Mem)(h:0<j):nQ (.int z) (.int j) M= .ok (.int (z % j)) M:=GD h
theorem dv(z j:Int)(M:Mem)(h:0<j)(h':j<1073741824):Kq (.int z) (.int j) M= .ok (.int (z / j)) M:=N5 h h'
theorem QK(c:Nat)(n:Int)(h:0≤n):(PySem.Txt.mul ⟨#[c]⟩ n).cps.toList=List.replicate n.toNat c:=by
 have fold:∀(k:Nat) (acc:Array Nat),((List.replicate k #[c]).foldl (· ++ ·) acc).toList=acc.toList++List.replicate k c:=by
  intro k
  induction k with
  | zero=>intro acc;simp
  | succ k ih=>intro acc;rw[List.replicate_succ,List.foldl_cons,ih];simp[List.replicate_succ]
 unfold PySem.Txt.mul
 split
 ·rename_i h1
  have:n.toNat=0:=by omega
  rw[this];rfl
 ·split
  ·rename_i h1 h2
   rcases Bool.or_eq_true_iff.mp h2 with q | q
   ·have:n=1:=by simpa using q
    subst this;rfl
   ·have:(1:Nat)=0:=by simpa[Str.length]using q
    omega
  ·show((List.replicate n.toNat #[c]).foldl (· ++ ·) #[]).toList=_
   rw[fold];simp
theorem Wm{n:Int}(h:Sm n)(M:Mem):xQ [.int n] M= .ok (.str (aY (fD n))) M:=by rw[ab3 (Us h),aah]
theorem aeB(a b:List Nat):aY a++aY b=aY (a++b):=by
 apply rA
 rw[Str.cps_append,Array.toList_append,cz,cz,cz]
theorem qH(a:List Nat):(aY a).length=a.length:=by rw[wk,yR]
theorem Mt{a b:List Nat}(h:a.length+b.length≤1000)(M:Mem):d9 (.str (aY a)) (.str (aY b)) M= .ok (.str (aY (a++b))) M:=by
 rw[W3 (by rw[qH,qH];omega),aeB]
theorem Wv{w:Str}{n:Int}(h0:0≤n)(h1:n≤w.length):Txt.slice w none (some n)=aY ((Lw w).take n.toNat):=by
 have e:=StrLaws.sliceText_to (x:=w) (j:=n) ⟨h0,by rw[←j7];exact h1⟩
 refine Eq.trans e ?_
 apply rA
 rw[cz]
 simp[Lw]
theorem Qm{w:Str}{n:Int}(h0:0≤n)(h1:n≤w.length):Txt.slice w (some n) none=aY ((Lw w).drop n.toNat):=by
 have hl:=wk w
 have e:=StrLaws.sliceText_from (x:=w) (i:=n) ⟨h0,by show n≤(Lw w).length;omega⟩
 refine Eq.trans e ?_
 apply Rp
 rw[yR]
 show((((Lw w).drop n.toNat).take _).toArray).toList=_
 rw[List.toList_toArray]
 refine List.take_of_length_le ?_
 simp only[List.length_drop]
 show(Lw w).length - n.toNat≤(((Lw w).length:Int) - n).toNat
 omega
theorem ab2{a:List Nat}{n:Int}(h0:0≤n)(h1:n≤a.length)(hl:a.length≤1000)(M:Mem):FQ (.str (aY a)) none (some n) M= .ok (.str (aY (a.take n.toNat))) M:=by
 have e:=Wv (w:=aY a) h0 (by rw[qH];exact h1)
 rw[yR]at e
 have hs:(aY a).length≤16777216:=by rw[qH];omega
 rw[←e]
 simp only[FQ,Aj,nu,hs,if_true]
theorem Ww{a:List Nat}{n:Int}(h0:0≤n)(h1:n≤a.length)(hl:a.length≤1000)(M:Mem):FQ (.str (aY a)) (some n) none M= .ok (.str (aY (a.drop n.toNat))) M:=by
 have e:=Qm (w:=aY a) h0 (by rw[qH];exact h1)
 rw[yR]at e
 have hs:(aY a).length≤16777216:=by rw[qH];omega
 rw[←e]
 simp only[FQ,Aj,nu,hs,if_true]
theorem adq{a:List Nat}(hl:a.length≤1000)(M:Mem):qD [.str (aY a)] M= .ok (.int a.length) M:=by
 rw[S9 (by rw[qH];omega),qH]
def Cl(l:List Nat):Prop:=32∉l∧10∉l
theorem Cl.app{a b:List Nat}(ha:Cl a)(hb:Cl b):Cl (a++b):=⟨fun z=>(List.mem_append.mp z).elim ha.1 hb.1,fun z=>(List.mem_append.mp z).elim ha.2 hb.2⟩
theorem HN(n:Int):Cl (fD n):=adg n
theorem TY{a:List Nat}(h:Cl a)(k:Nat):Cl (a.take k):=⟨fun z=>h.1 (List.mem_of_mem_take z),fun z=>h.2 (List.mem_of_mem_take z)⟩
theorem aaP{a:List Nat}(h:Cl a)(k:Nat):Cl (a.drop k):=⟨fun z=>h.1 (List.mem_of_mem_drop z),fun z=>h.2 (List.mem_of_mem_drop z)⟩
theorem afP:("7" : Str)=⟨#[55]⟩:=by decide
section
variable{M:Mem}{x:Nat}{xs:List Int}{c T:Int}
theorem afk(hT:0<T)(hT1:T≤10 ^ 40)(pw:∀M:Mem,Ko (.int 10) (.int 40) M= .ok (.int T) M){x0:Int}(hx:M[x]? = some (.lst (xs.map D.int)))(p0:xs[0]? = some x0):
  ∃l M',(aD bh (pC (aq (vL xQ (aq (aD nQ (aA 1) (aD Ko (mC (.int 10)) (mC (.int 40)))) aH)) (aq (vL xQ (aq (aD nQ (aA 1) (mC (.int 900))) aH)) (aq (aD d9 (aD Ie (mC (.str "7")) (mC (.int 99))) (vL xQ (aq (aD nQ (aA 1) (mC (.int 90))) aH))) (aq (vL xQ (aq (aD d9 (mC (.int 55)) (aD nQ (aA 1) (mC (.int 9)))) aH)) aH))))) (aD nQ (aD bh (aA 0) (mC (.int 0))) (mC (.int 4)))) [some (.ref x),some (.int c),none,none,none] M= .ok (.str (aY l)) M'∧Cl l∧l.length≤104∧Gr M M':=by
 have bT:=An c hT
 have b1:=An c (j:=900) (by decide)
 have b2:=An c (j:=90) (by decide)
 have b3:=An c (j:=9) (by decide)
 have s1:∀M,xQ [.int (c % T)] M= .ok (.str (aY (fD (c % T)))) M:=Wm (by unfold Sm;omega)
 have s2:∀M,xQ [.int (c % 900)] M= .ok (.str (aY (fD (c % 900)))) M:=Wm (by unfold Sm;omega)
 have s3:∀M,xQ [.int (c % 90)] M= .ok (.str (aY (fD (c % 90)))) M:=Wm (by unfold Sm;omega)
 have s4:∀M,xQ [.int (55+c % 9)] M= .ok (.str (aY (fD (55+c % 9)))) M:=Wm (by unfold Sm;omega)
 have l3:(fD (c % 90)).length≤2:=by
  have:=O4 (k:=1) (m:=(c % 90).natAbs) (by omega)
  have hn:¬(c % 90<0):=by omega
  simp only[fD,hn,if_false]
  exact this
 obtain⟨R7,hR7⟩:∃R7,R7=List.replicate 99 55:=⟨_,rfl⟩
 have hR1:R7.length=99:=by rw[hR7];rfl
 have hR2:∀k∈R7,k=55:=fun k hk=>by rw[hR7]at hk;exact List.eq_of_mem_replicate hk
 have m7:∀M,Ie (.str "7") (.int 99) M= .ok (.str (aY R7)) M:=fun M=>by
  rw[WQ (by decide +kernel) (by decide) (by decide)]
  congr 2
  apply rA
  rw[afP,QK _ _ (by decide),cz,hR7]
  rfl
 clear hR7
 have a7:∀M,d9 (.str (aY (R7))) (.str (aY (fD (c % 90)))) M= .ok (.str (aY (R7++fD (c % 90)))) M:=Mt (by omega)
 obtain⟨M1,nJ⟩:∃M1,M1=M++[MO.lst [.str (aY (fD (c % T))),.str (aY (fD (c % 900))),.str (aY (R7++fD (c % 90))),.str (aY (fD (55+c % 9)))]]:=⟨_,rfl⟩
 have h1:M1[M.length]? = some (.lst [.str (aY (fD (c % T))),.str (aY (fD (c % 900))),.str (aY (R7++fD (c % 90))),.str (aY (fD (55+c % 9)))]):=by rw[nJ];exact aP
 have g1:Gr M M1:=by rw[nJ];exact Gr.app
 have i0:bh (.ref x) (.int 0) M1= .ok (.int x0) M1:=uc (g1 _ _ hx) rfl p0
 obtain⟨d,hd,ed⟩:=Sv (M:=M1) (n:=M.length) (z:=x0) (j:=4) h1 rfl (by decide)
 have fin:∃l,d= .str (aY l)∧Cl l∧l.length≤104:=by
  simp only[List.mem_cons,List.not_mem_nil,or_false]at hd
  rcases hd with rfl | rfl | rfl | rfl
  ·exact⟨_,rfl,HN _,by have:=zp (n:=c % T) (by omega);omega⟩
  ·exact⟨_,rfl,HN _,by have:=zp (n:=c % 900) (by omega);omega⟩
  ·refine⟨_,rfl,Cl.app ⟨fun z=> ?_,fun z=> ?_⟩ (HN _),by simp;omega⟩
   ·have:=hR2 _ z;omega
   ·have:=hR2 _ z;omega
  ·exact⟨_,rfl,HN _,by have:=zp (n:=55+c % 9) (by omega);omega⟩
 obtain⟨l,rfl,hl1,hl2⟩:=fin
 refine⟨l,M1,?_,hl1,hl2,g1⟩
 simp[pw,md,hT,s1,s2,m7,s3,a7,s4,←nJ,i0,ed]
theorem afj{x0:Int}(hx:M[x]? = some (.lst (xs.map D.int)))(p0:xs[0]? = some x0){l:List Nat}(hl:Cl l)(hn:l.length≤104):
  ∃l',ue [some (.ref x),some (.int c),some (.str (aY l)),none,none] M= .next [some (.ref x),some (.int c),some (.str (aY l')),none,none] M∧Cl l'∧l'.length≤104:=by
 have i0:bh (.ref x) (.int 0) M= .ok (.int x0) M:=uc hx rfl p0
 have b1:=An c (j:=6) (by decide)
 by_cases h:x0 % 7=0
 ·refine⟨fD (1152921504606846973+c % 6),?_,HN _,by have:=zp (n:=1152921504606846973+c % 6) (by omega);omega⟩
  have s1:xQ [.int (1152921504606846973+c % 6)] M= .ok (.str (aY (fD (1152921504606846973+c % 6)))) M:=Wm (by unfold Sm;omega) M
  simp only[ue]
  simp[i0,md,h,s1]
 ·refine⟨l,?_,hl,hn⟩
  simp only[ue]
  simp[i0,md,h]
theorem afi{x1:Int}(hx:M[x]? = some (.lst (xs.map D.int)))(p1:xs[1]? = some x1){l:List Nat}(hl:Cl l)(hn:l.length≤104):
  ∃l' M',(aD d9 (aD bh (pC (aq (mC (.str "")) (aq (mC (.str "")) (aq (mC (.str "")) (aq (mC (.str "-")) (aq (mC (.str "+")) (aq (mC (.str "0")) (aq (mC (.str "-0")) aH)))))))) (aD nQ (aD bh (aA 0) (mC (.int 1))) (mC (.int 7)))) (aA 2)) [some (.ref x),some (.int c),some (.str (aY l)),none,none] M= .ok (.str (aY l')) M'∧Cl l'∧l'.length≤106∧Gr M M':=by
 obtain⟨M1,nJ⟩:∃M1,M1=M++[MO.lst [.str "",.str "",.str "",.str "-",.str "+",.str "0",.str "-0"]]:=⟨_,rfl⟩
 have h1:M1[M.length]? = some (.lst [.str "",.str "",.str "",.str "-",.str "+",.str "0",.str "-0"]):=by rw[nJ];exact aP
 have g1:Gr M M1:=by rw[nJ];exact Gr.app
 have i1:bh (.ref x) (.int 1) M1= .ok (.int x1) M1:=uc (g1 _ _ hx) rfl p1
 obtain⟨d,hd,ed⟩:=Sv (M:=M1) (n:=M.length) (z:=x1) (j:=7) h1 rfl (by decide)
 have fin:∃s:Str,d= .str s∧Cl (W s)∧(W s).length≤2:=by
  simp only[List.mem_cons,List.not_mem_nil,or_false]at hd
  rcases hd with rfl | rfl | rfl | rfl | rfl | rfl | rfl
  all_goals exact⟨_,rfl,⟨by decide,by decide⟩,by decide⟩
 obtain⟨s,rfl,hs,hsl⟩:=fin
 have e2:d9 (.str s) (.str (aY l)) M1= .ok (.str (aY (W s++l))) M1:=by
  have:=Mt (a:=W s) (b:=l) (by omega) M1
  rw[jM]at this
  exact this
 refine⟨W s++l,M1,?_,hs.app hl,by simp;omega,g1⟩
 simp[←nJ,i1,md,ed,e2]
theorem afh{x2 x3:Int}(hx:M[x]? = some (.lst (xs.map D.int)))(p2:xs[2]? = some x2)(p3:xs[3]? = some x3){l:List Nat}(hl:Cl l)(hn:l.length≤106):
  ∃l' M',ud [some (.ref x),some (.int c),some (.str (aY l)),none,none] M= .next [some (.ref x),some (.int c),some (.str (aY l')),none,none] M'∧Cl l'∧l'.length≤106∧Gr M M':=by
 have i2:bh (.ref x) (.int 2) M= .ok (.int x2) M:=uc hx rfl p2
 by_cases h:x2 % 3=0
 ·have b3:=An x3 (j:=9) (by decide)
  have i3:bh (.ref x) (.int 3) M= .ok (.int x3) M:=uc hx rfl p3
  have wl:(W "abcxyzqrs").length=9:=by decide
  have es:FQ (.str "abcxyzqrs") none (some (1+x3 % 9)) M= .ok (.str (aY ((W "abcxyzqrs").take (1+x3 % 9).toNat))) M:=by
   have:=ab2 (a:=W "abcxyzqrs") (n:=1+x3 % 9) (by omega) (by rw[wl];omega) (by rw[wl];omega) M
   rw[jM]at this
   exact this
  obtain⟨M1,nJ⟩:∃M1,M1=M++[MO.lst [.str (aY ((W "abcxyzqrs").take (1+x3 % 9).toNat)),.str "",.str "-",.str "0"]]:=⟨_,rfl⟩
  have h1:M1[M.length]? = some (.lst [.str (aY ((W "abcxyzqrs").take (1+x3 % 9).toNat)),.str "",.str "-",.str "0"]):=by rw[nJ];exact aP
  have g1:Gr M M1:=by rw[nJ];exact Gr.app
  have i2':bh (.ref x) (.int 2) M1= .ok (.int x2) M1:=uc (g1 _ _ hx) rfl p2
  obtain⟨d,hd,ed⟩:=Sv (M:=M1) (n:=M.length) (z:=x2 / 3) (j:=4) h1 rfl (by decide)
  have fin:∃l',d= .str (aY l')∧Cl l'∧l'.length≤106:=by
   simp only[List.mem_cons,List.not_mem_nil,or_false]at hd
   rcases hd with rfl | rfl | rfl | rfl
   ·exact⟨_,rfl,TY ⟨by decide,by decide⟩ _,by rw[List.length_take,wl];omega⟩
   ·exact⟨W "",by rw[jM],⟨by decide,by decide⟩,by decide⟩
   ·exact⟨W "-",by rw[jM],⟨by decide,by decide⟩,by decide⟩
   ·exact⟨W "0",by rw[jM],⟨by decide,by decide⟩,by decide⟩
  obtain⟨l',rfl,hl1,hl2⟩:=fin
  refine⟨l',M1,?_,hl1,hl2,g1⟩
  simp only[ud]
  simp[i2,md,h,i3,es,←nJ,i2',dv,ed]
 ·refine⟨l,M,?_,hl,hn,Gr.refl⟩
  simp only[ud]
  simp[i2,md,h]
theorem afg{x4:Int}(hx:M[x]? = some (.lst (xs.map D.int)))(p4:xs[4]? = some x4){l:List Nat}(hl:Cl l)(hn:l.length≤106):
  ∃l' v3 v4,pR [some (.ref x),some (.int c),some (.str (aY l)),none,none] M= .next [some (.ref x),some (.int c),some (.str (aY l')),v3,v4] M∧Cl l'∧l'.length≤107:=by
 have i4:bh (.ref x) (.int 4) M= .ok (.int x4) M:=uc hx rfl p4
 by_cases h:x4 % 3=0
 ·by_cases he:aY l=("" : Str)
  ·refine⟨l,none,none,?_,hl,by omega⟩
   simp only[pR]
   simp[i4,md,h,he]
  ·have hpos:0<l.length:=by
    cases l with
    | nil=>exact absurd rfl he
    | cons _ _=>simp
   have hp':(0:Int)<l.length:=by omega
   have ba:=An (x4 / 3) hp'
   obtain⟨a,ha⟩:∃a:Int,a=x4 / 3 % (l.length:Int):=⟨_,rfl⟩
   rw[←ha]at ba
   have em:nQ (.int (x4 / 3)) (.int (l.length:Int)) M= .ok (.int a) M:=by rw[md _ _ _ hp',←ha]
   have bs:=An (x4 / 3000) (j:=10) (by decide)
   have ahA:W "aZ_.+-19{e" = [97,90,95,46,43,45,49,57,123,101]:=by decide
   have hc:∃k,(W "aZ_.+-19{e")[(x4 / 3000 % 10).toNat]? = some k∧k≠32∧k≠10:=by
    have hlt:(x4 / 3000 % 10).toNat<(W "aZ_.+-19{e").length:=by rw[ahA];simp;omega
    refine⟨_,List.getElem?_eq_getElem hlt,?_⟩
    have hm:=List.getElem_mem hlt
    have all:∀k∈W "aZ_.+-19{e",k≠32∧k≠10:=by rw[ahA];decide
    exact all _ hm
   obtain⟨k,hk,hk1,hk2⟩:=hc
   have ek:bh (.str "aZ_.+-19{e") (.int (x4 / 3000 % 10)) M= .ok (.str (aY [k])) M:=R9 bs.1 hk (by decide +kernel)
   have e1:=ab2 (a:=l) (n:=a) ba.1 (by omega) (by omega) M
   have e2:=Ww (a:=l) (n:=a+1) (by omega) (by omega) (by omega) M
   have e3:=Mt (a:=l.take a.toNat) (b:=[k]) (by rw[List.length_take];simp;omega) M
   have e4:=Mt (a:=l.take a.toNat++[k]) (b:=l.drop (a+1).toNat) (by simp;omega) M
   refine⟨l.take a.toNat++[k]++l.drop (a+1).toNat,some (.int a),some (.str "aZ_.+-19{e"),?_,((TY hl _).app ⟨by simp;exact fun z=>hk1 z.symm,by simp;exact fun z=>hk2 z.symm⟩).app (aaP hl _),by simp;omega⟩
   have el:=adq (a:=l) (by omega) M
   simp only[pR]
   simp[i4,md,h,he,dv,el,em,e1,ek,e2,e3,e4]
 ·refine⟨l,none,none,?_,hl,by omega⟩
  simp only[pR]
  simp[i4,md,h]
theorem Y0(hT:0<T)(hT1:T≤10 ^ 40)(pw:∀M:Mem,Ko (.int 10) (.int 40) M= .ok (.int T) M)(hx:M[x]? = some (.lst (xs.map D.int)))(hxs:Pj 6 xs):
  ∃l M',xY [.ref x,.int c] M= .ok (.str (aY l)) M'∧Cl l∧l.length≤107∧Gr M M':=by
 obtain⟨x0,p0,_⟩:=xN hxs (i:=0) (by decide)
 obtain⟨x1,p1,_⟩:=xN hxs (i:=1) (by decide)
 obtain⟨x2,p2,_⟩:=xN hxs (i:=2) (by decide)
 obtain⟨x3,p3,_⟩:=xN hxs (i:=3) (by decide)
 obtain⟨x4,p4,_⟩:=xN hxs (i:=4) (by decide)
 obtain⟨l0,M1,e1,c1,n1,g1⟩:=afk (c:=c) hT hT1 pw hx p0
 obtain⟨l1,e2,c2,n2⟩:=afj (c:=c) (g1 _ _ hx) p0 c1 n1
 obtain⟨l2,M2,e3,c3,n3,g3⟩:=afi (c:=c) (g1 _ _ hx) p1 c2 n2
 have h3:=g3 _ _ (g1 _ _ hx)
 obtain⟨l3,M3,e4,c4,n4,g4⟩:=afh (c:=c) h3 p2 p3 c3 n3
 obtain⟨l4,v3,v4,e5,c5,n5⟩:=afg (c:=c) (g4 _ _ h3) p4 c4 n4
 refine⟨l4,M3,?_,c5,n5,(g1.trans g3).trans g4⟩
 simp only[xY,o6,ZD,Ql,Qk,Qj,Zt,ZC,e1,G5,ahF,V9,List.set_cons_succ,List.set_cons_zero,Wz,e2,e3,e4,e5]
 simp
end
theorem U7{c:Nat}{sg:Str}{M:Mem}:xR (.str ⟨#[c]⟩) (.str sg) M= .ok (.bl (!decide (c∈Lw sg))) M:=by
 show Out.ok (D.bl (!(!(Builtin.Str.occurrences sg ⟨#[c]⟩ 0 sg.length 1).isEmpty))) M=_
 rw[StrLaws.found_one]
 rfl
def Wn(sg:Str)(d:D):Bool:=match d with
 | .str z=> !decide (oneOf z∈Lw sg)
 | _=>false
theorem Gm{M:Mem}(l:List Nat)(sg:Str):∃L,yV none (bC (aD xR (aA 0) (mC (.str sg)))) (aA 0) [] (l.map fun c=>D.str ⟨#[c]⟩) [] M= .ok (.ref M.length) (M++[.lst L])∧(L=[]↔(l.all fun c=>decide (c∈Lw sg))=true)∧∀d∈L,Dat 11 d:=by
 refine⟨((l.map fun c=>D.str ⟨#[c]⟩).filter (Wn sg)).map id,?_,?_,?_⟩
 ·have:=Fd (src:=none) (tt:=bC (aD xR (aA 0) (mC (.str sg)))) (te:=aA 0) (ce:=[]) (M:=M) (Wn sg) id (ds:=l.map fun c=>D.str ⟨#[c]⟩) (ys:=[]) trivial fun d hd=>by
   obtain⟨c,_,rfl⟩:=List.mem_map.mp hd
   constructor
   ·simp[U7,Wn]
    exact decide_eq_decide.mpr Iff.rfl
   ·intro _;simp
  simpa using this
 ·rw[List.map_id,List.filter_eq_nil_iff]
  simp only[List.all_eq_true,decide_eq_true_eq]
  constructor
  ·intro h c hc
   have:=h _ (List.mem_map.mpr ⟨c,hc,rfl⟩)
   simp[Wn]at this
   exact of_decide_eq_true this
  ·intro h d hd
   obtain⟨c,hc,rfl⟩:=List.mem_map.mp hd
   simp[Wn,h c hc]
 ·intro d hd
  rw[List.map_id]at hd
  obtain⟨c,_,rfl⟩:=List.mem_map.mp (List.mem_filter.mp hd).1
  exact Ge
theorem eq_nil{M:Mem}{n m:Nat}{L:List D}(h1:M[n]? = some (.lst L))(h2:M[m]? = some (.lst []))(hd:∀d∈L,Dat 11 d):Rc M (.ref n) (.ref m)=some (decide (L=[])):=by
 by_cases h:L=[]
 ·subst h
  rw[JB (ds:=[]) (fun d hd=>by simp at hd) h1 h2]
  simp
 ·rw[Yl h1 h2 hd (fun d hd=>by simp at hd) (fun z=>h (List.eq_nil_of_length_eq_zero (by simpa using z)))]
  simp[h]
theorem KD{a:Nat}{s:Str}{k:Nat}(hs:s=⟨#[k]⟩):aY [a]=s↔a=k:=by
 subst hs
 constructor
 ·intro z
  have:=K7 (z.trans (show(⟨#[k]⟩:Str)=aY [k]from rfl))
  simpa using this
 ·intro z;subst z;rfl
theorem l48(l:List Nat):aY l=("0" : Str)↔l=[48]:=by
 rw[Ac]
 constructor
 ·intro z;exact K7 (z.trans (show(⟨#[48]⟩:Str)=aY [48]from rfl))
 ·intro z;subst z;rfl
theorem X4{l:List Nat}(h:l.length≤1000)(M:Mem):itS (.str (aY l)) M= .ok ⟨none,l.map fun c=>D.str ⟨#[c]⟩⟩ M:=by
 rw[abw (by rw[qH];omega),yR]
theorem ZG{M:Mem}{l:List Nat}(hl:l.length≤150):∃M',lY [.str (aY l)] M= .ok (match num l with | some n=> .int n | none=> .non) M'∧Gr M M':=by
 have hf:pW [some (.str (aY l)),some (.str (aY l))] M= .next [some (.str (aY l)),some (.str (aY (nF l)))] M∧(nF l).length≤150:=by
  cases l with
  | nil=>
   have e:FQ (.str (aY [])) none (some 1) M= .ok (.str (aY [])) M:=by rfl
   have hne:¬(aY []=("-" : Str)):=by decide
   refine⟨?_,by simp[nF]⟩
   simp only[pW]
   simp[e,hne,nF]
  | cons a r=>
   simp at hl
   have e:FQ (.str (aY (a::r))) none (some 1) M= .ok (.str (aY [a])) M:=ab2 (a:=a::r) (n:=1) (by omega) (by simp;omega) (by simp;omega) M
   have e2:FQ (.str (aY (a::r))) (some 1) none M= .ok (.str (aY r)) M:=Ww (a:=a::r) (n:=1) (by omega) (by simp;omega) (by simp;omega) M
   by_cases ha:a=45
   ·subst ha
    have hm:aY [45]=("-" : Str):=(KD Ci).mpr rfl
    refine⟨?_,by simp[nF];omega⟩
    simp only[pW]
    simp[e,hm,e2,nF]
   ·have hm:¬(aY [a]=("-" : Str)):=fun z=>ha ((KD Ci).mp z)
    refine⟨?_,by simp[nF,ha];omega⟩
    simp only[pW]
    simp[e,hm,nF,ha]
 obtain⟨ef,hfl⟩:=hf
 obtain⟨f,hfe⟩:∃f,f=nF l:=⟨_,rfl⟩
 rw[←hfe]at ef hfl
 have el:=adq (a:=f) (by omega) M
 have hnum:num l=if((decide (1≤f.length)&&(decide (f.length≤100)&&f.all fun c=>decide (48≤c∧c≤57)))&&(decide (l=[48])|| !decide (f.head? = some 48)))=true then PySem.intText? (aY l)else none:=by
  unfold num uM
  rw[←hfe]
 by_cases h1:f.length<1
 ·refine⟨M,?_,Gr.refl⟩
  have h1':(f.length:Int)<1:=by omega
  have:num l=none:=by rw[hnum,if_neg];simp;omega
  rw[this]
  simp only[lY,iK,nA]
  simp[ef,el,h1']
 have h1':¬((f.length:Int)<1):=by omega
 by_cases h2:100<f.length
 ·refine⟨M,?_,Gr.refl⟩
  have h2':(100:Int)<f.length:=by omega
  have:num l=none:=by rw[hnum,if_neg];simp;omega
  rw[this]
  simp only[lY,iK,nA]
  simp[ef,el,h1',h2']
 have h2':¬((100:Int)<f.length):=by omega
 obtain⟨L,e3,hL,hd⟩:=Gm (M:=M) f "0123456789"
 have hall:(f.all fun c=>decide (c∈Lw "0123456789"))=f.all fun c=>decide (48≤c∧c≤57):=by
  congr 1
  funext c
  exact Tq c
 rw[hall]at hL
 obtain⟨M1,nJ⟩:∃M1,M1=M++[MO.lst L]:=⟨_,rfl⟩
 obtain⟨M2,v_⟩:∃M2,M2=M1++[MO.lst []]:=⟨_,rfl⟩
 have u1:M1[M.length]? = some (.lst L):=by rw[nJ];exact aP
 have g1:Gr M M1:=by rw[nJ];exact Gr.app
 have g2:Gr M1 M2:=by rw[v_];exact Gr.app
 have u2:M2[M1.length]? = some (.lst []):=by rw[v_];exact aP
 rw[←nJ]at e3
 have e4:sNe (.ref M.length) (.ref M1.length) M2= .ok (.bl (!decide (L=[]))) M2:=Kp (eq_nil (g2 _ _ u1) u2 hd)
 have it:=X4 (l:=f) (by omega) M
 have ec:∀e:Sl,um [] e=[]:=fun _=>rfl
 by_cases h3:L=[]
 ·have hA:=hL.mp h3
  cases hf':f with
  | nil=>rw[hf']at h1;simp at h1
  | cons a r=>
   have ia:bh (.str (aY f)) (.int 0) M2= .ok (.str (aY [a])) M2:=R9 (by decide) (by rw[cz,hf'];rfl) (by rw[qH];omega)
   by_cases h4:a=48∧¬(l=[48])
   ·refine⟨M2,?_,g1.trans g2⟩
    have hn:num l=none:=by rw[hnum,if_neg];rw[hf'];simp[h4.1,h4.2]
    have ha:aY [a]=("0" : Str):=(KD Ac).mpr h4.1
    have hw:¬(aY l=("0" : Str)):=fun z=>h4.2 ((l48 l).mp z)
    rw[hn]
    simp only[lY,iK,nA,uf,yg]
    simp[ef,el,h1',h2',it,ec,e3,←v_,e4,h3,ia,ha,hw]
   ·obtain⟨n,hn,hlen⟩:∃n,PySem.intText? (aY l)=some n∧num l=some n:=by
     have hb:uM l=true:=by
      unfold uM
      rw[←hfe,hA,decide_eq_true (show 1≤f.length by omega),decide_eq_true (show f.length≤100 by omega),hf']
      simp only[Bool.and_self,Bool.true_and,Bool.or_eq_true,decide_eq_true_eq,List.head?_cons,Bool.not_eq_true',decide_eq_false_iff_not,Option.some.injEq]
      by_cases q:l=[48]
      ·exact .inl q
      ·exact .inr fun z=>h4 ⟨z,q⟩
     obtain⟨n,hn,_⟩:=Jo hb
     exact⟨n,hn,by simp[num,hb,hn]⟩
    refine⟨M2,?_,g1.trans g2⟩
    rw[hlen]
    have hi:Qw [.str (aY l)] M2= .ok (.int n) M2:=WX hn (by rw[qH];omega)
    have hcond:¬(aY [a]=("0" : Str))∨aY l=("0" : Str):=by
     by_cases q:a=48
     ·exact .inr ((l48 l).mpr (Classical.byContradiction fun z=>h4 ⟨q,z⟩))
     ·exact .inl fun z=>q ((KD Ac).mp z)
    simp only[lY,iK,nA,uf,yg]
    rcases hcond with q | q
    ·simp[ef,el,h1',h2',it,ec,e3,←v_,e4,h3,ia,q,hi]
    ·by_cases q2:aY [a]=("0" : Str)
     ·rw[q]at hi
      simp[ef,el,h1',h2',it,ec,e3,←v_,e4,h3,ia,q,q2,hi]at ef ⊢
      simp[ef,el,h1',h2',it,ec,e3,←v_,e4,h3,ia,q,q2,hi]
     ·simp[ef,el,h1',h2',it,ec,e3,←v_,e4,h3,ia,q2,hi]
 ·refine⟨M2,?_,g1.trans g2⟩
  have hA:¬((f.all fun c=>decide (48≤c∧c≤57))=true):=fun z=>h3 (hL.mpr z)
  have hn:num l=none:=by
   rw[hnum,if_neg]
   intro z
   simp only[Bool.and_eq_true]at z
   exact hA z.1.2.2
  rw[hn]
  simp only[lY,iK,nA,uf]
  simp[ef,el,h1',h2',it,ec,e3,←v_,e4,h3]
def due(s:Int)(l:List Nat):Bool×D:=
 if s=7∨s=12 then(j8 l,.str (aY l))else if s=1∧aY l= "-" then(true,.non)else match num l with
 | none=>(false,.non)
 | some n=>(if s=8∨s=9∨s=11∨s=13 then true else if 13<s then decide (15 - s≤n∧n<1152921504606846976)else if s=6 then !decide (n=0)else if s=1 then decide (0≤n∧n<60)else if s=4∨s=5 then decide (5 - s≤n∧n<1152921504606846976)else decide (0≤n),.int n)
theorem Yr{M:Mem}{l:List Nat}(hl:l.length≤150){s:Int}(hs:s=7∨s=12):∃M',ni [.int s,.str (aY l)] M= .ok (.tup [.bl (j8 l),.str (aY l)]) M'∧Gr M M':=by
 obtain⟨L,e3,hL,hd⟩:=Gm (M:=M) l "abcdefghijklmnopqrstuvwxyz"
 have hall:(l.all fun c=>decide (c∈Lw "abcdefghijklmnopqrstuvwxyz"))=l.all fun c=>decide (97≤c∧c≤122):=by
  congr 1
  funext c
  exact S8 c
 rw[hall]at hL
 obtain⟨M1,nJ⟩:∃M1,M1=M++[MO.lst L]:=⟨_,rfl⟩
 obtain⟨M2,v_⟩:∃M2,M2=M1++[MO.lst []]:=⟨_,rfl⟩
 have u1:M1[M.length]? = some (.lst L):=by rw[nJ];exact aP
 have g1:Gr M M1:=by rw[nJ];exact Gr.app
 have g2:Gr M1 M2:=by rw[v_];exact Gr.app
 have u2:M2[M1.length]? = some (.lst []):=by rw[v_];exact aP
 rw[←nJ]at e3
 have e4:sEq (.ref M.length) (.ref M1.length) M2= .ok (.bl (decide (L=[]))) M2:=Du (eq_nil (g2 _ _ u1) u2 hd)
 have it:=X4 (l:=l) (by omega) M
 have ec:∀e:Sl,um [] e=[]:=fun _=>rfl
 have el:=adq (a:=l) (by omega) M2
 refine⟨M2,?_,g1.trans g2⟩
 have aoq:j8 l=(decide (1≤l.length)&&(decide (l.length≤8)&&decide (L=[]))):=by
  unfold j8
  congr 2
  cases z:l.all fun c=>decide (97≤c∧c≤122)with
  | true=>rw[decide_eq_true (hL.mpr z)]
  | false=>rw[decide_eq_false fun q=>by rw[hL.mp q]at z;cases z]
 have key:ni [.int s,.str (aY l)] M=(if decide (L=[])=true then(if(0:Int)<l.length then .ok (.tup [.bl (decide ((l.length:Int)<9)),.str (aY l)]) M2 else .ok (.tup [.bl false,.str (aY l)]) M2)else .ok (.tup [.bl false,.str (aY l)]) M2:Out D):=by
  simp only[ni,lB,rG]
  rcases hs with rfl | rfl
  ·by_cases h3:L=[]
   ·by_cases h4:(0:Int)<l.length
    ·have h4':0<l.length:=by omega
     simp[it,ec,e3,←v_,e4,h3,el,h4,h4']
    ·have h4':¬(0<l.length):=by omega
     simp[it,ec,e3,←v_,e4,h3,el,h4,h4']
   ·simp[it,ec,e3,←v_,e4,h3]
  ·by_cases h3:L=[]
   ·by_cases h4:(0:Int)<l.length
    ·have h4':0<l.length:=by omega
     simp[it,ec,e3,←v_,e4,h3,el,h4,h4']
    ·have h4':¬(0<l.length):=by omega
     simp[it,ec,e3,←v_,e4,h3,el,h4,h4']
   ·simp[it,ec,e3,←v_,e4,h3]
 rw[key,aoq]
 by_cases h3:L=[]
 ·by_cases h4:(0:Int)<l.length
  ·have h4':1≤l.length:=by omega
   have h5:decide ((l.length:Int)<9)=decide (l.length≤8):=decide_eq_decide.mpr (by omega)
   simp only[h3,decide_true,if_true,h4,h4',Bool.true_and,Bool.and_true,h5]
  ·have h4':¬(1≤l.length):=by omega
   simp only[h3,decide_true,if_true,h4,if_false,h4',decide_false,Bool.false_and]
 ·simp only[h3,decide_false,Bool.false_eq_true,if_false,Bool.and_false]
theorem adO{M:Mem}{l:List Nat}(hl:l.length≤150){s:Int}(h0:0≤s)(h1:s<16):∃M',ni [.int s,.str (aY l)] M= .ok (.tup [.bl (due s l).1,(due s l).2]) M'∧Gr M M':=by
 by_cases hs:s=7∨s=12
 ·have e:due s l=(j8 l,.str (aY l)):=by unfold due;rw[if_pos hs]
  rw[e]
  exact Yr hl hs
 by_cases hm:s=1∧aY l=("-" : Str)
 ·have e:due s l=(true,.non):=by unfold due;rw[if_neg hs,if_pos hm]
  rw[e]
  obtain⟨rfl,hm⟩:=hm
  refine⟨M,?_,Gr.refl⟩
  simp only[ni,lB,rG,vM]
  simp[hm]
 obtain⟨M1,e1,g1⟩:=ZG (M:=M) hl
 refine⟨M1,?_,g1⟩
 have e2:rG [some (.int s),some (.str (aY l)),none,none,none] M= .next [some (.int s),some (.str (aY l)),none,none,none] M:=by
  have a:¬(s=7):=fun z=>hs (.inl z)
  have b:¬(s=12):=fun z=>hs (.inr z)
  simp only[rG]
  simp[a,b]
 have e3:vM [some (.int s),some (.str (aY l)),none,none,none] M= .next [some (.int s),some (.str (aY l)),none,none,none] M:=by
  simp only[vM]
  by_cases q:s=1
  ·have q2:¬(aY l=("-" : Str)):=fun z=>hm ⟨q,z⟩
   simp[q,q2]
  ·simp[q]
 unfold due
 rw[if_neg hs,if_neg hm]
 cases en:num l with
 | none=>
  rw[en]at e1
  simp only[ni,lB,zB]
  simp[e2,e3,e1,Jp]
 | some n=>
  rw[en]at e1
  have hsc:s=0∨s=1∨s=2∨s=3∨s=4∨s=5∨s=6∨s=8∨s=9∨s=10∨s=11∨s=13∨s=14∨s=15:=by omega
  have inT:∀M,sIn (.int s) (.tup [.int 8,.int 9,.int 11,.int 13]) M= .ok (.bl (decide (s=8∨s=9∨s=11∨s=13))) M:=fun M=>by
   rcases hsc with rfl | rfl | rfl | rfl | rfl | rfl | rfl | rfl | rfl | rfl | rfl | rfl | rfl | rfl<;>rfl
  simp only[ni,lB,zB,Ey,Ex,Ew,Eu,Et]
  by_cases c1:s=8∨s=9∨s=11∨s=13
  ·rw[if_pos c1]
   simp[e2,e3,e1,Jp,inT,eq_true c1]
  rw[if_neg c1]
  by_cases c2:13<s
  ·by_cases q:15 - s≤n<;>by_cases q2:n<1152921504606846976<;>simp[e2,e3,e1,Jp,inT,eq_false c1,c2,q,q2]
  rw[if_neg c2]
  by_cases c3:s=6
  ·rw[if_pos c3]
   simp[e2,e3,e1,Jp,inT,eq_false c1,c2,eq_true c3]
  rw[if_neg c3]
  by_cases c4:s=1
  ·have c5:¬s=4:=by omega
   have c6:¬s=5:=by omega
   rw[if_pos c4]
   by_cases q:0≤n<;>by_cases q2:n<60<;>simp[e2,e3,e1,Jp,inT,eq_false c1,c2,c3,eq_true c4,c5,c6,q,q2]
  rw[if_neg c4]
  by_cases c5:s=4
  ·rw[if_pos (.inl c5)]
   by_cases q:5 - s≤n<;>by_cases q2:n<1152921504606846976<;>simp[e2,e3,e1,Jp,inT,eq_false c1,c2,c3,c4,eq_true c5,q,q2]
  by_cases c6:s=5
  ·rw[if_pos (.inr c6)]
   by_cases q:5 - s≤n<;>by_cases q2:n<1152921504606846976<;>simp[e2,e3,e1,Jp,inT,eq_false c1,c2,c3,c4,c5,eq_true c6,q,q2]
  rw[if_neg (fun z=>z.elim c5 c6)]
  simp[e2,e3,e1,Jp,inT,eq_false c1,c2,c3,c4,c5,c6]
theorem Q5{c:Nat}{n:Nat}{texts:List Str}(hB:∀y∈texts,y.length≤n)(h:texts.length*n+texts.length*1≤16777216):JoinOk ⟨#[c]⟩ texts=true:=by
 have:=StrLaws.joinFits (sep:=⟨#[c]⟩) (B:=n) hB h
 unfold JoinOk
 rw[this];rfl
theorem XS{M:Mem}{n:Nat}{us:List (List Nat)}(hM:M[n]? = some (.lst (ts us)))(h:∀u∈us,u.length≤150)(hl:us.length≤20):vD (.str " ") [.ref n] M= .ok (.str (aY (dw 32 us))) M:=by
 have hk:JoinOk " " (us.map aY)=true:=by
  rw[T6]
  refine Q5 (n:=150) (fun y hy=> ?_) (by simp;omega)
  obtain⟨w,hw,rfl⟩:=List.mem_map.mp hy
  rw[qH]
  exact h w hw
 rw[GJ (by rw[aba];exact hM) hk,T6,yf]
theorem addW{s:Str}{b:List Nat}(h:(W s).length+b.length≤1000)(M:Mem):d9 (.str s) (.str (aY b)) M= .ok (.str (aY (W s++b))) M:=by
 have:=Mt (a:=W s) (b:=b) h M
 rw[jM]at this
 exact this
theorem YF{s:Str}{b:List Nat}(h:b.length+(W s).length≤1000)(M:Mem):d9 (.str (aY b)) (.str s) M= .ok (.str (aY (b++W s))) M:=by
 have:=Mt (a:=b) (b:=W s) h M
 rw[jM]at this
 exact this
theorem Ou{c:Nat}{us:List (List Nat)}(h:∀u∈us,u.length≤110):(dw c us).length≤us.length*111:=Ht (c:=c) (n:=110) us h
def Ku:MS:=(aX (cC (pC (aq (aD d9 (mC (.str "book ")) (F_ "str" vD (mC (.str " ")) (aq (MN (aA 2) jy (pA (mC (.int 2)))) aH))) (aq (aD d9 (mC (.str "base ")) (F_ "str" vD (mC (.str " ")) (aq (MN (aA 2) (pA (mC (.int 2))) (pA (mC (.int 6)))) aH))) aH))) (gN 3))
 (aX (pN (F_ "list" jY (aA 3) (aq (aD d9 (aD d9 (aD d9 (mC (.str "value ")) (aD bh (aA 2) (mC (.int 7)))) (mC (.str " "))) (aD bh (aA 2) (mC (.int 6)))) aH)))
 (aX (pN (F_ "list" jY (aA 3) (aq (aD d9 (aD d9 (aD d9 (mC (.str "answer ")) (aD bh (aA 2) (mC (.int 8)))) (mC (.str " 1 "))) (aD bh (aA 2) (mC (.int 9)))) aH)))
 (aX pU
 (fK (F_ "str" vD (mC (.str "\n")) (aq (aD d9 (aA 3) (pC (aq (mC (.str "end 5")) aH))) aH)))))))
section
variable{M:Mem}{y:Nat}{a0 a1 a2 a3 a4 a5 a6 a7 a8 a9 a10 a11 a12 a13 a14 a15:List Nat}
theorem Qg(hy:M[y]? = some (.lst (ts [a0,a1,a2,a3,a4,a5,a6,a7,a8,a9,a10,a11,a12,a13,a14,a15])))(hl:∀a∈[a0,a1,a2,a3,a4,a5,a6,a7,a8,a9,a10,a11,a12,a13,a14,a15],a.length≤110){s:Int}{l:List Nat}{z:Nat}{R:List D}(hz:M[z]? = some (.lst R))(hR:R.length≤10)(hyz:y≠z):
  ∃M',pU [some (.int s),some (.str (aY l)),some (.ref y),some (.ref z)] M= .next [some (.int s),some (.str (aY l)),some (.ref y),some (.ref z)] M'∧
   M'[z]? = some (.lst (R++[.str (bL (if 13<s then[W "at",W "3",W "roll",a14,a15]else[W "at",a10,W "ask",W "2",a11,W "add",a12,a13]))]))∧Ch (· = z) M M':=by
 have b10:=hl a10 (by simp)
 have b11:=hl a11 (by simp)
 have b12:=hl a12 (by simp)
 have b13:=hl a13 (by simp)
 have b14:=hl a14 (by simp)
 have b15:=hl a15 (by simp)
 by_cases hs:13<s
 ·rw[if_pos hs]
  have i14:bh (.ref y) (.int 14) M= .ok (.str (aY a14)) M:=iV hy (j:=14) rfl rfl
  have i15:bh (.ref y) (.int 15) M= .ok (.str (aY a15)) M:=iV hy (j:=15) rfl rfl
  have w1:W "at 3 roll " = W "at" ++ 32::(W "3" ++ 32::(W "roll" ++ [32])):=by decide
  have l1:(W "at 3 roll ").length=10:=by decide
  have l2:(W " ").length=1:=by decide
  have w2:W " " = [32]:=by decide
  have e1:=addW (s:= "at 3 roll ") (b:=a14) (by omega) M
  have e2:=YF (s:= " ") (b:=W "at 3 roll " ++ a14) (by rw[List.length_append];omega) M
  have e3:=Mt (a:=W "at 3 roll " ++ a14++W " ") (b:=a15) (by simp only[List.length_append];omega) M
  have er:W "at 3 roll " ++ a14++W " " ++ a15=dw 32 [W "at",W "3",W "roll",a14,a15]:=by
   rw[w1,w2];simp[dw]
  rw[er,←jZ]at e3
  have e4:=jK (d:= .str (bL [W "at",W "3",W "roll",a14,a15])) hz (by omega)
  refine⟨M.set z (.lst (R++[.str (bL [W "at",W "3",W "roll",a14,a15])])),?_,get_set hz,Ch.set rfl⟩
  simp only[pU]
  simp[-List.append_assoc,hs,i14,i15,e1,e2,e3,pI hz,e4]
 ·rw[if_neg hs]
  have i10:bh (.ref y) (.int 10) M= .ok (.str (aY a10)) M:=iV hy (j:=10) rfl rfl
  have i11:bh (.ref y) (.int 11) M= .ok (.str (aY a11)) M:=iV hy (j:=11) rfl rfl
  have i12:bh (.ref y) (.int 12) M= .ok (.str (aY a12)) M:=iV hy (j:=12) rfl rfl
  have i13:bh (.ref y) (.int 13) M= .ok (.str (aY a13)) M:=iV hy (j:=13) rfl rfl
  obtain⟨M1,nJ⟩:∃M1,M1=M++[MO.lst [.str "at",.str (aY a10),.str "ask 2",.str (aY a11),.str "add",.str (aY a12),.str (aY a13)]]:=⟨_,rfl⟩
  have u1:M1[M.length]? = some (.lst (ts [W "at",a10,W "ask 2",a11,W "add",a12,a13])):=by rw[nJ,aP];simp[ts]
  have g1:Gr M M1:=by rw[nJ];exact Gr.app
  have lw:(W "at").length=2∧(W "ask 2").length=5∧(W "add").length=3:=by decide
  have e1:=XS u1 (fun u hu=>by
   simp only[List.mem_cons,List.not_mem_nil,or_false]at hu
   rcases hu with rfl | rfl | rfl | rfl | rfl | rfl | rfl<;>omega) (by simp)
  have w2:W "ask 2" = W "ask" ++ 32::W "2" := by decide
  have er:dw 32 [W "at",a10,W "ask 2",a11,W "add",a12,a13]=dw 32 [W "at",a10,W "ask",W "2",a11,W "add",a12,a13]:=by
   rw[w2];simp[dw]
  rw[er,←jZ]at e1
  have z1:=g1 _ _ hz
  have e4:=jK (d:= .str (bL [W "at",a10,W "ask",W "2",a11,W "add",a12,a13])) z1 (by omega)
  refine⟨M1.set z (.lst (R++[.str (bL [W "at",a10,W "ask",W "2",a11,W "add",a12,a13])])),?_,get_set z1,g1.ch.trans (Ch.set rfl)⟩
  have tS:∀M,MK "str" (.str " ") M=true:=fun _=>rfl
  simp only[pU]
  simp[hs,i10,i11,i12,i13,←nJ,tS,e1,pI hz,pI z1,e4]
theorem Ul(hy:M[y]? = some (.lst (ts [a0,a1,a2,a3,a4,a5,a6,a7,a8,a9,a10,a11,a12,a13,a14,a15])))(hl:∀a∈[a0,a1,a2,a3,a4,a5,a6,a7,a8,a9,a10,a11,a12,a13,a14,a15],a.length≤110){s:Int}{l:List Nat}{rows:List (List (List Nat))}
  (X8:rows=[[W "book",a0,a1],[W "base",a2,a3,a4,a5],[W "value",a7,a6],[W "answer",a8,W "1",a9],(if 13<s then[W "at",W "3",W "roll",a14,a15]else[W "at",a10,W "ask",W "2",a11,W "add",a12,a13]),[W "end",W "5"]]) (hw:∀ws∈rows,yz ws):
  ∃M',Ku [some (.int s),some (.str (aY l)),some (.ref y),none] M= .ret (.str (Txt.join "\n" (rows.map bL))) M'∧Gr M M':=by
 have b0:=hl a0 (by simp)
 have b1:=hl a1 (by simp)
 have b2:=hl a2 (by simp)
 have b3:=hl a3 (by simp)
 have b4:=hl a4 (by simp)
 have b5:=hl a5 (by simp)
 have b6:=hl a6 (by simp)
 have b7:=hl a7 (by simp)
 have b8:=hl a8 (by simp)
 have b9:=hl a9 (by simp)
 have s1:FQ (.ref y) none (some 2) M= .ok (.ref M.length) (M++[.lst (ts [a0,a1])]):=by rw[Aa hy];rfl
 obtain⟨M1,nJ⟩:∃M1,M1=M++[MO.lst (ts [a0,a1])]:=⟨_,rfl⟩
 have u1:M1[M.length]? = some (.lst (ts [a0,a1])):=by rw[nJ];exact aP
 have g1:Gr M M1:=by rw[nJ];exact Gr.app
 rw[←nJ]at s1
 have j1:=XS u1 (fun u hu=>by simp at hu;rcases hu with rfl | rfl<;>omega) (by simp)
 have n1:(dw 32 [a0,a1]).length≤300:=by have:=Ou (c:=32) (us:=[a0,a1]) (fun u hu=>by simp at hu;rcases hu with rfl | rfl<;>omega);simp at this ⊢;omega
 have lw1:(W "book ").length=5∧(W "base ").length=5∧(W "value ").length=6∧(W "answer ").length=7∧(W " ").length=1∧(W " 1 ").length=3:=by decide
 have r1:W "book " ++ dw 32 [a0,a1]=dw 32 [W "book",a0,a1]:=by
  rw[show W "book " = W "book" ++ [32] by decide];simp[dw]
 have e1:=addW (s:= "book ") (b:=dw 32 [a0,a1]) (by omega) M1
 rw[r1,←jZ [W "book",a0,a1]]at e1
 have y1:=g1 _ _ hy
 have s2:FQ (.ref y) (some 2) (some 6) M1= .ok (.ref M1.length) (M1++[.lst (ts [a2,a3,a4,a5])]):=by rw[Aa y1];rfl
 obtain⟨M2,v_⟩:∃M2,M2=M1++[MO.lst (ts [a2,a3,a4,a5])]:=⟨_,rfl⟩
 have u2:M2[M1.length]? = some (.lst (ts [a2,a3,a4,a5])):=by rw[v_];exact aP
 have g2:Gr M1 M2:=by rw[v_];exact Gr.app
 rw[←v_]at s2
 have j2:=XS u2 (fun u hu=>by simp at hu;rcases hu with rfl | rfl | rfl | rfl<;>omega) (by simp)
 have n2:(dw 32 [a2,a3,a4,a5]).length≤500:=by have:=Ou (c:=32) (us:=[a2,a3,a4,a5]) (fun u hu=>by simp at hu;rcases hu with rfl | rfl | rfl | rfl<;>omega);simp at this ⊢;omega
 have r2:W "base " ++ dw 32 [a2,a3,a4,a5]=dw 32 [W "base",a2,a3,a4,a5]:=by
  rw[show W "base " = W "base" ++ [32] by decide];simp[dw]
 have e2:=addW (s:= "base ") (b:=dw 32 [a2,a3,a4,a5]) (by omega) M2
 rw[r2,←jZ [W "base",a2,a3,a4,a5]]at e2
 obtain⟨M3,PK⟩:∃M3,M3=M2++[MO.lst [.str (bL [W "book",a0,a1]),.str (bL [W "base",a2,a3,a4,a5])]]:=⟨_,rfl⟩
 have u3:M3[M2.length]? = some (.lst [.str (bL [W "book",a0,a1]),.str (bL [W "base",a2,a3,a4,a5])]):=by rw[PK];exact aP
 have g3:Gr M2 M3:=by rw[PK];exact Gr.app
 have y3:=g3 _ _ (g2 _ _ y1)
 have ly:=pQ hy
 have lM1:=g1.le
 have lM2:=g2.le
 have nyz:y≠M2.length:=by omega
 have i7:bh (.ref y) (.int 7) M3= .ok (.str (aY a7)) M3:=iV y3 (j:=7) rfl rfl
 have i6:bh (.ref y) (.int 6) M3= .ok (.str (aY a6)) M3:=iV y3 (j:=6) rfl rfl
 have v1:=addW (s:= "value ") (b:=a7) (by omega) M3
 have v2:=YF (s:= " ") (b:=W "value " ++ a7) (by rw[List.length_append];omega) M3
 have v3:=Mt (a:=W "value " ++ a7++W " ") (b:=a6) (by simp only[List.length_append];omega) M3
 have rv:W "value " ++ a7++W " " ++ a6=dw 32 [W "value",a7,a6]:=by
  rw[show W "value " = W "value" ++ [32] by decide,show W " " = [32] by decide];simp[dw]
 rw[rv,←jZ]at v3
 have v4:=jK (d:= .str (bL [W "value",a7,a6])) u3 (by simp)
 obtain⟨M4,Df⟩:∃M4,M4=M3.set M2.length (.lst ([.str (bL [W "book",a0,a1]),.str (bL [W "base",a2,a3,a4,a5])]++[.str (bL [W "value",a7,a6])])):=⟨_,rfl⟩
 have u4:=get_set (x:= .lst ([.str (bL [W "book",a0,a1]),.str (bL [W "base",a2,a3,a4,a5])]++[.str (bL [W "value",a7,a6])])) u3
 rw[←Df]at v4 u4
 have c4:Ch (· = M2.length) M3 M4:=by rw[Df];exact Ch.set rfl
 have y4:=c4.2 _ _ nyz y3
 have i8:bh (.ref y) (.int 8) M4= .ok (.str (aY a8)) M4:=iV y4 (j:=8) rfl rfl
 have i9:bh (.ref y) (.int 9) M4= .ok (.str (aY a9)) M4:=iV y4 (j:=9) rfl rfl
 have w1:=addW (s:= "answer ") (b:=a8) (by omega) M4
 have w2:=YF (s:= " 1 ") (b:=W "answer " ++ a8) (by rw[List.length_append];omega) M4
 have w3:=Mt (a:=W "answer " ++ a8++W " 1 ") (b:=a9) (by simp only[List.length_append];omega) M4
 have rw':W "answer " ++ a8++W " 1 " ++ a9=dw 32 [W "answer",a8,W "1",a9]:=by
  rw[show W "answer " = W "answer" ++ [32] by decide,show W " 1 " = 32::(W "1" ++ [32]) by decide];simp[dw]
 rw[rw',←jZ]at w3
 have w4:=jK (d:= .str (bL [W "answer",a8,W "1",a9])) u4 (by simp)
 obtain⟨M5,Q9⟩:∃M5,M5=M4.set M2.length (.lst ([.str (bL [W "book",a0,a1]),.str (bL [W "base",a2,a3,a4,a5])]++[.str (bL [W "value",a7,a6])]++[.str (bL [W "answer",a8,W "1",a9])])):=⟨_,rfl⟩
 have u5:=get_set (x:= .lst ([.str (bL [W "book",a0,a1]),.str (bL [W "base",a2,a3,a4,a5])]++[.str (bL [W "value",a7,a6])]++[.str (bL [W "answer",a8,W "1",a9])])) u4
 rw[←Q9]at w4 u5
 have c5:Ch (· = M2.length) M4 M5:=by rw[Q9];exact Ch.set rfl
 have y5:=c5.2 _ _ nyz y4
 obtain⟨M6,e6,u6,c6⟩:=Qg y5 hl (s:=s) (l:=l) u5 (by simp) nyz
 obtain⟨ER,hER⟩:∃ER,ER=(if 13<s then[W "at",W "3",W "roll",a14,a15]else[W "at",a10,W "ask",W "2",a11,W "add",a12,a13]):=⟨_,rfl⟩
 rw[←hER]at u6 X8
 obtain⟨M7,hM7⟩:∃M7,M7=M6++[MO.lst [.str "end 5"]]:=⟨_,rfl⟩
 have u7:M7[M6.length]? = some (.lst [.str "end 5"]):=by rw[hM7];exact aP
 have g7:Gr M6 M7:=by rw[hM7];exact Gr.app
 have e8:=uD (g7 _ _ u6) u7 (by simp)
 have re:("end 5" : Str)=bL [W "end",W "5"]:=by
  rw[jZ,←jM "end 5"]
  congr 1
 obtain⟨M8,hM8⟩:∃M8,M8=M7++[MO.lst ((rows.map bL).map D.str)]:=⟨_,rfl⟩
 have u8:M8[M7.length]? = some (.lst ((rows.map bL).map D.str)):=by rw[hM8];exact aP
 have g8:Gr M7 M8:=by rw[hM8];exact Gr.app
 have e8':d9 (.ref M2.length) (.ref M6.length) M7= .ok (.ref M7.length) M8:=by
  rw[e8,hM8,X8]
  simp[re]
 have hj:JoinOk "\n" (rows.map bL)=true:=by
  rw[SN]
  refine Q5 (n:=3020) (fun y hy=> ?_) (by rw[List.length_map,X8];simp)
  obtain⟨ws,hs,rfl⟩:=List.mem_map.mp hy
  exact GK (hw ws hs)
 have e9:vD (.str "\n") [.ref M7.length] M8= .ok (.str (Txt.join "\n" (rows.map bL))) M8:=GJ u8 hj
 refine⟨M8,?_,?_⟩
 ·have tS:∀(t:Str) M,MK "str" (.str t) M=true:=fun _ _=>rfl
  simp only[Ku]
  simp[-List.append_assoc,tS,s1,j1,e1,s2,j2,e2,←PK,i7,v1,v2,i6,v3,pI u3,v4]
  simp[-List.append_assoc,i8,w1,w2,i9,w3,pI u4,w4,e6,←hM7,e8',tS,e9]
 ·have c36:=(c4.trans c5).trans c6
  have c06:Ch (· = M2.length) M M6:=((g1.trans g2).trans g3).ch.trans c36
  exact(c06.new fun i hi=>by omega).trans (g7.trans g8)
end
def vp:List (List Nat):=[W "4",W "0",W "2",W "1",W "3",W "6",W "8",W "ab",W "5",W "0",W "3",W "1",W "cd",W "0",W "9",W "0"]
def rowsOf(s:Int)(ws:List (List Nat)):List (List (List Nat)):=
 [[W "book",ws.getD 0 [],ws.getD 1 []],[W "base",ws.getD 2 [],ws.getD 3 [],ws.getD 4 [],ws.getD 5 []],[W "value",ws.getD 7 [],ws.getD 6 []],[W "answer",ws.getD 8 [],W "1",ws.getD 9 []],
  (if 13<s then[W "at",W "3",W "roll",ws.getD 14 [],ws.getD 15 []]else[W "at",ws.getD 10 [],W "ask",W "2",ws.getD 11 [],W "add",ws.getD 12 [],ws.getD 13 []]),[W "end",W "5"]]
theorem abv{α:Type}{l:List α}(h:l.length=16):∃a0 a1 a2 a3 a4 a5 a6 a7 a8 a9 a10 a11 a12 a13 a14 a15,l=[a0,a1,a2,a3,a4,a5,a6,a7,a8,a9,a10,a11,a12,a13,a14,a15]:=by
 match l,h with
 | [a0,a1,a2,a3,a4,a5,a6,a7,a8,a9,a10,a11,a12,a13,a14,a15],_=>exact⟨_,_,_,_,_,_,_,_,_,_,_,_,_,_,_,_,rfl⟩
theorem adP:∀w∈vp,Wd w∧w.length≤110:=by
 intro w hw
 simp only[vp,List.mem_cons,List.not_mem_nil,or_false]at hw
 rcases hw with rfl | rfl | rfl | rfl | rfl | rfl | rfl | rfl | rfl | rfl | rfl | rfl | rfl | rfl | rfl | rfl
 all_goals exact⟨Ai (by decide),by decide⟩
theorem lQ{l:List Nat}(hl:Cl l)(hn:l.length≤107)(k:Nat):∀w∈vp.set k l,Wd w∧w.length≤110:=by
 intro w hw
 rcases List.mem_or_eq_of_mem_set hw with q | q
 ·exact adP w q
 ·subst q;exact⟨⟨hl.1,hl.2,by omega⟩,by omega⟩
theorem gj{s:Int}{ws:List (List Nat)}(hlen:ws.length=16)(h:∀w∈ws,Wd w):∀x∈rowsOf s ws,yz x:=by
 obtain⟨a0,a1,a2,a3,a4,a5,a6,a7,a8,a9,a10,a11,a12,a13,a14,a15,rfl⟩:=abv hlen
 have hW:∀{t:Str},(decide (32∉W t)&&decide (10∉W t)&&decide ((W t).length≤150))=true→Wd (W t):=fun h=>Ai h
 intro x hx
 simp only[rowsOf,List.getD_cons_zero,List.getD_cons_succ,List.mem_cons,List.not_mem_nil,or_false]at hx
 have mk:∀(us:List (List Nat)),us≠[]→us.length≤20→(∀w∈us,Wd w)→yz us:=fun us a b c=>⟨a,b,c⟩
 have A:∀w,w∈[a0,a1,a2,a3,a4,a5,a6,a7,a8,a9,a10,a11,a12,a13,a14,a15]→Wd w:=h
 simp only[List.mem_cons,List.not_mem_nil,or_false,forall_eq_or_imp,forall_eq]at A
 rcases hx with rfl | rfl | rfl | rfl | rfl | rfl
 ·exact mk _ (by simp) (by simp) (by simp only[List.mem_cons,List.not_mem_nil,or_false,forall_eq_or_imp,forall_eq];exact⟨hW (by decide),A.1,A.2.1⟩)
 ·exact mk _ (by simp) (by simp) (by simp only[List.mem_cons,List.not_mem_nil,or_false,forall_eq_or_imp,forall_eq];exact⟨hW (by decide),A.2.2.1,A.2.2.2.1,A.2.2.2.2.1,A.2.2.2.2.2.1⟩)
 ·exact mk _ (by simp) (by simp) (by simp only[List.mem_cons,List.not_mem_nil,or_false,forall_eq_or_imp,forall_eq];exact⟨hW (by decide),A.2.2.2.2.2.2.2.1,A.2.2.2.2.2.2.1⟩)
 ·exact mk _ (by simp) (by simp) (by simp only[List.mem_cons,List.not_mem_nil,or_false,forall_eq_or_imp,forall_eq];exact⟨hW (by decide),A.2.2.2.2.2.2.2.2.1,hW (by decide),A.2.2.2.2.2.2.2.2.2.1⟩)
 ·split
  ·exact mk _ (by simp) (by simp) (by simp only[List.mem_cons,List.not_mem_nil,or_false,forall_eq_or_imp,forall_eq];exact⟨hW (by decide),hW (by decide),hW (by decide),A.2.2.2.2.2.2.2.2.2.2.2.2.2.2.1,A.2.2.2.2.2.2.2.2.2.2.2.2.2.2.2⟩)
  ·exact mk _ (by simp) (by simp) (by simp only[List.mem_cons,List.not_mem_nil,or_false,forall_eq_or_imp,forall_eq];exact⟨hW (by decide),A.2.2.2.2.2.2.2.2.2.2.1,hW (by decide),hW (by decide),A.2.2.2.2.2.2.2.2.2.2.2.1,hW (by decide),A.2.2.2.2.2.2.2.2.2.2.2.2.1,A.2.2.2.2.2.2.2.2.2.2.2.2.2.1⟩)
 ·exact mk _ (by simp) (by simp) (by simp only[List.mem_cons,List.not_mem_nil,or_false,forall_eq_or_imp,forall_eq];exact⟨hW (by decide),hW (by decide)⟩)
theorem Y_{M:Mem}{l:List Nat}(hl:Cl l)(hn:l.length≤107){s:Int}(h0:0≤s)(h1:s<16):∃M',Ba [.int s,.str (aY l)] M= .ok (.str (Txt.join "\n" ((rowsOf s (vp.set s.toNat l)).map bL))) M'∧Gr M M':=by
 obtain⟨M0,hM0⟩:∃M0,M0=M++[MO.lst (ts vp)]:=⟨_,rfl⟩
 have aou:M0=M++[MO.lst [.str "4",.str "0",.str "2",.str "1",.str "3",.str "6",.str "8",.str "ab",.str "5",.str "0",.str "3",.str "1",.str "cd",.str "0",.str "9",.str "0"]]:=by rw[hM0];simp[ts,vp]
 have u0:M0[M.length]? = some (.lst (ts vp)):=by rw[hM0];exact aP
 obtain⟨ws,hws⟩:∃ws,ws=vp.set s.toNat l:=⟨_,rfl⟩
 have hlen:ws.length=16:=by rw[hws];simp[vp]
 obtain⟨M1,nJ⟩:∃M1,M1=M0.set M.length (.lst (ts ws)):=⟨_,rfl⟩
 have ep:QZ M0 (.ref M.length) (.int s) (.str (aY l))=some M1:=by
  have hi:YM (ts vp).length s=some s.toNat:=by
   unfold YM
   have e16:(ts vp).length=16:=by simp[ts,vp]
   rw[if_pos h0,e16,if_pos (by omega)]
  simp only[QZ,u0,hi,Option.map_some,nJ,hws]
  congr 3
  simp[ts,List.map_set]
 have u1:M1[M.length]? = some (.lst (ts ws)):=by rw[nJ];exact get_set u0
 have hwd:=lQ hl hn s.toNat
 rw[←hws]at hwd
 obtain⟨a0,a1,a2,a3,a4,a5,a6,a7,a8,a9,a10,a11,a12,a13,a14,a15,hwe⟩:=abv hlen
 rw[←hws]
 have hrw:=gj (s:=s) hlen fun w hw=>(hwd w hw).1
 rw[hwe]at u1 hrw hwd ⊢
 obtain⟨M2,e2,g2⟩:=Ul u1 (fun a ha=>(hwd a ha).2) (s:=s) (l:=l) (rows:=rowsOf s [a0,a1,a2,a3,a4,a5,a6,a7,a8,a9,a10,a11,a12,a13,a14,a15]) rfl hrw
 refine⟨M2,?_,?_⟩
 ·have e3:Ku [some (.int s),some (.str (aY l)),some (.ref M.length),none] M1= .ret (.str (Txt.join "\n" ((rowsOf s [a0,a1,a2,a3,a4,a5,a6,a7,a8,a9,a10,a11,a12,a13,a14,a15]).map bL))) M2:=e2
  show cu 4 (aX _ (aX _ Ku)) _ _=_
  simp[←aou,ep,e3]
 ·have c:Ch (· = M.length) M M1:=by
   have c1:Ch (· = M.length) M M0:=by rw[hM0];exact Gr.app.ch
   have c2:Ch (· = M.length) M0 M1:=by rw[nJ];exact Ch.set rfl
   exact c1.trans c2
  exact(c.new fun i hi=>by omega).trans g2
section
variable{M:Mem}{k r lk:Nat}{tm b bt r1 r2 v w0 w1 an t:Int}{vt nm:D}
theorem fM{q n v2:Int}{nm2:D}(H:Bm M k r lk tm vt b bt (.tup [.int r1,.int r2]) (.tup [.tup [.tup [nm,.int v]],.tup [.tup [.int w0,.int w1,.int an]]]) [.tup [.int t,.tup [.str "ask",.int q,.int n,.tup [.str "add",nm2,.int v2]]]]){s:Int}(h0:0≤s)(h1:s≤13){d:D}
  (hd:[D.int tm,vt,.int b,.int bt,.int r1,.int r2,.int v,nm,.int w0,.int an,.int t,.int n,nm2,.int v2][s.toNat]? = some d):∃M',lZ [.ref k,.int s] M= .ok d M'∧Gr M M':=by
 have e1:=Hy H.row
 obtain⟨M1,nJ⟩:∃M1,M1=M++[MO.lst [.tup [.int t,.tup [.str "ask",.int q,.int n,.tup [.str "add",nm2,.int v2]]]]]:=⟨_,rfl⟩
 rw[←nJ]at e1
 have g1:Gr M M1:=by rw[nJ];exact Gr.app
 have i1:bh (.ref M.length) (.int 0) M1= .ok (.tup [.int t,.tup [.str "ask",.int q,.int n,.tup [.str "add",nm2,.int v2]]]) M1:=qR (by rw[nJ];exact aP) (by decide) rfl
 have H1:=H.gr g1
 obtain⟨M2,v_⟩:∃M2,M2=M1++[MO.lst [.int tm,vt,.int b,.int bt,.int r1,.int r2]]:=⟨_,rfl⟩
 have u2:M2[M1.length]? = some (.lst [.int tm,vt,.int b,.int bt,.int r1,.int r2]):=by rw[v_];exact aP
 have g2:Gr M1 M2:=by rw[v_];exact Gr.app
 have H2:=H1.gr g2
 obtain⟨M3,PK⟩:∃M3,M3=M2++[MO.lst [.int v,nm,.int w0,.int an]]:=⟨_,rfl⟩
 have u3:M3[M2.length]? = some (.lst [.int v,nm,.int w0,.int an]):=by rw[PK];exact aP
 have g3:Gr M2 M3:=by rw[PK];exact Gr.app
 have e4:=uD (g3 _ _ u2) u3 (by simp)
 obtain⟨M4,Df⟩:∃M4,M4=M3++[MO.lst ([.int tm,vt,.int b,.int bt,.int r1,.int r2]++[.int v,nm,.int w0,.int an])]:=⟨_,rfl⟩
 rw[←Df]at e4
 have u4:M4[M3.length]? = some (.lst ([.int tm,vt,.int b,.int bt,.int r1,.int r2]++[.int v,nm,.int w0,.int an])):=by rw[Df];exact aP
 have g4:Gr M3 M4:=by rw[Df];exact Gr.app
 obtain⟨M5,Q9⟩:∃M5,M5=M4++[MO.lst [.int t,.int n,nm2,.int v2]]:=⟨_,rfl⟩
 have u5:M5[M4.length]? = some (.lst [.int t,.int n,nm2,.int v2]):=by rw[Q9];exact aP
 have g5:Gr M4 M5:=by rw[Q9];exact Gr.app
 have e6:=uD (g5 _ _ u4) u5 (by simp)
 obtain⟨M6,VJ⟩:∃M6,M6=M5++[MO.lst ([.int tm,vt,.int b,.int bt,.int r1,.int r2]++[.int v,nm,.int w0,.int an]++[.int t,.int n,nm2,.int v2])]:=⟨_,rfl⟩
 rw[←VJ]at e6
 have g6:Gr M5 M6:=by rw[VJ];exact Gr.app
 have i7:bh (.ref M5.length) (.int s) M6= .ok d M6:=qR (by rw[VJ];exact aP) h0 (by simpa using hd)
 refine⟨M6,?_,((((g1.trans g2).trans g3).trans g4).trans g5).trans g6⟩
 have hs:¬(13<s):=by omega
 have x0:∀{a b c:D} {ds:List D} {M:Mem},bh (.tup (a::ds)) (.int 0) M= .ok a M:=fun{a b c ds M}=>uB
 have x1:∀{a b:D} {ds:List D} {M:Mem},bh (.tup (a::b::ds)) (.int 1) M= .ok b M:=fun{a b ds M}=>NZ
 have x2:∀{a b c:D} {ds:List D} {M:Mem},bh (.tup (a::b::c::ds)) (.int 2) M= .ok c M:=fun{a b c ds M}=>Ab (by decide) rfl
 have x3:∀{a b c d:D} {ds:List D} {M:Mem},bh (.tup (a::b::c::d::ds)) (.int 3) M= .ok d M:=fun{a b c d ds M}=>Ab (by decide) rfl
 simp only[lZ,jN,vY]
 simp[H.fr,H.row.me (m:= "entries") rfl,e1,i1,H1.ft,H1.fv,H1.row.fb,H1.row.ft,H1.row.fr,uB,x1,←v_,H2.fk,x2,x3]
 simp[←PK,e4,hs,uB,x1,x2,x3,←Q9,e6,i7]
theorem Hv{x y:Int}(H:Bm M k r lk tm vt b bt (.tup [.int r1,.int r2]) (.tup [.tup [.tup [nm,.int v]],.tup [.tup [.int w0,.int w1,.int an]]]) [.tup [.int t,.tup [.str "roll",.int x,.int y]]]){s:Int}(hs:s=14∨s=15):
  ∃M',lZ [.ref k,.int s] M= .ok (if s=14 then .int x else .int y) M'∧Gr M M':=by
 have e1:=Hy H.row
 obtain⟨M1,nJ⟩:∃M1,M1=M++[MO.lst [.tup [.int t,.tup [.str "roll",.int x,.int y]]]]:=⟨_,rfl⟩
 rw[←nJ]at e1
 have g1:Gr M M1:=by rw[nJ];exact Gr.app
 have i1:bh (.ref M.length) (.int 0) M1= .ok (.tup [.int t,.tup [.str "roll",.int x,.int y]]) M1:=qR (by rw[nJ];exact aP) (by decide) rfl
 have H1:=H.gr g1
 obtain⟨M2,v_⟩:∃M2,M2=M1++[MO.lst [.int tm,vt,.int b,.int bt,.int r1,.int r2]]:=⟨_,rfl⟩
 have u2:M2[M1.length]? = some (.lst [.int tm,vt,.int b,.int bt,.int r1,.int r2]):=by rw[v_];exact aP
 have g2:Gr M1 M2:=by rw[v_];exact Gr.app
 have H2:=H1.gr g2
 obtain⟨M3,PK⟩:∃M3,M3=M2++[MO.lst [.int v,nm,.int w0,.int an]]:=⟨_,rfl⟩
 have u3:M3[M2.length]? = some (.lst [.int v,nm,.int w0,.int an]):=by rw[PK];exact aP
 have g3:Gr M2 M3:=by rw[PK];exact Gr.app
 have e4:=uD (g3 _ _ u2) u3 (by simp)
 obtain⟨M4,Df⟩:∃M4,M4=M3++[MO.lst ([.int tm,vt,.int b,.int bt,.int r1,.int r2]++[.int v,nm,.int w0,.int an])]:=⟨_,rfl⟩
 rw[←Df]at e4
 have g4:Gr M3 M4:=by rw[Df];exact Gr.app
 refine⟨M4,?_,(((g1.trans g2).trans g3).trans g4)⟩
 have x1:∀{a b:D} {ds:List D} {M:Mem},bh (.tup (a::b::ds)) (.int 1) M= .ok b M:=fun{a b ds M}=>NZ
 have x2:∀{a b c:D} {ds:List D} {M:Mem},bh (.tup (a::b::c::ds)) (.int 2) M= .ok c M:=fun{a b c ds M}=>Ab (by decide) rfl
 simp only[lZ,jN,vY]
 rcases hs with rfl | rfl
 ·simp[H.fr,H.row.me (m:= "entries") rfl,e1,i1,H1.ft,H1.fv,H1.row.fb,H1.row.ft,H1.row.fr,uB,x1,←v_,H2.fk,x2]
  simp[←PK,e4,uB,x1,x2]
 ·simp[H.fr,H.row.me (m:= "entries") rfl,e1,i1,H1.ft,H1.fv,H1.row.fb,H1.row.ft,H1.row.fr,uB,x1,←v_,H2.fk,x2]
  simp[←PK,e4,uB,x1,x2]
end
theorem VB{n:Int}{M:Mem}:jf [.int n,.int n] M= .ok (.bl true) M:=by
 simp only[jf,jm,qX,vZ]
 have a:Ak [.int n,.ty "str"] M= .ok (.bl false) M:=by unfold Ak;rfl
 have b:Ak [.int n,.ty "int"] M= .ok (.bl true) M:=by unfold Ak;rfl
 have c:Ak [.int n,.ty "bool"] M= .ok (.bl false) M:=by unfold Ak;rfl
 simp[Jp,a,b,c]
theorem Vz{z:Str}{M:Mem}:jf [.str z,.str z] M= .ok (.bl true) M:=by
 simp only[jf,jm,qX,vZ]
 have a:Ak [.str z,.ty "str"] M= .ok (.bl true) M:=by unfold Ak;rfl
 simp[Jp,a]
theorem JN{M:Mem}:jf [.non,.non] M= .ok (.bl true) M:=by
 simp only[jf,jm,qX]
 simp[Jp]
theorem qG:num (W "0")=some 0:=by decide +kernel
theorem qT:num (W "1")=some 1:=by decide +kernel
theorem sI:num (W "2")=some 2:=by decide +kernel
theorem sH:num (W "3")=some 3:=by decide +kernel
theorem sW:num (W "4")=some 4:=by decide +kernel
theorem sV:num (W "5")=some 5:=by decide +kernel
theorem sU:num (W "6")=some 6:=by decide +kernel
theorem tR:num (W "7")=some 7:=by decide +kernel
theorem sS:num (W "8")=some 8:=by decide +kernel
theorem tQ:num (W "9")=some 9:=by decide +kernel
theorem sZ:j8 (W "ab")=true:=by decide
theorem sY:j8 (W "cd")=true:=by decide
theorem sX:¬(("0" : Str)= "-"):=by decide
theorem gH:Nt "add" = some 3:=by decide
theorem bG:¬(("ask" : Str)= "roll")∧¬(("roll" : Str)= "ask"):=by decide
def T23(s:Int)(l:List Nat):Str:=Txt.join "\n" ((rowsOf s (vp.set s.toNat l)).map bL)
def abi:List Int:=[1,1,2,2,2,2,3,3,4,4,5,5,5,5,5,5]
def qj(s:Int)(l:List Nat)(M:Mem):Prop:=
 ((due s l).1=true∧∃k M',cH [.str (T23 s l)] M= .ok (.ref k) M'∧Gr M M'∧∃M3,lZ [.ref k,.int s] M'= .ok (due s l).2 M3∧Gr M' M3)∨
 ((due s l).1=false∧∃n,abi[s.toNat]? = some n∧Nm M (T23 s l) n)
theorem hd0:bF (W "4") (W "0")=some (4,.int 0):=by simp[bF,dH,dG,qG,sW,sX]
theorem Bo:bu (W "2") (W "1") (W "3") (W "6")=some (2,1,.tup [.int 3,.int 6]):=by simp[bu,bN,dH,dG,sI,qT,sH,sU]
theorem Bu:cA (W "ab") (W "8")=some (.tup [.str "ab",.int 8]):=by simp[cA,fj,sZ,sS]
theorem Bp:eE (W "5") (W "1") (W "0")=some (.tup [.int 5,.int 1,.int 0]):=by simp[eE,bK,sV,qT,qG]
theorem Yp:cB (W "3") [W "ask",W "2",W "1",W "add",W "cd",W "0"]=some (.tup [.int 3,.tup [.str "ask",.int 2,.int 1,.tup [.str "add",.str "cd",.int 0]]]):=by simp[cB,bW,orderV,bK,dG,fj,sH,sI,qT,qG,sY,gH]
theorem abY{M:Mem}{l:List Nat}(hl:Cl l)(hn:l.length≤107):qj 0 l M:=by
 have hw:=gj (s:=0) (ws:=vp.set 0 l) (by simp[vp]) (fun w hw=>(lQ hl hn 0 w hw).1)
 have h:=jz (M:=M) (a0:=l) (a1:=W "0") (a2:=W "2") (a3:=W "1") (a4:=W "3") (a5:=W "6") (a6:=W "8") (a7:=W "ab") (a8:=W "5") (a9:=W "0") (b:=W "3") (us:=[W "ask",W "2",W "1",W "add",W "cd",W "0"]) hw
 cases e:num l with
 | none=>
  have e1:bF l (W "0")=none:=by simp[bF,bu,cA,eE,cB,bW,orderV,bK,bN,dH,dG,fj,qG,qT,sI,sH,sW,sV,sU,tR,sS,tQ,sZ,sY,sX,gH,bG.1,bG.2,e]
  rw[e1]at h
  exact .inr ⟨by simp[due,e],_,rfl,h⟩
 | some n=>
  by_cases q:n<0
  ·have q1:¬(0≤n):=by omega
   have q2:¬(1≤n):=by omega
   have e1:bF l (W "0")=none:=by simp[bF,bu,cA,eE,cB,bW,orderV,bK,bN,dH,dG,fj,qG,qT,sI,sH,sW,sV,sU,tR,sS,tQ,sZ,sY,sX,gH,bG.1,bG.2,e,q,q1,q2]
   rw[e1]at h
   exact .inr ⟨by simp[due,e,q,q1,q2],_,rfl,h⟩
  have q1:0≤n:=by omega
  have e1:bF l (W "0")=some ((n,.int 0)):=by simp[bF,bu,cA,eE,cB,bW,orderV,bK,bN,dH,dG,fj,qG,qT,sI,sH,sW,sV,sU,tR,sS,tQ,sZ,sY,sX,gH,bG.1,bG.2,e,q,q1]
  rw[e1,Bo,Bu,Bp,Yp]at h
  obtain⟨k,r,lk,M',er,K,g⟩:=h
  obtain⟨M3,ef,g3⟩:=fM K (s:=0) (by decide) (by decide) rfl
  exact .inl ⟨by simp[due,e,q,q1],k,M',er,g,M3,by simpa[due,e,q,q1]using ef,g3⟩
theorem abX{M:Mem}{l:List Nat}(hl:Cl l)(hn:l.length≤107):qj 1 l M:=by
 have hw:=gj (s:=1) (ws:=vp.set 1 l) (by simp[vp]) (fun w hw=>(lQ hl hn 1 w hw).1)
 have h:=jz (M:=M) (a0:=W "4") (a1:=l) (a2:=W "2") (a3:=W "1") (a4:=W "3") (a5:=W "6") (a6:=W "8") (a7:=W "ab") (a8:=W "5") (a9:=W "0") (b:=W "3") (us:=[W "ask",W "2",W "1",W "add",W "cd",W "0"]) hw
 by_cases hm:aY l=("-" : Str)
 ·have e1:bF (W "4") l=some ((4,.non)):=by simp[bF,bu,cA,eE,cB,bW,orderV,bK,bN,dH,dG,fj,qG,qT,sI,sH,sW,sV,sU,tR,sS,tQ,sZ,sY,sX,gH,bG.1,bG.2,hm]
  rw[e1,Bo,Bu,Bp,Yp]at h
  obtain⟨k,r,lk,M',er,K,g⟩:=h
  obtain⟨M3,ef,g3⟩:=fM K (s:=1) (by decide) (by decide) rfl
  exact .inl ⟨by simp[due,hm],k,M',er,g,M3,by simpa[due,hm]using ef,g3⟩
 cases e:num l with
 | none=>
  have e1:bF (W "4") l=none:=by simp[bF,bu,cA,eE,cB,bW,orderV,bK,bN,dH,dG,fj,qG,qT,sI,sH,sW,sV,sU,tR,sS,tQ,sZ,sY,sX,gH,bG.1,bG.2,e,hm]
  rw[e1]at h
  exact .inr ⟨by simp[due,e,hm],_,rfl,h⟩
 | some n=>
  by_cases q:n<0
  ·have q1:¬(0≤n):=by omega
   have q2:¬(1≤n):=by omega
   have e1:bF (W "4") l=none:=by simp[bF,bu,cA,eE,cB,bW,orderV,bK,bN,dH,dG,fj,qG,qT,sI,sH,sW,sV,sU,tR,sS,tQ,sZ,sY,sX,gH,bG.1,bG.2,e,q,q1,q2,hm]
   rw[e1]at h
   exact .inr ⟨by simp[due,e,q,q1,q2,hm],_,rfl,h⟩
  have q1:0≤n:=by omega
  by_cases p:60≤n
  ·have p1:¬(n<60):=by omega
   have e1:bF (W "4") l=none:=by simp[bF,bu,cA,eE,cB,bW,orderV,bK,bN,dH,dG,fj,qG,qT,sI,sH,sW,sV,sU,tR,sS,tQ,sZ,sY,sX,gH,bG.1,bG.2,e,q,q1,hm,p,p1]
   rw[e1]at h
   exact .inr ⟨by simp[due,e,q,q1,hm,p,p1],_,rfl,h⟩
  have p1:n<60:=by omega
  have e1:bF (W "4") l=some ((4,.int n)):=by simp[bF,bu,cA,eE,cB,bW,orderV,bK,bN,dH,dG,fj,qG,qT,sI,sH,sW,sV,sU,tR,sS,tQ,sZ,sY,sX,gH,bG.1,bG.2,e,q,q1,hm,p,p1]
  rw[e1,Bo,Bu,Bp,Yp]at h
  obtain⟨k,r,lk,M',er,K,g⟩:=h
  obtain⟨M3,ef,g3⟩:=fM K (s:=1) (by decide) (by decide) rfl
  exact .inl ⟨by simp[due,e,q,q1,hm,p,p1],k,M',er,g,M3,by simpa[due,e,q,q1,hm,p,p1]using ef,g3⟩
theorem abW{M:Mem}{l:List Nat}(hl:Cl l)(hn:l.length≤107):qj 2 l M:=by
 have hw:=gj (s:=2) (ws:=vp.set 2 l) (by simp[vp]) (fun w hw=>(lQ hl hn 2 w hw).1)
 have h:=jz (M:=M) (a0:=W "4") (a1:=W "0") (a2:=l) (a3:=W "1") (a4:=W "3") (a5:=W "6") (a6:=W "8") (a7:=W "ab") (a8:=W "5") (a9:=W "0") (b:=W "3") (us:=[W "ask",W "2",W "1",W "add",W "cd",W "0"]) hw
 cases e:num l with
 | none=>
  have e1:bu l (W "1") (W "3") (W "6")=none:=by simp[bF,bu,cA,eE,cB,bW,orderV,bK,bN,dH,dG,fj,qG,qT,sI,sH,sW,sV,sU,tR,sS,tQ,sZ,sY,sX,gH,bG.1,bG.2,e]
  rw[e1,hd0]at h
  exact .inr ⟨by simp[due,e],_,rfl,h⟩
 | some n=>
  by_cases q:n<0
  ·have q1:¬(0≤n):=by omega
   have q2:¬(1≤n):=by omega
   have e1:bu l (W "1") (W "3") (W "6")=none:=by simp[bF,bu,cA,eE,cB,bW,orderV,bK,bN,dH,dG,fj,qG,qT,sI,sH,sW,sV,sU,tR,sS,tQ,sZ,sY,sX,gH,bG.1,bG.2,e,q,q1,q2]
   rw[e1,hd0]at h
   exact .inr ⟨by simp[due,e,q,q1,q2],_,rfl,h⟩
  have q1:0≤n:=by omega
  have e1:bu l (W "1") (W "3") (W "6")=some ((n,1,.tup [.int 3,.int 6])):=by simp[bF,bu,cA,eE,cB,bW,orderV,bK,bN,dH,dG,fj,qG,qT,sI,sH,sW,sV,sU,tR,sS,tQ,sZ,sY,sX,gH,bG.1,bG.2,e,q,q1]
  rw[e1,hd0,Bu,Bp,Yp]at h
  obtain⟨k,r,lk,M',er,K,g⟩:=h
  obtain⟨M3,ef,g3⟩:=fM K (s:=2) (by decide) (by decide) rfl
  exact .inl ⟨by simp[due,e,q,q1],k,M',er,g,M3,by simpa[due,e,q,q1]using ef,g3⟩
theorem abV{M:Mem}{l:List Nat}(hl:Cl l)(hn:l.length≤107):qj 3 l M:=by
 have hw:=gj (s:=3) (ws:=vp.set 3 l) (by simp[vp]) (fun w hw=>(lQ hl hn 3 w hw).1)
 have h:=jz (M:=M) (a0:=W "4") (a1:=W "0") (a2:=W "2") (a3:=l) (a4:=W "3") (a5:=W "6") (a6:=W "8") (a7:=W "ab") (a8:=W "5") (a9:=W "0") (b:=W "3") (us:=[W "ask",W "2",W "1",W "add",W "cd",W "0"]) hw
 cases e:num l with
 | none=>
  have e1:bu (W "2") l (W "3") (W "6")=none:=by simp[bF,bu,cA,eE,cB,bW,orderV,bK,bN,dH,dG,fj,qG,qT,sI,sH,sW,sV,sU,tR,sS,tQ,sZ,sY,sX,gH,bG.1,bG.2,e]
  rw[e1,hd0]at h
  exact .inr ⟨by simp[due,e],_,rfl,h⟩
 | some n=>
  by_cases q:n<0
  ·have q1:¬(0≤n):=by omega
   have q2:¬(1≤n):=by omega
   have e1:bu (W "2") l (W "3") (W "6")=none:=by simp[bF,bu,cA,eE,cB,bW,orderV,bK,bN,dH,dG,fj,qG,qT,sI,sH,sW,sV,sU,tR,sS,tQ,sZ,sY,sX,gH,bG.1,bG.2,e,q,q1,q2]
   rw[e1,hd0]at h
   exact .inr ⟨by simp[due,e,q,q1,q2],_,rfl,h⟩
  have q1:0≤n:=by omega
  have e1:bu (W "2") l (W "3") (W "6")=some ((2,n,.tup [.int 3,.int 6])):=by simp[bF,bu,cA,eE,cB,bW,orderV,bK,bN,dH,dG,fj,qG,qT,sI,sH,sW,sV,sU,tR,sS,tQ,sZ,sY,sX,gH,bG.1,bG.2,e,q,q1]
  rw[e1,hd0,Bu,Bp,Yp]at h
  obtain⟨k,r,lk,M',er,K,g⟩:=h
  obtain⟨M3,ef,g3⟩:=fM K (s:=3) (by decide) (by decide) rfl
  exact .inl ⟨by simp[due,e,q,q1],k,M',er,g,M3,by simpa[due,e,q,q1]using ef,g3⟩
theorem abU{M:Mem}{l:List Nat}(hl:Cl l)(hn:l.length≤107):qj 4 l M:=by
 have hw:=gj (s:=4) (ws:=vp.set 4 l) (by simp[vp]) (fun w hw=>(lQ hl hn 4 w hw).1)
 have h:=jz (M:=M) (a0:=W "4") (a1:=W "0") (a2:=W "2") (a3:=W "1") (a4:=l) (a5:=W "6") (a6:=W "8") (a7:=W "ab") (a8:=W "5") (a9:=W "0") (b:=W "3") (us:=[W "ask",W "2",W "1",W "add",W "cd",W "0"]) hw
 cases e:num l with
 | none=>
  have e1:bu (W "2") (W "1") l (W "6")=none:=by simp[bF,bu,cA,eE,cB,bW,orderV,bK,bN,dH,dG,fj,qG,qT,sI,sH,sW,sV,sU,tR,sS,tQ,sZ,sY,sX,gH,bG.1,bG.2,e]
  rw[e1,hd0]at h
  exact .inr ⟨by simp[due,e],_,rfl,h⟩
 | some n=>
  by_cases q:n<0
  ·have q1:¬(0≤n):=by omega
   have q2:¬(1≤n):=by omega
   have e1:bu (W "2") (W "1") l (W "6")=none:=by simp[bF,bu,cA,eE,cB,bW,orderV,bK,bN,dH,dG,fj,qG,qT,sI,sH,sW,sV,sU,tR,sS,tQ,sZ,sY,sX,gH,bG.1,bG.2,e,q,q1,q2]
   rw[e1,hd0]at h
   exact .inr ⟨by simp[due,e,q,q1,q2],_,rfl,h⟩
  have q1:0≤n:=by omega
  by_cases p:1152921504606846976≤n
  ·have p1:¬(n<1152921504606846976):=by omega
   have e1:bu (W "2") (W "1") l (W "6")=none:=by simp[bF,bu,cA,eE,cB,bW,orderV,bK,bN,dH,dG,fj,qG,qT,sI,sH,sW,sV,sU,tR,sS,tQ,sZ,sY,sX,gH,bG.1,bG.2,e,q,q1,p,p1]
   rw[e1,hd0]at h
   exact .inr ⟨by simp[due,e,q,q1,p,p1],_,rfl,h⟩
  have p1:n<1152921504606846976:=by omega
  by_cases q0:n=0
  ·have e1:bu (W "2") (W "1") l (W "6")=none:=by simp[bF,bu,cA,eE,cB,bW,orderV,bK,bN,dH,dG,fj,qG,qT,sI,sH,sW,sV,sU,tR,sS,tQ,sZ,sY,sX,gH,bG.1,bG.2,e,q,p,p1,q0]
   rw[e1,hd0]at h
   exact .inr ⟨by simp[due,e,q,p,p1,q0],_,rfl,h⟩
  have q2:1≤n:=by omega
  have e1:bu (W "2") (W "1") l (W "6")=some ((2,1,.tup [.int n,.int 6])):=by simp[bF,bu,cA,eE,cB,bW,orderV,bK,bN,dH,dG,fj,qG,qT,sI,sH,sW,sV,sU,tR,sS,tQ,sZ,sY,sX,gH,bG.1,bG.2,e,q,q1,p,p1,q0,q2]
  rw[e1,hd0,Bu,Bp,Yp]at h
  obtain⟨k,r,lk,M',er,K,g⟩:=h
  obtain⟨M3,ef,g3⟩:=fM K (s:=4) (by decide) (by decide) rfl
  exact .inl ⟨by simp[due,e,q,q1,p,p1,q0,q2],k,M',er,g,M3,by simpa[due,e,q,q1,p,p1,q0,q2]using ef,g3⟩
theorem abT{M:Mem}{l:List Nat}(hl:Cl l)(hn:l.length≤107):qj 5 l M:=by
 have hw:=gj (s:=5) (ws:=vp.set 5 l) (by simp[vp]) (fun w hw=>(lQ hl hn 5 w hw).1)
 have h:=jz (M:=M) (a0:=W "4") (a1:=W "0") (a2:=W "2") (a3:=W "1") (a4:=W "3") (a5:=l) (a6:=W "8") (a7:=W "ab") (a8:=W "5") (a9:=W "0") (b:=W "3") (us:=[W "ask",W "2",W "1",W "add",W "cd",W "0"]) hw
 cases e:num l with
 | none=>
  have e1:bu (W "2") (W "1") (W "3") l=none:=by simp[bF,bu,cA,eE,cB,bW,orderV,bK,bN,dH,dG,fj,qG,qT,sI,sH,sW,sV,sU,tR,sS,tQ,sZ,sY,sX,gH,bG.1,bG.2,e]
  rw[e1,hd0]at h
  exact .inr ⟨by simp[due,e],_,rfl,h⟩
 | some n=>
  by_cases q:n<0
  ·have q1:¬(0≤n):=by omega
   have q2:¬(1≤n):=by omega
   have e1:bu (W "2") (W "1") (W "3") l=none:=by simp[bF,bu,cA,eE,cB,bW,orderV,bK,bN,dH,dG,fj,qG,qT,sI,sH,sW,sV,sU,tR,sS,tQ,sZ,sY,sX,gH,bG.1,bG.2,e,q,q1,q2]
   rw[e1,hd0]at h
   exact .inr ⟨by simp[due,e,q,q1,q2],_,rfl,h⟩
  have q1:0≤n:=by omega
  by_cases p:1152921504606846976≤n
  ·have p1:¬(n<1152921504606846976):=by omega
   have e1:bu (W "2") (W "1") (W "3") l=none:=by simp[bF,bu,cA,eE,cB,bW,orderV,bK,bN,dH,dG,fj,qG,qT,sI,sH,sW,sV,sU,tR,sS,tQ,sZ,sY,sX,gH,bG.1,bG.2,e,q,q1,p,p1]
   rw[e1,hd0]at h
   exact .inr ⟨by simp[due,e,q,q1,p,p1],_,rfl,h⟩
  have p1:n<1152921504606846976:=by omega
  have e1:bu (W "2") (W "1") (W "3") l=some ((2,1,.tup [.int 3,.int n])):=by simp[bF,bu,cA,eE,cB,bW,orderV,bK,bN,dH,dG,fj,qG,qT,sI,sH,sW,sV,sU,tR,sS,tQ,sZ,sY,sX,gH,bG.1,bG.2,e,q,q1,p,p1]
  rw[e1,hd0,Bu,Bp,Yp]at h
  obtain⟨k,r,lk,M',er,K,g⟩:=h
  obtain⟨M3,ef,g3⟩:=fM K (s:=5) (by decide) (by decide) rfl
  exact .inl ⟨by simp[due,e,q,q1,p,p1],k,M',er,g,M3,by simpa[due,e,q,q1,p,p1]using ef,g3⟩
theorem abS{M:Mem}{l:List Nat}(hl:Cl l)(hn:l.length≤107):qj 6 l M:=by
 have hw:=gj (s:=6) (ws:=vp.set 6 l) (by simp[vp]) (fun w hw=>(lQ hl hn 6 w hw).1)
 have h:=jz (M:=M) (a0:=W "4") (a1:=W "0") (a2:=W "2") (a3:=W "1") (a4:=W "3") (a5:=W "6") (a6:=l) (a7:=W "ab") (a8:=W "5") (a9:=W "0") (b:=W "3") (us:=[W "ask",W "2",W "1",W "add",W "cd",W "0"]) hw
 cases e:num l with
 | none=>
  have e1:cA (W "ab") l=none:=by simp[bF,bu,cA,eE,cB,bW,orderV,bK,bN,dH,dG,fj,qG,qT,sI,sH,sW,sV,sU,tR,sS,tQ,sZ,sY,sX,gH,bG.1,bG.2,e]
  rw[e1,hd0,Bo]at h
  exact .inr ⟨by simp[due,e],_,rfl,h⟩
 | some n=>
  by_cases q0:n=0
  ·have e1:cA (W "ab") l=none:=by simp[bF,bu,cA,eE,cB,bW,orderV,bK,bN,dH,dG,fj,qG,qT,sI,sH,sW,sV,sU,tR,sS,tQ,sZ,sY,sX,gH,bG.1,bG.2,e,q0]
   rw[e1,hd0,Bo]at h
   exact .inr ⟨by simp[due,e,q0],_,rfl,h⟩
  ·have e1:cA (W "ab") l=some (.tup [.str "ab",.int n]):=by simp[bF,bu,cA,eE,cB,bW,orderV,bK,bN,dH,dG,fj,qG,qT,sI,sH,sW,sV,sU,tR,sS,tQ,sZ,sY,sX,gH,bG.1,bG.2,e,q0]
   rw[e1,hd0,Bo,Bp,Yp]at h
   obtain⟨k,r,lk,M',er,K,g⟩:=h
   obtain⟨M3,ef,g3⟩:=fM K (s:=6) (by decide) (by decide) rfl
   exact .inl ⟨by simp[due,e,q0],k,M',er,g,M3,by simpa[due,e,q0]using ef,g3⟩
theorem abR{M:Mem}{l:List Nat}(hl:Cl l)(hn:l.length≤107):qj 7 l M:=by
 have hw:=gj (s:=7) (ws:=vp.set 7 l) (by simp[vp]) (fun w hw=>(lQ hl hn 7 w hw).1)
 have h:=jz (M:=M) (a0:=W "4") (a1:=W "0") (a2:=W "2") (a3:=W "1") (a4:=W "3") (a5:=W "6") (a6:=W "8") (a7:=l) (a8:=W "5") (a9:=W "0") (b:=W "3") (us:=[W "ask",W "2",W "1",W "add",W "cd",W "0"]) hw
 cases e:j8 l with
 | false=>
  have e1:cA l (W "8")=none:=by simp[bF,bu,cA,eE,cB,bW,orderV,bK,bN,dH,dG,fj,qG,qT,sI,sH,sW,sV,sU,tR,sS,tQ,sZ,sY,sX,gH,bG.1,bG.2,e]
  rw[e1,hd0,Bo]at h
  exact .inr ⟨by simp[due,e],_,rfl,h⟩
 | true=>
  have e1:cA l (W "8")=some (.tup [.str (aY l),.int 8]):=by simp[bF,bu,cA,eE,cB,bW,orderV,bK,bN,dH,dG,fj,qG,qT,sI,sH,sW,sV,sU,tR,sS,tQ,sZ,sY,sX,gH,bG.1,bG.2,e]
  rw[e1,hd0,Bo,Bp,Yp]at h
  obtain⟨k,r,lk,M',er,K,g⟩:=h
  obtain⟨M3,ef,g3⟩:=fM K (s:=7) (by decide) (by decide) rfl
  exact .inl ⟨by simp[due,e],k,M',er,g,M3,by simpa[due,e]using ef,g3⟩
theorem abQ{M:Mem}{l:List Nat}(hl:Cl l)(hn:l.length≤107):qj 8 l M:=by
 have hw:=gj (s:=8) (ws:=vp.set 8 l) (by simp[vp]) (fun w hw=>(lQ hl hn 8 w hw).1)
 have h:=jz (M:=M) (a0:=W "4") (a1:=W "0") (a2:=W "2") (a3:=W "1") (a4:=W "3") (a5:=W "6") (a6:=W "8") (a7:=W "ab") (a8:=l) (a9:=W "0") (b:=W "3") (us:=[W "ask",W "2",W "1",W "add",W "cd",W "0"]) hw
 cases e:num l with
 | none=>
  have e1:eE l (W "1") (W "0")=none:=by simp[bF,bu,cA,eE,cB,bW,orderV,bK,bN,dH,dG,fj,qG,qT,sI,sH,sW,sV,sU,tR,sS,tQ,sZ,sY,sX,gH,bG.1,bG.2,e]
  rw[e1,hd0,Bo,Bu]at h
  exact .inr ⟨by simp[due,e],_,rfl,h⟩
 | some n=>
  have e1:eE l (W "1") (W "0")=some (.tup [.int n,.int 1,.int 0]):=by simp[bF,bu,cA,eE,cB,bW,orderV,bK,bN,dH,dG,fj,qG,qT,sI,sH,sW,sV,sU,tR,sS,tQ,sZ,sY,sX,gH,bG.1,bG.2,e]
  rw[e1,hd0,Bo,Bu,Yp]at h
  obtain⟨k,r,lk,M',er,K,g⟩:=h
  obtain⟨M3,ef,g3⟩:=fM K (s:=8) (by decide) (by decide) rfl
  exact .inl ⟨by simp[due,e],k,M',er,g,M3,by simpa[due,e]using ef,g3⟩
theorem abP{M:Mem}{l:List Nat}(hl:Cl l)(hn:l.length≤107):qj 9 l M:=by
 have hw:=gj (s:=9) (ws:=vp.set 9 l) (by simp[vp]) (fun w hw=>(lQ hl hn 9 w hw).1)
 have h:=jz (M:=M) (a0:=W "4") (a1:=W "0") (a2:=W "2") (a3:=W "1") (a4:=W "3") (a5:=W "6") (a6:=W "8") (a7:=W "ab") (a8:=W "5") (a9:=l) (b:=W "3") (us:=[W "ask",W "2",W "1",W "add",W "cd",W "0"]) hw
 cases e:num l with
 | none=>
  have e1:eE (W "5") (W "1") l=none:=by simp[bF,bu,cA,eE,cB,bW,orderV,bK,bN,dH,dG,fj,qG,qT,sI,sH,sW,sV,sU,tR,sS,tQ,sZ,sY,sX,gH,bG.1,bG.2,e]
  rw[e1,hd0,Bo,Bu]at h
  exact .inr ⟨by simp[due,e],_,rfl,h⟩
 | some n=>
  have e1:eE (W "5") (W "1") l=some (.tup [.int 5,.int 1,.int n]):=by simp[bF,bu,cA,eE,cB,bW,orderV,bK,bN,dH,dG,fj,qG,qT,sI,sH,sW,sV,sU,tR,sS,tQ,sZ,sY,sX,gH,bG.1,bG.2,e]
  rw[e1,hd0,Bo,Bu,Yp]at h
  obtain⟨k,r,lk,M',er,K,g⟩:=h
  obtain⟨M3,ef,g3⟩:=fM K (s:=9) (by decide) (by decide) rfl
  exact .inl ⟨by simp[due,e],k,M',er,g,M3,by simpa[due,e]using ef,g3⟩
theorem Zj{M:Mem}{l:List Nat}(hl:Cl l)(hn:l.length≤107):qj 10 l M:=by
 have hw:=gj (s:=10) (ws:=vp.set 10 l) (by simp[vp]) (fun w hw=>(lQ hl hn 10 w hw).1)
 have h:=jz (M:=M) (a0:=W "4") (a1:=W "0") (a2:=W "2") (a3:=W "1") (a4:=W "3") (a5:=W "6") (a6:=W "8") (a7:=W "ab") (a8:=W "5") (a9:=W "0") (b:=l) (us:=[W "ask",W "2",W "1",W "add",W "cd",W "0"]) hw
 cases e:num l with
 | none=>
  have e1:cB l [W "ask",W "2",W "1",W "add",W "cd",W "0"]=none:=by simp[bF,bu,cA,eE,cB,bW,orderV,bK,bN,dH,dG,fj,qG,qT,sI,sH,sW,sV,sU,tR,sS,tQ,sZ,sY,sX,gH,bG.1,bG.2,e]
  rw[e1,hd0,Bo,Bu,Bp]at h
  exact .inr ⟨by simp[due,e],_,rfl,h⟩
 | some n=>
  by_cases q:n<0
  ·have q1:¬(0≤n):=by omega
   have q2:¬(1≤n):=by omega
   have e1:cB l [W "ask",W "2",W "1",W "add",W "cd",W "0"]=none:=by simp[bF,bu,cA,eE,cB,bW,orderV,bK,bN,dH,dG,fj,qG,qT,sI,sH,sW,sV,sU,tR,sS,tQ,sZ,sY,sX,gH,bG.1,bG.2,e,q,q1,q2]
   rw[e1,hd0,Bo,Bu,Bp]at h
   exact .inr ⟨by simp[due,e,q,q1,q2],_,rfl,h⟩
  have q1:0≤n:=by omega
  have e1:cB l [W "ask",W "2",W "1",W "add",W "cd",W "0"]=some (.tup [.int n,.tup [.str "ask",.int 2,.int 1,.tup [.str "add",.str "cd",.int 0]]]):=by simp[bF,bu,cA,eE,cB,bW,orderV,bK,bN,dH,dG,fj,qG,qT,sI,sH,sW,sV,sU,tR,sS,tQ,sZ,sY,sX,gH,bG.1,bG.2,e,q,q1]
  rw[e1,hd0,Bo,Bu,Bp]at h
  obtain⟨k,r,lk,M',er,K,g⟩:=h
  obtain⟨M3,ef,g3⟩:=fM K (s:=10) (by decide) (by decide) rfl
  exact .inl ⟨by simp[due,e,q,q1],k,M',er,g,M3,by simpa[due,e,q,q1]using ef,g3⟩
theorem Zi{M:Mem}{l:List Nat}(hl:Cl l)(hn:l.length≤107):qj 11 l M:=by
 have hw:=gj (s:=11) (ws:=vp.set 11 l) (by simp[vp]) (fun w hw=>(lQ hl hn 11 w hw).1)
 have h:=jz (M:=M) (a0:=W "4") (a1:=W "0") (a2:=W "2") (a3:=W "1") (a4:=W "3") (a5:=W "6") (a6:=W "8") (a7:=W "ab") (a8:=W "5") (a9:=W "0") (b:=W "3") (us:=[W "ask",W "2",l,W "add",W "cd",W "0"]) hw
 cases e:num l with
 | none=>
  have e1:cB (W "3") [W "ask",W "2",l,W "add",W "cd",W "0"]=none:=by simp[bF,bu,cA,eE,cB,bW,orderV,bK,bN,dH,dG,fj,qG,qT,sI,sH,sW,sV,sU,tR,sS,tQ,sZ,sY,sX,gH,bG.1,bG.2,e]
  rw[e1,hd0,Bo,Bu,Bp]at h
  exact .inr ⟨by simp[due,e],_,rfl,h⟩
 | some n=>
  have e1:cB (W "3") [W "ask",W "2",l,W "add",W "cd",W "0"]=some (.tup [.int 3,.tup [.str "ask",.int 2,.int n,.tup [.str "add",.str "cd",.int 0]]]):=by simp[bF,bu,cA,eE,cB,bW,orderV,bK,bN,dH,dG,fj,qG,qT,sI,sH,sW,sV,sU,tR,sS,tQ,sZ,sY,sX,gH,bG.1,bG.2,e]
  rw[e1,hd0,Bo,Bu,Bp]at h
  obtain⟨k,r,lk,M',er,K,g⟩:=h
  obtain⟨M3,ef,g3⟩:=fM K (s:=11) (by decide) (by decide) rfl
  exact .inl ⟨by simp[due,e],k,M',er,g,M3,by simpa[due,e]using ef,g3⟩
theorem Zh{M:Mem}{l:List Nat}(hl:Cl l)(hn:l.length≤107):qj 12 l M:=by
 have hw:=gj (s:=12) (ws:=vp.set 12 l) (by simp[vp]) (fun w hw=>(lQ hl hn 12 w hw).1)
 have h:=jz (M:=M) (a0:=W "4") (a1:=W "0") (a2:=W "2") (a3:=W "1") (a4:=W "3") (a5:=W "6") (a6:=W "8") (a7:=W "ab") (a8:=W "5") (a9:=W "0") (b:=W "3") (us:=[W "ask",W "2",W "1",W "add",l,W "0"]) hw
 cases e:j8 l with
 | false=>
  have e1:cB (W "3") [W "ask",W "2",W "1",W "add",l,W "0"]=none:=by simp[bF,bu,cA,eE,cB,bW,orderV,bK,bN,dH,dG,fj,qG,qT,sI,sH,sW,sV,sU,tR,sS,tQ,sZ,sY,sX,gH,bG.1,bG.2,e]
  rw[e1,hd0,Bo,Bu,Bp]at h
  exact .inr ⟨by simp[due,e],_,rfl,h⟩
 | true=>
  have e1:cB (W "3") [W "ask",W "2",W "1",W "add",l,W "0"]=some (.tup [.int 3,.tup [.str "ask",.int 2,.int 1,.tup [.str "add",.str (aY l),.int 0]]]):=by simp[bF,bu,cA,eE,cB,bW,orderV,bK,bN,dH,dG,fj,qG,qT,sI,sH,sW,sV,sU,tR,sS,tQ,sZ,sY,sX,gH,bG.1,bG.2,e]
  rw[e1,hd0,Bo,Bu,Bp]at h
  obtain⟨k,r,lk,M',er,K,g⟩:=h
  obtain⟨M3,ef,g3⟩:=fM K (s:=12) (by decide) (by decide) rfl
  exact .inl ⟨by simp[due,e],k,M',er,g,M3,by simpa[due,e]using ef,g3⟩
theorem Zg{M:Mem}{l:List Nat}(hl:Cl l)(hn:l.length≤107):qj 13 l M:=by
 have hw:=gj (s:=13) (ws:=vp.set 13 l) (by simp[vp]) (fun w hw=>(lQ hl hn 13 w hw).1)
 have h:=jz (M:=M) (a0:=W "4") (a1:=W "0") (a2:=W "2") (a3:=W "1") (a4:=W "3") (a5:=W "6") (a6:=W "8") (a7:=W "ab") (a8:=W "5") (a9:=W "0") (b:=W "3") (us:=[W "ask",W "2",W "1",W "add",W "cd",l]) hw
 cases e:num l with
 | none=>
  have e1:cB (W "3") [W "ask",W "2",W "1",W "add",W "cd",l]=none:=by simp[bF,bu,cA,eE,cB,bW,orderV,bK,bN,dH,dG,fj,qG,qT,sI,sH,sW,sV,sU,tR,sS,tQ,sZ,sY,sX,gH,bG.1,bG.2,e]
  rw[e1,hd0,Bo,Bu,Bp]at h
  exact .inr ⟨by simp[due,e],_,rfl,h⟩
 | some n=>
  have e1:cB (W "3") [W "ask",W "2",W "1",W "add",W "cd",l]=some (.tup [.int 3,.tup [.str "ask",.int 2,.int 1,.tup [.str "add",.str "cd",.int n]]]):=by simp[bF,bu,cA,eE,cB,bW,orderV,bK,bN,dH,dG,fj,qG,qT,sI,sH,sW,sV,sU,tR,sS,tQ,sZ,sY,sX,gH,bG.1,bG.2,e]
  rw[e1,hd0,Bo,Bu,Bp]at h
  obtain⟨k,r,lk,M',er,K,g⟩:=h
  obtain⟨M3,ef,g3⟩:=fM K (s:=13) (by decide) (by decide) rfl
  exact .inl ⟨by simp[due,e],k,M',er,g,M3,by simpa[due,e]using ef,g3⟩
theorem Zf{M:Mem}{l:List Nat}(hl:Cl l)(hn:l.length≤107):qj 14 l M:=by
 have hw:=gj (s:=14) (ws:=vp.set 14 l) (by simp[vp]) (fun w hw=>(lQ hl hn 14 w hw).1)
 have h:=jz (M:=M) (a0:=W "4") (a1:=W "0") (a2:=W "2") (a3:=W "1") (a4:=W "3") (a5:=W "6") (a6:=W "8") (a7:=W "ab") (a8:=W "5") (a9:=W "0") (b:=W "3") (us:=[W "roll",l,W "0"]) hw
 cases e:num l with
 | none=>
  have e1:cB (W "3") [W "roll",l,W "0"]=none:=by simp[bF,bu,cA,eE,cB,bW,orderV,bK,bN,dH,dG,fj,qG,qT,sI,sH,sW,sV,sU,tR,sS,tQ,sZ,sY,sX,gH,bG.1,bG.2,e]
  rw[e1,hd0,Bo,Bu,Bp]at h
  exact .inr ⟨by simp[due,e],_,rfl,h⟩
 | some n=>
  by_cases q:n<0
  ·have q1:¬(0≤n):=by omega
   have q2:¬(1≤n):=by omega
   have e1:cB (W "3") [W "roll",l,W "0"]=none:=by simp[bF,bu,cA,eE,cB,bW,orderV,bK,bN,dH,dG,fj,qG,qT,sI,sH,sW,sV,sU,tR,sS,tQ,sZ,sY,sX,gH,bG.1,bG.2,e,q,q1,q2]
   rw[e1,hd0,Bo,Bu,Bp]at h
   exact .inr ⟨by simp[due,e,q,q1,q2],_,rfl,h⟩
  have q1:0≤n:=by omega
  by_cases p:1152921504606846976≤n
  ·have p1:¬(n<1152921504606846976):=by omega
   have e1:cB (W "3") [W "roll",l,W "0"]=none:=by simp[bF,bu,cA,eE,cB,bW,orderV,bK,bN,dH,dG,fj,qG,qT,sI,sH,sW,sV,sU,tR,sS,tQ,sZ,sY,sX,gH,bG.1,bG.2,e,q,q1,p,p1]
   rw[e1,hd0,Bo,Bu,Bp]at h
   exact .inr ⟨by simp[due,e,q,q1,p,p1],_,rfl,h⟩
  have p1:n<1152921504606846976:=by omega
  by_cases q0:n=0
  ·have e1:cB (W "3") [W "roll",l,W "0"]=none:=by simp[bF,bu,cA,eE,cB,bW,orderV,bK,bN,dH,dG,fj,qG,qT,sI,sH,sW,sV,sU,tR,sS,tQ,sZ,sY,sX,gH,bG.1,bG.2,e,q,p,p1,q0]
   rw[e1,hd0,Bo,Bu,Bp]at h
   exact .inr ⟨by simp[due,e,q,p,p1,q0],_,rfl,h⟩
  have q2:1≤n:=by omega
  have e1:cB (W "3") [W "roll",l,W "0"]=some (.tup [.int 3,.tup [.str "roll",.int n,.int 0]]):=by simp[bF,bu,cA,eE,cB,bW,orderV,bK,bN,dH,dG,fj,qG,qT,sI,sH,sW,sV,sU,tR,sS,tQ,sZ,sY,sX,gH,bG.1,bG.2,e,q,q1,p,p1,q0,q2]
  rw[e1,hd0,Bo,Bu,Bp]at h
  obtain⟨k,r,lk,M',er,K,g⟩:=h
  obtain⟨M3,ef,g3⟩:=Hv K (s:=14) (by decide)
  exact .inl ⟨by simp[due,e,q,q1,p,p1,q0,q2],k,M',er,g,M3,by simpa[due,e,q,q1,p,p1,q0,q2]using ef,g3⟩
theorem Ze{M:Mem}{l:List Nat}(hl:Cl l)(hn:l.length≤107):qj 15 l M:=by
 have hw:=gj (s:=15) (ws:=vp.set 15 l) (by simp[vp]) (fun w hw=>(lQ hl hn 15 w hw).1)
 have h:=jz (M:=M) (a0:=W "4") (a1:=W "0") (a2:=W "2") (a3:=W "1") (a4:=W "3") (a5:=W "6") (a6:=W "8") (a7:=W "ab") (a8:=W "5") (a9:=W "0") (b:=W "3") (us:=[W "roll",W "9",l]) hw
 cases e:num l with
 | none=>
  have e1:cB (W "3") [W "roll",W "9",l]=none:=by simp[bF,bu,cA,eE,cB,bW,orderV,bK,bN,dH,dG,fj,qG,qT,sI,sH,sW,sV,sU,tR,sS,tQ,sZ,sY,sX,gH,bG.1,bG.2,e]
  rw[e1,hd0,Bo,Bu,Bp]at h
  exact .inr ⟨by simp[due,e],_,rfl,h⟩
 | some n=>
  by_cases q:n<0
  ·have q1:¬(0≤n):=by omega
   have q2:¬(1≤n):=by omega
   have e1:cB (W "3") [W "roll",W "9",l]=none:=by simp[bF,bu,cA,eE,cB,bW,orderV,bK,bN,dH,dG,fj,qG,qT,sI,sH,sW,sV,sU,tR,sS,tQ,sZ,sY,sX,gH,bG.1,bG.2,e,q,q1,q2]
   rw[e1,hd0,Bo,Bu,Bp]at h
   exact .inr ⟨by simp[due,e,q,q1,q2],_,rfl,h⟩
  have q1:0≤n:=by omega
  by_cases p:1152921504606846976≤n
  ·have p1:¬(n<1152921504606846976):=by omega
   have e1:cB (W "3") [W "roll",W "9",l]=none:=by simp[bF,bu,cA,eE,cB,bW,orderV,bK,bN,dH,dG,fj,qG,qT,sI,sH,sW,sV,sU,tR,sS,tQ,sZ,sY,sX,gH,bG.1,bG.2,e,q,q1,p,p1]
   rw[e1,hd0,Bo,Bu,Bp]at h
   exact .inr ⟨by simp[due,e,q,q1,p,p1],_,rfl,h⟩
  have p1:n<1152921504606846976:=by omega
  have e1:cB (W "3") [W "roll",W "9",l]=some (.tup [.int 3,.tup [.str "roll",.int 9,.int n]]):=by simp[bF,bu,cA,eE,cB,bW,orderV,bK,bN,dH,dG,fj,qG,qT,sI,sH,sW,sV,sU,tR,sS,tQ,sZ,sY,sX,gH,bG.1,bG.2,e,q,q1,p,p1]
  rw[e1,hd0,Bo,Bu,Bp]at h
  obtain⟨k,r,lk,M',er,K,g⟩:=h
  obtain⟨M3,ef,g3⟩:=Hv K (s:=15) (by decide)
  exact .inl ⟨by simp[due,e,q,q1,p,p1],k,M',er,g,M3,by simpa[due,e,q,q1,p,p1]using ef,g3⟩
def yX(t:Str)(g:Bool):Prop:=∀M:Mem,(g=true∧∃k M',cH [.str (Txt.join "\n" ["book 0 -","base 0 0 1 0",aY (W "at 7 " ++ W t),"end 3"])] M= .ok (.ref k) M'∧Gr M M')∨(g=false∧Nm M (Txt.join "\n" ["book 0 -","base 0 0 1 0",aY (W "at 7 " ++ W t),"end 3"]) 3)
def wdB(w:List Nat):Bool:=decide (32∉w)&&decide (10∉w)&&decide (w.length≤150)
theorem h40:bF (W "0") (W "-")=some (0,.non):=by simp[bF,dG,qG]
theorem b40:bu (W "0") (W "0") (W "1") (W "0")=some (0,0,.tup [.int 1,.int 0]):=by simp[bu,bN,dH,dG,qG,qT]
theorem Az{us:List (List Nat)}{g:Bool}{t:Str}(h0:us≠[])(ht:W t=dw 32 us)(hl:us.length≤15)(hwd:us.all wdB=true)(hg:(cB (W "7") us).isSome=g):yX t g:=by
 intro M
 have hW:∀{t:Str},(decide (32∉W t)&&decide (10∉W t)&&decide ((W t).length≤150))=true→Wd (W t):=fun h=>Ai h
 have hu:∀w∈us,Wd w:=fun w hw=>by
  have:=List.all_eq_true.mp hwd w hw
  simp only[wdB,Bool.and_eq_true,decide_eq_true_eq]at this
  exact⟨this.1.1,this.1.2,this.2⟩
 have hw:∀ws∈BW us,yz ws:=by
  intro ws hx
  simp only[BW,List.mem_cons,List.not_mem_nil,or_false]at hx
  rcases hx with rfl | rfl | rfl | rfl
  ·exact⟨by simp,by simp,by simp only[List.mem_cons,List.not_mem_nil,or_false,forall_eq_or_imp,forall_eq];exact⟨hW (by decide),hW (by decide),hW (by decide)⟩⟩
  ·exact⟨by simp,by simp,by simp only[List.mem_cons,List.not_mem_nil,or_false,forall_eq_or_imp,forall_eq];exact⟨hW (by decide),hW (by decide),hW (by decide),hW (by decide),hW (by decide)⟩⟩
  ·refine⟨by simp,by simp;omega,fun w hw=> ?_⟩
   rcases List.mem_cons.mp hw with rfl | hw
   ·exact hW (by decide)
   ·rcases List.mem_cons.mp hw with rfl | hw
    ·exact hW (by decide)
    ·exact hu w hw
  ·exact⟨by simp,by simp,by simp only[List.mem_cons,List.not_mem_nil,or_false,forall_eq_or_imp,forall_eq];exact⟨hW (by decide),hW (by decide)⟩⟩
 have h:=aaY (M:=M) (us:=us) hw h40 b40
 have et:(BW us).map bL=(["book 0 -","base 0 0 1 0",aY (W "at 7 " ++ W t),"end 3"]:List Str):=by
  have r1:bL [W "book",W "0",W "-"]= "book 0 -" := by rw[jZ];decide
  have r2:bL [W "base",W "0",W "0",W "1",W "0"]= "base 0 0 1 0" := by rw[jZ];decide
  have r4:bL [W "end",W "3"]= "end 3" := by rw[jZ];decide
  have r3:bL (W "at" :: W "7" :: us)=aY (W "at 7 " ++ W t):=by
   have hj:∀{c:Nat} {w:List Nat} {x:List (List Nat)},x≠[]→dw c (w::x)=w++c::dw c x:=fun{c w x} h=>by
    cases x with
    | nil=>exact absurd rfl h
    | cons _ _=>rfl
   rw[jZ,ht,hj (by simp),hj h0,show W "at 7 " = W "at" ++ 32::(W "7" ++ [32]) by decide]
   simp
  simp only[BW,List.map_cons,List.map_nil,r1,r2,r3,r4]
 rw[et]at h
 cases e:cB (W "7") us with
 | none=>
  rw[e]at h hg
  exact .inr ⟨hg.symm,h⟩
 | some d=>
  rw[e]at h hg
  exact .inl ⟨hg.symm,h⟩
theorem od0:yX "start" true:=Az (us:=[W "start"]) (by simp) (by decide) (by simp) (by decide) (by decide +kernel)
theorem od1:yX "begin" false:=Az (us:=[W "begin"]) (by simp) (by decide) (by simp) (by decide) (by decide +kernel)
theorem od2:yX "Start" false:=Az (us:=[W "Start"]) (by simp) (by decide) (by simp) (by decide) (by decide +kernel)
theorem od3:yX "start start" false:=Az (us:=[W "start",W "start"]) (by simp) (by decide) (by simp) (by decide) (by decide +kernel)
theorem od4:yX "" false:=Az (us:=[W ""]) (by simp) (by decide) (by simp) (by decide) (by decide +kernel)
theorem od5:yX "ask 0 1 move ab 4" false:=Az (us:=[W "ask",W "0",W "1",W "move",W "ab",W "4"]) (by simp) (by decide) (by simp) (by decide) (by decide +kernel)
theorem od6:yX "ask 0 1 put ab 4" true:=Az (us:=[W "ask",W "0",W "1",W "put",W "ab",W "4"]) (by simp) (by decide) (by simp) (by decide) (by decide +kernel)
theorem od7:yX "ask 0 1 swap ab 4" false:=Az (us:=[W "ask",W "0",W "1",W "swap",W "ab",W "4"]) (by simp) (by decide) (by simp) (by decide) (by decide +kernel)
theorem od8:yX "ask 0 1 put ab 4 5" false:=Az (us:=[W "ask",W "0",W "1",W "put",W "ab",W "4",W "5"]) (by simp) (by decide) (by simp) (by decide) (by decide +kernel)
theorem od9:yX "ask 0 1 swap ab 4 -5" true:=Az (us:=[W "ask",W "0",W "1",W "swap",W "ab",W "4",W "-5"]) (by simp) (by decide) (by simp) (by decide) (by decide +kernel)
theorem ada:yX "ask 0 put ab 4" false:=Az (us:=[W "ask",W "0",W "put",W "ab",W "4"]) (by simp) (by decide) (by simp) (by decide) (by decide +kernel)
theorem ac_:yX "roll 1 0" true:=Az (us:=[W "roll",W "1",W "0"]) (by simp) (by decide) (by simp) (by decide) (by decide +kernel)
theorem ac9:yX "roll 0 1" false:=Az (us:=[W "roll",W "0",W "1"]) (by simp) (by decide) (by simp) (by decide) (by decide +kernel)
theorem ac8:yX "roll 1 0 0" false:=Az (us:=[W "roll",W "1",W "0",W "0"]) (by simp) (by decide) (by simp) (by decide) (by decide +kernel)
theorem ac7:yX "add ab 4" false:=Az (us:=[W "add",W "ab",W "4"]) (by simp) (by decide) (by simp) (by decide) (by decide +kernel)
theorem ac5{M:Mem}{n:Int}:∃M',kE [.int n] M= .ok (.bl true) M'∧Gr M M':=by
 obtain⟨M1,nJ⟩:∃M1,M1=M++[MO.lst [.tup [.str "start",.bl true],.tup [.str "begin",.bl false],.tup [.str "Start",.bl false],.tup [.str "start start",.bl false],.tup [.str "",.bl false]]]:=⟨_,rfl⟩
 have u1:M1[M.length]? = some (.lst [.tup [.str "start",.bl true],.tup [.str "begin",.bl false],.tup [.str "Start",.bl false],.tup [.str "start start",.bl false],.tup [.str "",.bl false]]):=by rw[nJ];exact aP
 have g1:Gr M M1:=by rw[nJ];exact Gr.app
 obtain⟨M2,v_⟩:∃M2,M2=M1++[MO.lst [.tup [.str "ask 0 1 move ab 4",.bl false],.tup [.str "ask 0 1 put ab 4",.bl true],.tup [.str "ask 0 1 swap ab 4",.bl false]]]:=⟨_,rfl⟩
 have u2:M2[M1.length]? = some (.lst [.tup [.str "ask 0 1 move ab 4",.bl false],.tup [.str "ask 0 1 put ab 4",.bl true],.tup [.str "ask 0 1 swap ab 4",.bl false]]):=by rw[v_];exact aP
 have g2:Gr M1 M2:=by rw[v_];exact Gr.app
 have e2:=uD (g2 _ _ u1) u2 (by simp)
 obtain⟨M3,PK⟩:∃M3,M3=M2++[MO.lst ([.tup [.str "start",.bl true],.tup [.str "begin",.bl false],.tup [.str "Start",.bl false],.tup [.str "start start",.bl false],.tup [.str "",.bl false]]++[.tup [.str "ask 0 1 move ab 4",.bl false],.tup [.str "ask 0 1 put ab 4",.bl true],.tup [.str "ask 0 1 swap ab 4",.bl false]])]:=⟨_,rfl⟩
 rw[←PK]at e2
 have u3:M3[M2.length]? = some (.lst ([.tup [.str "start",.bl true],.tup [.str "begin",.bl false],.tup [.str "Start",.bl false],.tup [.str "start start",.bl false],.tup [.str "",.bl false]]++[.tup [.str "ask 0 1 move ab 4",.bl false],.tup [.str "ask 0 1 put ab 4",.bl true],.tup [.str "ask 0 1 swap ab 4",.bl false]])):=by rw[PK];exact aP
 have g3:Gr M2 M3:=by rw[PK];exact Gr.app
 have u3':M3[M2.length]? = some (.lst [.tup [.str "start",.bl true],.tup [.str "begin",.bl false],.tup [.str "Start",.bl false],.tup [.str "start start",.bl false],.tup [.str "",.bl false],.tup [.str "ask 0 1 move ab 4",.bl false],.tup [.str "ask 0 1 put ab 4",.bl true],.tup [.str "ask 0 1 swap ab 4",.bl false]]):=u3
 clear u3
 have u3:=u3'
 obtain⟨M4,Df⟩:∃M4,M4=M3++[MO.lst [.tup [.str "ask 0 1 put ab 4 5",.bl false],.tup [.str "ask 0 1 swap ab 4 -5",.bl true],.tup [.str "ask 0 put ab 4",.bl false]]]:=⟨_,rfl⟩
 have u4:M4[M3.length]? = some (.lst [.tup [.str "ask 0 1 put ab 4 5",.bl false],.tup [.str "ask 0 1 swap ab 4 -5",.bl true],.tup [.str "ask 0 put ab 4",.bl false]]):=by rw[Df];exact aP
 have g4:Gr M3 M4:=by rw[Df];exact Gr.app
 have e4:=uD (g4 _ _ u3) u4 (by simp)
 obtain⟨M5,Q9⟩:∃M5,M5=M4++[MO.lst ([.tup [.str "start",.bl true],.tup [.str "begin",.bl false],.tup [.str "Start",.bl false],.tup [.str "start start",.bl false],.tup [.str "",.bl false],.tup [.str "ask 0 1 move ab 4",.bl false],.tup [.str "ask 0 1 put ab 4",.bl true],.tup [.str "ask 0 1 swap ab 4",.bl false]]++[.tup [.str "ask 0 1 put ab 4 5",.bl false],.tup [.str "ask 0 1 swap ab 4 -5",.bl true],.tup [.str "ask 0 put ab 4",.bl false]])]:=⟨_,rfl⟩
 rw[←Q9]at e4
 have u5:M5[M4.length]? = some (.lst ([.tup [.str "start",.bl true],.tup [.str "begin",.bl false],.tup [.str "Start",.bl false],.tup [.str "start start",.bl false],.tup [.str "",.bl false],.tup [.str "ask 0 1 move ab 4",.bl false],.tup [.str "ask 0 1 put ab 4",.bl true],.tup [.str "ask 0 1 swap ab 4",.bl false]]++[.tup [.str "ask 0 1 put ab 4 5",.bl false],.tup [.str "ask 0 1 swap ab 4 -5",.bl true],.tup [.str "ask 0 put ab 4",.bl false]])):=by rw[Q9];exact aP
 have g5:Gr M4 M5:=by rw[Q9];exact Gr.app
 have u5':M5[M4.length]? = some (.lst [.tup [.str "start",.bl true],.tup [.str "begin",.bl false],.tup [.str "Start",.bl false],.tup [.str "start start",.bl false],.tup [.str "",.bl false],.tup [.str "ask 0 1 move ab 4",.bl false],.tup [.str "ask 0 1 put ab 4",.bl true],.tup [.str "ask 0 1 swap ab 4",.bl false],.tup [.str "ask 0 1 put ab 4 5",.bl false],.tup [.str "ask 0 1 swap ab 4 -5",.bl true],.tup [.str "ask 0 put ab 4",.bl false]]):=u5
 clear u5
 have u5:=u5'
 obtain⟨M6,VJ⟩:∃M6,M6=M5++[MO.lst [.tup [.str "roll 1 0",.bl true],.tup [.str "roll 0 1",.bl false],.tup [.str "roll 1 0 0",.bl false],.tup [.str "add ab 4",.bl false]]]:=⟨_,rfl⟩
 have u6:M6[M5.length]? = some (.lst [.tup [.str "roll 1 0",.bl true],.tup [.str "roll 0 1",.bl false],.tup [.str "roll 1 0 0",.bl false],.tup [.str "add ab 4",.bl false]]):=by rw[VJ];exact aP
 have g6:Gr M5 M6:=by rw[VJ];exact Gr.app
 have e6:=uD (g6 _ _ u5) u6 (by simp)
 obtain⟨M7,hM7⟩:∃M7,M7=M6++[MO.lst ([.tup [.str "start",.bl true],.tup [.str "begin",.bl false],.tup [.str "Start",.bl false],.tup [.str "start start",.bl false],.tup [.str "",.bl false],.tup [.str "ask 0 1 move ab 4",.bl false],.tup [.str "ask 0 1 put ab 4",.bl true],.tup [.str "ask 0 1 swap ab 4",.bl false],.tup [.str "ask 0 1 put ab 4 5",.bl false],.tup [.str "ask 0 1 swap ab 4 -5",.bl true],.tup [.str "ask 0 put ab 4",.bl false]]++[.tup [.str "roll 1 0",.bl true],.tup [.str "roll 0 1",.bl false],.tup [.str "roll 1 0 0",.bl false],.tup [.str "add ab 4",.bl false]])]:=⟨_,rfl⟩
 rw[←hM7]at e6
 have u7:M7[M6.length]? = some (.lst ([.tup [.str "start",.bl true],.tup [.str "begin",.bl false],.tup [.str "Start",.bl false],.tup [.str "start start",.bl false],.tup [.str "",.bl false],.tup [.str "ask 0 1 move ab 4",.bl false],.tup [.str "ask 0 1 put ab 4",.bl true],.tup [.str "ask 0 1 swap ab 4",.bl false],.tup [.str "ask 0 1 put ab 4 5",.bl false],.tup [.str "ask 0 1 swap ab 4 -5",.bl true],.tup [.str "ask 0 put ab 4",.bl false]]++[.tup [.str "roll 1 0",.bl true],.tup [.str "roll 0 1",.bl false],.tup [.str "roll 1 0 0",.bl false],.tup [.str "add ab 4",.bl false]])):=by rw[hM7];exact aP
 have g7:Gr M6 M7:=by rw[hM7];exact Gr.app
 have u7':M7[M6.length]? = some (.lst [.tup [.str "start",.bl true],.tup [.str "begin",.bl false],.tup [.str "Start",.bl false],.tup [.str "start start",.bl false],.tup [.str "",.bl false],.tup [.str "ask 0 1 move ab 4",.bl false],.tup [.str "ask 0 1 put ab 4",.bl true],.tup [.str "ask 0 1 swap ab 4",.bl false],.tup [.str "ask 0 1 put ab 4 5",.bl false],.tup [.str "ask 0 1 swap ab 4 -5",.bl true],.tup [.str "ask 0 put ab 4",.bl false],.tup [.str "roll 1 0",.bl true],.tup [.str "roll 0 1",.bl false],.tup [.str "roll 1 0 0",.bl false],.tup [.str "add ab 4",.bl false]]):=u7
 clear u7
 have u7:=u7'
 obtain⟨d,hd,ed⟩:=Sv (M:=M7) (n:=M6.length) (z:=n) (j:=15) u7 rfl (by decide)
 have fin:∃(t:Str) (g:Bool),d= .tup [.str t,.bl g]∧yX t g∧(W t).length≤30:=by
  simp only[List.mem_cons,List.not_mem_nil,or_false]at hd
  rcases hd with rfl | rfl | rfl | rfl | rfl | rfl | rfl | rfl | rfl | rfl | rfl | rfl | rfl | rfl | rfl
  ·exact⟨_,_,rfl,od0,by decide⟩
  ·exact⟨_,_,rfl,od1,by decide⟩
  ·exact⟨_,_,rfl,od2,by decide⟩
  ·exact⟨_,_,rfl,od3,by decide⟩
  ·exact⟨_,_,rfl,od4,by decide⟩
  ·exact⟨_,_,rfl,od5,by decide⟩
  ·exact⟨_,_,rfl,od6,by decide⟩
  ·exact⟨_,_,rfl,od7,by decide⟩
  ·exact⟨_,_,rfl,od8,by decide⟩
  ·exact⟨_,_,rfl,od9,by decide⟩
  ·exact⟨_,_,rfl,ada,by decide⟩
  ·exact⟨_,_,rfl,ac_,by decide⟩
  ·exact⟨_,_,rfl,ac9,by decide⟩
  ·exact⟨_,_,rfl,ac8,by decide⟩
  ·exact⟨_,_,rfl,ac7,by decide⟩
 obtain⟨t,g,rfl,hP,htl⟩:=fin
 have l7:(W "at 7 ").length=5:=by decide
 have ea:d9 (.str "at 7 ") (.str t) M7= .ok (.str (aY (W "at 7 " ++ W t))) M7:=by
  have:=addW (s:= "at 7 ") (b:=W t) (by omega) M7
  rw[jM]at this
  exact this
 obtain⟨X,hX⟩:∃X,X=aY (W "at 7 " ++ W t):=⟨_,rfl⟩
 rw[←hX]at ea
 unfold yX at hP
 rw[←hX]at hP
 obtain⟨M8,hM8⟩:∃M8,M8=M7++[MO.lst ((["book 0 -","base 0 0 1 0",X,"end 3"]:List Str).map D.str)]:=⟨_,rfl⟩
 have ahD:M8=M7++[MO.lst [.str "book 0 -",.str "base 0 0 1 0",.str X,.str "end 3"]]:=hM8
 have u8:M8[M7.length]? = some (.lst ((["book 0 -","base 0 0 1 0",X,"end 3"]:List Str).map D.str)):=by rw[hM8];exact aP
 have g8:Gr M7 M8:=by rw[hM8];exact Gr.app
 have hj:JoinOk "\n" ["book 0 -","base 0 0 1 0",X,"end 3"]=true:=by
  rw[SN]
  refine Q5 (n:=150) (fun y hy=> ?_) (by simp)
  simp only[List.mem_cons,List.not_mem_nil,or_false]at hy
  rcases hy with rfl | rfl | rfl | rfl
  ·decide +kernel
  ·decide +kernel
  ·rw[hX,qH,List.length_append];omega
  ·decide +kernel
 have e8:=GJ u8 hj
 have tS:∀(t:Str) M,MK "str" (.str t) M=true:=fun _ _=>rfl
 have ahE:=(((((((g1.trans g2).trans g3).trans g4).trans g5).trans g6).trans g7).trans g8)
 clear hX
 rcases hP M8 with⟨rfl,k,M9,e9,g9⟩ | ⟨rfl,M9,e9,g9⟩
 ·refine⟨M9,?_,ahE.trans g9⟩
  have et:jh [some (.int n),some (.ref M6.length),some (.str t),some (.bl true),some .non,none] M7= .next [some (.int n),some (.ref M6.length),some (.str t),some (.bl true),some .non,none] M9:=by
   simp only[jh,pF]
   simp[ea,←ahD,tS,e8,e9]
  simp only[kE,fC,pX]
  simp[←nJ,←v_,e2,←Df,e4,←VJ,e6,md,ed,et,Jp]
 ·refine⟨M9,?_,ahE.trans g9⟩
  have et:jh [some (.int n),some (.ref M6.length),some (.str t),some (.bl false),some .non,none] M7= .next [some (.int n),some (.ref M6.length),some (.str t),some (.bl false),some (.int 3),none] M9:=by
   simp only[jh,pF,vz]
   simp[ea,←ahD,tS,e8,e9]
   rw[Nk (by rfl)]
   simp
  simp only[kE,fC,pX]
  simp[←nJ,←v_,e2,←Df,e4,←VJ,e6,md,ed,et]
theorem Wu{M:Mem}{l:List Nat}(hl:Cl l)(hn:l.length≤107){s:Int}(h0:0≤s)(h1:s<16):qj s l M:=by
 have:s=0∨s=1∨s=2∨s=3∨s=4∨s=5∨s=6∨s=7∨s=8∨s=9∨s=10∨s=11∨s=12∨s=13∨s=14∨s=15:=by omega
 rcases this with rfl | rfl | rfl | rfl | rfl | rfl | rfl | rfl | rfl | rfl | rfl | rfl | rfl | rfl | rfl | rfl
 ·exact abY hl hn
 ·exact abX hl hn
 ·exact abW hl hn
 ·exact abV hl hn
 ·exact abU hl hn
 ·exact abT hl hn
 ·exact abS hl hn
 ·exact abR hl hn
 ·exact abQ hl hn
 ·exact abP hl hn
 ·exact Zj hl hn
 ·exact Zi hl hn
 ·exact Zh hl hn
 ·exact Zg hl hn
 ·exact Zf hl hn
 ·exact Ze hl hn
theorem Vm(s:Int)(l:List Nat)(M:Mem):jf [(due s l).2,(due s l).2] M= .ok (.bl true) M:=by
 unfold due
 split
 ·exact Vz
 ·split
  ·exact JN
  ·split
   ·exact JN
   ·exact VB
theorem Y8{M:Mem}{ns:List Int}{i:Nat}{T:Int}(hT:0<T)(hT1:T≤10 ^ 40)(pw:∀M:Mem,Ko (.int 10) (.int 40) M= .ok (.int T) M){v2 v3 v4 v5 v6 v7 v8 v9:Option D}:
  ∃(w2 w3 w4 w5 w6 w7 w8 w9:Option D) (M':Mem),z8 [some (.cl (ns.map D.int)),some (.int (0+(i:Int))),v2,v3,v4,v5,v6,v7,v8,v9,none] M= .next [some (.cl (ns.map D.int)),some (.int (0+(i:Int))),w2,w3,w4,w5,w6,w7,w8,w9,none] M'∧Gr M M':=by
 have ec:jn [.cl (ns.map D.int),.int (0+(i:Int))] M= .ok (.int (cell ns i)) M:=T3 ns i (by omega)
 obtain⟨c,hc⟩:∃c,c=cell ns i:=⟨_,rfl⟩
 rw[←hc]at ec
 obtain⟨xs,x,M1,hxs,e1,hx1,g1⟩:=Gk (M:=M) c 6 (nn:=6) rfl (by decide)
 obtain⟨x5,p5,z5,_⟩:=xN hxs (i:=5) (by decide)
 have i5:bh (.ref x) (.int 5) M1= .ok (.int x5) M1:=uc hx1 rfl p5
 have bs:=An x5 (j:=16) (by decide)
 obtain⟨s,hs⟩:∃s,s=x5 % 16:=⟨_,rfl⟩
 rw[←hs]at bs
 have em:nQ (.int x5) (.int 16) M1= .ok (.int s) M1:=by rw[md _ _ _ (by decide),←hs]
 obtain⟨l,M2,e2,cl,ll,g2⟩:=Y0 (c:=c) hT hT1 pw hx1 hxs
 obtain⟨M3,e3,g3⟩:=adO (M:=M2) (l:=l) (by omega) bs.1 bs.2
 obtain⟨M4,e4,g4⟩:=Y_ (M:=M3) cl ll bs.1 bs.2
 have g04:=((g1.trans g2).trans g3).trans g4
 have ha:=Vm s l
 have hsp:=Wu (M:=M4) cl ll bs.1 bs.2
 obtain⟨g,hg⟩:∃g,g=(due s l).1:=⟨_,rfl⟩
 obtain⟨d,hd⟩:∃d,d=(due s l).2:=⟨_,rfl⟩
 unfold qj T23 at hsp
 rw[←hg,←hd]at hsp
 rw[←hg,←hd]at e3
 rw[←hd]at ha
 obtain⟨t,ht⟩:∃t,t=Txt.join "\n" ((rowsOf s (vp.set s.toNat l)).map bL):=⟨_,rfl⟩
 rw[←ht]at e4 hsp
 clear hg hd ht hs hc
 rcases hsp with⟨rfl,k,M5,e5,g5,M6,e6,g6⟩ | ⟨rfl,n,hn,M5,e5,g5⟩
 ·refine⟨some (.int c),some (.ref x),some (.int s),some (.str (aY l)),some (.bl true),some d,some .non,some (.ref k),M6,?_,(g04.trans g5).trans g6⟩
  have et:CK [some (.cl (ns.map D.int)),some (.int (0+(i:Int))),some (.int c),some (.ref x),some (.int s),some (.str (aY l)),some (.bl true),some d,some .non,some .non,none] M3= .next [some (.cl (ns.map D.int)),some (.int (0+(i:Int))),some (.int c),some (.ref x),some (.int s),some (.str (aY l)),some (.bl true),some d,some .non,some (.ref k),none] M5:=by
   simp only[CK,JV]
   simp[e4,e5]
  have e7:CJ [some (.cl (ns.map D.int)),some (.int (0+(i:Int))),some (.int c),some (.ref x),some (.int s),some (.str (aY l)),some (.bl true),some d,some .non,some (.ref k),none] M5= .next [some (.cl (ns.map D.int)),some (.int (0+(i:Int))),some (.int c),some (.ref x),some (.int s),some (.str (aY l)),some (.bl true),some d,some .non,some (.ref k),none] M6:=by
   simp only[CJ]
   simp[Jp,e6,ha]
  have e8:CG [some (.cl (ns.map D.int)),some (.int (0+(i:Int))),some (.int c),some (.ref x),some (.int s),some (.str (aY l)),some (.bl true),some d,some .non,some (.ref k),none] M6= .next [some (.cl (ns.map D.int)),some (.int (0+(i:Int))),some (.int c),some (.ref x),some (.int s),some (.str (aY l)),some (.bl true),some d,some .non,some (.ref k),none] M6:=by
   simp only[CG]
   simp
  simp only[z8,Int.zero_add]at et e7 e8 ec ⊢
  simp[ec,e1,i5,em,e2,e3,et,e7,e8]
 ·obtain⟨M6,VJ⟩:∃M6,M6=M5++[MO.lst (abi.map D.int)]:=⟨_,rfl⟩
  have aot:M6=M5++[MO.lst [.int 1,.int 1,.int 2,.int 2,.int 2,.int 2,.int 3,.int 3,.int 4,.int 4,.int 5,.int 5,.int 5,.int 5,.int 5,.int 5]]:=VJ
  have g6:Gr M5 M6:=by rw[VJ];exact Gr.app
  have i6:bh (.ref M5.length) (.int s) M6= .ok (.int n) M6:=qR (by rw[VJ];exact aP) bs.1 (by rw[List.getElem?_map,hn];rfl)
  refine⟨some (.int c),some (.ref x),some (.int s),some (.str (aY l)),some (.bl false),some d,some (.int n),some .non,M6,?_,(g04.trans g5).trans g6⟩
  have et:CK [some (.cl (ns.map D.int)),some (.int (0+(i:Int))),some (.int c),some (.ref x),some (.int s),some (.str (aY l)),some (.bl false),some d,some .non,some .non,none] M3= .next [some (.cl (ns.map D.int)),some (.int (0+(i:Int))),some (.int c),some (.ref x),some (.int s),some (.str (aY l)),some (.bl false),some d,some (.int n),some .non,none] M5:=by
   simp only[CK,JV,RB]
   simp[e4,e5]
   rw[Nk (by rfl)]
   simp
  have e7:CJ [some (.cl (ns.map D.int)),some (.int (0+(i:Int))),some (.int c),some (.ref x),some (.int s),some (.str (aY l)),some (.bl false),some d,some (.int n),some .non,none] M5= .next [some (.cl (ns.map D.int)),some (.int (0+(i:Int))),some (.int c),some (.ref x),some (.int s),some (.str (aY l)),some (.bl false),some d,some (.int n),some .non,none] M5:=by
   simp only[CJ]
   simp
  have e8:CG [some (.cl (ns.map D.int)),some (.int (0+(i:Int))),some (.int c),some (.ref x),some (.int s),some (.str (aY l)),some (.bl false),some d,some (.int n),some .non,none] M5= .next [some (.cl (ns.map D.int)),some (.int (0+(i:Int))),some (.int c),some (.ref x),some (.int s),some (.str (aY l)),some (.bl false),some d,some (.int n),some .non,none] M6:=by
   simp only[CG]
   simp[←aot,i6]
  simp only[z8,Int.zero_add]at et e7 e8 ec ⊢
  simp[ec,e1,i5,em,e2,e3,et,e7,e8]
theorem adt:∀ns:List Int,ns.length≤63→∃M,XC [.cl (ns.map D.int)] []= .ok (.bl true) M:=by
 intro ns hns
 obtain⟨T,hT⟩:∃T:Int,T=10 ^ 40:=⟨_,rfl⟩
 have hT0:0<T:=by rw[hT];decide
 have hT1:T≤10 ^ 40:=by rw[hT];exact Int.le_refl _
 have pw:∀M:Mem,Ko (.int 10) (.int 40) M= .ok (.int T) M:=fun M=>by rw[hT];exact WN (by decide)
 clear hT
 have c0:jn [.cl (ns.map D.int),.int 0] []= .ok (.int (cell ns 0)) []:=T3 ns 0 rfl
 obtain⟨xs,x,M1,hxs,e1,hx1,g1⟩:=Gk (M:=[]) (cell ns 0) 1 (nn:=1) rfl (by decide)
 obtain⟨x0,p0,z0,_⟩:=xN hxs (i:=0) (by decide)
 have i0:bh (.ref x) (.int 0) M1= .ok (.int x0) M1:=uc hx1 rfl p0
 obtain⟨M2,e2,g2⟩:=ac5 (M:=M1) (n:=x0)
 obtain⟨m,hm⟩:∃m:Int,m=if(if(30:Int)<(ns.length:Int)then 30 else(ns.length:Int)) > 1 then(if(30:Int)<(ns.length:Int)then 30 else(ns.length:Int))else 1:=⟨_,rfl⟩
 have hm1:0≤m∧m≤30:=by rw[hm];split<;>split at* <;> omega
 have r1:N8 [.int m] M2= .ok ⟨none,Jf 0 m.toNat⟩ M2:=N7 (by omega) (by omega)
 obtain⟨e',M6,e6,w2,w3,w4,w5,w6,w7,w8,w9,v1,he⟩:=Jx (src:=none) (g:=gN 1) (b:=z8)
  (fun _ e M'=>∃v2 v3 v4 v5 v6 v7 v8 v9 v1:Option D,e=[some (.cl (ns.map D.int)),v1,v2,v3,v4,v5,v6,v7,v8,v9,none]) (ds:=Jf 0 m.toNat) (e:=[some (.cl (ns.map D.int)),none,none,none,none,none,none,none,none,none,none]) (M:=M2) ⟨none,none,none,none,none,none,none,none,none,rfl⟩
  (fun i e M' _ h=>trivial) (fun i d e M' hd h=>by
   obtain⟨v2,v3,v4,v5,v6,v7,v8,v9,v1,rfl⟩:=h
   obtain⟨_,rfl⟩:=Sh hd
   refine⟨_,rfl,?_⟩
   obtain⟨w2,w3,w4,w5,w6,w7,w8,w9,M'',e,_⟩:=Y8 (M:=M') (ns:=ns) (i:=i) hT0 hT1 pw (v2:=v2) (v3:=v3) (v4:=v4) (v5:=v5) (v6:=v6) (v7:=v7) (v8:=v8) (v9:=v9)
   show(z8 [some (.cl (ns.map D.int)),some (.int (0+(i:Int))),v2,v3,v4,v5,v6,v7,v8,v9,none] M').to _ _
   rw[e]
   exact⟨w2,w3,w4,w5,w6,w7,w8,w9,_,rfl⟩)
 subst he
 refine⟨M6,?_⟩
 simp only[XC,JM,Th,Tr]
 simp[c0,e1,i0,e2]
 simp only[gt_iff_lt]at hm
 simp[←hm,r1,e6]
end My
namespace My
open PySem L2 S
def top(i:Nat):Stmt:=PySem.Challenge.pw_chairvote_k23_words_of_a_book.main.body.getD i (.Pass ⟨0,0,0,0⟩)
abbrev fW:Stmt:=inClass (top 14) 0
abbrev dg:Stmt:=inClass (top 2) 0
abbrev eO:Stmt:=inClass (top 14) 1
abbrev cL:Stmt:=inClass (top 14) 3
abbrev t7:Stmt:=top 11
abbrev jd:Stmt:=top 12
abbrev eU:Stmt:=inClass (top 14) 5
abbrev bO:Stmt:=inClass (top 14) 6
abbrev eX:Stmt:=inClass (top 14) 7
abbrev fX:Stmt:=inClass (top 14) 8
abbrev eV:Stmt:=inClass (top 14) 4
abbrev iY:Stmt:=top 20
abbrev cj:Stmt:=inClass (top 14) 9
abbrev i_:Stmt:=top 21
abbrev dU:Stmt:=inClass (top 14) 2
abbrev m8:Stmt:=top 13
abbrev fV:Stmt:=inClass (top 14) 10
abbrev fP:Stmt:=top 22
abbrev eN:Stmt:=top 23
abbrev jX:Stmt:=inClass (top 16) 0
abbrev gR:Stmt:=top 24
abbrev iW:Stmt:=top 25
abbrev eG:Stmt:=top 26
abbrev dR:Stmt:=inClass (top 14) 11
abbrev jW:Stmt:=inClass (top 16) 17
abbrev je:Stmt:=inClass (top 19) 0
abbrev iZ:Stmt:=top 27
abbrev dN:Stmt:=top 37
abbrev gU:Stmt:=top 30
abbrev fQ:Stmt:=top 29
abbrev jT:Stmt:=top 31
abbrev jV:Stmt:=top 32
abbrev m6:Stmt:=top 33
abbrev jU:Stmt:=top 35
abbrev jc:Stmt:=top 36
abbrev fU:Stmt:=inClass (top 16) 1
abbrev jb:Stmt:=top 34
abbrev BP:Stmt:=top 38
structure Adr where
 n8:Addr
 oF:FuncData
 jE:Addr
 nG:FuncData
 mz:Addr
 mK:FuncData
 ji:Addr
 jj:FuncData
 CT:Addr
 CV:FuncData
 rP:Addr
 sy:FuncData
 mD:Addr
 mL:FuncData
 gA:Addr
 gB:FuncData
 mG:Addr
 mQ:FuncData
 n_:Addr
 oG:FuncData
 mF:Addr
 mO:FuncData
 rJ:Addr
 rW:FuncData
 iI:Addr
 iJ:FuncData
 rM:Addr
 rZ:FuncData
 kW:Addr
 k_:FuncData
 wO:Addr
 wU:FuncData
 n6:Addr
 oE:FuncData
 nW:Addr
 oh:FuncData
 mq:Addr
 mJ:FuncData
 uV:Addr
 u_:FuncData
 pZ:Addr
 p8:FuncData
 rH:Addr
 rT:FuncData
 mj:Addr
 mH:FuncData
 kO:Addr
 kZ:FuncData
 uU:Addr
 u9:FuncData
 rQ:Addr
 sE:FuncData
 rK:Addr
 rY:FuncData
 kJ:Addr
 kY:FuncData
 p6:Addr
 p_:FuncData
 nY:Addr
 ou:FuncData
 uQ:Addr
 uX:FuncData
 uT:Addr
 uZ:FuncData
 wN:Addr
 wR:FuncData
 uR:Addr
 uY:FuncData
 rO:Addr
 su:FuncData
 nZ:Addr
 oA:FuncData
 rN:Addr
 sr:FuncData
 Jy:Addr
 E_:FuncData
 fG:Addr
 zW:Addr
 yt:Addr
 dJ:Addr
 jG:Addr
 Ju:Tok
 Tn:Tok
 Jt:Tok
 zH:Tok
 zG:Tok
 wg:Addr
structure Txt(K:PySem.W.Frag)(mg:Str→Option Value)(t:Adr):Prop where
 zP:bU K "__init__" "Reader.__init__" fW .none t.n8 t.oF
 jt:Binds K t.oF ["self","text"] []
 uq:Mk K t.fG t.n8
 vP:bU K "__init__" "HallError.__init__" dg .none t.jE t.nG
 bB:Binds K t.nG ["self","at"] []
 yN:bU K "words" "Reader.words" eO .none t.mz t.mK
 e_:Binds K t.mK ["self"] []
 oX:Meth K t.fG "words" t.mz
 uP:bU K "words_of" "Reader.words_of" cL .none t.ji t.jj
 bQ:Binds K t.jj ["self","first","count"] []
 fL:Meth K t.fG "words_of" t.ji
 CP:bU K "is_of" "is_of" t7 .none t.CT t.CV
 rz:Binds K t.CV ["word","signs","most"] []
 G_:mg "is_of" = some (.ref t.CT)
 yq:bU K "is_number" "is_number" jd .none t.rP t.sy
 mU:Binds K t.sy ["word"] []
 Cr:mg "is_number" = some (.ref t.rP)
 yO:bU K "whole" "Reader.whole" eU .none t.mD t.mL
 bR:Binds K t.mL ["self","word"] []
 fB:Meth K t.fG "whole" t.mD
 qg:bU K "from_nought" "Reader.from_nought" bO .none t.gA t.gB
 aZ:Binds K t.gB ["self","word"] []
 dM:Meth K t.fG "from_nought" t.gA
 yQ:bU K "below" "Reader.below" eX .none t.mG t.mQ
 cY:Binds K t.mQ ["self","word","bound"] []
 oY:Meth K t.fG "below" t.mG
 zQ:bU K "hand" "Reader.hand" fX .none t.n_ t.oG
 ig:Binds K t.oG ["self","word"] []
 zy:Meth K t.fG "hand" t.n_
 yP:bU K "go_on" "Reader.go_on" eV .none t.mF t.mO
 cX:Binds K t.mO ["self"] []
 iU:Meth K t.fG "go_on" t.mF
 yj:bU K "read_head" "read_head" iY .none t.rJ t.rW
 jk:Binds K t.rW ["reader"] []
 Ck:mg "read_head" = some (.ref t.rJ)
 tW:bU K "both_sets" "Reader.both_sets" cj .none t.iI t.iJ
 bM:Binds K t.iJ ["self","one","two"] []
 nH:Meth K t.fG "both_sets" t.iI
 ym:bU K "read_base" "read_base" i_ .none t.rM t.rZ
 h_:Binds K t.rZ ["reader"] []
 Cm:mg "read_base" = some (.ref t.rM)
 wM:bU K "begins" "Reader.begins" dU .none t.kW t.k_
 dW:Binds K t.k_ ["self","word"] []
 m9:Meth K t.fG "begins" t.kW
 Be:bU K "is_name" "is_name" m8 .none t.wO t.wU
 qP:Binds K t.wU ["word"] []
 Hf:mg "is_name" = some (.ref t.wO)
 zO:bU K "name" "Reader.name" fV .none t.n6 t.oE
 gh:Binds K t.oE ["self","word"] []
 uK:Meth K t.fG "name" t.n6
 uO:bU K "read_values" "read_values" fP .none t.nW t.oh
 fZ:Binds K t.oh ["reader"] []
 zq:mg "read_values" = some (.ref t.nW)
 tE:bU K "read_answers" "read_answers" eN .none t.mq t.mJ
 eZ:Binds K t.mJ ["reader"] []
 yI:mg "read_answers" = some (.ref t.mq)
 EY:bU K "__init__" "Row.__init__" jX .none t.uV t.u_
 mV:Binds K t.u_ ["self","base","base_term","base_roll","entries"] []
 A_:Mk K t.zW t.uV
 wj:bU K "read_order" "read_order" gR .none t.pZ t.p8
 gf:Binds K t.p8 ["reader","words"] []
 Ao:mg "read_order" = some (.ref t.pZ)
 yh:bU K "read_what" "read_what" iW .none t.rH t.rT
 bV:Binds K t.rT ["reader","words"] []
 Cj:mg "read_what" = some (.ref t.rH)
 tD:bU K "read_entries" "read_entries" eG .none t.mj t.mH
 gC:Binds K t.mH ["reader"] []
 yH:mg "read_entries" = some (.ref t.mj)
 wL:bU K "finish" "Reader.finish" dR .none t.kO t.kZ
 gM:Binds K t.kZ ["self"] []
 wG:Meth K t.fG "finish" t.kO
 Ez:bU K "twin" "Row.twin" jW .none t.uU t.u9
 o7:Binds K t.u9 ["self"] []
 En:Meth K t.zW "twin" t.uU
 CQ:bU K "__init__" "Book.__init__" je .none t.rQ t.sE
 mW:Binds K t.sE ["self","term","vote","row","kept"] []
 Ad:Mk K t.yt t.rQ
 ug:bU K "read_book" "read_book" iZ .none t.rK t.rY
 cW:Binds K t.rY ["text"] []
 xX:mg "read_book" = some (.ref t.rK)
 qN:bU K "_law_odd_entry" "_law_odd_entry" dN .none t.kJ t.kY
 fC:Binds K t.kY ["_law_number"] []
 wF:mg "_law_odd_entry" = some (.ref t.kJ)
 q_:bU K "_law_stream" "_law_stream" gU .none t.p6 t.p_
 jl:Binds K t.p_ ["_law_cell","_law_size"] []
 vW:mg "_law_stream" = some (.ref t.p6)
 pY:bU K "_law_cell_at" "_law_cell_at" fQ .none t.nY t.ou
 ie:Binds K t.ou ["_law_script","_law_k"] []
 uJ:mg "_law_cell_at" = some (.ref t.nY)
 zK:bU K "_law_word" "_law_word" jT .none t.uQ t.uX
 o6:Binds K t.uX ["_law_xs","_law_cell"] []
 Ek:mg "_law_word" = some (.ref t.uQ)
 zM:bU K "_law_read" "_law_read" jV .none t.uT t.uZ
 iK:Binds K t.uZ ["_law_word_here"] []
 Em:mg "_law_read" = some (.ref t.uT)
 Bd:bU K "_law_due" "_law_due" m6 .none t.wN t.wR
 lB:Binds K t.wR ["_law_spot","_law_word_here"] []
 G9:mg "_law_due" = some (.ref t.wN)
 zL:bU K "_law_text" "_law_text" jU .none t.uR t.uY
 qO:Binds K t.uY ["_law_spot","_law_word_here"] []
 El:mg "_law_text" = some (.ref t.uR)
 yp:bU K "_law_alike" "_law_alike" jc .none t.rO t.su
 jm:Binds K t.su ["_law_found_here","_law_due_here"] []
 Cq:mg "_law_alike" = some (.ref t.rO)
 zN:bU K "entries" "Row.entries" fU .none t.nZ t.oA
 jr:Binds K t.oA ["self"] []
 zx:Meth K t.zW "entries" t.nZ
 yo:bU K "_law_found" "_law_found" jb .none t.rN t.sr
 jN:Binds K t.sr ["_law_book","_law_spot"] []
 Cp:mg "_law_found" = some (.ref t.rN)
 Ra:bU K "law" "law" BP .none t.Jy t.E_
 JM:Binds K t.E_ ["_law_script"] []
 Xy:mg "law" = some (.ref t.Jy)
 aF:PB K t.fG
 Jh:mg "Reader" = some (.ref t.fG)
 eY:lE K t.fG "rows"
 aQ:lE K t.fG "here"
 jq:PB K t.zW
 QL:mg "Row" = some (.ref t.zW)
 jL:lE K t.zW "base"
 d7:lE K t.zW "base_term"
 dh:lE K t.zW "base_roll"
 dZ:lE K t.zW "kept"
 j9:PB K t.yt
 SQ:mg "Book" = some (.ref t.yt)
 j4:lE K t.yt "term"
 j0:lE K t.yt "vote"
 lW:lE K t.yt "row"
 di:lE K t.yt "kept"
 K8:mg "HallError" = some (.ref t.dJ)
 J2:XMk K t.dJ t.jE
 xF:Dc K t.dJ "at"
 xr:XIs K t.dJ
 xm:PySem.W.exmOne K (.ref t.dJ) (.ref t.dJ)=some true
 yd:PySem.W.kitOne K (.ref t.dJ) (.ref t.dJ)=some true
 pG:PySem.W.exmOne K (.ref t.dJ) (.ref t.jG)=some false
 Cz:PySem.W.kitOne K (.ref t.dJ) (.ref t.jG)=some false
 jx:mg "Torn" = some (.ref t.jG)
 lF:XMk K t.jG t.jE
 jw:Dc K t.jG "at"
 J3:XIs K t.jG
 Br:PySem.W.exmOne K (.ref t.jG) (.ref t.dJ)=some true
 Cy:PySem.W.kitOne K (.ref t.jG) (.ref t.dJ)=some true
 xj:PySem.W.exmOne K (.ref t.jG) (.ref t.jG)=some true
 Le:PySem.W.kitOne K (.ref t.jG) (.ref t.jG)=some true
 abq:mg "all" = none
 XD:mg "bool" = none
 SX:mg "int" = none
 pP:mg "isinstance" = none
 rE:mg "len" = none
 QV:mg "list" = none
 abp:mg "max" = none
 abo:mg "min" = none
 La:mg "range" = none
 Eo:mg "str" = none
 Cv:mg "tuple" = none
 Hh:mg "FIGURES" = some (.str "0123456789" t.Ju)
 Cu:mg "HANDS" = some (.int 60 t.Tn)
 Hg:mg "LETTERS" = some (.str "abcdefghijklmnopqrstuvwxyz" t.Jt)
 yK:mg "MOST_FIGURES" = some (.int 100 t.zH)
 yJ:mg "MOST_LETTERS" = some (.int 8 t.zG)
 zu:mg "ORDER_WORDS" = some (.ref t.wg)
 za:aeG K t.wg [("put",3),("add",3),("swap",4)]
def cO(t:Adr):Nat→Addr:=fun k=>match k with
 | 3=>t.fG
 | 4=>t.zW
 | 5=>t.yt
 | 0=>t.dJ
 | 2=>t.jG
 | _=>0
section
variable{P:Program}{w:World}{K:PySem.W.Frag}{mg:Str→Option Value}{base:Heap}{t:Adr}
theorem Gy:bf ["self","text"] ["self","text"] (au fW):=yF
theorem BL:bf ["self","at"] ["self","at"] (au dg):=yF
theorem Fi:bf ["self"] ["self"] (au eO):=yF
theorem uz:bf ["self","first","count","words"] ["self","first","count"] (au cL):=yF
theorem WM:bf ["word","signs","most"] ["word","signs","most"] (au t7):=yF
theorem xP:bf ["word","figures"] ["word"] (au jd):=yF
theorem Fj:bf ["self","word"] ["self","word"] (au eU):=yF
theorem qe:bf ["self","word","number"] ["self","word"] (au bO):=yF
theorem yE:bf ["self","word","bound","number"] ["self","word","bound"] (au eX):=yF
theorem Gz:bf ["self","word"] ["self","word"] (au fX):=yF
theorem Fl:bf ["self"] ["self"] (au eV):=yF
theorem pL:bf ["reader","words","vote","head"] ["reader"] (au iY):=yF
theorem tM:bf ["self","one","two","roll"] ["self","one","two"] (au cj):=yF
theorem t6:bf ["reader","words","place","base"] ["reader"] (au i_):=yF
theorem Dq:bf ["self","word"] ["self","word"] (au dU):=yF
theorem Qp:bf ["word"] ["word"] (au m8):=yF
theorem Gx:bf ["self","word"] ["self","word"] (au fV):=yF
theorem pK:bf ["reader","values","words","value"] ["reader"] (au fP):=yF
theorem oV:bf ["reader","answers","words","answer"] ["reader"] (au eN):=yF
theorem NK:bf ["self","base","base_term","base_roll","entries"] ["self","base","base_term","base_roll","entries"] (au jX):=yF
theorem Am:bf ["reader","words","numbers"] ["reader","words"] (au gR):=yF
theorem Kf:bf ["reader","words"] ["reader","words"] (au iW):=yF
theorem oU:bf ["reader","entries","words","what"] ["reader"] (au eG):=yF
theorem wD:bf ["self","words"] ["self"] (au dR):=yF
theorem NB:bf ["self"] ["self"] (au jW):=yF
theorem Kh:bf ["self","term","vote","row","kept"] ["self","term","vote","row","kept"] (au je):=yF
theorem jR:bf ["text","reader","head","base","values","answers","row"] ["text"] (au iZ):=yF
theorem cF:bf ["_law_number","_law_some","_law_row","_law_good","_law_torn","e"] ["_law_number"] (au dN):=yF
theorem nP:bf ["_law_cell","_law_size","_law_found_here","_law_number","_law_k"] ["_law_cell","_law_size"] (au gU):=yF
theorem Gv:bf ["_law_script","_law_k"] ["_law_script","_law_k"] (au fQ):=yF
theorem jJ:bf ["_law_xs","_law_cell","_law_word_here","_law_at","_law_signs"] ["_law_xs","_law_cell"] (au jT):=yF
theorem zc:bf ["_law_word_here","_law_figures"] ["_law_word_here"] (au jV):=yF
theorem qx:bf ["_law_spot","_law_word_here","_law_strange","_law_number","_law_good"] ["_law_spot","_law_word_here"] (au m6):=yF
theorem zb:bf ["_law_spot","_law_word_here","_law_words","_law_rows"] ["_law_spot","_law_word_here"] (au jU):=yF
theorem Kg:bf ["_law_found_here","_law_due_here"] ["_law_found_here","_law_due_here"] (au jc):=yF
theorem Gw:bf ["self"] ["self"] (au fU):=yF
theorem pM:bf ["_law_book","_law_spot","_law_row","_law_entry","_law_some"] ["_law_book","_law_spot"] (au jb):=yF
theorem qz:bf ["_law_script","_law_k","_law_cell","_law_xs","_law_spot","_law_word_here","_law_good","_law_due_here","_law_torn","_law_book","e"] ["_law_script"] (au BP):=yF
theorem G3(T:Txt K mg t):bx P w K mg base (iM P w) 1 t.n8 t.oF ["self","text"] (spS K (cO t) qW 2):=by
 show bx P w K mg base (iM P w) (0+1) t.n8 t.oF ["self","text"] (spS K (cO t) (cu 2 jt) 2)
 refine lC (n:=2) (ar:=2) (k:=0) (b:=jt) T.zP Gy rfl rfl ?_
 intro cdv A outer s H E W hr
 exact(aC (uy (cs:=[3]) ⟨⟨T.aF,T.eY⟩,True.intro⟩ (aj 0) (rC PySem.F.plainAttrs_str PySem.F.slot_str_split PySem.F.type_str_split Oj (aj 1) (ak aL aB)))
  (aM (uy (cs:=[3]) ⟨⟨T.aF,T.aQ⟩,True.intro⟩ (aj 0) az)))
theorem bJ(T:Txt K mg t):bx P w K mg base Rx 1 t.jE t.nG ["self","at"] (z9 K "at"):=
 Yh (k:=0) T.vP BL rfl fun cdv A outer s H E=>Su (ZV (pv 0) (pv 1) rfl)
theorem sO(T:Txt K mg t):bx P w K mg base (iM P w) 3 t.mz t.mK ["self"] (spS K (cO t) iH 1):=by
 show bx P w K mg base (iM P w) (2+1) t.mz t.mK ["self"] (spS K (cO t) (cu 1 e_) 1)
 have aN:= @bJ P w K mg base t T
 refine lC (n:=1) (ar:=1) (k:=2) (b:=e_) T.yN Fi rfl rfl ?_
 intro cdv A outer s H E W hr
 exact(aC (dX (bH Ff (cI (cs:=[3]) ⟨⟨T.aF,T.aQ⟩,True.intro⟩ (aj 0)) (cT nM rfl T.rE nO (ak (cI (cs:=[3]) ⟨⟨T.aF,T.eY⟩,True.intro⟩ (aj 0)) aB)) (a_ _)) (aM (jB (c:=2) T.lF T.jw aN (hr.mono (by decide)) T.bB rfl T.jx rfl Tk.wish (ak (cI (cs:=[3]) ⟨⟨T.aF,T.aQ⟩,True.intro⟩ (aj 0)) aB))) bZ)
  (aM (bA (rC PySem.F.plainAttrs_str PySem.F.slot_str_split PySem.F.type_str_split Oj (aV hr.units (cI (cs:=[3]) ⟨⟨T.aF,T.eY⟩,True.intro⟩ (aj 0)) (aU Ed (cI (cs:=[3]) ⟨⟨T.aF,T.aQ⟩,True.intro⟩ (aj 0)) az)) (ak aL aB)))))
theorem iC(T:Txt K mg t):bx P w K mg base (iM P w) 4 t.ji t.jj ["self","first","count"] (spS K (cO t) cM 3):=by
 show bx P w K mg base (iM P w) (3+1) t.ji t.jj ["self","first","count"] (spS K (cO t) (cu 4 bQ) 3)
 have mX:= @sO P w K mg base t T
 have aN:= @bJ P w K mg base t T
 refine lC (n:=4) (ar:=3) (k:=3) (b:=bQ) T.uP uz rfl rfl ?_
 intro cdv A outer s H E W hr
 exact(aC (aW (i:=3) uz.nd rfl (Or.inl rfl) (lR (kc:=3) (aj 0) T.aF T.oX mX Tk.wish (hr.mono (by decide)) T.e_ .nil))
  (aC (dX (SW.pt (I_ (bH (Aw hr.units) (aV hr.units (aj 3) az) (aj 1) (a_ _)) (Dj (bH (Aw hr.units) (cT nM rfl T.rE nO (ak (aj 3) aB)) (aj 2) (a_ _))))) (aM (jB (c:=2) T.lF T.jw aN (hr.mono (by decide)) T.bB rfl T.jx rfl Tk.wish (ak (cI (cs:=[3]) ⟨⟨T.aF,T.aQ⟩,True.intro⟩ (aj 0)) aB))) bZ)
  (aM (bA (aj 3)))))
theorem Og(T:Txt K mg t):bx P w K mg base (iM P w) 1 t.CT t.CV ["word","signs","most"] (spS K (cO t) xZ 3):=by
 show bx P w K mg base (iM P w) (0+1) t.CT t.CV ["word","signs","most"] (spS K (cO t) (cu 3 rz) 3)
 refine lC (n:=3) (ar:=3) (k:=0) (b:=rz) T.CP WM rfl rfl ?_
 intro cdv A outer s H E W hr
 exact(aM (bA (Dp (qw JF az (cT nM rfl T.rE nO (ak (aj 0) aB)) (a_ _)) (Dp (qw JF (cT nM rfl T.rE nO (ak (aj 0) aB)) (aj 2) (a_ _)) (Gu (cT (adQ rfl) rfl T.abq aeo (ak (RQ rfl ["signs"] [1] (Qn (aj 0)) ⟨⟨rfl,rfl,by first | exact .inl rfl | exact .inr rfl⟩,True.intro⟩ (fun _ _ _ _ _=>Kc) (fun _ _ _ _ _=>(qw aev (aj 0) (aj 1) (by with_unfolding_all rfl))) (by decide +kernel) (by decide +kernel) (by decide +kernel) (by decide +kernel)) aB)))))))
theorem KY(T:Txt K mg t):bx P w K mg base (iM P w) 2 t.rP t.sy ["word"] (spS K (cO t) vJ 1):=by
 show bx P w K mg base (iM P w) (1+1) t.rP t.sy ["word"] (spS K (cO t) (cu 2 mU) 1)
 have MJ:= @Og P w K mg base t T
 refine lC (n:=2) (ar:=1) (k:=1) (b:=mU) T.yq xP rfl rfl ?_
 intro cdv A outer s H E W hr
 exact(aC (aW (i:=1) xP.nd rfl (Or.inl rfl) (aj 0))
  (aC (dX (qt (rC PySem.F.plainAttrs_str PySem.F.slot_str_startswith PySem.F.type_str_startswith Jg (aj 0) (ak aL aB))) (aM (aW (i:=1) xP.nd rfl (Or.inl rfl) (vC (aj 0) (jQ az) m5))) bZ)
  (aC (dX (Dl (qt (d8 MJ Tk.wish (hr.mono (by decide)) rfl T.G_ T.CP.kp T.rz .nil (ak (aj 1) (ak (RP rfl T.Hh) (ak (BJ rfl T.yK) aB)))))) (aM (bA lU)) bZ)
  (aM (bA (afB (qw (lg hr.units) (aj 0) aL (a_ _)) (Gu (WK (rC PySem.F.plainAttrs_str PySem.F.slot_str_startswith PySem.F.type_str_startswith Jg (aj 1) (ak aL aB))))))))))
theorem iT(T:Txt K mg t):bx P w K mg base (iM P w) 3 t.mD t.mL ["self","word"] (spS K (cO t) bz 2):=by
 show bx P w K mg base (iM P w) (2+1) t.mD t.mL ["self","word"] (spS K (cO t) (cu 2 bR) 2)
 have Py:= @KY P w K mg base t T
 have aN:= @bJ P w K mg base t T
 refine lC (n:=2) (ar:=2) (k:=2) (b:=bR) T.yO Fj rfl rfl ?_
 intro cdv A outer s H E W hr
 exact(aC (dX (Dl (qt (d8 Py Tk.wish (hr.mono (by decide)) rfl T.Cr T.yq.kp T.mU .nil (ak (aj 1) aB)))) (aM (jB (c:=2) T.lF T.jw aN (hr.mono (by decide)) T.bB rfl T.jx rfl Tk.wish (ak (cI (cs:=[3]) ⟨⟨T.aF,T.aQ⟩,True.intro⟩ (aj 0)) aB))) bZ)
  (aM (bA (jC Yt rfl T.SX Rg (ak (aj 1) aB)))))
theorem iQ(T:Txt K mg t):bx P w K mg base (iM P w) 4 t.gA t.gB ["self","word"] (spS K (cO t) bI 2):=by
 show bx P w K mg base (iM P w) (3+1) t.gA t.gB ["self","word"] (spS K (cO t) (cu 3 aZ) 2)
 have cD:= @iT P w K mg base t T
 have aN:= @bJ P w K mg base t T
 refine lC (n:=3) (ar:=2) (k:=3) (b:=aZ) T.qg qe rfl rfl ?_
 intro cdv A outer s H E W hr
 exact(aC (aW (i:=2) qe.nd rfl (Or.inl rfl) (cR (kc:=3) (aj 0) T.aF T.fB cD Tk.wish (hr.mono (by decide)) T.bR .nil (ak (aj 1) aB)))
  (aC (dX (bH (yu hr.units) (aj 2) az (a_ _)) (aM (jB (c:=2) T.lF T.jw aN (hr.mono (by decide)) T.bB rfl T.jx rfl Tk.wish (ak (cI (cs:=[3]) ⟨⟨T.aF,T.aQ⟩,True.intro⟩ (aj 0)) aB))) bZ)
  (aM (bA (aj 2)))))
theorem yG(T:Txt K mg t):bx P w K mg base (iM P w) 5 t.mG t.mQ ["self","word","bound"] (spS K (cO t) gq 3):=by
 show bx P w K mg base (iM P w) (4+1) t.mG t.mQ ["self","word","bound"] (spS K (cO t) (cu 4 cY) 3)
 have b_:= @iQ P w K mg base t T
 have aN:= @bJ P w K mg base t T
 refine lC (n:=4) (ar:=3) (k:=4) (b:=cY) T.yQ yE rfl rfl ?_
 intro cdv A outer s H E W hr
 exact(aC (aW (i:=3) yE.nd rfl (Or.inl rfl) (cR (kc:=3) (aj 0) T.aF T.dM b_ Tk.wish (hr.mono (by decide)) T.aZ .nil (ak (aj 1) aB)))
  (aC (dX (bH abB (aj 3) (aj 2) (a_ _)) (aM (jB (c:=2) T.lF T.jw aN (hr.mono (by decide)) T.bB rfl T.jx rfl Tk.wish (ak (cI (cs:=[3]) ⟨⟨T.aF,T.aQ⟩,True.intro⟩ (aj 0)) aB))) bZ)
  (aM (bA (aj 3)))))
theorem G4(T:Txt K mg t):bx P w K mg base (iM P w) 6 t.n_ t.oG ["self","word"] (spS K (cO t) nR 2):=by
 show bx P w K mg base (iM P w) (5+1) t.n_ t.oG ["self","word"] (spS K (cO t) (cu 2 ig) 2)
 have qb:= @yG P w K mg base t T
 refine lC (n:=2) (ar:=2) (k:=5) (b:=ig) T.zQ Gz rfl rfl ?_
 intro cdv A outer s H E W hr
 exact(aM (bA (cR (kc:=3) (aj 0) T.aF T.oY qb Tk.wish (hr.mono (by decide)) T.cY .nil (ak (aj 1) (ak (BJ rfl T.Cu) aB)))))
theorem kj(T:Txt K mg t):bx P w K mg base (iM P w) 1 t.mF t.mO ["self"] (spS K (cO t) gm 1):=by
 show bx P w K mg base (iM P w) (0+1) t.mF t.mO ["self"] (spS K (cO t) (cu 1 cX) 1)
 refine lC (n:=1) (ar:=1) (k:=0) (b:=cX) T.yP Fl rfl rfl ?_
 intro cdv A outer s H E W hr
 exact(aM (uy (cs:=[3]) ⟨⟨T.aF,T.aQ⟩,True.intro⟩ (aj 0) (aU dj (cI (cs:=[3]) ⟨⟨T.aF,T.aQ⟩,True.intro⟩ (aj 0)) az)))
theorem KJ(T:Txt K mg t):bx P w K mg base (iM P w) 7 t.rJ t.rW ["reader"] (spS K (cO t) pq 1):=by
 show bx P w K mg base (iM P w) (6+1) t.rJ t.rW ["reader"] (spS K (cO t) (cu 4 jk) 1)
 have cP:= @iC P w K mg base t T
 have Iu:= @G4 P w K mg base t T
 have b_:= @iQ P w K mg base t T
 have fc:= @kj P w K mg base t T
 refine lC (n:=4) (ar:=1) (k:=6) (b:=jk) T.yj pL rfl rfl ?_
 intro cdv A outer s H E W hr
 exact(aC (aW (i:=1) pL.nd rfl (Or.inl rfl) (cR (kc:=3) (aj 0) T.aF T.fL cP Tk.wish (hr.mono (by decide)) T.bQ .nil (ak aL (ak az aB))))
  (aC (aW (i:=2) pL.nd rfl (Or.inl rfl) pJ)
  (aC (dX (bH (Aw hr.units) (aV hr.units (aj 1) az) aL (a_ _)) (aM (aW (i:=2) pL.nd rfl (Or.inl rfl) (cR (kc:=3) (aj 0) T.aF T.zy Iu Tk.wish (hr.mono (by decide)) T.ig .nil (ak (aV hr.units (aj 1) az) aB)))) bZ)
  (aC (aW (i:=3) pL.nd rfl (Or.inl rfl) (dB (ak (cR (kc:=3) (aj 0) T.aF T.dM b_ Tk.wish (hr.mono (by decide)) T.aZ .nil (ak (aV hr.units (aj 1) az) aB)) (ak (aj 2) aB))))
  (aC (jP (lR (kc:=3) (aj 0) T.aF T.iU fc Tk.wish (hr.mono (by decide)) T.cX .nil))
  (aM (bA (aj 3))))))))
theorem tO(T:Txt K mg t):bx P w K mg base (iM P w) 6 t.iI t.iJ ["self","one","two"] (spS K (cO t) cV 3):=by
 show bx P w K mg base (iM P w) (5+1) t.iI t.iJ ["self","one","two"] (spS K (cO t) (cu 4 bM) 3)
 have qb:= @yG P w K mg base t T
 have aN:= @bJ P w K mg base t T
 refine lC (n:=4) (ar:=3) (k:=5) (b:=bM) T.tW tM rfl rfl ?_
 intro cdv A outer s H E W hr
 exact(aC (aW (i:=3) tM.nd rfl (Or.inl rfl) (dB (ak (cR (kc:=3) (aj 0) T.aF T.oY qb Tk.wish (hr.mono (by decide)) T.cY .nil (ak (aj 1) (ak (aU Yv az (BJ rfl T.Cu)) aB))) (ak (cR (kc:=3) (aj 0) T.aF T.oY qb Tk.wish (hr.mono (by decide)) T.cY .nil (ak (aj 2) (ak (aU Yv az (BJ rfl T.Cu)) aB))) aB))))
  (aC (dX (bH (lg hr.units) (aV hr.units (aj 3) az) az (a_ _)) (aM (jB (c:=2) T.lF T.jw aN (hr.mono (by decide)) T.bB rfl T.jx rfl Tk.wish (ak (cI (cs:=[3]) ⟨⟨T.aF,T.aQ⟩,True.intro⟩ (aj 0)) aB))) bZ)
  (aM (bA (aj 3)))))
theorem KN(T:Txt K mg t):bx P w K mg base (iM P w) 7 t.rM t.rZ ["reader"] (spS K (cO t) lX 1):=by
 show bx P w K mg base (iM P w) (6+1) t.rM t.rZ ["reader"] (spS K (cO t) (cu 4 h_) 1)
 have cP:= @iC P w K mg base t T
 have b_:= @iQ P w K mg base t T
 have o8:= @tO P w K mg base t T
 have fc:= @kj P w K mg base t T
 refine lC (n:=4) (ar:=1) (k:=6) (b:=h_) T.ym t6 rfl rfl ?_
 intro cdv A outer s H E W hr
 exact(aC (aW (i:=1) t6.nd rfl (Or.inl rfl) (cR (kc:=3) (aj 0) T.aF T.fL cP Tk.wish (hr.mono (by decide)) T.bQ .nil (ak aL (ak az aB))))
  (aC (aW (i:=2) t6.nd rfl (Or.inl rfl) (cR (kc:=3) (aj 0) T.aF T.dM b_ Tk.wish (hr.mono (by decide)) T.aZ .nil (ak (aV hr.units (aj 1) az) aB)))
  (aC (aW (i:=3) t6.nd rfl (Or.inl rfl) (dB (ak (aj 2) (ak (cR (kc:=3) (aj 0) T.aF T.dM b_ Tk.wish (hr.mono (by decide)) T.aZ .nil (ak (aV hr.units (aj 1) az) aB)) (ak (cR (kc:=3) (aj 0) T.aF T.nH o8 Tk.wish (hr.mono (by decide)) T.bM .nil (ak (aV hr.units (aj 1) az) (ak (aV hr.units (aj 1) az) aB))) aB)))))
  (aC (jP (lR (kc:=3) (aj 0) T.aF T.iU fc Tk.wish (hr.mono (by decide)) T.cX .nil))
  (aM (bA (aj 3)))))))
theorem qF(T:Txt K mg t):bx P w K mg base (iM P w) 4 t.kW t.k_ ["self","word"] (spS K (cO t) gJ 2):=by
 show bx P w K mg base (iM P w) (3+1) t.kW t.k_ ["self","word"] (spS K (cO t) (cu 2 dW) 2)
 have mX:= @sO P w K mg base t T
 refine lC (n:=2) (ar:=2) (k:=3) (b:=dW) T.wM Dq rfl rfl ?_
 intro cdv A outer s H E W hr
 exact(aM (bA (qw (lg hr.units) (aV hr.units (lR (kc:=3) (aj 0) T.aF T.oX mX Tk.wish (hr.mono (by decide)) T.e_ .nil) az) (aj 1) (a_ _))))
theorem QJ(T:Txt K mg t):bx P w K mg base (iM P w) 2 t.wO t.wU ["word"] (spS K (cO t) Ae 1):=by
 show bx P w K mg base (iM P w) (1+1) t.wO t.wU ["word"] (spS K (cO t) (cu 1 qP) 1)
 have MJ:= @Og P w K mg base t T
 refine lC (n:=1) (ar:=1) (k:=1) (b:=qP) T.Be Qp rfl rfl ?_
 intro cdv A outer s H E W hr
 exact(aM (bA (d8 MJ Tk.wish (hr.mono (by decide)) rfl T.G_ T.CP.kp T.rz .nil (ak (aj 0) (ak (RP rfl T.Hg) (ak (BJ rfl T.yJ) aB))))))
theorem zm(T:Txt K mg t):bx P w K mg base (iM P w) 3 t.n6 t.oE ["self","word"] (spS K (cO t) lz 2):=by
 show bx P w K mg base (iM P w) (2+1) t.n6 t.oE ["self","word"] (spS K (cO t) (cu 2 gh) 2)
 have VF:= @QJ P w K mg base t T
 have aN:= @bJ P w K mg base t T
 refine lC (n:=2) (ar:=2) (k:=2) (b:=gh) T.zO Gx rfl rfl ?_
 intro cdv A outer s H E W hr
 exact(aC (dX (Dl (qt (d8 VF Tk.wish (hr.mono (by decide)) rfl T.Hf T.Be.kp T.qP .nil (ak (aj 1) aB)))) (aM (jB (c:=2) T.lF T.jw aN (hr.mono (by decide)) T.bB rfl T.jx rfl Tk.wish (ak (cI (cs:=[3]) ⟨⟨T.aF,T.aQ⟩,True.intro⟩ (aj 0)) aB))) bZ)
  (aM (bA (aj 1))))
theorem GR(T:Txt K mg t):bx P w K mg base (iM P w) 5 t.nW t.oh ["reader"] (spS K (cO t) g_ 1):=by
 show bx P w K mg base (iM P w) (4+1) t.nW t.oh ["reader"] (spS K (cO t) (cu 4 fZ) 1)
 have lu:= @qF P w K mg base t T
 have cP:= @iC P w K mg base t T
 have wu:= @zm P w K mg base t T
 have cD:= @iT P w K mg base t T
 have aN:= @bJ P w K mg base t T
 have fc:= @kj P w K mg base t T
 refine lC (n:=4) (ar:=1) (k:=4) (b:=fZ) T.uO pK rfl rfl ?_
 intro cdv A outer s H E W hr
 exact(aC (aW (i:=1) pK.nd rfl (Or.inl rfl) (iB aB))
  (aC (Gp (zj rfl rfl) (qt (cR (kc:=3) (aj 0) T.aF T.m9 lu Tk.wish (hr.mono (by decide)) T.dW .nil (ak aL aB))) (aC (aW (i:=2) pK.nd rfl (Or.inl rfl) (cR (kc:=3) (aj 0) T.aF T.fL cP Tk.wish (hr.mono (by decide)) T.bQ .nil (ak aL (ak az aB))))
  (aC (aW (i:=3) pK.nd rfl (Or.inl rfl) (dB (ak (cR (kc:=3) (aj 0) T.aF T.uK wu Tk.wish (hr.mono (by decide)) T.gh .nil (ak (aV hr.units (aj 2) az) aB)) (ak (cR (kc:=3) (aj 0) T.aF T.fB cD Tk.wish (hr.mono (by decide)) T.bR .nil (ak (aV hr.units (aj 2) az) aB)) aB))))
  (aC (dX (SW.pt (I_ (bH (lg hr.units) (aV hr.units (aj 3) az) az (a_ _)) (Dj (SW.pt (xK (bH Ff (cT nM rfl T.rE nO (ak (aj 1) aB)) az (a_ _)) (tY (bH (Yw hr.units) (aV hr.units (aj 3) az) (aV hr.units (aV hr.units (aj 1) (abf V5 az)) az) (a_ _)))))))) (aM (jB (c:=2) T.lF T.jw aN (hr.mono (by decide)) T.bB rfl T.jx rfl Tk.wish (ak (cI (cs:=[3]) ⟨⟨T.aF,T.aQ⟩,True.intro⟩ (aj 0)) aB))) bZ)
  (aC (jP (rC PySem.F.plainAttrs_list PySem.F.slot_list_append PySem.F.type_list_append o_ (aj 1) (ak (aj 3) aB)))
  (aM (jP (lR (kc:=3) (aj 0) T.aF T.iU fc Tk.wish (hr.mono (by decide)) T.cX .nil))))))))
  (aM (bA (jC CW rfl T.Cv CZ (ak (aj 1) aB))))))
theorem Fq(T:Txt K mg t):bx P w K mg base (iM P w) 5 t.mq t.mJ ["reader"] (spS K (cO t) iG 1):=by
 show bx P w K mg base (iM P w) (4+1) t.mq t.mJ ["reader"] (spS K (cO t) (cu 4 eZ) 1)
 have lu:= @qF P w K mg base t T
 have cP:= @iC P w K mg base t T
 have cD:= @iT P w K mg base t T
 have aN:= @bJ P w K mg base t T
 have fc:= @kj P w K mg base t T
 refine lC (n:=4) (ar:=1) (k:=4) (b:=eZ) T.tE oV rfl rfl ?_
 intro cdv A outer s H E W hr
 exact(aC (aW (i:=1) oV.nd rfl (Or.inl rfl) (iB aB))
  (aC (Gp (zj rfl rfl) (qt (cR (kc:=3) (aj 0) T.aF T.m9 lu Tk.wish (hr.mono (by decide)) T.dW .nil (ak aL aB))) (aC (aW (i:=2) oV.nd rfl (Or.inl rfl) (cR (kc:=3) (aj 0) T.aF T.fL cP Tk.wish (hr.mono (by decide)) T.bQ .nil (ak aL (ak az aB))))
  (aC (aW (i:=3) oV.nd rfl (Or.inl rfl) (jC CW rfl T.Cv CZ (ak (WL Tk.wish rfl rfl rfl ["reader"] [0] (Wx (vC (aj 2) (jQ az) m5)) ⟨⟨rfl,rfl,by first | exact .inl rfl | exact .inr rfl⟩,True.intro⟩ (fun _ _ _ _ _ _=>Kc) (fun _ _ _ _ _ _=>(cR (kc:=3) (aj 1) T.aF T.fB cD Tk.wish (hr.mono (by decide)) T.bR .nil (ak (aj 0) aB))) (by decide +kernel) (by decide +kernel) (by decide +kernel) (by decide +kernel)) aB)))
  (aC (dX (SW.pt (xK (bH Ff (cT nM rfl T.rE nO (ak (aj 1) aB)) az (a_ _)) (tY (bH (Yw hr.units) (vC (aj 3) m5 (jQ az)) (vC (aV hr.units (aj 1) (abf V5 az)) m5 (jQ az)) (a_ _))))) (aM (jB (c:=2) T.lF T.jw aN (hr.mono (by decide)) T.bB rfl T.jx rfl Tk.wish (ak (cI (cs:=[3]) ⟨⟨T.aF,T.aQ⟩,True.intro⟩ (aj 0)) aB))) bZ)
  (aC (jP (rC PySem.F.plainAttrs_list PySem.F.slot_list_append PySem.F.type_list_append o_ (aj 1) (ak (aj 3) aB)))
  (aM (jP (lR (kc:=3) (aj 0) T.aF T.iU fc Tk.wish (hr.mono (by decide)) T.cX .nil))))))))
  (aM (bA (jC CW rfl T.Cv CZ (ak (aj 1) aB))))))
theorem Ej(T:Txt K mg t):bx P w K mg base (iM P w) 1 t.uV t.u_ ["self","base","base_term","base_roll","entries"] (spS K (cO t) qJ 5):=by
 show bx P w K mg base (iM P w) (0+1) t.uV t.u_ ["self","base","base_term","base_roll","entries"] (spS K (cO t) (cu 5 mV) 5)
 refine lC (n:=5) (ar:=5) (k:=0) (b:=mV) T.EY NK rfl rfl ?_
 intro cdv A outer s H E W hr
 exact(aC (uy (cs:=[4]) ⟨⟨T.jq,T.jL⟩,True.intro⟩ (aj 0) (aj 1))
  (aC (uy (cs:=[4]) ⟨⟨T.jq,T.d7⟩,True.intro⟩ (aj 0) (aj 2))
  (aC (uy (cs:=[4]) ⟨⟨T.jq,T.dh⟩,True.intro⟩ (aj 0) (aj 3))
  (aM (uy (cs:=[4,5]) ⟨⟨T.jq,T.dZ⟩,⟨⟨T.j9,T.di⟩,True.intro⟩⟩ (aj 0) (jC TV rfl T.QV T4 (ak (aj 4) aB)))))))
theorem Ih(T:Txt K mg t):bx P w K mg base (iM P w) 4 t.pZ t.p8 ["reader","words"] (spS K (cO t) j5 2):=by
 show bx P w K mg base (iM P w) (3+1) t.pZ t.p8 ["reader","words"] (spS K (cO t) (cu 3 gf) 2)
 have aN:= @bJ P w K mg base t T
 have cD:= @iT P w K mg base t T
 have wu:= @zm P w K mg base t T
 refine lC (n:=3) (ar:=2) (k:=3) (b:=gf) T.wj Am rfl rfl ?_
 intro cdv A outer s H E W hr
 exact(aC (dX (bH (Aw hr.units) (Zo [("put",3),("add",3),("swap",4)] rfl T.zu T.za (aV hr.units (aj 1) az)) (cT nM rfl T.rE nO (ak (aj 1) aB)) (a_ _)) (aM (jB (c:=2) T.lF T.jw aN (hr.mono (by decide)) T.bB rfl T.jx rfl Tk.wish (ak (cI (cs:=[3]) ⟨⟨T.aF,T.aQ⟩,True.intro⟩ (aj 0)) aB))) bZ)
  (aC (Wq (k:=2) Tk.wish rfl rfl rfl ["reader"] [0] Am.nd rfl rfl (Wx (vC (aj 1) (jQ az) m5)) ⟨⟨rfl,rfl,by first | exact .inl rfl | exact .inr rfl⟩,True.intro⟩ (fun _ _ _ _ _ _=>Kc) (fun _ _ _ _ _ _=>(cR (kc:=3) (aj 1) T.aF T.fB cD Tk.wish (hr.mono (by decide)) T.bR .nil (ak (aj 0) aB))) (by decide +kernel) (by decide +kernel) (by decide +kernel) (by decide +kernel))
  (aM (bA (aU dj (dB (ak (aV hr.units (aj 1) az) (ak (cR (kc:=3) (aj 0) T.aF T.uK wu Tk.wish (hr.mono (by decide)) T.gh .nil (ak (aV hr.units (aj 1) az) aB)) aB))) (jC CW rfl T.Cv CZ (ak (aj 2) aB)))))))
theorem KH(T:Txt K mg t):bx P w K mg base (iM P w) 7 t.rH t.rT ["reader","words"] (spS K (cO t) cU 2):=by
 show bx P w K mg base (iM P w) (6+1) t.rH t.rT ["reader","words"] (spS K (cO t) (cu 2 bV) 2)
 have o8:= @tO P w K mg base t T
 have cD:= @iT P w K mg base t T
 have MF:= @Ih P w K mg base t T
 have aN:= @bJ P w K mg base t T
 refine lC (n:=2) (ar:=2) (k:=6) (b:=bV) T.yh Kf rfl rfl ?_
 intro cdv A outer s H E W hr
 exact(aC (dX (bH (lg hr.units) (aj 1) (iB (ak aL aB)) (a_ _)) (aM (bA (dB (ak aL aB)))) bZ)
  (aC (dX (SW.pt (xK (bH (lg hr.units) (cT nM rfl T.rE nO (ak (aj 1) aB)) az (a_ _)) (tY (bH (lg hr.units) (aV hr.units (aj 1) az) aL (a_ _))))) (aM (bA (aU dj (dB (ak aL aB)) (cR (kc:=3) (aj 0) T.aF T.nH o8 Tk.wish (hr.mono (by decide)) T.bM .nil (ak (aV hr.units (aj 1) az) (ak (aV hr.units (aj 1) az) aB)))))) bZ)
  (aC (dX (SW.pt (xK (bH Ff (cT nM rfl T.rE nO (ak (aj 1) aB)) az (a_ _)) (tY (bH (lg hr.units) (aV hr.units (aj 1) az) aL (a_ _))))) (aM (bA (dB (ak aL (ak (cR (kc:=3) (aj 0) T.aF T.fB cD Tk.wish (hr.mono (by decide)) T.bR .nil (ak (aV hr.units (aj 1) az) aB)) (ak (cR (kc:=3) (aj 0) T.aF T.fB cD Tk.wish (hr.mono (by decide)) T.bR .nil (ak (aV hr.units (aj 1) az) aB)) (ak (d8 MF Tk.wish (hr.mono (by decide)) rfl T.Ao T.wj.kp T.gf .nil (ak (aj 0) (ak (vC (aj 1) (jQ az) m5) aB))) aB))))))) bZ)
  (aM (jB (c:=2) T.lF T.jw aN (hr.mono (by decide)) T.bB rfl T.jx rfl Tk.wish (ak (cI (cs:=[3]) ⟨⟨T.aF,T.aQ⟩,True.intro⟩ (aj 0)) aB))))))
theorem Fp(T:Txt K mg t):bx P w K mg base (iM P w) 8 t.mj t.mH ["reader"] (spS K (cO t) iD 1):=by
 show bx P w K mg base (iM P w) (7+1) t.mj t.mH ["reader"] (spS K (cO t) (cu 4 gC) 1)
 have lu:= @qF P w K mg base t T
 have mX:= @sO P w K mg base t T
 have Pn:= @KH P w K mg base t T
 have b_:= @iQ P w K mg base t T
 have fc:= @kj P w K mg base t T
 refine lC (n:=4) (ar:=1) (k:=7) (b:=gC) T.tD oU rfl rfl ?_
 intro cdv A outer s H E W hr
 exact(aC (aW (i:=1) oU.nd rfl (Or.inl rfl) (iB aB))
  (aC (Gp (zj rfl rfl) (qt (cR (kc:=3) (aj 0) T.aF T.m9 lu Tk.wish (hr.mono (by decide)) T.dW .nil (ak aL aB))) (aC (aW (i:=2) oU.nd rfl (Or.inl rfl) (lR (kc:=3) (aj 0) T.aF T.oX mX Tk.wish (hr.mono (by decide)) T.e_ .nil))
  (aC (aW (i:=3) oU.nd rfl (Or.inl rfl) (d8 Pn Tk.wish (hr.mono (by decide)) rfl T.Cj T.yh.kp T.bV .nil (ak (aj 0) (ak (vC (aj 2) (jQ az) m5) aB))))
  (aC (jP (rC PySem.F.plainAttrs_list PySem.F.slot_list_append PySem.F.type_list_append o_ (aj 1) (ak (dB (ak (cR (kc:=3) (aj 0) T.aF T.dM b_ Tk.wish (hr.mono (by decide)) T.aZ .nil (ak (aV hr.units (aj 2) az) aB)) (ak (aj 3) aB))) aB)))
  (aM (jP (lR (kc:=3) (aj 0) T.aF T.iU fc Tk.wish (hr.mono (by decide)) T.cX .nil)))))))
  (aM (bA (aj 1)))))
theorem DK(T:Txt K mg t):bx P w K mg base (iM P w) 5 t.kO t.kZ ["self"] (spS K (cO t) oZ 1):=by
 show bx P w K mg base (iM P w) (4+1) t.kO t.kZ ["self"] (spS K (cO t) (cu 2 gM) 1)
 have cP:= @iC P w K mg base t T
 have cD:= @iT P w K mg base t T
 have aN:= @bJ P w K mg base t T
 refine lC (n:=2) (ar:=1) (k:=4) (b:=gM) T.wL wD rfl rfl ?_
 intro cdv A outer s H E W hr
 exact(aC (aW (i:=1) wD.nd rfl (Or.inl rfl) (cR (kc:=3) (aj 0) T.aF T.fL cP Tk.wish (hr.mono (by decide)) T.bQ .nil (ak aL (ak az aB))))
  (aC (dX (bH (Aw hr.units) (cR (kc:=3) (aj 0) T.aF T.fB cD Tk.wish (hr.mono (by decide)) T.bR .nil (ak (aV hr.units (aj 1) az) aB)) (aU Ed (cI (cs:=[3]) ⟨⟨T.aF,T.aQ⟩,True.intro⟩ (aj 0)) az) (a_ _)) (aM (jB (c:=2) T.lF T.jw aN (hr.mono (by decide)) T.bB rfl T.jx rfl Tk.wish (ak (cI (cs:=[3]) ⟨⟨T.aF,T.aQ⟩,True.intro⟩ (aj 0)) aB))) bZ)
  (aM (dX (bH (yu hr.units) (cI (cs:=[3]) ⟨⟨T.aF,T.aQ⟩,True.intro⟩ (aj 0)) (cT nM rfl T.rE nO (ak (cI (cs:=[3]) ⟨⟨T.aF,T.eY⟩,True.intro⟩ (aj 0)) aB)) (a_ _)) (aM (jB (c:=2) T.lF T.jw aN (hr.mono (by decide)) T.bB rfl T.jx rfl Tk.wish (ak (aU dj (cI (cs:=[3]) ⟨⟨T.aF,T.aQ⟩,True.intro⟩ (aj 0)) az) aB))) bZ))))
theorem Oh(T:Txt K mg t):bx P w K mg base (iM P w) 3 t.uU t.u9 ["self"] (spS K (cO t) x_ 1):=by
 show bx P w K mg base (iM P w) (2+1) t.uU t.u9 ["self"] (spS K (cO t) (cu 1 o7) 1)
 have Bl:= @Ej P w K mg base t T
 refine lC (n:=1) (ar:=1) (k:=2) (b:=o7) T.Ez NB rfl rfl ?_
 intro cdv A outer s H E W hr
 exact(aM (bA (FP (kc:=4) T.A_ Bl Tk.wish (hr.mono (by decide)) rfl T.QL T.mV .nil (ak (cI (cs:=[4]) ⟨⟨T.jq,T.jL⟩,True.intro⟩ (aj 0)) (ak (cI (cs:=[4]) ⟨⟨T.jq,T.d7⟩,True.intro⟩ (aj 0)) (ak (cI (cs:=[4]) ⟨⟨T.jq,T.dh⟩,True.intro⟩ (aj 0)) (ak (cI (cs:=[4,5]) ⟨⟨T.jq,T.dZ⟩,⟨⟨T.j9,T.di⟩,True.intro⟩⟩ (aj 0)) aB)))))))
theorem KZ(T:Txt K mg t):bx P w K mg base (iM P w) 4 t.rQ t.sE ["self","term","vote","row","kept"] (spS K (cO t) vK 5):=by
 show bx P w K mg base (iM P w) (3+1) t.rQ t.sE ["self","term","vote","row","kept"] (spS K (cO t) (cu 5 mW) 5)
 have Ru:= @Oh P w K mg base t T
 refine lC (n:=5) (ar:=5) (k:=3) (b:=mW) T.CQ Kh rfl rfl ?_
 intro cdv A outer s H E W hr
 exact(aC (uy (cs:=[5]) ⟨⟨T.j9,T.j4⟩,True.intro⟩ (aj 0) (aj 1))
  (aC (uy (cs:=[5]) ⟨⟨T.j9,T.j0⟩,True.intro⟩ (aj 0) (aj 2))
  (aC (uy (cs:=[5]) ⟨⟨T.j9,T.lW⟩,True.intro⟩ (aj 0) (lR (kc:=4) (aj 3) T.jq T.En Ru Tk.wish (hr.mono (by decide)) T.o7 .nil))
  (aM (uy (cs:=[4,5]) ⟨⟨T.jq,T.dZ⟩,⟨⟨T.j9,T.di⟩,True.intro⟩⟩ (aj 0) (aj 4))))))
theorem Ca(T:Txt K mg t):bx P w K mg base (iM P w) 9 t.rK t.rY ["text"] (spS K (cO t) cH 1):=by
 show bx P w K mg base (iM P w) (8+1) t.rK t.rY ["text"] (spS K (cO t) (cu 7 cW) 1)
 have Ir:= @G3 P w K mg base t T
 have Pq:= @KJ P w K mg base t T
 have Pr:= @KN P w K mg base t T
 have Io:= @GR P w K mg base t T
 have HW:= @Fq P w K mg base t T
 have Bl:= @Ej P w K mg base t T
 have HS:= @Fp P w K mg base t T
 have Fy:= @DK P w K mg base t T
 have Pz:= @KZ P w K mg base t T
 refine lC (n:=7) (ar:=1) (k:=8) (b:=cW) T.ug jR rfl rfl ?_
 intro cdv A outer s H E W hr
 exact(aC (aW (i:=1) jR.nd rfl (Or.inl rfl) (FP (kc:=3) T.uq Ir Tk.wish (hr.mono (by decide)) rfl T.Jh T.jt .nil (ak (aj 0) aB)))
  (aC (aW (i:=2) jR.nd rfl (Or.inl rfl) (d8 Pq Tk.wish (hr.mono (by decide)) rfl T.Ck T.yj.kp T.jk .nil (ak (aj 1) aB)))
  (aC (aW (i:=3) jR.nd rfl (Or.inl rfl) (d8 Pr Tk.wish (hr.mono (by decide)) rfl T.Cm T.ym.kp T.h_ .nil (ak (aj 1) aB)))
  (aC (aW (i:=4) jR.nd rfl (Or.inl rfl) (d8 Io Tk.wish (hr.mono (by decide)) rfl T.zq T.uO.kp T.fZ .nil (ak (aj 1) aB)))
  (aC (aW (i:=5) jR.nd rfl (Or.inl rfl) (d8 HW Tk.wish (hr.mono (by decide)) rfl T.yI T.tE.kp T.eZ .nil (ak (aj 1) aB)))
  (aC (aW (i:=6) jR.nd rfl (Or.inl rfl) (FP (kc:=4) T.A_ Bl Tk.wish (hr.mono (by decide)) rfl T.QL T.mV .nil (ak (aV hr.units (aj 3) az) (ak (aV hr.units (aj 3) az) (ak (aV hr.units (aj 3) az) (ak (d8 HS Tk.wish (hr.mono (by decide)) rfl T.yH T.tD.kp T.gC .nil (ak (aj 1) aB)) aB))))))
  (aC (jP (lR (kc:=3) (aj 1) T.aF T.wG Fy Tk.wish (hr.mono (by decide)) T.gM .nil))
  (aM (bA (FP (kc:=5) T.Ad Pz Tk.wish (hr.mono (by decide)) rfl T.SQ T.mW .nil (ak (aV hr.units (aj 2) az) (ak (aV hr.units (aj 2) az) (ak (aj 6) (ak (dB (ak (aj 4) (ak (aj 5) aB))) aB))))))))))))))
theorem DG(T:Txt K mg t):bx P w K mg base (iM P w) 10 t.kJ t.kY ["_law_number"] (spS K (cO t) kE 1):=by
 show bx P w K mg base (iM P w) (9+1) t.kJ t.kY ["_law_number"] (spS K (cO t) (cu 6 fC) 1)
 have zX:= @Ca P w K mg base t T
 refine lC (n:=6) (ar:=1) (k:=9) (b:=fC) T.qN cF rfl rfl ?_
 intro cdv A outer s H E W hr
 exact(@aC _ _ _ _ _ _ _ (@aW _ _ _ _ _ _ (1) _ _ cF.nd rfl (Or.inl rfl) (@iB _ _ _ _ _ _ (@aO _ _ _ _ _ _ _ (dB (ak aL (ak lU aB))) (@aO _ _ _ _ _ _ _ (dB (ak aL (ak lU aB))) (@aO _ _ _ _ _ _ _ (dB (ak aL (ak lU aB))) (@aO _ _ _ _ _ _ _ (dB (ak aL (ak lU aB))) (@aO _ _ _ _ _ _ _ (dB (ak aL (ak lU aB))) aB rfl) rfl) rfl) rfl) rfl)) rfl (by first | exact .inl rfl | exact .inr rfl | assumption)) (aC (aW (i:=1) cF.nd rfl (Or.inl rfl) (aU dj (aj 1) (iB (ak (dB (ak aL (ak lU aB))) (ak (dB (ak aL (ak lU aB))) (ak (dB (ak aL (ak lU aB))) aB))))))
  (aC (aW (i:=1) cF.nd rfl (Or.inl rfl) (aU dj (aj 1) (iB (ak (dB (ak aL (ak lU aB))) (ak (dB (ak aL (ak lU aB))) (ak (dB (ak aL (ak lU aB))) aB))))))
  (aC (aW (i:=1) cF.nd rfl (Or.inl rfl) (aU dj (aj 1) (iB (ak (dB (ak aL (ak lU aB))) (ak (dB (ak aL (ak lU aB))) (ak (dB (ak aL (ak lU aB))) (ak (dB (ak aL (ak lU aB))) aB)))))))
  (aC (Wr (aV hr.units (aj 1) (aU lD (aj 0) az)) (Wy rfl (Bx (z_ (i:=2) cF.nd rfl (Or.inl rfl)) (Bx (z_ (i:=3) cF.nd rfl (Or.inl rfl)) RM))))
  (aC (aW (i:=4) cF.nd rfl (Or.inl rfl) pJ)
  (aC (Nz (i:=5) (cl:=[(0,false),(2,true)]) (v:= .ref t.jG) (cv:= .ref t.jG) rfl rfl Tk.wish (fun _ z=>z) (fun _=>B_ (v:= .ref t.jG) rfl T.jx rfl) ⟨T.pG,⟨T.xj,True.intro⟩⟩ cF.nd rfl rfl rfl (fun _ _=>(aM (jP (d8 zX Tk.wish (hr.mono (by decide)) rfl T.xX T.ug.kp T.cW .nil (ak (rC PySem.F.plainAttrs_str PySem.F.slot_str_join PySem.F.type_str_join Cg aL (ak (iB (ak aL (ak aL (ak (aU dj aL (aj 2)) (ak aL aB))))) aB)) aB))))) (fun _=>(aM (aW (i:=4) cF.nd rfl (Or.inl rfl) (WD (cs:=[0,2]) ⟨⟨T.xF,T.xr⟩,⟨⟨T.jw,T.J3⟩,True.intro⟩⟩ (aj 5))))))
  (aC (dX (qt (aj 3)) (aM (bA (qw T5 (aj 4) pJ (a_ _)))) bZ)
  (aM (bA (qw (lg hr.units) (aj 4) az (a_ _))))))))))))
theorem Ii(T:Txt K mg t):bx P w K mg base (iM P w) 1 t.p6 t.p_ ["_law_cell","_law_size"] (spS K (cO t) m_ 2):=by
 show bx P w K mg base (iM P w) (0+1) t.p6 t.p_ ["_law_cell","_law_size"] (spS K (cO t) (cu 5 jl) 2)
 refine lC (n:=5) (ar:=2) (k:=0) (b:=jl) T.q_ nP rfl rfl ?_
 intro cdv A outer s H E W hr
 exact(aC (aW (i:=2) nP.nd rfl (Or.inl rfl) (iB aB))
  (aC (aW (i:=3) nP.nd rfl (Or.inl rfl) (aU lD (aU dj (aU Rh (aj 0) az) az) az))
  (aC (Wo (zj rfl rfl) rfl (Jc rfl T.La (ak (aj 1) aB)) (z_ (i:=4) nP.nd rfl (Or.inl rfl)) (aC (aW (i:=3) nP.nd rfl (Or.inl rfl) (aU lD (aU dj (aU dj (aU Rh (aj 3) (aU dj (aU Mj (aj 3) az) az)) (aj 4)) az) az))
  (aM (jP (rC PySem.F.plainAttrs_list PySem.F.slot_list_append PySem.F.type_list_append o_ (aj 2) (ak (aj 3) aB))))))
  (aM (bA (aj 2))))))
theorem GX(T:Txt K mg t):bx P w K mg base (iM P w) 1 t.nY t.ou ["_law_script","_law_k"] (spS K (cO t) jn 2):=by
 show bx P w K mg base (iM P w) (0+1) t.nY t.ou ["_law_script","_law_k"] (spS K (cO t) (cu 2 ie) 2)
 refine lC (n:=2) (ar:=2) (k:=0) (b:=ie) T.pY Gv rfl rfl ?_
 intro cdv A outer s H E W hr
 exact(aC (dX (bH (yu hr.units) (aj 1) (cT nM rfl T.rE nO (ak (aj 0) aB)) (a_ _)) (aM (bA (aV hr.units (aj 0) (aj 1)))) bZ)
  (aM (bA az)))
theorem Ob(T:Txt K mg t):bx P w K mg base (iM P w) 1 t.uQ t.uX ["_law_xs","_law_cell"] (spS K (cO t) xY 2):=by
 show bx P w K mg base (iM P w) (0+1) t.uQ t.uX ["_law_xs","_law_cell"] (spS K (cO t) (cu 5 o6) 2)
 refine lC (n:=5) (ar:=2) (k:=0) (b:=o6) T.zK jJ rfl rfl ?_
 intro cdv A outer s H E W hr
 exact(@aC _ _ _ _ _ _ _ (aW (i:=2) jJ.nd rfl (Or.inl rfl) (aV hr.units (iB (ak (jC HF rfl T.Eo Bg (ak (aU lD (aj 1) (aU aeq az az)) aB)) (ak (jC HF rfl T.Eo Bg (ak (aU lD (aj 1) az) aB)) (ak (aU dj (aU Rh aL az) (jC HF rfl T.Eo Bg (ak (aU lD (aj 1) az) aB))) (ak (jC HF rfl T.Eo Bg (ak (aU dj az (aU lD (aj 1) az)) aB)) aB))))) (aU lD (aV hr.units (aj 0) az) az))) (@aC _ _ _ _ _ _ _ (dX (bH (lg hr.units) (aU lD (aV hr.units (aj 0) az) az) az (a_ _)) (aM (aW (i:=2) jJ.nd rfl (Or.inl rfl) (jC HF rfl T.Eo Bg (ak (aU dj (aU Ed az az) (aU lD (aj 1) az)) aB)))) bZ) (@aC _ _ _ _ _ _ _ (@aW _ _ _ _ _ _ (2) _ _ jJ.nd rfl (Or.inl rfl) (@aU _ _ _ _ _ _ _ _ _ _ dj (@aV _ _ _ _ _ _ _ _ hr.units (@iB _ _ _ _ _ _ (@aO _ _ _ _ _ _ _ aL (@aO _ _ _ _ _ _ _ aL (@aO _ _ _ _ _ _ _ aL (@aO _ _ _ _ _ _ _ aL (@aO _ _ _ _ _ _ _ aL (@aO _ _ _ _ _ _ _ aL (@aO _ _ _ _ _ _ _ aL aB rfl) rfl) rfl) rfl) rfl) rfl) rfl)) (aU lD (aV hr.units (aj 0) az) az) (by exact fun _ _=>rfl)) (aj 2)) rfl (by first | exact .inl rfl | exact .inr rfl | assumption)) (aC (dX (bH (lg hr.units) (aU lD (aV hr.units (aj 0) az) az) az (a_ _)) (aM (aW (i:=2) jJ.nd rfl (Or.inl rfl) (aV hr.units (iB (ak (vC aL m5 (jQ (aU dj az (aU lD (aV hr.units (aj 0) az) az)))) (ak aL (ak aL (ak aL aB))))) (aU lD (aU Mj (aV hr.units (aj 0) az) az) az)))) bZ)
  (aC (dX (SW.pt (xK (bH (lg hr.units) (aU lD (aV hr.units (aj 0) az) az) az (a_ _)) (tY (bH (Aw hr.units) (aj 2) aL (a_ _))))) (aC (aW (i:=3) jJ.nd rfl (Or.inl rfl) (aU lD (aU Mj (aV hr.units (aj 0) az) az) (cT nM rfl T.rE nO (ak (aj 2) aB))))
  (aC (aW (i:=4) jJ.nd rfl (Or.inl rfl) aL)
  (aM (aW (i:=2) jJ.nd rfl (Or.inl rfl) (aU dj (aU dj (vC (aj 2) m5 (jQ (aj 3))) (aV hr.units (aj 4) (aU lD (aU Mj (aV hr.units (aj 0) az) az) az))) (vC (aj 2) (jQ (aU dj (aj 3) az)) m5)))))) bZ)
  (aM (bA (aj 2))))))))
theorem Oe(T:Txt K mg t):bx P w K mg base (iM P w) 1 t.uT t.uZ ["_law_word_here"] (spS K (cO t) lY 1):=by
 show bx P w K mg base (iM P w) (0+1) t.uT t.uZ ["_law_word_here"] (spS K (cO t) (cu 2 iK) 1)
 refine lC (n:=2) (ar:=1) (k:=0) (b:=iK) T.zM zc rfl rfl ?_
 intro cdv A outer s H E W hr
 exact(aC (aW (i:=1) zc.nd rfl (Or.inl rfl) (aj 0))
  (aC (dX (bH (lg hr.units) (vC (aj 0) m5 (jQ az)) aL (a_ _)) (aM (aW (i:=1) zc.nd rfl (Or.inl rfl) (vC (aj 0) (jQ az) m5))) bZ)
  (aC (dX (SW.pt (I_ (bH (yu hr.units) (cT nM rfl T.rE nO (ak (aj 1) aB)) az (a_ _)) (Dj (bH Ff (cT nM rfl T.rE nO (ak (aj 1) aB)) az (a_ _))))) (aM (bA pJ)) bZ)
  (aC (dX (bH (Aw hr.units) (RQ rfl [] [] (Qn (aj 1)) True.intro (fun _ _ _ _ _=>(RK (bH JD (aj 0) aL (by with_unfolding_all rfl)))) (fun _ _ _ _ _=>(aj 0)) (by decide +kernel) (by decide +kernel) (by decide +kernel) (by decide +kernel)) (iB aB) (a_ _)) (aM (bA pJ)) bZ)
  (aC (dX (SW.pt (xK (bH (lg hr.units) (aV hr.units (aj 1) az) aL (a_ _)) (tY (bH (Aw hr.units) (aj 0) aL (a_ _))))) (aM (bA pJ)) bZ)
  (aM (bA (jC Yt rfl T.SX Rg (ak (aj 0) aB)))))))))
theorem QH(T:Txt K mg t):bx P w K mg base (iM P w) 2 t.wN t.wR ["_law_spot","_law_word_here"] (spS K (cO t) ni 2):=by
 show bx P w K mg base (iM P w) (1+1) t.wN t.wR ["_law_spot","_law_word_here"] (spS K (cO t) (cu 5 lB) 2)
 have Rt:= @Oe P w K mg base t T
 refine lC (n:=5) (ar:=2) (k:=1) (b:=lB) T.Bd qx rfl rfl ?_
 intro cdv A outer s H E W hr
 exact(aC (dX (SW.pt (I_ (bH (lg hr.units) (aj 0) az (a_ _)) (Dj (bH (lg hr.units) (aj 0) az (a_ _))))) (aC (Zd (k:=2) rfl [] [] qx.nd rfl rfl (Qn (aj 1)) True.intro (fun _ _ _ _ _=>(RK (bH JD (aj 0) aL (by with_unfolding_all rfl)))) (fun _ _ _ _ _=>(aj 0)) (by decide +kernel) (by decide +kernel) (by decide +kernel) (by decide +kernel))
  (aM (bA (dB (ak (Dp (qw (lg hr.units) (aj 2) (iB aB) (a_ _)) (Gu (BK (yu hr.units) (yu hr.units) az (cT nM rfl T.rE nO (ak (aj 1) aB)) az))) (ak (aj 1) aB)))))) bZ)
  (aC (dX (SW.pt (xK (bH (lg hr.units) (aj 0) az (a_ _)) (tY (bH (lg hr.units) (aj 1) aL (a_ _))))) (aM (bA (dB (ak lU (ak pJ aB))))) bZ)
  (aC (aW (i:=3) qx.nd rfl (Or.inl rfl) (d8 Rt Tk.wish (hr.mono (by decide)) rfl T.Em T.zM.kp T.iK .nil (ak (aj 1) aB)))
  (aC (dX (bH T5 (aj 3) pJ (a_ _)) (aM (bA (dB (ak lU (ak pJ aB))))) bZ)
  (aC (dX (bH (aiZ hr.units) (aj 0) (dB (ak az (ak az (ak az (ak az aB))))) (by with_unfolding_all rfl)) (aM (bA (dB (ak lU (ak (aj 3) aB))))) bZ)
  (aC (dX (bH Ff (aj 0) az (a_ _)) (aM (bA (dB (ak (BK JF (yu hr.units) (aU Ed az (aj 0)) (aj 3) az) (ak (aj 3) aB))))) bZ)
  (aC (dX (bH (lg hr.units) (aj 0) az (a_ _)) (aM (bA (dB (ak (qw (Aw hr.units) (aj 3) az (a_ _)) (ak (aj 3) aB))))) bZ)
  (aC (aW (i:=4) qx.nd rfl (Or.inl rfl) (qw abB (aj 3) az (a_ _)))
  (aC (dX (bH (lg hr.units) (aj 0) az (a_ _)) (aM (aW (i:=4) qx.nd rfl (Or.inl rfl) (BK JF (yu hr.units) az (aj 3) az))) bZ)
  (aC (dX (SW.pt (I_ (bH (lg hr.units) (aj 0) az (a_ _)) (Dj (bH (lg hr.units) (aj 0) az (a_ _))))) (aM (aW (i:=4) qx.nd rfl (Or.inl rfl) (BK JF (yu hr.units) (aU Ed az (aj 0)) (aj 3) az))) bZ)
  (aM (bA (dB (ak (aj 4) (ak (aj 3) aB)))))))))))))))
theorem Oc(T:Txt K mg t):bx P w K mg base (iM P w) 1 t.uR t.uY ["_law_spot","_law_word_here"] (spS K (cO t) Ba 2):=by
 show bx P w K mg base (iM P w) (0+1) t.uR t.uY ["_law_spot","_law_word_here"] (spS K (cO t) (cu 4 qO) 2)
 refine lC (n:=4) (ar:=2) (k:=0) (b:=qO) T.zL zb rfl rfl ?_
 intro cdv A outer s H E W hr
 exact(@aC _ _ _ _ _ _ _ (@aW _ _ _ _ _ _ (2) _ _ zb.nd rfl (Or.inl rfl) (@iB _ _ _ _ _ _ (@aO _ _ _ _ _ _ _ aL (@aO _ _ _ _ _ _ _ aL (@aO _ _ _ _ _ _ _ aL (@aO _ _ _ _ _ _ _ aL (@aO _ _ _ _ _ _ _ aL (@aO _ _ _ _ _ _ _ aL (@aO _ _ _ _ _ _ _ aL (@aO _ _ _ _ _ _ _ aL (@aO _ _ _ _ _ _ _ aL (@aO _ _ _ _ _ _ _ aL (@aO _ _ _ _ _ _ _ aL (@aO _ _ _ _ _ _ _ aL (@aO _ _ _ _ _ _ _ aL (@aO _ _ _ _ _ _ _ aL (@aO _ _ _ _ _ _ _ aL (@aO _ _ _ _ _ _ _ aL aB rfl) rfl) rfl) rfl) rfl) rfl) rfl) rfl) rfl) rfl) rfl) rfl) rfl) rfl) rfl) rfl)) rfl (by first | exact .inl rfl | exact .inr rfl | assumption)) (@aC _ _ _ _ _ _ _ (Zc (aj 2) (aj 0) (aj 1)) (@aC _ _ _ _ _ _ _ (aW (i:=3) zb.nd rfl (Or.inl rfl) (iB (ak (aU dj aL (rC PySem.F.plainAttrs_str PySem.F.slot_str_join PySem.F.type_str_join Cg aL (ak (vC (aj 2) m5 (jQ az)) aB))) (ak (aU dj aL (rC PySem.F.plainAttrs_str PySem.F.slot_str_join PySem.F.type_str_join Cg aL (ak (vC (aj 2) (jQ az) (jQ az)) aB))) aB)))) (@aC _ _ _ _ _ _ _ (jP (rC PySem.F.plainAttrs_list PySem.F.slot_list_append PySem.F.type_list_append o_ (aj 3) (ak (aU dj (aU dj (aU dj aL (aV hr.units (aj 2) az)) aL) (aV hr.units (aj 2) az)) aB))) (@aC _ _ _ _ _ _ _ (jP (rC PySem.F.plainAttrs_list PySem.F.slot_list_append PySem.F.type_list_append o_ (aj 3) (ak (aU dj (aU dj (aU dj aL (aV hr.units (aj 2) az)) aL) (aV hr.units (aj 2) az)) aB))) (@aC _ _ _ _ _ _ _ (@dX _ _ _ _ _ _ _ _ _ _ (bH Ff (aj 0) az (a_ _)) (aM (jP (rC PySem.F.plainAttrs_list PySem.F.slot_list_append PySem.F.type_list_append o_ (aj 3) (ak (aU dj (aU dj (aU dj aL (aV hr.units (aj 2) az)) aL) (aV hr.units (aj 2) az)) aB)))) (@aM _ _ _ _ _ (@jP _ _ _ _ _ _ (@rC _ _ _ _ _ _ _ _ _ _ _ _ _ _ PySem.F.plainAttrs_list PySem.F.slot_list_append PySem.F.type_list_append o_ (aj 3) (@ak _ _ _ _ _ _ _ (@rC _ _ _ _ _ _ _ _ _ _ _ _ _ _ PySem.F.plainAttrs_str PySem.F.slot_str_join PySem.F.type_str_join Cg aL (@ak _ _ _ _ _ _ _ (@iB _ _ _ _ _ _ (@aO _ _ _ _ _ _ _ aL (@aO _ _ _ _ _ _ _ (aV hr.units (aj 2) az) (@aO _ _ _ _ _ _ _ aL (@aO _ _ _ _ _ _ _ (aV hr.units (aj 2) az) (@aO _ _ _ _ _ _ _ aL (@aO _ _ _ _ _ _ _ (aV hr.units (aj 2) az) (@aO _ _ _ _ _ _ _ (aV hr.units (aj 2) az) aB rfl) rfl) rfl) rfl) rfl) rfl) rfl)) aB rfl) rfl rfl rfl rfl rfl) aB rfl) rfl rfl rfl rfl rfl) rfl))) (aM (bA (rC PySem.F.plainAttrs_str PySem.F.slot_str_join PySem.F.type_str_join Cg aL (ak (aU dj (aj 3) (iB (ak aL aB))) aB))))))))))
theorem KR(T:Txt K mg t):bx P w K mg base (iM P w) 1 t.rO t.su ["_law_found_here","_law_due_here"] (spS K (cO t) jf 2):=by
 show bx P w K mg base (iM P w) (0+1) t.rO t.su ["_law_found_here","_law_due_here"] (spS K (cO t) (cu 2 jm) 2)
 refine lC (n:=2) (ar:=2) (k:=0) (b:=jm) T.yp Kg rfl rfl ?_
 intro cdv A outer s H E W hr
 exact(aC (dX (bH T5 (aj 1) pJ (a_ _)) (aM (bA (qw T5 (aj 0) pJ (a_ _)))) bZ)
  (aC (dX (qt (cT LR rfl T.pP rm (ak (aj 1) (ak (RN rfl T.Eo Bg) aB)))) (aM (bA (Dp (cT LR rfl T.pP rm (ak (aj 0) (ak (RN rfl T.Eo Bg) aB))) (Gu (qw (lg hr.units) (aj 0) (aj 1) (a_ _)))))) bZ)
  (aM (bA (Dp (cT LR rfl T.pP rm (ak (aj 0) (ak (RN rfl T.SX Rg) aB))) (Dp (WK (cT LR rfl T.pP rm (ak (aj 0) (ak (RN rfl T.XD aaR) aB)))) (Gu (qw (lg hr.units) (aj 0) (aj 1) (a_ _)))))))))
theorem GZ(T:Txt K mg t):bx P w K mg base (iM P w) 1 t.nZ t.oA ["self"] (spS K (cO t) qU 1):=by
 show bx P w K mg base (iM P w) (0+1) t.nZ t.oA ["self"] (spS K (cO t) (cu 1 jr) 1)
 refine lC (n:=1) (ar:=1) (k:=0) (b:=jr) T.zN Gw rfl rfl ?_
 intro cdv A outer s H E W hr
 exact(aM (bA (jC TV rfl T.QV T4 (ak (cI (cs:=[4,5]) ⟨⟨T.jq,T.dZ⟩,⟨⟨T.j9,T.di⟩,True.intro⟩⟩ (aj 0)) aB))))
theorem KQ(T:Txt K mg t):bx P w K mg base (iM P w) 2 t.rN t.sr ["_law_book","_law_spot"] (spS K (cO t) lZ 2):=by
 show bx P w K mg base (iM P w) (1+1) t.rN t.sr ["_law_book","_law_spot"] (spS K (cO t) (cu 5 jN) 2)
 have Ip:= @GZ P w K mg base t T
 refine lC (n:=5) (ar:=2) (k:=1) (b:=jN) T.yo pM rfl rfl ?_
 intro cdv A outer s H E W hr
 exact(@aC _ _ _ _ _ _ _ (aW (i:=2) pM.nd rfl (Or.inl rfl) (cI (cs:=[5]) ⟨⟨T.j9,T.lW⟩,True.intro⟩ (aj 0))) (@aC _ _ _ _ _ _ _ (aW (i:=3) pM.nd rfl (Or.inl rfl) (aV hr.units (lR (kc:=4) (aj 2) T.jq T.zx Ip Tk.wish (hr.mono (by decide)) T.jr .nil) az)) (@aC _ _ _ _ _ _ _ (@aW _ _ _ _ _ _ (4) _ _ pM.nd rfl (Or.inl rfl) (@iB _ _ _ _ _ _ (@aO _ _ _ _ _ _ _ (cI (cs:=[5]) ⟨⟨T.j9,T.j4⟩,True.intro⟩ (aj 0)) (@aO _ _ _ _ _ _ _ (cI (cs:=[5]) ⟨⟨T.j9,T.j0⟩,True.intro⟩ (aj 0)) (@aO _ _ _ _ _ _ _ (cI (cs:=[4]) ⟨⟨T.jq,T.jL⟩,True.intro⟩ (aj 2)) (@aO _ _ _ _ _ _ _ (cI (cs:=[4]) ⟨⟨T.jq,T.d7⟩,True.intro⟩ (aj 2)) (@aO _ _ _ _ _ _ _ (aV hr.units (cI (cs:=[4]) ⟨⟨T.jq,T.dh⟩,True.intro⟩ (aj 2)) az) (@aO _ _ _ _ _ _ _ (aV hr.units (cI (cs:=[4]) ⟨⟨T.jq,T.dh⟩,True.intro⟩ (aj 2)) az) aB rfl) rfl) rfl) rfl) rfl) rfl)) rfl (by first | exact .inl rfl | exact .inr rfl | assumption)) (aC (aW (i:=4) pM.nd rfl (Or.inl rfl) (aU dj (aj 4) (iB (ak (aV hr.units (aV hr.units (aV hr.units (cI (cs:=[4,5]) ⟨⟨T.jq,T.dZ⟩,⟨⟨T.j9,T.di⟩,True.intro⟩⟩ (aj 0)) az) az) az) (ak (aV hr.units (aV hr.units (aV hr.units (cI (cs:=[4,5]) ⟨⟨T.jq,T.dZ⟩,⟨⟨T.j9,T.di⟩,True.intro⟩⟩ (aj 0)) az) az) az) (ak (aV hr.units (aV hr.units (aV hr.units (cI (cs:=[4,5]) ⟨⟨T.jq,T.dZ⟩,⟨⟨T.j9,T.di⟩,True.intro⟩⟩ (aj 0)) az) az) az) (ak (aV hr.units (aV hr.units (aV hr.units (cI (cs:=[4,5]) ⟨⟨T.jq,T.dZ⟩,⟨⟨T.j9,T.di⟩,True.intro⟩⟩ (aj 0)) az) az) az) aB)))))))
  (aC (dX (bH Ff (aj 1) az (a_ _)) (aM (bA (aV hr.units (aV hr.units (aj 3) az) (aU Ed (aj 1) az)))) bZ)
  (aM (bA (aV hr.units (aU dj (aj 4) (iB (ak (aV hr.units (aj 3) az) (ak (aV hr.units (aV hr.units (aj 3) az) az) (ak (aV hr.units (aV hr.units (aV hr.units (aj 3) az) az) az) (ak (aV hr.units (aV hr.units (aV hr.units (aj 3) az) az) az) aB)))))) (aj 1)))))))))
theorem ac4(T:Txt K mg t):bx P w K mg base (iM P w) 11 t.Jy t.E_ ["_law_script"] (spS K (cO t) XC 1):=by
 show bx P w K mg base (iM P w) (10+1) t.Jy t.E_ ["_law_script"] (spS K (cO t) (cu 11 JM) 1)
 have Fx:= @DG P w K mg base t T
 have Dd:= @Ii P w K mg base t T
 have Ax:= @GX P w K mg base t T
 have Rq:= @Ob P w K mg base t T
 have VD:= @QH P w K mg base t T
 have zX:= @Ca P w K mg base t T
 have Rr:= @Oc P w K mg base t T
 have Px:= @KR P w K mg base t T
 have Pu:= @KQ P w K mg base t T
 refine lC (n:=11) (ar:=1) (k:=10) (b:=JM) T.Ra qz rfl rfl ?_
 intro cdv A outer s H E W hr
 exact(@aC _ _ _ _ _ _ _ (dX (Dl (qt (d8 Fx Tk.wish (hr.mono (by decide)) rfl T.wF T.qN.kp T.fC .nil (ak (aV hr.units (d8 Dd Tk.wish (hr.mono (by decide)) rfl T.vW T.q_.kp T.jl .nil (ak (d8 Ax Tk.wish (hr.mono (by decide)) rfl T.uJ T.pY.kp T.ie .nil (ak (aj 0) (ak az aB))) (ak az aB))) az) aB)))) (aM (bA lU)) bZ) (@aC _ _ _ _ _ _ _ (@Wo _ _ _ _ _ _ _ _ _ _ (zj rfl rfl) rfl (Jc rfl T.La (ak (cT (aaJ rfl) rfl T.abp aen (ak az (ak (cT (aaI rfl) rfl T.abo aem (ak (cT nM rfl T.rE nO (ak (aj 0) aB)) (ak az aB))) aB))) aB)) (z_ (i:=1) qz.nd rfl (Or.inl rfl)) (@aC _ _ _ _ _ _ _ (aW (i:=2) qz.nd rfl (Or.inl rfl) (d8 Ax Tk.wish (hr.mono (by decide)) rfl T.uJ T.pY.kp T.ie .nil (ak (aj 0) (ak (aj 1) aB)))) (@aC _ _ _ _ _ _ _ (aW (i:=3) qz.nd rfl (Or.inl rfl) (d8 Dd Tk.wish (hr.mono (by decide)) rfl T.vW T.q_.kp T.jl .nil (ak (aj 2) (ak az aB)))) (@aC _ _ _ _ _ _ _ (aW (i:=4) qz.nd rfl (Or.inl rfl) (aU lD (aV hr.units (aj 3) az) az)) (@aC _ _ _ _ _ _ _ (aW (i:=5) qz.nd rfl (Or.inl rfl) (d8 Rq Tk.wish (hr.mono (by decide)) rfl T.Ek T.zK.kp T.o6 .nil (ak (aj 3) (ak (aj 2) aB)))) (@aC _ _ _ _ _ _ _ (Wr (d8 VD Tk.wish (hr.mono (by decide)) rfl T.G9 T.Bd.kp T.lB .nil (ak (aj 4) (ak (aj 5) aB))) (Wy rfl (Bx (z_ (i:=6) qz.nd rfl (Or.inl rfl)) (Bx (z_ (i:=7) qz.nd rfl (Or.inl rfl)) RM)))) (@aC _ _ _ _ _ _ _ (aW (i:=8) qz.nd rfl (Or.inl rfl) pJ) (@aC _ _ _ _ _ _ _ (aW (i:=9) qz.nd rfl (Or.inl rfl) pJ) (@aC _ _ _ _ _ _ _ (Nz (i:=10) (cl:=[(0,false),(2,true)]) (v:= .ref t.jG) (cv:= .ref t.jG) rfl rfl Tk.wish (fun _ z=>z) (fun _=>B_ (v:= .ref t.jG) rfl T.jx rfl) ⟨T.pG,⟨T.xj,True.intro⟩⟩ qz.nd rfl rfl rfl (fun _ _=>(aM (aW (i:=9) qz.nd rfl (Or.inl rfl) (d8 zX Tk.wish (hr.mono (by decide)) rfl T.xX T.ug.kp T.cW .nil (ak (d8 Rr Tk.wish (hr.mono (by decide)) rfl T.El T.zL.kp T.qO .nil (ak (aj 4) (ak (aj 5) aB))) aB))))) (fun _=>(aM (aW (i:=8) qz.nd rfl (Or.inl rfl) (WD (cs:=[0,2]) ⟨⟨T.xF,T.xr⟩,⟨⟨T.jw,T.J3⟩,True.intro⟩⟩ (aj 10)))))) (@aC _ _ _ _ _ _ _ (dX (SW.pt (xK (qt (aj 6)) (tY (SW.pt (I_ (bH Yx (aj 8) pJ (a_ _)) (Dj (Dl (qt (d8 Px Tk.wish (hr.mono (by decide)) rfl T.Cq T.yp.kp T.jm .nil (ak (d8 Pu Tk.wish (hr.mono (by decide)) rfl T.Cp T.yo.kp T.jN .nil (ak (aj 9) (ak (aj 4) aB))) (ak (aj 7) aB))))))))))) (aM (bA lU)) bZ) (@aM _ _ _ _ _ (@dX _ _ _ _ _ _ _ _ _ _ (@SW.pt _ _ _ _ _ (@xK _ _ _ _ _ _ _ _ _ (Dl (qt (aj 6))) (@tY _ _ _ _ _ _ (@bH _ _ _ _ _ _ _ _ _ _ (Aw hr.units) (aj 8) (@aV _ _ _ _ _ _ _ _ hr.units (@iB _ _ _ _ _ _ (@aO _ _ _ _ _ _ _ az (@aO _ _ _ _ _ _ _ az (@aO _ _ _ _ _ _ _ az (@aO _ _ _ _ _ _ _ az (@aO _ _ _ _ _ _ _ az (@aO _ _ _ _ _ _ _ az (@aO _ _ _ _ _ _ _ az (@aO _ _ _ _ _ _ _ az (@aO _ _ _ _ _ _ _ az (@aO _ _ _ _ _ _ _ az (@aO _ _ _ _ _ _ _ az (@aO _ _ _ _ _ _ _ az (@aO _ _ _ _ _ _ _ az (@aO _ _ _ _ _ _ _ az (@aO _ _ _ _ _ _ _ az (@aO _ _ _ _ _ _ _ az aB rfl) rfl) rfl) rfl) rfl) rfl) rfl) rfl) rfl) rfl) rfl) rfl) rfl) rfl) rfl) rfl)) (aj 4) (by exact fun _ _=>rfl)) (a_ _))))) (aM (bA lU)) bZ))))))))))) (by intro _ ;rfl)) (aM (bA lU))))
theorem Vd(T:Txt K mg t)(s:Shared)(u:Value):BindsTo s t.E_ ⟨[u],[]⟩ [("_law_script",u)]:=by
 obtain⟨oc,od,kV,doc,pm,an,cdv,ct,osl,e,_⟩:=T.Ra.ex
 rw[e]
 exact .of_eq rfl
theorem aaf(T:Txt K mg t):bx P w K mg base Rx 11 t.Jy t.E_ ["_law_script"] (spL K):=agY (ac4 T) adt
end
theorem all_mk{K:PySem.W.Frag}{h:Heap}{mg:Str→Option Value}(X:K.In h)(G:h.Ns mainGlobals mg)
  {dz vm qQ cg o9 f0 f1 f2 f3 f4 f5 f6 f7 f8 f9 f10 f11 f12 f13 f14 f15 f16 f17 f18 f19 f20 f21 f22 f23 f24 f25 f26 f27 f28 f29 f30 f31 f32 f33 f34 f35 f36 f37 rB:Addr}
  {oc0 kV0 dc0 pm0 cd0 ct0 oc1 kV1 dc1 pm1 cd1 ct1 oc2 kV2 dc2 pm2 cd2 ct2 oc3 kV3 dc3 pm3 cd3 ct3 oc4 kV4 dc4 pm4 cd4 ct4 oc5 kV5 dc5 pm5 cd5 ct5 oc6 kV6 dc6 pm6 cd6 ct6 oc7 kV7 dc7 pm7 cd7 ct7 oc8 kV8 dc8 pm8 cd8 ct8 oc9 kV9 dc9 pm9 cd9 ct9 anN ahq air ags aej aiX anM ahp aiq agr aei aiW anL aho aip agq aeh aiV anK ahn aio agp aeg aiU anJ ahm ain ago aef aiT anI ahl aim agn aee aiS anH ahk ail agm aed aiR anG ahj aik agl aec aiQ anF ahi aij agk aeb aiP anE ahh aii agj aea aiO anD ahg aih agi ad_ aiN anC ahf aif agh ad9 aiM anB ahe aie agg ad8 aiL anA ahd aid agf ad7 aiK anz ahc aic age ad6 aiJ anx ahb aib agd ad5 aiI anw aha aia agc ad4 aiH anv ag9 ah_ agb ad3 aiG anu ag8 ah9 aga ad2 aiF ant ag7 ah8 af_ ad1 aiE anr ag6 ah7 af9 ad0 aiD anq ag5 ah6 af8 adZ aiC anp ag4 ah5 af7 adY aiB ano ag3 ah4 af6 adX aiA anm ag2 ah3 af5 adW aiz anl ag1 ah2 af4 adV aiy ank ag0 ah1 af3 adU aix anj agZ ah0 af2 adT aiw:Value}
  {od0 Bp od1 an1 od2 an2 od3 an3 od4 an4 od5 an5 od6 an6 od7 an7 od8 an8 od9 an9 ada ajs ac_ ajr ac9 ajq ac8 ajp ac7 ajo ang ajn anf ajm ane ajl anc ajk anb ajj am_ aji am9 ajh am8 ajg am7 ajf am6 aje am5 ajd am4 ajc am3 ajb am2 aja am1 ai_ amZ ai9 amY ai8 amX ai7 amW ai6 amV ai5 amU ai4 amT ai3 amS ai2:Option Addr}
  {sl0 sl1 sl2 sl3 sl4 sl5 sl6 sl7 sl8 sl9 amw amv amu amt ams amr amq amo amn amm aml amk amj ami amh amg amf ame amd amc amb ama al_ al9 al8 al7 al6 al5:Array (Option Value)}
  {uI:Obj}
  {Hx:Nat}
  {JR Uc JQ zZ zY:Tok}
  {zT:Array DictEntry}
  {K5 Kw:Str} {Pk:Addr} {Ml j_:List Value} {Kd:List Str} {Kl:List Value} {Mu:Bool} {L_:Option Bool} {LK:Option Addr} {Lk Lj Lh Lg Lf:Option Value}
  {aai ZL:Str} {aeH:Addr} {aaX yw:List Value} {Zk:List Str} {Zq:List Value} {aa0:Bool} {aaN:Option Bool} {aaG:Option Addr} {aas aar aaq aap aao:Option Value}
  (Ef:PySem.W.nsIn K mainGlobals "Reader" = some (some (.ref dz)))
  (Rk:PySem.W.nsIn K mainGlobals "Row" = some (some (.ref vm)))
  (Mw:PySem.W.nsIn K mainGlobals "Book" = some (some (.ref qQ)))
  (yx:PySem.W.nsIn K mainGlobals "HallError" = some (some (.ref cg)))
  (Mv:PySem.W.nsIn K mainGlobals "Torn" = some (some (.ref o9)))
  (a0:PySem.W.findIn K (.ref dz) "__init__" = some (some (.ref f0)))
  (i0:PySem.W.isFn K (.ref f0)=true)
  (l0:K.lookup f0=some ⟨oc0,od0,.func (PySem.W.fnOf "__init__" "Reader.__init__" (aJ fW) (aG fW) (au fW) .none kV0 dc0 pm0 Bp cd0 ct0),sl0⟩)
  (c0:PySem.W.codeIn K cd0 "Reader.__init__" = true)
  (k0:PySem.W.keepIn K (.ref f0)=true)
  (a1:PySem.W.findIn K (.ref cg) "__init__" = some (some (.ref f1)))
  (i1:PySem.W.isFn K (.ref f1)=true)
  (l1:K.lookup f1=some ⟨oc1,od1,.func (PySem.W.fnOf "__init__" "HallError.__init__" (aJ dg) (aG dg) (au dg) .none kV1 dc1 pm1 an1 cd1 ct1),sl1⟩)
  (c1:PySem.W.codeIn K cd1 "HallError.__init__" = true)
  (k1:PySem.W.keepIn K (.ref f1)=true)
  (a2:PySem.W.findIn K (.ref dz) "words" = some (some (.ref f2)))
  (i2:PySem.W.isFn K (.ref f2)=true)
  (l2:K.lookup f2=some ⟨oc2,od2,.func (PySem.W.fnOf "words" "Reader.words" (aJ eO) (aG eO) (au eO) .none kV2 dc2 pm2 an2 cd2 ct2),sl2⟩)
  (c2:PySem.W.codeIn K cd2 "Reader.words" = true)
  (k2:PySem.W.keepIn K (.ref f2)=true)
  (a3:PySem.W.findIn K (.ref dz) "words_of" = some (some (.ref f3)))
  (i3:PySem.W.isFn K (.ref f3)=true)
  (l3:K.lookup f3=some ⟨oc3,od3,.func (PySem.W.fnOf "words_of" "Reader.words_of" (aJ cL) (aG cL) (au cL) .none kV3 dc3 pm3 an3 cd3 ct3),sl3⟩)
  (c3:PySem.W.codeIn K cd3 "Reader.words_of" = true)
  (k3:PySem.W.keepIn K (.ref f3)=true)
  (a4:PySem.W.nsIn K mainGlobals "is_of" = some (some (.ref f4)))
  (l4:K.lookup f4=some ⟨oc4,od4,.func (PySem.W.fnOf "is_of" "is_of" (aJ t7) (aG t7) (au t7) .none kV4 dc4 pm4 an4 cd4 ct4),sl4⟩)
  (c4:PySem.W.codeIn K cd4 "is_of" = true)
  (k4:PySem.W.keepIn K (.ref f4)=true)
  (a5:PySem.W.nsIn K mainGlobals "is_number" = some (some (.ref f5)))
  (l5:K.lookup f5=some ⟨oc5,od5,.func (PySem.W.fnOf "is_number" "is_number" (aJ jd) (aG jd) (au jd) .none kV5 dc5 pm5 an5 cd5 ct5),sl5⟩)
  (c5:PySem.W.codeIn K cd5 "is_number" = true)
  (k5:PySem.W.keepIn K (.ref f5)=true)
  (a6:PySem.W.findIn K (.ref dz) "whole" = some (some (.ref f6)))
  (i6:PySem.W.isFn K (.ref f6)=true)
  (l6:K.lookup f6=some ⟨oc6,od6,.func (PySem.W.fnOf "whole" "Reader.whole" (aJ eU) (aG eU) (au eU) .none kV6 dc6 pm6 an6 cd6 ct6),sl6⟩)
  (c6:PySem.W.codeIn K cd6 "Reader.whole" = true)
  (k6:PySem.W.keepIn K (.ref f6)=true)
  (a7:PySem.W.findIn K (.ref dz) "from_nought" = some (some (.ref f7)))
  (i7:PySem.W.isFn K (.ref f7)=true)
  (l7:K.lookup f7=some ⟨oc7,od7,.func (PySem.W.fnOf "from_nought" "Reader.from_nought" (aJ bO) (aG bO) (au bO) .none kV7 dc7 pm7 an7 cd7 ct7),sl7⟩)
  (c7:PySem.W.codeIn K cd7 "Reader.from_nought" = true)
  (k7:PySem.W.keepIn K (.ref f7)=true)
  (a8:PySem.W.findIn K (.ref dz) "below" = some (some (.ref f8)))
  (i8:PySem.W.isFn K (.ref f8)=true)
  (l8:K.lookup f8=some ⟨oc8,od8,.func (PySem.W.fnOf "below" "Reader.below" (aJ eX) (aG eX) (au eX) .none kV8 dc8 pm8 an8 cd8 ct8),sl8⟩)
  (c8:PySem.W.codeIn K cd8 "Reader.below" = true)
  (k8:PySem.W.keepIn K (.ref f8)=true)
  (a9:PySem.W.findIn K (.ref dz) "hand" = some (some (.ref f9)))
  (i9:PySem.W.isFn K (.ref f9)=true)
  (l9:K.lookup f9=some ⟨oc9,od9,.func (PySem.W.fnOf "hand" "Reader.hand" (aJ fX) (aG fX) (au fX) .none kV9 dc9 pm9 an9 cd9 ct9),sl9⟩)
  (c9:PySem.W.codeIn K cd9 "Reader.hand" = true)
  (k9:PySem.W.keepIn K (.ref f9)=true)
  (a10:PySem.W.findIn K (.ref dz) "go_on" = some (some (.ref f10)))
  (i10:PySem.W.isFn K (.ref f10)=true)
  (l10:K.lookup f10=some ⟨anN,ada,.func (PySem.W.fnOf "go_on" "Reader.go_on" (aJ eV) (aG eV) (au eV) .none ahq air ags ajs aej aiX),amw⟩)
  (c10:PySem.W.codeIn K aej "Reader.go_on" = true)
  (k10:PySem.W.keepIn K (.ref f10)=true)
  (a11:PySem.W.nsIn K mainGlobals "read_head" = some (some (.ref f11)))
  (l11:K.lookup f11=some ⟨anM,ac_,.func (PySem.W.fnOf "read_head" "read_head" (aJ iY) (aG iY) (au iY) .none ahp aiq agr ajr aei aiW),amv⟩)
  (c11:PySem.W.codeIn K aei "read_head" = true)
  (k11:PySem.W.keepIn K (.ref f11)=true)
  (a12:PySem.W.findIn K (.ref dz) "both_sets" = some (some (.ref f12)))
  (i12:PySem.W.isFn K (.ref f12)=true)
  (l12:K.lookup f12=some ⟨anL,ac9,.func (PySem.W.fnOf "both_sets" "Reader.both_sets" (aJ cj) (aG cj) (au cj) .none aho aip agq ajq aeh aiV),amu⟩)
  (c12:PySem.W.codeIn K aeh "Reader.both_sets" = true)
  (k12:PySem.W.keepIn K (.ref f12)=true)
  (a13:PySem.W.nsIn K mainGlobals "read_base" = some (some (.ref f13)))
  (l13:K.lookup f13=some ⟨anK,ac8,.func (PySem.W.fnOf "read_base" "read_base" (aJ i_) (aG i_) (au i_) .none ahn aio agp ajp aeg aiU),amt⟩)
  (c13:PySem.W.codeIn K aeg "read_base" = true)
  (k13:PySem.W.keepIn K (.ref f13)=true)
  (a14:PySem.W.findIn K (.ref dz) "begins" = some (some (.ref f14)))
  (i14:PySem.W.isFn K (.ref f14)=true)
  (l14:K.lookup f14=some ⟨anJ,ac7,.func (PySem.W.fnOf "begins" "Reader.begins" (aJ dU) (aG dU) (au dU) .none ahm ain ago ajo aef aiT),ams⟩)
  (c14:PySem.W.codeIn K aef "Reader.begins" = true)
  (k14:PySem.W.keepIn K (.ref f14)=true)
  (a15:PySem.W.nsIn K mainGlobals "is_name" = some (some (.ref f15)))
  (l15:K.lookup f15=some ⟨anI,ang,.func (PySem.W.fnOf "is_name" "is_name" (aJ m8) (aG m8) (au m8) .none ahl aim agn ajn aee aiS),amr⟩)
  (c15:PySem.W.codeIn K aee "is_name" = true)
  (k15:PySem.W.keepIn K (.ref f15)=true)
  (a16:PySem.W.findIn K (.ref dz) "name" = some (some (.ref f16)))
  (i16:PySem.W.isFn K (.ref f16)=true)
  (l16:K.lookup f16=some ⟨anH,anf,.func (PySem.W.fnOf "name" "Reader.name" (aJ fV) (aG fV) (au fV) .none ahk ail agm ajm aed aiR),amq⟩)
  (c16:PySem.W.codeIn K aed "Reader.name" = true)
  (k16:PySem.W.keepIn K (.ref f16)=true)
  (a17:PySem.W.nsIn K mainGlobals "read_values" = some (some (.ref f17)))
  (l17:K.lookup f17=some ⟨anG,ane,.func (PySem.W.fnOf "read_values" "read_values" (aJ fP) (aG fP) (au fP) .none ahj aik agl ajl aec aiQ),amo⟩)
  (c17:PySem.W.codeIn K aec "read_values" = true)
  (k17:PySem.W.keepIn K (.ref f17)=true)
  (a18:PySem.W.nsIn K mainGlobals "read_answers" = some (some (.ref f18)))
  (l18:K.lookup f18=some ⟨anF,anc,.func (PySem.W.fnOf "read_answers" "read_answers" (aJ eN) (aG eN) (au eN) .none ahi aij agk ajk aeb aiP),amn⟩)
  (c18:PySem.W.codeIn K aeb "read_answers" = true)
  (k18:PySem.W.keepIn K (.ref f18)=true)
  (a19:PySem.W.findIn K (.ref vm) "__init__" = some (some (.ref f19)))
  (i19:PySem.W.isFn K (.ref f19)=true)
  (l19:K.lookup f19=some ⟨anE,anb,.func (PySem.W.fnOf "__init__" "Row.__init__" (aJ jX) (aG jX) (au jX) .none ahh aii agj ajj aea aiO),amm⟩)
  (c19:PySem.W.codeIn K aea "Row.__init__" = true)
  (k19:PySem.W.keepIn K (.ref f19)=true)
  (a20:PySem.W.nsIn K mainGlobals "read_order" = some (some (.ref f20)))
  (l20:K.lookup f20=some ⟨anD,am_,.func (PySem.W.fnOf "read_order" "read_order" (aJ gR) (aG gR) (au gR) .none ahg aih agi aji ad_ aiN),aml⟩)
  (c20:PySem.W.codeIn K ad_ "read_order" = true)
  (k20:PySem.W.keepIn K (.ref f20)=true)
  (a21:PySem.W.nsIn K mainGlobals "read_what" = some (some (.ref f21)))
  (l21:K.lookup f21=some ⟨anC,am9,.func (PySem.W.fnOf "read_what" "read_what" (aJ iW) (aG iW) (au iW) .none ahf aif agh ajh ad9 aiM),amk⟩)
  (c21:PySem.W.codeIn K ad9 "read_what" = true)
  (k21:PySem.W.keepIn K (.ref f21)=true)
  (a22:PySem.W.nsIn K mainGlobals "read_entries" = some (some (.ref f22)))
  (l22:K.lookup f22=some ⟨anB,am8,.func (PySem.W.fnOf "read_entries" "read_entries" (aJ eG) (aG eG) (au eG) .none ahe aie agg ajg ad8 aiL),amj⟩)
  (c22:PySem.W.codeIn K ad8 "read_entries" = true)
  (k22:PySem.W.keepIn K (.ref f22)=true)
  (a23:PySem.W.findIn K (.ref dz) "finish" = some (some (.ref f23)))
  (i23:PySem.W.isFn K (.ref f23)=true)
  (l23:K.lookup f23=some ⟨anA,am7,.func (PySem.W.fnOf "finish" "Reader.finish" (aJ dR) (aG dR) (au dR) .none ahd aid agf ajf ad7 aiK),ami⟩)
  (c23:PySem.W.codeIn K ad7 "Reader.finish" = true)
  (k23:PySem.W.keepIn K (.ref f23)=true)
  (a24:PySem.W.findIn K (.ref vm) "twin" = some (some (.ref f24)))
  (i24:PySem.W.isFn K (.ref f24)=true)
  (l24:K.lookup f24=some ⟨anz,am6,.func (PySem.W.fnOf "twin" "Row.twin" (aJ jW) (aG jW) (au jW) .none ahc aic age aje ad6 aiJ),amh⟩)
  (c24:PySem.W.codeIn K ad6 "Row.twin" = true)
  (k24:PySem.W.keepIn K (.ref f24)=true)
  (a25:PySem.W.findIn K (.ref qQ) "__init__" = some (some (.ref f25)))
  (i25:PySem.W.isFn K (.ref f25)=true)
  (l25:K.lookup f25=some ⟨anx,am5,.func (PySem.W.fnOf "__init__" "Book.__init__" (aJ je) (aG je) (au je) .none ahb aib agd ajd ad5 aiI),amg⟩)
  (YS:PySem.W.codeIn K ad5 "Book.__init__" = true)
  (k25:PySem.W.keepIn K (.ref f25)=true)
  (a26:PySem.W.nsIn K mainGlobals "read_book" = some (some (.ref f26)))
  (l26:K.lookup f26=some ⟨anw,am4,.func (PySem.W.fnOf "read_book" "read_book" (aJ iZ) (aG iZ) (au iZ) .none aha aia agc ajc ad4 aiH),amf⟩)
  (c26:PySem.W.codeIn K ad4 "read_book" = true)
  (k26:PySem.W.keepIn K (.ref f26)=true)
  (a27:PySem.W.nsIn K mainGlobals "_law_odd_entry" = some (some (.ref f27)))
  (l27:K.lookup f27=some ⟨anv,am3,.func (PySem.W.fnOf "_law_odd_entry" "_law_odd_entry" (aJ dN) (aG dN) (au dN) .none ag9 ah_ agb ajb ad3 aiG),ame⟩)
  (c27:PySem.W.codeIn K ad3 "_law_odd_entry" = true)
  (k27:PySem.W.keepIn K (.ref f27)=true)
  (a28:PySem.W.nsIn K mainGlobals "_law_stream" = some (some (.ref f28)))
  (l28:K.lookup f28=some ⟨anu,am2,.func (PySem.W.fnOf "_law_stream" "_law_stream" (aJ gU) (aG gU) (au gU) .none ag8 ah9 aga aja ad2 aiF),amd⟩)
  (c28:PySem.W.codeIn K ad2 "_law_stream" = true)
  (k28:PySem.W.keepIn K (.ref f28)=true)
  (a29:PySem.W.nsIn K mainGlobals "_law_cell_at" = some (some (.ref f29)))
  (l29:K.lookup f29=some ⟨ant,am1,.func (PySem.W.fnOf "_law_cell_at" "_law_cell_at" (aJ fQ) (aG fQ) (au fQ) .none ag7 ah8 af_ ai_ ad1 aiE),amc⟩)
  (c29:PySem.W.codeIn K ad1 "_law_cell_at" = true)
  (k29:PySem.W.keepIn K (.ref f29)=true)
  (a30:PySem.W.nsIn K mainGlobals "_law_word" = some (some (.ref f30)))
  (l30:K.lookup f30=some ⟨anr,amZ,.func (PySem.W.fnOf "_law_word" "_law_word" (aJ jT) (aG jT) (au jT) .none ag6 ah7 af9 ai9 ad0 aiD),amb⟩)
  (c30:PySem.W.codeIn K ad0 "_law_word" = true)
  (k30:PySem.W.keepIn K (.ref f30)=true)
  (a31:PySem.W.nsIn K mainGlobals "_law_read" = some (some (.ref f31)))
  (l31:K.lookup f31=some ⟨anq,amY,.func (PySem.W.fnOf "_law_read" "_law_read" (aJ jV) (aG jV) (au jV) .none ag5 ah6 af8 ai8 adZ aiC),ama⟩)
  (c31:PySem.W.codeIn K adZ "_law_read" = true)
  (k31:PySem.W.keepIn K (.ref f31)=true)
  (a32:PySem.W.nsIn K mainGlobals "_law_due" = some (some (.ref f32)))
  (l32:K.lookup f32=some ⟨anp,amX,.func (PySem.W.fnOf "_law_due" "_law_due" (aJ m6) (aG m6) (au m6) .none ag4 ah5 af7 ai7 adY aiB),al_⟩)
  (c32:PySem.W.codeIn K adY "_law_due" = true)
  (k32:PySem.W.keepIn K (.ref f32)=true)
  (a33:PySem.W.nsIn K mainGlobals "_law_text" = some (some (.ref f33)))
  (l33:K.lookup f33=some ⟨ano,amW,.func (PySem.W.fnOf "_law_text" "_law_text" (aJ jU) (aG jU) (au jU) .none ag3 ah4 af6 ai6 adX aiA),al9⟩)
  (c33:PySem.W.codeIn K adX "_law_text" = true)
  (k33:PySem.W.keepIn K (.ref f33)=true)
  (a34:PySem.W.nsIn K mainGlobals "_law_alike" = some (some (.ref f34)))
  (l34:K.lookup f34=some ⟨anm,amV,.func (PySem.W.fnOf "_law_alike" "_law_alike" (aJ jc) (aG jc) (au jc) .none ag2 ah3 af5 ai5 adW aiz),al8⟩)
  (c34:PySem.W.codeIn K adW "_law_alike" = true)
  (k34:PySem.W.keepIn K (.ref f34)=true)
  (a35:PySem.W.findIn K (.ref vm) "entries" = some (some (.ref f35)))
  (i35:PySem.W.isFn K (.ref f35)=true)
  (l35:K.lookup f35=some ⟨anl,amU,.func (PySem.W.fnOf "entries" "Row.entries" (aJ fU) (aG fU) (au fU) .none ag1 ah2 af4 ai4 adV aiy),al7⟩)
  (c35:PySem.W.codeIn K adV "Row.entries" = true)
  (k35:PySem.W.keepIn K (.ref f35)=true)
  (a36:PySem.W.nsIn K mainGlobals "_law_found" = some (some (.ref f36)))
  (l36:K.lookup f36=some ⟨ank,amT,.func (PySem.W.fnOf "_law_found" "_law_found" (aJ jb) (aG jb) (au jb) .none ag0 ah1 af3 ai3 adU aix),al6⟩)
  (c36:PySem.W.codeIn K adU "_law_found" = true)
  (k36:PySem.W.keepIn K (.ref f36)=true)
  (a37:PySem.W.nsIn K mainGlobals "law" = some (some (.ref f37)))
  (l37:K.lookup f37=some ⟨anj,amS,.func (PySem.W.fnOf "law" "law" (aJ BP) (aG BP) (au BP) .none agZ ah0 af2 ai2 adT aiw),al5⟩)
  (c37:PySem.W.codeIn K adT "law" = true)
  (k37:PySem.W.keepIn K (.ref f37)=true)
  (Dz:PySem.W.plainGet K dz Str.empty=true)
  (DX:PySem.W.hasDictIn K dz=true)
  (Dw:PySem.W.plainOver K dz=true)
  (Dr:PySem.W.findIn K (.ref dz) "__setattr__" = some (some (.builtin "object.__setattr__")))
  (uq:PySem.W.makesIn K dz=true)
  (DR:PySem.W.keepIn K (.ref dz)=true)
  (eY:PySem.W.findIn K (.ref dz) "rows" = some none)
  (aQ:PySem.W.findIn K (.ref dz) "here" = some none)
  (QD:PySem.W.plainGet K vm Str.empty=true)
  (Q7:PySem.W.hasDictIn K vm=true)
  (QB:PySem.W.plainOver K vm=true)
  (Qq:PySem.W.findIn K (.ref vm) "__setattr__" = some (some (.builtin "object.__setattr__")))
  (A_:PySem.W.makesIn K vm=true)
  (Q4:PySem.W.keepIn K (.ref vm)=true)
  (jL:PySem.W.findIn K (.ref vm) "base" = some none)
  (d7:PySem.W.findIn K (.ref vm) "base_term" = some none)
  (dh:PySem.W.findIn K (.ref vm) "base_roll" = some none)
  (dZ:PySem.W.findIn K (.ref vm) "kept" = some none)
  (Kz:PySem.W.plainGet K qQ Str.empty=true)
  (Lx:PySem.W.hasDictIn K qQ=true)
  (Ky:PySem.W.plainOver K qQ=true)
  (Km:PySem.W.findIn K (.ref qQ) "__setattr__" = some (some (.builtin "object.__setattr__")))
  (Ad:PySem.W.makesIn K qQ=true)
  (Li:PySem.W.keepIn K (.ref qQ)=true)
  (j4:PySem.W.findIn K (.ref qQ) "term" = some none)
  (j0:PySem.W.findIn K (.ref qQ) "vote" = some none)
  (lW:PySem.W.findIn K (.ref qQ) "row" = some none)
  (di:PySem.W.findIn K (.ref qQ) "kept" = some none)
  (hn_:PySem.W.specialIn K (.builtin "object.__class__") "__get__" = some (some (.builtin "getset_descriptor.__get__")))
  (tk_:PySem.W.takesIn K (.builtin "object.__class__")=some true)
  (gW:K.lookup cg=some (excClassObj K5 Kw cg Pk Ml j_ true Kd Kl Mu L_ LK Lk Lj Lh Lg Lf "ValueError.__new__"))
  (xH:j_.contains (.type "ValueError")=true)
  (xG:j_.contains (.type "AttributeError")=false)
  (xg:j_.contains (.type "NameError")=false)
  (mY:j_.contains (.type "BaseException")=true)
  (tX:j_.contains (.type "object")=true)
  (xT:j_=[].map Value.ref++[.type "ValueError",.type "Exception",.type "BaseException",.type "object"])
  (xW:PySem.W.findIn K (.ref cg) "__init__" = some (some (.ref f1)))
  (yc:PySem.W.keepIn K (.ref cg)=true)
  (wZ:PySem.W.findIn K (.ref cg) "__setattr__" = some (some (.builtin "object.__setattr__")))
  (xx:PySem.W.findIn K (.ref cg) "__getattribute__" = some (some (.builtin "BaseException.__getattribute__")))
  (wY:PySem.W.findIn K (.ref cg) "at" = some none)
  (xu:PySem.W.findIn K (.ref cg) "__getattr__" = some none)
  (xq:PySem.W.findIn K (.ref cg) "__class__" = some (some (.builtin "object.__class__")))
  (t_:K.lookup o9=some (excClassObj aai ZL o9 aeH aaX yw true Zk Zq aa0 aaN aaG aas aar aaq aap aao "ValueError.__new__"))
  (J7:yw.contains (.type "ValueError")=true)
  (J6:yw.contains (.type "AttributeError")=false)
  (JZ:yw.contains (.type "NameError")=false)
  (z6:yw.contains (.type "BaseException")=true)
  (FJ:yw.contains (.type "object")=true)
  (Ks:yw=[cg].map Value.ref++[.type "ValueError",.type "Exception",.type "BaseException",.type "object"])
  (K4:PySem.W.findIn K (.ref o9) "__init__" = some (some (.ref f1)))
  (Ld:PySem.W.keepIn K (.ref o9)=true)
  (JX:PySem.W.findIn K (.ref o9) "__setattr__" = some (some (.builtin "object.__setattr__")))
  (J5:PySem.W.findIn K (.ref o9) "__getattribute__" = some (some (.builtin "BaseException.__getattribute__")))
  (JW:PySem.W.findIn K (.ref o9) "at" = some none)
  (J4:PySem.W.findIn K (.ref o9) "__getattr__" = some none)
  (J0:PySem.W.findIn K (.ref o9) "__class__" = some (some (.builtin "object.__class__")))
  (gQ:PySem.W.subIn K (.ref cg) (.ref cg)=some true)
  (lH:PySem.W.subIn K (.ref cg) (.ref o9)=some false)
  (lG:PySem.W.subIn K (.ref o9) (.ref cg)=some true)
  (tZ:PySem.W.subIn K (.ref o9) (.ref o9)=some true)
  (Bj:PySem.W.nsIn K mainGlobals "FIGURES" = some (some (.str "0123456789" JR)))
  (HQ:PySem.W.nsIn K mainGlobals "HANDS" = some (some (.int 60 Uc)))
  (Bh:PySem.W.nsIn K mainGlobals "LETTERS" = some (some (.str "abcdefghijklmnopqrstuvwxyz" JQ)))
  (tL:PySem.W.nsIn K mainGlobals "MOST_FIGURES" = some (some (.int 100 zZ)))
  (tK:PySem.W.nsIn K mainGlobals "MOST_LETTERS" = some (some (.int 8 zY)))
  (vg:PySem.W.nsIn K mainGlobals "ORDER_WORDS" = some (some (.ref rB)))
  (uC:(rB==sysModules)=false)
  (uL:K.lookup rB=some uI)
  (uw:uI.ExactDict)
  (vf:uI.data= .dict zT Hx)
  (uE:PyProof.Rows.KTD.Rows (fun i v=>∃t,v=Value.int i t) zT.toList [("put",3),("add",3),("swap",4)])
  (V2:PySem.W.nsIn K mainGlobals "all" = some none)
  (P_:PySem.W.nsIn K mainGlobals "bool" = some none)
  (V1:PySem.W.nsIn K mainGlobals "int" = some none)
  (wX:PySem.W.nsIn K mainGlobals "isinstance" = some none)
  (V0:PySem.W.nsIn K mainGlobals "len" = some none)
  (P0:PySem.W.nsIn K mainGlobals "list" = some none)
  (VV:PySem.W.nsIn K mainGlobals "max" = some none)
  (VR:PySem.W.nsIn K mainGlobals "min" = some none)
  (JT:PySem.W.nsIn K mainGlobals "range" = some none)
  (VP:PySem.W.nsIn K mainGlobals "str" = some none)
  (JS:PySem.W.nsIn K mainGlobals "tuple" = some none):
  ∃t,Txt K mg t:=
 ⟨{fG:=dz,
   zW:=vm,
   yt:=qQ,
   dJ:=cg,
   jG:=o9,
   n8:=f0,oF:=PySem.W.fnOf "__init__" "Reader.__init__" (aJ fW) (aG fW) (au fW) .none kV0 dc0 pm0 Bp cd0 ct0,
   jE:=f1,nG:=PySem.W.fnOf "__init__" "HallError.__init__" (aJ dg) (aG dg) (au dg) .none kV1 dc1 pm1 an1 cd1 ct1,
   mz:=f2,mK:=PySem.W.fnOf "words" "Reader.words" (aJ eO) (aG eO) (au eO) .none kV2 dc2 pm2 an2 cd2 ct2,
   ji:=f3,jj:=PySem.W.fnOf "words_of" "Reader.words_of" (aJ cL) (aG cL) (au cL) .none kV3 dc3 pm3 an3 cd3 ct3,
   CT:=f4,CV:=PySem.W.fnOf "is_of" "is_of" (aJ t7) (aG t7) (au t7) .none kV4 dc4 pm4 an4 cd4 ct4,
   rP:=f5,sy:=PySem.W.fnOf "is_number" "is_number" (aJ jd) (aG jd) (au jd) .none kV5 dc5 pm5 an5 cd5 ct5,
   mD:=f6,mL:=PySem.W.fnOf "whole" "Reader.whole" (aJ eU) (aG eU) (au eU) .none kV6 dc6 pm6 an6 cd6 ct6,
   gA:=f7,gB:=PySem.W.fnOf "from_nought" "Reader.from_nought" (aJ bO) (aG bO) (au bO) .none kV7 dc7 pm7 an7 cd7 ct7,
   mG:=f8,mQ:=PySem.W.fnOf "below" "Reader.below" (aJ eX) (aG eX) (au eX) .none kV8 dc8 pm8 an8 cd8 ct8,
   n_:=f9,oG:=PySem.W.fnOf "hand" "Reader.hand" (aJ fX) (aG fX) (au fX) .none kV9 dc9 pm9 an9 cd9 ct9,
   mF:=f10,mO:=PySem.W.fnOf "go_on" "Reader.go_on" (aJ eV) (aG eV) (au eV) .none ahq air ags ajs aej aiX,
   rJ:=f11,rW:=PySem.W.fnOf "read_head" "read_head" (aJ iY) (aG iY) (au iY) .none ahp aiq agr ajr aei aiW,
   iI:=f12,iJ:=PySem.W.fnOf "both_sets" "Reader.both_sets" (aJ cj) (aG cj) (au cj) .none aho aip agq ajq aeh aiV,
   rM:=f13,rZ:=PySem.W.fnOf "read_base" "read_base" (aJ i_) (aG i_) (au i_) .none ahn aio agp ajp aeg aiU,
   kW:=f14,k_:=PySem.W.fnOf "begins" "Reader.begins" (aJ dU) (aG dU) (au dU) .none ahm ain ago ajo aef aiT,
   wO:=f15,wU:=PySem.W.fnOf "is_name" "is_name" (aJ m8) (aG m8) (au m8) .none ahl aim agn ajn aee aiS,
   n6:=f16,oE:=PySem.W.fnOf "name" "Reader.name" (aJ fV) (aG fV) (au fV) .none ahk ail agm ajm aed aiR,
   nW:=f17,oh:=PySem.W.fnOf "read_values" "read_values" (aJ fP) (aG fP) (au fP) .none ahj aik agl ajl aec aiQ,
   mq:=f18,mJ:=PySem.W.fnOf "read_answers" "read_answers" (aJ eN) (aG eN) (au eN) .none ahi aij agk ajk aeb aiP,
   uV:=f19,u_:=PySem.W.fnOf "__init__" "Row.__init__" (aJ jX) (aG jX) (au jX) .none ahh aii agj ajj aea aiO,
   pZ:=f20,p8:=PySem.W.fnOf "read_order" "read_order" (aJ gR) (aG gR) (au gR) .none ahg aih agi aji ad_ aiN,
   rH:=f21,rT:=PySem.W.fnOf "read_what" "read_what" (aJ iW) (aG iW) (au iW) .none ahf aif agh ajh ad9 aiM,
   mj:=f22,mH:=PySem.W.fnOf "read_entries" "read_entries" (aJ eG) (aG eG) (au eG) .none ahe aie agg ajg ad8 aiL,
   kO:=f23,kZ:=PySem.W.fnOf "finish" "Reader.finish" (aJ dR) (aG dR) (au dR) .none ahd aid agf ajf ad7 aiK,
   uU:=f24,u9:=PySem.W.fnOf "twin" "Row.twin" (aJ jW) (aG jW) (au jW) .none ahc aic age aje ad6 aiJ,
   rQ:=f25,sE:=PySem.W.fnOf "__init__" "Book.__init__" (aJ je) (aG je) (au je) .none ahb aib agd ajd ad5 aiI,
   rK:=f26,rY:=PySem.W.fnOf "read_book" "read_book" (aJ iZ) (aG iZ) (au iZ) .none aha aia agc ajc ad4 aiH,
   kJ:=f27,kY:=PySem.W.fnOf "_law_odd_entry" "_law_odd_entry" (aJ dN) (aG dN) (au dN) .none ag9 ah_ agb ajb ad3 aiG,
   p6:=f28,p_:=PySem.W.fnOf "_law_stream" "_law_stream" (aJ gU) (aG gU) (au gU) .none ag8 ah9 aga aja ad2 aiF,
   nY:=f29,ou:=PySem.W.fnOf "_law_cell_at" "_law_cell_at" (aJ fQ) (aG fQ) (au fQ) .none ag7 ah8 af_ ai_ ad1 aiE,
   uQ:=f30,uX:=PySem.W.fnOf "_law_word" "_law_word" (aJ jT) (aG jT) (au jT) .none ag6 ah7 af9 ai9 ad0 aiD,
   uT:=f31,uZ:=PySem.W.fnOf "_law_read" "_law_read" (aJ jV) (aG jV) (au jV) .none ag5 ah6 af8 ai8 adZ aiC,
   wN:=f32,wR:=PySem.W.fnOf "_law_due" "_law_due" (aJ m6) (aG m6) (au m6) .none ag4 ah5 af7 ai7 adY aiB,
   uR:=f33,uY:=PySem.W.fnOf "_law_text" "_law_text" (aJ jU) (aG jU) (au jU) .none ag3 ah4 af6 ai6 adX aiA,
   rO:=f34,su:=PySem.W.fnOf "_law_alike" "_law_alike" (aJ jc) (aG jc) (au jc) .none ag2 ah3 af5 ai5 adW aiz,
   nZ:=f35,oA:=PySem.W.fnOf "entries" "Row.entries" (aJ fU) (aG fU) (au fU) .none ag1 ah2 af4 ai4 adV aiy,
   rN:=f36,sr:=PySem.W.fnOf "_law_found" "_law_found" (aJ jb) (aG jb) (au jb) .none ag0 ah1 af3 ai3 adU aix,
   Jy:=f37,E_:=PySem.W.fnOf "law" "law" (aJ BP) (aG BP) (au BP) .none agZ ah0 af2 ai2 adT aiw,
   Ju:=JR,
   Tn:=Uc,
   Jt:=JQ,
   zH:=zZ,
   zG:=zY,
   wg:=rB},
  {zP:=aK l0 c0 k0,
   jt:=(aK l0 c0 k0:bU K _ _ fW .none _ _).binds (ps:=["self","text"]) fun _ _ _ _ _ _ us hl=>match us,hl with | [_,_],_=>rfl,
   uq:=⟨uq,a0,i0,DR⟩,
   vP:=aK l1 c1 k1,
   bB:=(aK l1 c1 k1:bU K _ _ dg .none _ _).binds (ps:=["self","at"]) fun _ _ _ _ _ _ us hl=>match us,hl with | [_,_],_=>rfl,
   yN:=aK l2 c2 k2,
   e_:=(aK l2 c2 k2:bU K _ _ eO .none _ _).binds (ps:=["self"]) fun _ _ _ _ _ _ us hl=>match us,hl with | [_],_=>rfl,
   oX:=⟨a2,i2,k2⟩,
   uP:=aK l3 c3 k3,
   bQ:=(aK l3 c3 k3:bU K _ _ cL .none _ _).binds (ps:=["self","first","count"]) fun _ _ _ _ _ _ us hl=>match us,hl with | [_,_,_],_=>rfl,
   fL:=⟨a3,i3,k3⟩,
   CP:=aK l4 c4 k4,
   rz:=(aK l4 c4 k4:bU K _ _ t7 .none _ _).binds (ps:=["word","signs","most"]) fun _ _ _ _ _ _ us hl=>match us,hl with | [_,_,_],_=>rfl,
   G_:=PySem.W.mg_of X G a4,
   yq:=aK l5 c5 k5,
   mU:=(aK l5 c5 k5:bU K _ _ jd .none _ _).binds (ps:=["word"]) fun _ _ _ _ _ _ us hl=>match us,hl with | [_],_=>rfl,
   Cr:=PySem.W.mg_of X G a5,
   yO:=aK l6 c6 k6,
   bR:=(aK l6 c6 k6:bU K _ _ eU .none _ _).binds (ps:=["self","word"]) fun _ _ _ _ _ _ us hl=>match us,hl with | [_,_],_=>rfl,
   fB:=⟨a6,i6,k6⟩,
   qg:=aK l7 c7 k7,
   aZ:=(aK l7 c7 k7:bU K _ _ bO .none _ _).binds (ps:=["self","word"]) fun _ _ _ _ _ _ us hl=>match us,hl with | [_,_],_=>rfl,
   dM:=⟨a7,i7,k7⟩,
   yQ:=aK l8 c8 k8,
   cY:=(aK l8 c8 k8:bU K _ _ eX .none _ _).binds (ps:=["self","word","bound"]) fun _ _ _ _ _ _ us hl=>match us,hl with | [_,_,_],_=>rfl,
   oY:=⟨a8,i8,k8⟩,
   zQ:=aK l9 c9 k9,
   ig:=(aK l9 c9 k9:bU K _ _ fX .none _ _).binds (ps:=["self","word"]) fun _ _ _ _ _ _ us hl=>match us,hl with | [_,_],_=>rfl,
   zy:=⟨a9,i9,k9⟩,
   yP:=aK l10 c10 k10,
   cX:=(aK l10 c10 k10:bU K _ _ eV .none _ _).binds (ps:=["self"]) fun _ _ _ _ _ _ us hl=>match us,hl with | [_],_=>rfl,
   iU:=⟨a10,i10,k10⟩,
   yj:=aK l11 c11 k11,
   jk:=(aK l11 c11 k11:bU K _ _ iY .none _ _).binds (ps:=["reader"]) fun _ _ _ _ _ _ us hl=>match us,hl with | [_],_=>rfl,
   Ck:=PySem.W.mg_of X G a11,
   tW:=aK l12 c12 k12,
   bM:=(aK l12 c12 k12:bU K _ _ cj .none _ _).binds (ps:=["self","one","two"]) fun _ _ _ _ _ _ us hl=>match us,hl with | [_,_,_],_=>rfl,
   nH:=⟨a12,i12,k12⟩,
   ym:=aK l13 c13 k13,
   h_:=(aK l13 c13 k13:bU K _ _ i_ .none _ _).binds (ps:=["reader"]) fun _ _ _ _ _ _ us hl=>match us,hl with | [_],_=>rfl,
   Cm:=PySem.W.mg_of X G a13,
   wM:=aK l14 c14 k14,
   dW:=(aK l14 c14 k14:bU K _ _ dU .none _ _).binds (ps:=["self","word"]) fun _ _ _ _ _ _ us hl=>match us,hl with | [_,_],_=>rfl,
   m9:=⟨a14,i14,k14⟩,
   Be:=aK l15 c15 k15,
   qP:=(aK l15 c15 k15:bU K _ _ m8 .none _ _).binds (ps:=["word"]) fun _ _ _ _ _ _ us hl=>match us,hl with | [_],_=>rfl,
   Hf:=PySem.W.mg_of X G a15,
   zO:=aK l16 c16 k16,
   gh:=(aK l16 c16 k16:bU K _ _ fV .none _ _).binds (ps:=["self","word"]) fun _ _ _ _ _ _ us hl=>match us,hl with | [_,_],_=>rfl,
   uK:=⟨a16,i16,k16⟩,
   uO:=aK l17 c17 k17,
   fZ:=(aK l17 c17 k17:bU K _ _ fP .none _ _).binds (ps:=["reader"]) fun _ _ _ _ _ _ us hl=>match us,hl with | [_],_=>rfl,
   zq:=PySem.W.mg_of X G a17,
   tE:=aK l18 c18 k18,
   eZ:=(aK l18 c18 k18:bU K _ _ eN .none _ _).binds (ps:=["reader"]) fun _ _ _ _ _ _ us hl=>match us,hl with | [_],_=>rfl,
   yI:=PySem.W.mg_of X G a18,
   EY:=aK l19 c19 k19,
   mV:=(aK l19 c19 k19:bU K _ _ jX .none _ _).binds (ps:=["self","base","base_term","base_roll","entries"]) fun _ _ _ _ _ _ us hl=>match us,hl with | [_,_,_,_,_],_=>rfl,
   A_:=⟨A_,a19,i19,Q4⟩,
   wj:=aK l20 c20 k20,
   gf:=(aK l20 c20 k20:bU K _ _ gR .none _ _).binds (ps:=["reader","words"]) fun _ _ _ _ _ _ us hl=>match us,hl with | [_,_],_=>rfl,
   Ao:=PySem.W.mg_of X G a20,
   yh:=aK l21 c21 k21,
   bV:=(aK l21 c21 k21:bU K _ _ iW .none _ _).binds (ps:=["reader","words"]) fun _ _ _ _ _ _ us hl=>match us,hl with | [_,_],_=>rfl,
   Cj:=PySem.W.mg_of X G a21,
   tD:=aK l22 c22 k22,
   gC:=(aK l22 c22 k22:bU K _ _ eG .none _ _).binds (ps:=["reader"]) fun _ _ _ _ _ _ us hl=>match us,hl with | [_],_=>rfl,
   yH:=PySem.W.mg_of X G a22,
   wL:=aK l23 c23 k23,
   gM:=(aK l23 c23 k23:bU K _ _ dR .none _ _).binds (ps:=["self"]) fun _ _ _ _ _ _ us hl=>match us,hl with | [_],_=>rfl,
   wG:=⟨a23,i23,k23⟩,
   Ez:=aK l24 c24 k24,
   o7:=(aK l24 c24 k24:bU K _ _ jW .none _ _).binds (ps:=["self"]) fun _ _ _ _ _ _ us hl=>match us,hl with | [_],_=>rfl,
   En:=⟨a24,i24,k24⟩,
   CQ:=aK l25 YS k25,
   mW:=(aK l25 YS k25:bU K _ _ je .none _ _).binds (ps:=["self","term","vote","row","kept"]) fun _ _ _ _ _ _ us hl=>match us,hl with | [_,_,_,_,_],_=>rfl,
   Ad:=⟨Ad,a25,i25,Li⟩,
   ug:=aK l26 c26 k26,
   cW:=(aK l26 c26 k26:bU K _ _ iZ .none _ _).binds (ps:=["text"]) fun _ _ _ _ _ _ us hl=>match us,hl with | [_],_=>rfl,
   xX:=PySem.W.mg_of X G a26,
   qN:=aK l27 c27 k27,
   fC:=(aK l27 c27 k27:bU K _ _ dN .none _ _).binds (ps:=["_law_number"]) fun _ _ _ _ _ _ us hl=>match us,hl with | [_],_=>rfl,
   wF:=PySem.W.mg_of X G a27,
   q_:=aK l28 c28 k28,
   jl:=(aK l28 c28 k28:bU K _ _ gU .none _ _).binds (ps:=["_law_cell","_law_size"]) fun _ _ _ _ _ _ us hl=>match us,hl with | [_,_],_=>rfl,
   vW:=PySem.W.mg_of X G a28,
   pY:=aK l29 c29 k29,
   ie:=(aK l29 c29 k29:bU K _ _ fQ .none _ _).binds (ps:=["_law_script","_law_k"]) fun _ _ _ _ _ _ us hl=>match us,hl with | [_,_],_=>rfl,
   uJ:=PySem.W.mg_of X G a29,
   zK:=aK l30 c30 k30,
   o6:=(aK l30 c30 k30:bU K _ _ jT .none _ _).binds (ps:=["_law_xs","_law_cell"]) fun _ _ _ _ _ _ us hl=>match us,hl with | [_,_],_=>rfl,
   Ek:=PySem.W.mg_of X G a30,
   zM:=aK l31 c31 k31,
   iK:=(aK l31 c31 k31:bU K _ _ jV .none _ _).binds (ps:=["_law_word_here"]) fun _ _ _ _ _ _ us hl=>match us,hl with | [_],_=>rfl,
   Em:=PySem.W.mg_of X G a31,
   Bd:=aK l32 c32 k32,
   lB:=(aK l32 c32 k32:bU K _ _ m6 .none _ _).binds (ps:=["_law_spot","_law_word_here"]) fun _ _ _ _ _ _ us hl=>match us,hl with | [_,_],_=>rfl,
   G9:=PySem.W.mg_of X G a32,
   zL:=aK l33 c33 k33,
   qO:=(aK l33 c33 k33:bU K _ _ jU .none _ _).binds (ps:=["_law_spot","_law_word_here"]) fun _ _ _ _ _ _ us hl=>match us,hl with | [_,_],_=>rfl,
   El:=PySem.W.mg_of X G a33,
   yp:=aK l34 c34 k34,
   jm:=(aK l34 c34 k34:bU K _ _ jc .none _ _).binds (ps:=["_law_found_here","_law_due_here"]) fun _ _ _ _ _ _ us hl=>match us,hl with | [_,_],_=>rfl,
   Cq:=PySem.W.mg_of X G a34,
   zN:=aK l35 c35 k35,
   jr:=(aK l35 c35 k35:bU K _ _ fU .none _ _).binds (ps:=["self"]) fun _ _ _ _ _ _ us hl=>match us,hl with | [_],_=>rfl,
   zx:=⟨a35,i35,k35⟩,
   yo:=aK l36 c36 k36,
   jN:=(aK l36 c36 k36:bU K _ _ jb .none _ _).binds (ps:=["_law_book","_law_spot"]) fun _ _ _ _ _ _ us hl=>match us,hl with | [_,_],_=>rfl,
   Cp:=PySem.W.mg_of X G a36,
   Ra:=aK l37 c37 k37,
   JM:=(aK l37 c37 k37:bU K _ _ BP .none _ _).binds (ps:=["_law_script"]) fun _ _ _ _ _ _ us hl=>match us,hl with | [_],_=>rfl,
   Xy:=PySem.W.mg_of X G a37,
   aF:=⟨Dz,DX,Dw,Dr⟩,
   Jh:=PySem.W.mg_of X G Ef,
   eY:=eY,
   aQ:=aQ,
   jq:=⟨QD,Q7,QB,Qq⟩,
   QL:=PySem.W.mg_of X G Rk,
   jL:=jL,
   d7:=d7,
   dh:=dh,
   dZ:=dZ,
   j9:=⟨Kz,Lx,Ky,Km⟩,
   SQ:=PySem.W.mg_of X G Mw,
   j4:=j4,
   j0:=j0,
   lW:=lW,
   di:=di,
   K8:=PySem.W.mg_of X G yx,
   J2:=V3 gW xH xG xg mY xW i1 yc,
   xF:=Rz gW tX mY (Ei xT) wZ xx wY,
   xr:=V4 gW tX xu xq hn_ tk_,
   jx:=PySem.W.mg_of X G Mv,
   lF:=V3 t_ J7 J6 JZ z6 K4 i1 Ld,
   jw:=Rz t_ FJ z6 (Ei Ks) JX J5 JW,
   J3:=V4 t_ FJ J4 J0 hn_ tk_,
   xm:=Ry gW mY gQ,
   yd:=Tc gW gQ,
   pG:=Ry t_ z6 lH,
   Cz:=Tc t_ lH,
   Br:=Ry gW mY lG,
   Cy:=Tc gW lG,
   xj:=Ry t_ z6 tZ,
   Le:=Tc t_ tZ,
   Hh:=PySem.W.mg_of X G Bj,
   Cu:=PySem.W.mg_of X G HQ,
   Hg:=PySem.W.mg_of X G Bh,
   yK:=PySem.W.mg_of X G tL,
   yJ:=PySem.W.mg_of X G tK,
   zu:=PySem.W.mg_of X G vg,
   za:=⟨uC,_,_,_,uL,uw,vf,uE⟩,
   abq:=PySem.W.mg_none_of X G V2,
   XD:=PySem.W.mg_none_of X G P_,
   SX:=PySem.W.mg_none_of X G V1,
   pP:=PySem.W.mg_none_of X G wX,
   rE:=PySem.W.mg_none_of X G V0,
   QV:=PySem.W.mg_none_of X G P0,
   abp:=PySem.W.mg_none_of X G VV,
   abo:=PySem.W.mg_none_of X G VR,
   La:=PySem.W.mg_none_of X G JT,
   Eo:=PySem.W.mg_none_of X G VP,
   Cv:=PySem.W.mg_none_of X G JS}⟩
end My
open PySem PySem.W PyProof.Rows
def PySem.W.Fast.tw14484101442260424928 : Nat := 0
def PySem.W.Fast.tw4625755458053965152 : Nat := 0
def PySem.W.Fast.tw17717152403593690016 : Nat := 0
def PySem.W.Fast.tw17861183855606848416 : Nat := 0
def PySem.W.Fast.tw7943696103586336769 : Nat := 0
def PySem.W.Fast.tw7665477069323440289 : Nat := 0
def PySem.W.Fast.tw4594351148393640449 : Nat := 0
def PySem.W.Fast.tw16466689938974317217 : Nat := 0
def PySem.W.Fast.tw14540908495814111937 : Nat := 0
def PySem.W.Fast.tw3268569907145654145 : Nat := 0
def PySem.W.Fast.tw5463546216586697890 : Nat := 0
def PySem.W.Fast.tw12700856070752444802 : Nat := 0
def PySem.W.Fast.tw6561681820581533122 : Nat := 0
def PySem.W.Fast.tw13096130062699590178 : Nat := 0
def PySem.W.Fast.tw390410753725654690 : Nat := 0
def PySem.W.Fast.tw1060411738115613731 : Nat := 0
def PySem.W.Fast.tw11848645575105107139 : Nat := 0
def PySem.W.Fast.tw290273677397424547 : Nat := 0
def PySem.W.Fast.tw17347167338638640579 : Nat := 0
def PySem.W.Fast.tw10001020284531824163 : Nat := 0
def PySem.W.Fast.tw10395408164576968387 : Nat := 0
def PySem.W.Fast.tw15310256957271629507 : Nat := 0
def PySem.W.Fast.tw4897103406052325155 : Nat := 0
def PySem.W.Fast.tw6649780928439638116 : Nat := 0
def PySem.W.Fast.tw2326440466105927172 : Nat := 0
def PySem.W.Fast.tw1131423667811589668 : Nat := 0
def PySem.W.Fast.tw11297401305144225572 : Nat := 0
def PySem.W.Fast.tw8821334313312180036 : Nat := 0
def PySem.W.Fast.tw10051750026465100772 : Nat := 0
def PySem.W.Fast.tw3777145780164128453 : Nat := 0
def PySem.W.Fast.tw12749878647991882501 : Nat := 0
def PySem.W.Fast.tw10409175157802650469 : Nat := 0
def PySem.W.Fast.tw15259285897349289990 : Nat := 0
def PySem.W.Fast.tw16306506376698241542 : Nat := 0
def PySem.W.Fast.tw18244998952844054374 : Nat := 0
def PySem.W.Fast.tw9442469620638298279 : Nat := 0
def PySem.W.Fast.tw4475829337302854311 : Nat := 0
def PySem.W.Fast.tw9156613913815494343 : Nat := 0
def PySem.W.Fast.tw11813304316857280231 : Nat := 0
def PySem.W.Fast.tw17084502468355185415 : Nat := 0
def PySem.W.Fast.tw16186773512984177479 : Nat := 0
def PySem.W.Fast.tw7316689860403732455 : Nat := 0
def PySem.W.Fast.tw16100664049741674568 : Nat := 0
def PySem.W.Fast.tw6640183603095476616 : Nat := 0
def PySem.W.Fast.tw526696338648970024 : Nat := 0
def PySem.W.Fast.tw10855047465251644745 : Nat := 0
def PySem.W.Fast.tw13887994324516914921 : Nat := 0
def PySem.W.Fast.tw13083530379699020713 : Nat := 0
def PySem.W.Fast.tw6214106137826213833 : Nat := 0
def PySem.W.Fast.tw16226396466489936202 : Nat := 0
def PySem.W.Fast.tw13636086418883423082 : Nat := 0
def PySem.W.Fast.tw5654048182905032650 : Nat := 0
def PySem.W.Fast.tw17118964641308859370 : Nat := 0
def PySem.W.Fast.tw12978684795159007243 : Nat := 0
def PySem.W.Fast.tw130222980159040523 : Nat := 0
def PySem.W.Fast.tw9610617545093916939 : Nat := 0
def PySem.W.Fast.tw17781568720331279979 : Nat := 0
def PySem.W.Fast.tw7840334672756281163 : Nat := 0
def PySem.W.Fast.tw4103464213390408555 : Nat := 0
def PySem.W.Fast.tw7290448818027158572 : Nat := 0
def PySem.W.Fast.tw588151587271308364 : Nat := 0
def PySem.W.Fast.tw1155083874276141164 : Nat := 0
def PySem.W.Fast.tw11292065616294207692 : Nat := 0
def PySem.W.Fast.tw10046841324178680044 : Nat := 0
def PySem.W.Fast.tw2044720497646740844 : Nat := 0
def PySem.W.Fast.tw16169698859028962060 : Nat := 0
def PySem.W.Fast.tw11174250622474396652 : Nat := 0
def PySem.W.Fast.tw6218698363563582444 : Nat := 0
def PySem.W.Fast.tw17952292098381849741 : Nat := 0
def PySem.W.Fast.tw13724765700928060621 : Nat := 0
def PySem.W.Fast.tw5112523943575871021 : Nat := 0
def PySem.W.Fast.tw7319930571466497613 : Nat := 0
def PySem.W.Fast.tw5537245210495241869 : Nat := 0
def PySem.W.Fast.tw3780271852258376397 : Nat := 0
def PySem.W.Fast.tw5302247313086711597 : Nat := 0
def PySem.W.Fast.tw756276332248720173 : Nat := 0
def PySem.W.Fast.tw1160576321940960237 : Nat := 0
def PySem.W.Fast.tw2068886943303695502 : Nat := 0
def PySem.W.Fast.tw9269487889867873582 : Nat := 0
def PySem.W.Fast.tw17292251751460402158 : Nat := 0
def PySem.W.Fast.tw2300975653534393326 : Nat := 0
def PySem.W.Fast.tw8508810125548403759 : Nat := 0
def PySem.W.Fast.tw9666267614632081615 : Nat := 0
def PySem.W.Fast.tw5596292702970501967 : Nat := 0
def PySem.W.Fast.tw8925821223417670736 : Nat := 0
def PySem.W.Fast.tw8857968997801698672 : Nat := 0
def PySem.W.Fast.tw2632054629016162801 : Nat := 0
def PySem.W.Fast.tw14126035431409916721 : Nat := 0
def PySem.W.Fast.tw2418651299085187985 : Nat := 0
def PySem.W.Fast.tw13305474108929472530 : Nat := 0
def PySem.W.Fast.tw4661959763723858162 : Nat := 0
def PySem.W.Fast.tw31184649384439154 : Nat := 0
def PySem.W.Fast.tw8683891395266555282 : Nat := 0
def PySem.W.Fast.tw5597800182504107794 : Nat := 0
def PySem.W.Fast.tw4316643905649007410 : Nat := 0
def PySem.W.Fast.tw12051340924261444498 : Nat := 0
def PySem.W.Fast.tw12454904260282818675 : Nat := 0
def PySem.W.Fast.tw8257154428007579795 : Nat := 0
def PySem.W.Fast.tw17370950715104358803 : Nat := 0
def PySem.W.Fast.tw13512897762344163091 : Nat := 0
def PySem.W.Fast.tw15946915987353169811 : Nat := 0
def PySem.W.Fast.tw17721089802885531668 : Nat := 0
def PySem.W.Fast.tw5504728796977287540 : Nat := 0
def PySem.W.Fast.tw4435191708411266516 : Nat := 0
def PySem.W.Fast.tw8332724928102802932 : Nat := 0
def PySem.W.Fast.tw11138007693408715636 : Nat := 0
def PySem.W.Fast.tw9068288107633285012 : Nat := 0
def PySem.W.Fast.tw15659562118041246676 : Nat := 0
def PySem.W.Fast.tw8101208085216098325 : Nat := 0
def PySem.W.Fast.tw2759149493269346453 : Nat := 0
def PySem.W.Fast.tw15277328634899284469 : Nat := 0
def PySem.W.Fast.tw13623870602054300181 : Nat := 0
def PySem.W.Fast.tw10220330864847815317 : Nat := 0
def PySem.W.Fast.tw14085872008992648053 : Nat := 0
def PySem.W.Fast.tw10696999523443383350 : Nat := 0
def PySem.W.Fast.tw9752840323529026806 : Nat := 0
def PySem.W.Fast.tw3653740531312800054 : Nat := 0
def PySem.W.Fast.tw5468924518125553238 : Nat := 0
def PySem.W.Fast.tw3986218442219115318 : Nat := 0
def PySem.W.Fast.tw2735036826941683702 : Nat := 0
def PySem.W.Fast.tw9316497387593762935 : Nat := 0
def PySem.W.Fast.tw11662430115954372855 : Nat := 0
def PySem.W.Fast.tw9614676474442000663 : Nat := 0
def PySem.W.Fast.tw7466805937581260375 : Nat := 0
def PySem.W.Fast.tw5449805337651003480 : Nat := 0
def PySem.W.Fast.tw14774896837494825048 : Nat := 0
def PySem.W.Fast.tw12788735019877044408 : Nat := 0
def PySem.W.Fast.tw11240544647001266584 : Nat := 0
def PySem.W.Fast.tw10759340910585247256 : Nat := 0
def PySem.W.Fast.tw14296163260832626360 : Nat := 0
def PySem.W.Fast.tw5268994096725645080 : Nat := 0
def PySem.W.Fast.tw14298865141060913048 : Nat := 0
def PySem.W.Fast.tw4879634871557072921 : Nat := 0
def PySem.W.Fast.tw5530417371498764377 : Nat := 0
def PySem.W.Fast.tw10979975663793566969 : Nat := 0
def PySem.W.Fast.tw7388949490683493657 : Nat := 0
def PySem.W.Fast.tw885420857586583897 : Nat := 0
def PySem.W.Fast.tw11812345912667933113 : Nat := 0
def PySem.W.Fast.tw14546918894778356281 : Nat := 0
def PySem.W.Fast.tw14633854415252207770 : Nat := 0
def PySem.W.Fast.tw10847362989086007450 : Nat := 0
def PySem.W.Fast.tw2858970665380034010 : Nat := 0
def PySem.W.Fast.tw4760124082108395098 : Nat := 0
def PySem.W.Fast.tw2273082821808442395 : Nat := 0
def PySem.W.Fast.tw444880359286403323 : Nat := 0
def PySem.W.Fast.tw9779837816399345083 : Nat := 0
def PySem.W.Fast.tw3545982279085416572 : Nat := 0
def PySem.W.Fast.tw8532674955453694332 : Nat := 0
def PySem.W.Fast.tw17385394309495326236 : Nat := 0
def PySem.W.Fast.tw5735433408620667772 : Nat := 0
def PySem.W.Fast.tw10771854387666077 : Nat := 0
def PySem.W.Fast.tw4319316281500914909 : Nat := 0
def PySem.W.Fast.tw3868551029784459901 : Nat := 0
def PySem.W.Fast.tw11306389355024053021 : Nat := 0
def PySem.W.Fast.tw5975108123093947389 : Nat := 0
def PySem.W.Fast.tw1584642970294413822 : Nat := 0
def PySem.W.Fast.tw4610093819525648990 : Nat := 0
def PySem.W.Fast.tw2160047509214952126 : Nat := 0
def PySem.W.Fast.tw7155008632779557822 : Nat := 0
def PySem.W.Fast.tw4530067395243937343 : Nat := 0
def PySem.W.Fast.tw4172253007791919903 : Nat := 0
def PySem.W.Fast.tw315761536522661791 : Nat := 0
def PySem.W.Fast.tw583805848345257983 : Nat := 0
def PySem.W.Fast.tw16631150655762861873 : Nat := 0
theorem PySem.Challenge.cw_chairvote_k23_words_of_a_book_holds : PySem.Challenge.rw_chairvote_k23_words_of_a_book.Holds := by
 w_on;o_law;k_head;(case hw=>w_witness2)
 k_fill
 refine S.afl (l:=PySem.Challenge.rw_chairvote_k23_words_of_a_book) (x:= "_law_script") (k:=11) rfl rfl ⟨rfl,by decide,by decide⟩ (fun w h Y=>PySem.W.kIn_of Y) ?F
 case F=>
  intro w mg fa h KX G hmg
  have T:∃t,My.Txt (L2.KOf KX) mg t:=by
   dsimp only[L2.KOf]
   refine' My.all_mk KX G ?Ef ?Rk ?Mw ?yx ?Mv ?a0 ?i0 ?l0 ?c0 ?k0 ?a1 ?i1 ?l1 ?c1 ?k1 ?a2 ?i2 ?l2 ?c2 ?k2 ?a3 ?i3 ?l3 ?c3 ?k3 ?a4 ?l4 ?c4 ?k4 ?a5 ?l5 ?c5 ?k5 ?a6 ?i6 ?l6 ?c6 ?k6 ?a7 ?i7 ?l7 ?c7 ?k7 ?a8 ?i8 ?l8 ?c8 ?k8 ?a9 ?i9 ?l9 ?c9 ?k9 ?a10 ?i10 ?l10 ?c10 ?k10 ?a11 ?l11 ?c11 ?k11 ?a12 ?i12 ?l12 ?c12 ?k12 ?a13 ?l13 ?c13 ?k13 ?a14 ?i14 ?l14 ?c14 ?k14 ?a15 ?l15 ?c15 ?k15 ?a16 ?i16 ?l16 ?c16 ?k16 ?a17 ?l17 ?c17 ?k17 ?a18 ?l18 ?c18 ?k18 ?a19 ?i19 ?l19 ?c19 ?k19 ?a20 ?l20 ?c20 ?k20 ?a21 ?l21 ?c21 ?k21 ?a22 ?l22 ?c22 ?k22 ?a23 ?i23 ?l23 ?c23 ?k23 ?a24 ?i24 ?l24 ?c24 ?k24 ?a25 ?i25 ?l25 ?YS ?k25 ?a26 ?l26 ?c26 ?k26 ?a27 ?l27 ?c27 ?k27 ?a28 ?l28 ?c28 ?k28 ?a29 ?l29 ?c29 ?k29 ?a30 ?l30 ?c30 ?k30 ?a31 ?l31 ?c31 ?k31 ?a32 ?l32 ?c32 ?k32 ?a33 ?l33 ?c33 ?k33 ?a34 ?l34 ?c34 ?k34 ?a35 ?i35 ?l35 ?c35 ?k35 ?a36 ?l36 ?c36 ?k36 ?a37 ?l37 ?c37 ?k37 ?Dz ?DX ?Dw ?Dr ?uq ?DR ?eY ?aQ ?QD ?Q7 ?QB ?Qq ?A_ ?Q4 ?jL ?d7 ?dh ?dZ ?Kz ?Lx ?Ky ?Km ?Ad ?Li ?j4 ?j0 ?lW ?di ?hn_ ?tk_ ?gW ?xH ?xG ?xg ?mY ?tX ?xT ?xW ?yc ?wZ ?xx ?wY ?xu ?xq ?t_ ?J7 ?J6 ?JZ ?z6 ?FJ ?Ks ?K4 ?Ld ?JX ?J5 ?JW ?J4 ?J0 ?gQ ?lH ?lG ?tZ ?Bj ?HQ ?Bh ?tL ?tK ?vg ?uC ?uL ?uw ?vf ?uE ?V2 ?P_ ?V1 ?wX ?V0 ?P0 ?VV ?VR ?JT ?VP ?JS
   case Ef | Rk | Mw | yx | Mv | a0 | i0 | l0 | c0 | k0 | a1 | i1 | l1 | c1 | k1 | a2 | i2 | l2 | c2 | k2 | a3 | i3 | l3 | c3 | k3 | a4 | l4 | c4 | k4 | a5 | l5 | c5 | k5 | a6 | i6 | l6 | c6 | k6 | a7 | i7 | l7 | c7 | k7 | a8 | i8 | l8 | c8 | k8 | a9 | i9 | l9 | c9 | k9 | a10 | i10 | l10 | c10 | k10 | a11 | l11 | c11 | k11 | a12 | i12 | l12 | c12 | k12 | a13 | l13 | c13 | k13 | a14 | i14 | l14 | c14 | k14 | a15 | l15 | c15 | k15 | a16 | i16 | l16 | c16 | k16 | a17 | l17 | c17 | k17 | a18 | l18 | c18 | k18 | a19 | i19 | l19 | c19 | k19 | a20 | l20 | c20 | k20 | a21 | l21 | c21 | k21 | a22 | l22 | c22 | k22 | a23 | i23 | l23 | c23 | k23 | a24 | i24 | l24 | c24 | k24 | a25 | i25 | l25 | YS | k25 | a26 | l26 | c26 | k26 | a27 | l27 | c27 | k27 | a28 | l28 | c28 | k28 | a29 | l29 | c29 | k29 | a30 | l30 | c30 | k30 | a31 | l31 | c31 | k31 | a32 | l32 | c32 | k32 | a33 | l33 | c33 | k33 | a34 | l34 | c34 | k34 | a35 | i35 | l35 | c35 | k35 | a36 | l36 | c36 | k36 | a37 | l37 | c37 | k37 | Dz | DX | Dw | Dr | uq | DR | eY | aQ | QD | Q7 | QB | Qq | A_ | Q4 | jL | d7 | dh | dZ | Kz | Lx | Ky | Km | Ad | Li | j4 | j0 | lW | di | hn_ | tk_ | gW=>k_is
   case xH | xG | xg | mY | tX=>decide +kernel
   case xT=>rfl
   case xW | yc | wZ | xx | wY | xu | xq | t_=>k_is
   case J7 | J6 | JZ | z6 | FJ=>decide +kernel
   case Ks=>rfl
   case K4 | Ld | JX | J5 | JW | J4 | J0 | gQ | lH | lG | tZ | Bj | HQ | Bh | tL | tK | vg=>k_is
   case uC=>decide
   case uL=>k_is
   case uw=>exact⟨rfl,rfl,rfl⟩
   case vf=>rfl
   case uE=>exact .cons rfl ⟨_,rfl⟩ (.cons rfl ⟨_,rfl⟩ (.cons rfl ⟨_,rfl⟩ (.nil)))
   case V2 | P_ | V1 | wX | V0 | P0 | VV | VR | JT | VP | JS=>k_is
  obtain⟨t,T⟩:=T
  have e0:=hmg.symm.trans T.Xy
  cases e0
  exact⟨t.E_,fun s u=>My.Vd T s u,fun base _ _=>My.aaf T⟩

