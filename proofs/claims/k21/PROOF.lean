import PyProof.Rows.All
import Wide.All
import OpenK.AllK
import Wide.FinOn
import Lean
import PyProof.EqAt
import PyProof.EqKinds
import PyProof.TupleCall
import PySem.Challenge.RW_chairvote_k21_a_book_written_and_read
noncomputable section
set_option Elab.async false
set_option linter.all false
set_option maxRecDepth 100000
namespace L2
open PySem PySem.Spec PyProof.Rows
abbrev Key:=Sum Int Str
def Ii:Key→Value→Bool
 | .inl k,v=>Value.isInt k v
 | .inr x,v=>Value.isStrOf x v
def apD(w:World):Key→Int
 | .inl k=>hashInt k
 | .inr x=>hashStr w x
theorem gh:∀{k:Key} {v:Value},Ii k v=true→(∃i t,k=Sum.inl i∧v=Value.int i t)∨(∃x t,k=Sum.inr x∧v=Value.str x t)
 | .inl i,v,h=>by
  obtain⟨t,e⟩:=Value.isInt_shape (k:=i) (v:=v) h
  exact .inl ⟨i,t,rfl,e⟩
 | .inr x,v,h=>by
  obtain⟨t,e⟩:=Value.isStrOf_shape (x:=x) (v:=v) h
  exact .inr ⟨x,t,rfl,e⟩
theorem VM(i:Int)(t:Tok):Ii (.inl i) (.int i t)=true:=by simp[Ii,Value.isInt]
theorem VL(x:Str)(t:Tok):Ii (.inr x) (.str x t)=true:=by simp[Ii,Value.isStrOf]
theorem adw(a b:Int):decide ((Sum.inl a:Key)=Sum.inl b)=(a==b):=by
 by_cases e:a=b
 ·subst e;simp
 ·have h:¬(Sum.inl a:Key)=Sum.inl b:=fun q=>e (Sum.inl.inj q)
  rw[decide_eq_false h]
  exact(beq_eq_false_iff_ne.mpr e).symm
theorem adt(a b:Str):decide ((Sum.inr a:Key)=Sum.inr b)=decide (a=b):=by
 by_cases e:a=b
 ·subst e;simp
 ·have h:¬(Sum.inr a:Key)=Sum.inr b:=fun q=>e (Sum.inr.inj q)
  rw[decide_eq_false h,decide_eq_false e]
theorem adv(a:Int)(b:Str):decide ((Sum.inl a:Key)=Sum.inr b)=false:=decide_eq_false (fun q=>nomatch q)
theorem adu(a:Str)(b:Int):decide ((Sum.inr a:Key)=Sum.inl b)=false:=decide_eq_false (fun q=>nomatch q)
def fX(prog:Program)(w:World):PySem.KeyKind prog w Key where
 is:=Ii
 hash:=apD w
 inj:=fun v a b ha hb=>by
  rcases gh ha with⟨i,t,rfl,rfl⟩ | ⟨x,t,rfl,rfl⟩
  ·rcases gh hb with⟨j,u,rfl,e⟩ | ⟨y,u,rfl,e⟩
   ·injection e with e1 _;rw[e1]
   ·exact nomatch e
  ·rcases gh hb with⟨j,u,rfl,e⟩ | ⟨y,u,rfl,e⟩
   ·exact nomatch e
   ·injection e with e1 _;rw[e1]
 byValue:=fun k v h=>by
  rcases gh h with⟨i,t,rfl,rfl⟩ | ⟨x,t,rfl,rfl⟩<;>rfl
 pyHash:=fun hv h=>by
  rcases gh hv with⟨i,t,rfl,rfl⟩ | ⟨x,t,rfl,rfl⟩
  ·exact wpAny_pyHash_int h
  ·exact wpAny_pyHash_str h
 eqBool:=fun hu hv h=>by
  rcases gh hu with⟨i,t,rfl,rfl⟩ | ⟨x,t,rfl,rfl⟩
  ·rcases gh hv with⟨j,u,rfl,rfl⟩ | ⟨y,u,rfl,rfl⟩
   ·rw[adw]at h;exact wpAny_eqBool_int h
   ·rw[adv]at h;exact SeqAt.EqAt.int_str i t y u _ _ _ _ h
  ·rcases gh hv with⟨j,u,rfl,rfl⟩ | ⟨y,u,rfl,rfl⟩
   ·rw[adu]at h;exact SeqAt.EqAt.str_int x t j u _ _ _ _ h
   ·rw[adt]at h;exact wpAny_eqBool_str h
 «strs» := fun k x t v h=>by
  rcases gh h with⟨i,u,rfl,e⟩ | ⟨y,u,rfl,e⟩
  ·exact nomatch e
  ·injection e with e1 _
   subst e1
   cases v<;>rfl
theorem O2(prog:Program)(w:World)(i:Int)(t:Tok):(fX prog w).is (.inl i) (.int i t)=true:=VM i t
theorem O1(prog:Program)(w:World)(x:Str)(t:Tok):(fX prog w).is (.inr x) (.str x t)=true:=VL x t
end L2
namespace L2
open PySem PySem.Spec PyProof.Rows
inductive V where
 | non | bl (b:Bool) | int (i:Int) | str (x:Str) | byt (b:Array UInt8) | flt (b:UInt64) | ref (a:Addr) | ty (n:String)
 deriving DecidableEq
def RelV:V→Value→Prop
 | .non,u=>u=Value.none
 | .bl b,u=>u=Value.bool b
 | .int i,u=>∃t,u=Value.int i t
 | .str x,u=>∃t,u=Value.str x t
 | .byt b,u=>∃t,u=Value.bytes b t
 | .flt b,u=>∃t,u=Value.float b t
 | .ref a,u=>u=Value.ref a
 | .ty n,u=>u=Value.type n
abbrev Vals:List V→List Value→Prop:=Paired RelV
theorem Vals.length{xs:List V}{us:List Value}(r:Vals xs us):xs.length=us.length:=Paired.length r
theorem Vals.get:∀{xs:List V} {us:List Value} {i:Nat} {x:V},Vals xs us→xs[i]? = some x→∃u,us[i]? = some u∧RelV x u
 | _,_,_,_,.nil,e=>by simp at e
 | _,_,0,_,.cons r _,e=>by simp at e;subst e;exact⟨_,rfl,r⟩
 | _,_,i+1,x,.cons _ t,e=>by
  obtain⟨u,h1,h2⟩:=Vals.get (i:=i) (x:=x) t (by simpa using e)
  exact⟨u,by simpa using h1,h2⟩
theorem Vals.set{x:V}{u:Value}(r:RelV x u):∀{xs:List V} {us:List Value} (i:Nat),Vals xs us→Vals (xs.set i x) (us.set i u)
 | _,_,_,.nil=> .nil
 | _,_,0,.cons _ t=> .cons r t
 | _,_,i+1,.cons q t=> .cons q (Vals.set r i t)
theorem Vals.append:∀{xs ys:List V} {us ws:List Value},Vals xs us→Vals ys ws→Vals (xs++ys) (us++ws)
 | _,_,_,_,.nil,s=>s
 | _,_,_,_,.cons r t,s=> .cons r (Vals.append t s)
theorem Vals.take:∀{xs:List V} {us:List Value} (n:Nat),Vals xs us→Vals (xs.take n) (us.take n)
 | _,_,0,_=> .nil
 | _,_,_+1,.nil=> .nil
 | _,_,n+1,.cons r t=> .cons r (Vals.take n t)
theorem Vals.drop:∀{xs:List V} {us:List Value} (n:Nat),Vals xs us→Vals (xs.drop n) (us.drop n)
 | _,_,0,r=>r
 | _,_,_+1,.nil=> .nil
 | _,_,n+1,.cons _ t=>Vals.drop n t
def yo:Option V→Option Value→Prop
 | some v,some u=>RelV v u
 | none,none=>True
 | _,_=>False
def KV{κ:Type}:List (κ×V)→List (κ×Value)→Prop:=Paired fun(p:κ×V) (q:κ×Value)=>p.1=q.1∧RelV p.2 q.2
def kV:Key→V
 | .inl i=> .int i
 | .inr x=> .str x
inductive HO where
 | lst (xs:List V)
 | tup (xs:List V)
 | dK (kvs:List (Key×V)) | dT (kvs:List (List Key×V))
 | set (S:Int→Bool) (n:Nat)
 | ins (C dx:Addr) (fs:List (Str×V))
 | own (x:Addr)
 | xd (fs:List (Str×V))
 | met (f x:Addr)
 | Gb (lo hi:Int)
 | zR (o:Obj) (u:HO)
 | W2 (ps:Array Value)
 | ext (φ:Heap→Prop)
abbrev Hp:=Addr→Option HO
def upd(H:Hp)(a:Addr)(o:HO):Hp:=fun b=>if b=a then some o else H b
theorem dh{H:Hp}{a:Addr}{o:HO}:upd H a o a=some o:=by unfold upd;rw[if_pos rfl]
theorem bh{H:Hp}{a b:Addr}{o:HO}(h:b≠a):upd H a o b=H b:=by unfold upd;rw[if_neg h]
theorem Zj{H:Hp}{a:Addr}{o u:HO}:upd (upd H a o) a u=upd H a u:=by
 funext b;unfold upd;split<;>rfl
theorem agZ{H:Hp}{a b:Addr}{o u:HO}(h:H a=some o)(h':H b=some u)(d:o≠u):a≠b:=by
 intro e;subst e;rw[h]at h';exact d (Option.some.inj h')
theorem cC{H:Hp}{a b:Addr}{o:HO}(h:H a=some o)(h':H b=none):a≠b:=by
 intro e;subst e;rw[h]at h';cases h'
section
variable(P:Program)(w:World)
def dg(H:Hp)(h:Heap)(a:Addr):HO→Prop
 | .lst xs=>xs.length≤sizeLine∧∃(its:List Value) (n:Nat),Vals xs its∧h.get? a=some {cls:= .type "list",data:= .seq its.toArray n}
 | .tup xs=>xs.length≤sizeLine∧∃its:List Value,Vals xs its∧IsTup h a its.toArray
 | .dK kvs=>kvs.length≤sizeLine∧(a==sysModules)=false∧∃vs,KV kvs vs∧h.DictOf (fX P w) a vs
 | .dT kvs=>kvs.length≤sizeLine∧(a==sysModules)=false∧∃xs:List (List Key×Addr×Value),
   Paired (fun(p:List Key×V) (q:List Key×Addr×Value)=>p.1=q.1∧H q.2.1=some (.tup (p.1.map kV))∧RelV p.2 q.2.2) kvs xs∧
   ∃o es ep,h.get? a=some o∧o.ExactDict∧o.data= .dict es ep∧es.toList=xs.map (entryOfKey (tupleKind (fX P w)))∧(xs.map (·.1)).Nodup
 | .set S n=>h.SetOf (intKind P w) a S n
 | .ins C dx fs=>H dx=some (.own a)∧fs.length≤1000∧dx≠a∧h.get? a=some (PySem.W.instObj C dx)∧
   ∃mA,h.Ns1 dx mA∧(∀f,yo (fs.lookup f) (mA f))∧PySem.Within mA (fs.map (·.1))
 | .own _=>∃o,h.get? a=some o
 | .xd fs=>∃mA,h.Ns1 a mA∧∀f,yo (fs.lookup f) (mA f)
 | .Gb lo hi=>∃t u v,h.get? a=some {cls:= .type "range",data:= .fields #[.int lo t,.int hi u,.int 1 v]}
 | .zR o u=>h.get? a=some o∧dg H h a u
 | .W2 ps=>h.get? a=some {cls:= .none,data:= .fields ps}
 | .met f x=>h.get? a=some (PySem.W.methodObj (.ref f) (.ref x))
 | .ext φ=>φ h∧(∃o,h.get? a=some o)∧∀h1 h2:Heap,φ h1→(∀o,h1.get? a=some o→h2.get? a=some o)→φ h2
def uN(H:Hp)(h:Heap):Prop:=∀a o,H a=some o→dg P w H h a o
end
section
variable{P:Program}{w:World}{H H':Hp}{h h':Heap}{a:Addr}{o:HO}
theorem dg.lt(x:dg P w H h a o):a<h.objs.size:=by
 cases o with
 | lst xs=>obtain⟨_,_,_,_,e⟩:=x;exact Heap.lt_size e
 | tup xs=>obtain⟨_,_,_,p⟩:=x;exact p.lt
 | dK kvs=>obtain⟨_,_,_,_,o,_,_,e,_⟩:=x;exact Heap.lt_size e
 | dT kvs=>obtain⟨_,_,_,_,o,_,_,e,_⟩:=x;exact Heap.lt_size e
 | set S n=>obtain⟨o,_,_,_,e,_⟩:=x;exact Heap.lt_size e
 | ins C dx fs=>obtain⟨_,_,_,e,_⟩:=x;exact Heap.lt_size e
 | own y=>obtain⟨_,e⟩:=x;exact Heap.lt_size e
 | xd fs=>obtain⟨_,⟨_,_,_,e,_⟩,_⟩:=x;exact Heap.lt_size e
 | Gb lo hi=>obtain⟨_,_,_,e⟩:=x;exact Heap.lt_size e
 | zR ob u=>obtain⟨e,_⟩:=x;exact Heap.lt_size e
 | W2 ps=>exact Heap.lt_size (show h.get? a=some _ from x)
 | met f y=>exact Heap.lt_size (show h.get? a=some _ from x)
 | ext φ=>obtain⟨_,⟨_,e⟩,_⟩:=x;exact Heap.lt_size e
theorem Paired.aat{α β:Type}{F G:α→β→Prop}:∀{l₁:List α} {l₂:List β},Paired F l₁ l₂→(∀a b,F a b→G a b)→Paired G l₁ l₂
 | _,_,.nil,_=> .nil
 | _,_,.cons r t,f=> .cons (f _ _ r) (Paired.aat t f)
theorem dg.stay(x:dg P w H h a o)(k:∀b u,(b=a∨H b=some (.own a))→h.get? b=some u→h'.get? b=some u)
  (ho:∀b,H b=some (.own a)→H' b=some (.own a)) (ht:∀b xs,H b=some (.tup xs)→H' b=some (.tup xs)):dg P w H' h' a o:=by
 induction o with
 | lst xs=>obtain⟨z,its,n,r,e⟩:=x;exact⟨z,its,n,r,k _ _ (.inl rfl) e⟩
 | tup xs=>obtain⟨z,its,r,ob,e,c⟩:=x;exact⟨z,its,r,ob,k _ _ (.inl rfl) e,c⟩
 | dK kvs=>obtain⟨z,y,vs,r,ob,es,ep,e,c⟩:=x;exact⟨z,y,vs,r,ob,es,ep,k _ _ (.inl rfl) e,c⟩
 | dT kvs=>
  obtain⟨z,y,xs,r,ob,es,ep,e,c⟩:=x
  exact⟨z,y,xs,Paired.aat r fun p q z=>⟨z.1,ht _ _ z.2.1,z.2.2⟩,ob,es,ep,k _ _ (.inl rfl) e,c⟩
 | set S n=>obtain⟨ob,es,ep,t,e,c⟩:=x;exact⟨ob,es,ep,t,k _ _ (.inl rfl) e,c⟩
 | ins C dx fs=>
  obtain⟨d,z,ne,e,mA,⟨od,es,ep,e2,c⟩,r⟩:=x
  exact⟨ho _ d,z,ne,k _ _ (.inl rfl) e,mA,⟨od,es,ep,k _ _ (.inr d) e2,c⟩,r⟩
 | own y=>obtain⟨ob,e⟩:=x;exact⟨ob,k _ _ (.inl rfl) e⟩
 | xd fs=>obtain⟨mA,⟨od,es,ep,e,c⟩,r⟩:=x;exact⟨mA,⟨od,es,ep,k _ _ (.inl rfl) e,c⟩,r⟩
 | Gb lo hi=>obtain⟨t,u,v,e⟩:=x;exact⟨t,u,v,k _ _ (.inl rfl) e⟩
 | zR ob u ih=>obtain⟨e,q⟩:=x;exact⟨k _ _ (.inl rfl) e,ih q⟩
 | W2 ps=>
  have e:h.get? a=some {cls:= .none,data:= .fields ps}:=x
  show h'.get? a=some {cls:= .none,data:= .fields ps}
  exact k a _ (.inl rfl) e
 | met f y=>
  have e:h.get? a=some (PySem.W.methodObj (.ref f) (.ref y)):=x
  show h'.get? a=some (PySem.W.methodObj (.ref f) (.ref y))
  exact k a _ (.inl rfl) e
 | ext φ=>obtain⟨p,⟨o,e⟩,st⟩:=x;exact⟨st _ _ p fun o q=>k _ _ (.inl rfl) q,⟨o,k _ _ (.inl rfl) e⟩,st⟩
theorem uN.lt(x:uN P w H h)(e:H a=some o):a<h.objs.size:=(x a o e).lt
theorem uN.fresh(x:uN P w H h)(e:h.objs.size≤a):H a=none:=by
 cases q:H a with
 | none=>rfl
 | some u=>exact absurd (Nat.lt_of_lt_of_le (x.lt q) e) (Nat.lt_irrefl _)
theorem uN.kept(x:uN P w H h)(k:∀b u,h.get? b=some u→h'.get? b=some u):uN P w H h':=fun a o e=>
 (x a o e).stay (fun b u _ q=>k b u q) (fun _ q=>q) fun _ _ q=>q
theorem uN.laid(x:uN P w H h)(k:∀b u,h.get? b=some u→h'.get? b=some u)(hp:h.objs.size≤a)(new:dg P w (upd H a o) h' a o):uN P w (upd H a o) h':=fun b u e=>by
 have hn:=x.fresh hp
 by_cases hb:b=a
 ·subst hb;rw[dh]at e;cases e;exact new
 ·rw[bh hb]at e
  exact(x b u e).stay (fun c v _ q=>k c v q) (fun c q=>by rw[bh (cC q hn)];exact q) fun c xs q=>by rw[bh (cC q hn)];exact q
end
def Rd(H:Hp)(a:Addr)(u:HO):Prop:=H a=some u∨∃o,H a=some (.zR o u)
theorem Rd.ok{P:Program}{w:World}{H:Hp}{h:Heap}{a:Addr}{u:HO}(r:Rd H a u)(x:uN P w H h):dg P w H h a u:=by
 rcases r with r | ⟨o,r⟩
 ·exact x a u r
 ·obtain⟨_,q⟩:=x a _ r
  exact q
def Mut:Option HO→Prop
 | some (.lst _)=>True
 | some (.dK _)=>True
 | some (.dT _)=>True
 | some (.set _ _)=>True
 | some (.ins _ _ _)=>True
 | some (.ext _)=>True
 | _=>False
section
variable{P:Program}{w:World}{H:Hp}{h h':Heap}{x e:Addr}{o':HO}
theorem uN.write(ok:uN P w H h)(mu:Mut (H x))(he:e=x∨H e=some (.own x))(k:∀b u,b≠e→h.get? b=some u→h'.get? b=some u)(heo:∃u,h'.get? e=some u)
  (new:dg P w (upd H x o') h' x o'):uN P w (upd H x o') h':=fun b u q=>by
 have agW:∀c y,H c=some (.own y)→c≠x:=fun c y r z=>by subst z;rw[r]at mu;exact mu
 have apo:∀c xs,H c=some (.tup xs)→c≠x:=fun c xs r z=>by subst z;rw[r]at mu;exact mu
 by_cases hb:b=x
 ·subst hb;rw[dh]at q;cases q;exact new
 ·rw[bh hb]at q
  by_cases hbe:b=e
  ·have q':H b=some (.own x):=by
    rcases he with z | z
    ·exact absurd (hbe.trans z) hb
    ·rw[hbe];exact z
   rw[q]at q';cases q'
   obtain⟨v,hv⟩:=heo
   exact⟨v,by rw[hbe];exact hv⟩
  ·refine(ok b u q).stay (fun c v hc r=>k c v ?_ r) (fun c r=>by rw[bh (agW c b r)];exact r) fun c xs r=>by rw[bh (apo c xs r)];exact r
   rcases hc with rfl | hc
   ·exact hbe
   ·rintro rfl
    rcases he with z | z
    ·exact agW c b hc z
    ·rw[hc]at z;cases z;exact hb rfl
end
structure Un(fs ex:List Addr)(H H':Hp)(h h':Heap):Prop where
 keep:∀b o,h.get? b=some o→H b=none→b∉fs→b∉ex→h'.get? b=some o
 slot:∀b o,h.get? b=some o→H b=none→b∈fs→b∉ex→∃sl,h'.get? b=some {o with slots:=sl}
 free:∀b o,h.get? b=some o→H b=none→b∉ex→H' b=none
 there:∀b o,h.get? b=some o→b∉ex→∃o',h'.get? b=some o'
 tups:∀b xs,H b=some (.tup xs)→H' b=some (.tup xs)
 Be:∀b o u,H b=some (.zR o u)→H' b=some (.zR o u)
 BK:∀b ps,H b=some (.W2 ps)→∃more,H' b=some (.W2 (ps++more))
section
variable{fs fs' ex ex':List Addr}{H H1 H2:Hp}{h h1 h2 h':Heap}{a x e:Addr}{o:HO}
theorem Un.any(u:Un fs ex H H1 h h1){b:Addr}{ob:Obj}(q:h.get? b=some ob)(n:H b=none)(hx:b∉ex):∃sl,h1.get? b=some {ob with slots:=sl}:=by
 by_cases hb:b∈fs
 ·exact u.slot b ob q n hb hx
 ·exact⟨ob.slots,u.keep b ob q n hb hx⟩
theorem Un.kept(k:∀b u,h.get? b=some u→h'.get? b=some u):Un fs ex H H h h':=
 ⟨fun b ob q _ _ _=>k b ob q,fun b ob q _ _ _=>⟨ob.slots,k b ob q⟩,fun _ _ _ n _=>n,fun b ob q _=>⟨ob,k b ob q⟩,fun _ _ q=>q,fun _ _ _ q=>q,fun _ ps q=>⟨#[],by rw[q];simp⟩⟩
theorem Un.refl:Un fs ex H H h h:=Un.kept fun _ _ q=>q
theorem Un.laid(k:∀b u,h.get? b=some u→h'.get? b=some u)(hp:h.objs.size≤a)(hn:H a=none):Un fs ex H (upd H a o) h h' where
 keep:=fun b u q _ _ _=>k b u q
 slot:=fun b u q _ _ _=>⟨u.slots,k b u q⟩
 free:=fun b u q n _=>by rw[bh (Nat.ne_of_lt (Nat.lt_of_lt_of_le (Heap.lt_size q) hp))];exact n
 there:=fun b u q _=>⟨u,k b u q⟩
 tups:=fun b xs q=>by rw[bh (cC q hn)];exact q
 Be:=fun b u xs q=>by rw[bh (cC q hn)];exact q
 BK:=fun b ps q=>⟨#[],by rw[bh (cC q hn),q];simp⟩
theorem Un.write(mu:Mut (H x))(he:e=x∨H e=some (.own x))(k:∀b u,b≠e→h.get? b=some u→h'.get? b=some u)(heo:∃u,h'.get? e=some u):Un fs ex H (upd H x o) h h':=by
 have hx:∀b,H b=none→b≠x:=fun b n z=>by subst z;rw[n]at mu;exact mu
 have hb:∀b,H b=none→b≠e:=fun b n z=>by
  subst z
  rcases he with r | r
  ·exact hx b n r
  ·rw[n]at r;cases r
 have hm:∀b u,H b=some u→¬Mut (some u)→b≠x:=fun b u q nm z=>by subst z;rw[q]at mu;exact nm mu
 refine⟨fun b u q n _ _=>k b u (hb b n) q,fun b u q n _ _=>⟨u.slots,k b u (hb b n) q⟩,fun b u q n _=>by rw[bh (hx b n)];exact n,fun b u q _=> ?_,
  fun b xs q=>by rw[bh (hm b _ q fun z=>z)];exact q,fun b u xs q=>by rw[bh (hm b _ q fun z=>z)];exact q,fun b ps q=>⟨#[],by rw[bh (hm b _ q fun z=>z),q];simp⟩⟩
 by_cases hbe:b=e
 ·subst hbe;exact heo
 ·exact⟨u,k b u hbe q⟩
end
def trk(h:Heap)(H:Hp):List Addr:=(List.range h.objs.size).filter fun a=>(H a).isSome
def Mh(h:Heap)(H:Hp):Heap:=PySem.W.hideAll h (trk h H)
theorem V1(h:Heap)(H:Hp):(Mh h H).objs.size=h.objs.size:=PySem.W.hideAll_size _ _
theorem Yr{h:Heap}{H:Hp}{b:Addr}{o:Obj}(e:h.get? b=some o)(n:H b=none):(Mh h H).get? b=some o:=
 PySem.W.hideAll_get _ e fun hm=>by
  have q:(H b).isSome=true:=(List.mem_filter.mp hm).2
  rw[n]at q;simp at q
theorem aam{h:Heap}{H:Hp}{b:Addr}{o:Obj}(e:(Mh h H).get? b=some o):h.get? b=some o∧H b=none:=by
 have e':h.get? b=some o:=PySem.W.of_hideAll (trk h H) e
 refine⟨e',?_⟩
 cases q:H b with
 | none=>rfl
 | some x=>
  have hm:b∈trk h H:=List.mem_filter.mpr ⟨List.mem_range.mpr (Heap.lt_size e'),by simp[q]⟩
  have z:(Mh h H).get? b=none:=PySem.W.hideAll_none (trk h H) hm
  rw[z]at e;cases e
def abd(g h:Heap)(L:Addr):List (Addr×Obj):=(List.range h.objs.size).filterMap fun a=>if a=L∨(g.get? a).isSome=true then none else(h.get? a).map fun o=>(a,o)
def rest(g h:Heap)(L d:Addr):List (Addr×Obj):=(abd g h L).filter fun p=>decide (p.1≠d)
end L2
namespace L2
open PySem PySem.Spec PyProof.Rows
structure Mod(K:PySem.W.Frag)(mg:Str→Option Value)(base:Heap):Prop where
 kin:K.In base
 glob:base.Ns mainGlobals mg
 blt:∃mb,base.Ns builtinsNs mb∧∀x:Str,x≠ "__name__" → mb x=bootBuiltins x
 nolimit:base.NoLimit
structure Cx where
 prog:Program
 w:World
 K:PySem.W.Frag
 mg:Str→Option Value
 base:Heap
 A:Around
 N:List Str
 s₀:Shared
 H₀:Hp
 env:Env
 outer:List Env
 stack:List Env
 ex:List Addr
 fn:Str→Bool
 calm:Bool
 pn:List (Addr×Obj)
 xe:Value→Shared→Prop
def frs(l:List Env):List Addr:=l.filterMap (·.frame)
abbrev Cx.fs(X:Cx):List Addr:=frs X.outer
def Vis(sc:Scope)(x:Str):Prop:=sc.names.lookup x=some .local∨sc.names.lookup x=some .cell∨sc.names.lookup x=some .free
def Loc(sc:Scope)(x:Str):Prop:=sc.names.lookup x=some .local∨sc.names.lookup x=some .cell
def Look(env:Env)(h:Heap)(m:Str→Option Value)(x:Str)(u:Value):Prop:=
 (env.kindOf x=some .local∧m x=some u)∨((env.kindOf x=some .cell∨env.kindOf x=some .free)∧∃c,env.cells.lookup x=some c∧h.IsCell c (some u))
structure Cx.Ok(X:Cx):Prop where
 mod:Mod X.K X.mg X.base
 kind:X.env.scope.kind= .function
 glob:X.env.globals=mainGlobals
 blt:X.env.builtins=builtinsNs
 above:X.s₀.heap.objs.size≤X.env.locals
 inj:∀x y c,X.env.cells.lookup x=some c→X.env.cells.lookup y=some c→x=y
 has:∀x,(X.env.kindOf x=some .cell∨X.env.kindOf x=some .free)→∃c,X.env.cells.lookup x=some c
 cab:∀x c,X.fn x=true→X.env.cells.lookup x=some c→X.s₀.heap.objs.size≤c
 hd:X.calm=true→X.A.handled=none
 frames:X.A.frames=some X.stack
 stk:X.stack=X.outer∨(X.stack=X.env::X.outer∧X.env.frame=some X.env.locals)
 exf:∀b∈X.ex,b≠X.env.locals∧∀x c,X.env.cells.lookup x=some c→c≠b
 bs:∀b o,X.base.get? b=some o→X.s₀.heap.get? b=some o∧X.H₀ b=none
 Ut:X.base.objs.size≤X.s₀.heap.objs.size
 Rk:∀b o,X.base.get? b=some o→b∉X.ex
 RP:∀b∈X.ex,b∉X.fs
 CG:X.s₀.heap.FunFrames X.base X.outer
 frf:∀b∈X.fs,X.H₀ b=none
structure Inv(X:Cx)(pins:List (Addr×Obj))(σ:List (Option V))(H:Hp)(s:Shared):Prop where
 ok:X.Ok
 os:s.os=X.s₀.os
 bare:AllBare s.gens
 base:Un X.fs X.ex X.H₀ H X.s₀.heap s.heap
 loc:∃m,s.heap.Ns X.env.locals m∧∀(i:Nat) (x:Str) (v:V),X.N[i]? = some x→σ[i]? = some (some v)→Vis X.env.scope x→∃u,RelV v u∧Look X.env s.heap m x u
 cell:∀x c,X.env.cells.lookup x=some c→∃v,s.heap.IsCell c v
 free:H X.env.locals=none
 rK:∀x c,X.env.cells.lookup x=some c→H c=none
 pin:∀p∈X.pn++pins,s.heap.get? p.1=some p.2∧H p.1=none∧p.1≠X.env.locals∧p.1∉X.fs∧∀v,p.2.data≠ .cell v
 hok:uN X.prog X.w H s.heap
 len:σ.length=X.N.length
section
variable{X:Cx}{pins:List (Addr×Obj)}{σ:List (Option V)}{H H':Hp}{s:Shared}{h':Heap}
theorem Cx.Ok.apr(ok:X.Ok){b:Addr}{o:Obj}(e:X.base.get? b=some o):b∉X.fs:=fun hb=>by
 have:=(ok.CG.mem hb).1
 rw[e]at this;cases this
theorem Inv.bs(I:Inv X pins σ H s):∀b o,X.base.get? b=some o→s.heap.get? b=some o∧H b=none:=fun b o e=>
 ⟨I.base.keep b o (I.ok.bs b o e).1 (I.ok.bs b o e).2 (I.ok.apr e) (I.ok.Rk b o e),I.base.free b o (I.ok.bs b o e).1 (I.ok.bs b o e).2 (I.ok.Rk b o e)⟩
theorem Inv.bk(I:Inv X pins σ H s):∀b o,X.base.get? b=some o→s.heap.get? b=some o:=fun b o e=>(I.bs b o e).1
theorem Inv.mod(I:Inv X pins σ H s):Mod X.K X.mg X.base:=I.ok.mod
theorem Inv.Bt(I:Inv X pins σ H s):X.K.In s.heap:=I.ok.mod.kin.keeps I.bk
theorem Inv.nolimit(I:Inv X pins σ H s):s.heap.NoLimit:=I.ok.mod.nolimit.keeps I.bk
theorem Inv.fr(I:Inv X pins σ H s):∃m,Fr X.base X.env.locals s.heap m:=
 let⟨m,hn,_⟩:=I.loc
 ⟨m,hn,I.bk,Nat.le_trans I.ok.Ut I.ok.above⟩
theorem Inv.lt(I:Inv X pins σ H s):X.env.locals<s.heap.objs.size:=let⟨_,hn,_⟩:=I.loc;hn.lt
theorem Inv.sz(I:Inv X pins σ H s):X.s₀.heap.objs.size≤s.heap.objs.size:=Nat.le_trans I.ok.above (Nat.le_of_lt I.lt)
theorem Inv.apq(I:Inv X pins σ H s){a:Addr}(h:s.heap.objs.size≤a):a∉X.fs:=fun hb=>by
 obtain⟨_,o,ho,_⟩:=I.ok.CG.mem hb
 exact absurd (Nat.lt_of_lt_of_le (Heap.lt_size ho) (Nat.le_trans I.sz h)) (Nat.lt_irrefl _)
theorem Inv.cne(I:Inv X pins σ H s):∀x c,X.env.cells.lookup x=some c→c≠X.env.locals:=fun x c e z=>by
 obtain⟨v,o,ho,hd⟩:=I.cell x c e
 obtain⟨m,⟨o',es,ep,ho',hd',_⟩,_⟩:=I.loc
 rw[z,ho']at ho;cases ho;rw[hd']at hd;cases hd
theorem Inv.CG(I:Inv X pins σ H s):s.heap.FunFrames X.base X.outer:=by
 have all:∀(l:List Env),(∀b∈frs l,b∈X.fs)→X.s₀.heap.FunFrames X.base l→s.heap.FunFrames X.base l:=by
  intro l
  induction l with
  | nil=>intro _ _;trivial
  | cons env r ih=>
   intro hs hl
   obtain⟨hk,⟨L,o,hf,hn,ho,hd⟩,hr⟩:=hl
   have hL:L∈X.fs:=hs L (by unfold frs;rw[List.filterMap_cons,hf];exact List.mem_cons_self)
   obtain⟨sl,e⟩:=I.base.slot L o ho (I.ok.frf L hL) hL fun z=>I.ok.RP L z hL
   exact⟨hk,⟨L,_,hf,hn,e,hd⟩,ih (fun b hb=>hs b (by unfold frs;rw[List.filterMap_cons,hf];exact List.mem_cons_of_mem _ hb)) hr⟩
 exact all X.outer (fun _ hb=>hb) I.ok.CG
theorem Inv.stack(I:Inv X pins σ H s):s.heap.FunFrames X.base X.stack:=by
 rcases I.ok.stk with e | ⟨e,hf⟩
 ·rw[e];exact I.CG
 ·rw[e]
  obtain⟨m,hn,_⟩:=I.loc
  refine .cons (by rw[I.ok.kind];decide) hf hn ?_ I.CG
  exact Heap.get?_none_of_le (Nat.le_trans I.ok.Ut I.ok.above)
theorem Inv.GR(I:Inv X pins σ H s):∀b∈frs X.stack,b∈X.env.locals::X.fs:=fun b hb=>by
 rcases I.ok.stk with e | ⟨e,hf⟩
 ·rw[e]at hb;exact List.mem_cons_of_mem _ hb
 ·rw[e]at hb
  unfold frs at hb
  rw[List.filterMap_cons,hf]at hb
  exact hb
theorem Inv.BL(I:Inv X pins σ H s):∀b∈frs X.stack,H b=none:=fun b hb=>by
 rcases List.mem_cons.mp (I.GR b hb)with e | hb
 ·rw[e];exact I.free
 ·obtain⟨_,o,ho,_⟩:=I.ok.CG.mem hb
  exact I.base.free b o ho (I.ok.frf b hb) fun z=>I.ok.RP b z hb
theorem Inv.step{g':Array GenState}{t':Nat}{d':Drawn}{ch:List Addr}(I:Inv X pins σ H s)
  (hch:∀b∈ch,(b∈X.ex∨X.s₀.heap.objs.size≤b)∧b≠X.env.locals∧(∀x c,X.env.cells.lookup x=some c→c≠b)∧∀p∈X.pn++pins,p.1≠b)
  (keep:∀b o,b≠X.env.locals→b∉X.fs→b∉ch→s.heap.get? b=some o→H b=none→h'.get? b=some o)
  (slot:∀b o,b≠X.env.locals→b∈X.fs→b∉ch→s.heap.get? b=some o→H b=none→∃sl,h'.get? b=some {o with slots:=sl}) (free:∀b o,b∉ch→s.heap.get? b=some o→H b=none→H' b=none)
  (there:∀b o,b∉ch→s.heap.get? b=some o→∃o',h'.get? b=some o')
  (tups:∀b xs,H b=some (.tup xs)→H' b=some (.tup xs)) (Be:∀b o u,H b=some (.zR o u)→H' b=some (.zR o u)) (BK:∀b ps,H b=some (.W2 ps)→∃more,H' b=some (.W2 (ps++more)))
  (ns:∀m,s.heap.Ns X.env.locals m→h'.Ns X.env.locals m) (hok:uN X.prog X.w H' h') (hg:AllBare g'):
  Inv X pins σ H' {s with heap:=h',gens:=g',drawn:=d',toks:=t'}:=by
 have neL:∀b o,X.s₀.heap.get? b=some o→b≠X.env.locals:=fun b o e=>Nat.ne_of_lt (Nat.lt_of_lt_of_le (Heap.lt_size e) I.ok.above)
 have neC:∀b o,X.s₀.heap.get? b=some o→b∉X.ex→b∉ch:=fun b o e hx hb=>by
  rcases(hch b hb).1 with z | z
  ·exact hx z
  ·exact absurd (Nat.lt_of_lt_of_le (Heap.lt_size e) z) (Nat.lt_irrefl _)
 have cellK:∀x c,X.env.cells.lookup x=some c→∀v,s.heap.IsCell c v→h'.IsCell c v:=fun x c e v ⟨o,ho,hd⟩=>by
  have nch:c∉ch:=fun z=>(hch c z).2.2.1 x c e rfl
  by_cases hc:c∈X.fs
  ·obtain⟨sl,q⟩:=slot c o (I.cne x c e) hc nch ho (I.rK x c e)
   exact⟨_,q,hd⟩
  ·exact⟨o,keep c o (I.cne x c e) hc nch ho (I.rK x c e),hd⟩
 refine⟨I.ok,I.os,hg,⟨fun b o e n hb hx=> ?_,fun b o e n hb hx=> ?_,fun b o e n hx=> ?_,fun b o e hx=> ?_,fun b xs e=>tups b xs (I.base.tups b xs e),fun b o xs e=>Be b o xs (I.base.Be b o xs e),fun b ps e=> ?_⟩,?_,fun x c e=> ?_,?_,fun x c e=> ?_,fun p hp=> ?_,hok,I.len⟩
 ·exact keep b o (neL b o e) hb (neC b o e hx) (I.base.keep b o e n hb hx) (I.base.free b o e n hx)
 ·obtain⟨sl,e1⟩:=I.base.slot b o e n hb hx
  obtain⟨sl',e2⟩:=slot b _ (neL b o e) hb (neC b o e hx) e1 (I.base.free b o e n hx)
  exact⟨sl',e2⟩
 ·obtain⟨o',e1⟩:=I.base.there b o e hx
  exact free b o' (neC b o e hx) e1 (I.base.free b o e n hx)
 ·obtain⟨o',e1⟩:=I.base.there b o e hx
  exact there b o' (neC b o e hx) e1
 ·obtain⟨m1,e1⟩:=I.base.BK b ps e
  obtain⟨m2,e2⟩:=BK b _ e1
  exact⟨m1++m2,by rw[e2,Array.append_assoc]⟩
 ·obtain⟨m,hn,hl⟩:=I.loc
  refine⟨m,ns m hn,fun i x v e1 e2 e3=> ?_⟩
  obtain⟨u,r,l⟩:=hl i x v e1 e2 e3
  refine⟨u,r,?_⟩
  rcases l with l | ⟨k,c,e,z⟩
  ·exact .inl l
  ·exact .inr ⟨k,c,e,cellK x c e _ z⟩
 ·obtain⟨v,z⟩:=I.cell x c e
  exact⟨v,cellK x c e v z⟩
 ·obtain⟨m,⟨o,_,_,ho,_⟩,_⟩:=I.loc
  exact free _ o (fun z=>(hch _ z).2.1 rfl) ho I.free
 ·obtain⟨v,o,ho,hd⟩:=I.cell x c e
  exact free c o (fun z=>(hch c z).2.2.1 x c e rfl) ho (I.rK x c e)
 ·obtain⟨e,n,ne,nf,d⟩:=I.pin p hp
  have nch:p.1∉ch:=fun z=>(hch p.1 z).2.2.2 p hp rfl
  exact⟨keep p.1 p.2 ne nf nch e n,free p.1 p.2 nch e n,ne,nf,d⟩
theorem Inv.un{t':Nat}(I:Inv X pins σ H s)(u:Un X.fs [] H H' s.heap h')(hok:uN X.prog X.w H' h'):Inv X pins σ H' {s with heap:=h',toks:=t'}:=by
 obtain⟨m,⟨o,es,ep,ho,r⟩,_⟩:=id I.loc
 obtain⟨sl,hL⟩:=u.any ho I.free (by simp)
 exact I.step (g':=s.gens) (d':=s.drawn) (ch:=[]) (fun _ z=>nomatch z) (fun b o _ hb _ e n=>u.keep b o e n hb (by simp)) (fun b o _ hb _ e n=>u.slot b o e n hb (by simp)) (fun b o _ e n=>u.free b o e n (by simp)) (fun b o _ e=>u.there b o e (by simp)) u.tups u.Be u.BK (fun m' hm=>by
  obtain⟨o',es',ep',ho',r'⟩:=hm
  rw[ho]at ho';cases ho'
  exact⟨_,es',ep',hL,r'⟩) hok I.bare
theorem Inv.call{g':Array GenState}{t':Nat}{d':Drawn}{ch:List Addr}(I:Inv X pins σ H s)(u:Un (frs X.stack) ch H H' s.heap h')(hok:uN X.prog X.w H' h')(hg:AllBare g')
  (hch:∀b∈ch,(b∈X.ex∨X.s₀.heap.objs.size≤b)∧b≠X.env.locals∧(∀x c,X.env.cells.lookup x=some c→c≠b)∧∀p∈X.pn++pins,p.1≠b):
  Inv X pins σ H' {s with heap:=h',gens:=g',drawn:=d',toks:=t'}:=by
 obtain⟨m,⟨o,es,ep,ho,r⟩,_⟩:=id I.loc
 obtain⟨sl,hL⟩:=u.any ho I.free fun z=>(hch _ z).2.1 rfl
 exact I.step (ch:=ch) hch (fun b o hL hb hc e n=>u.keep b o e n (fun z=>(List.mem_cons.mp (I.GR b z)).elim hL hb) hc) (fun b o _ _ hc e n=>u.any e n hc) (fun b o hc e n=>u.free b o e n hc) (fun b o hc e=>u.there b o e hc) u.tups u.Be u.BK (fun m' hm=>by
  obtain⟨o',es',ep',ho',r'⟩:=hm
  rw[ho]at ho';cases ho'
  exact⟨_,es',ep',hL,r'⟩) hok hg
theorem Inv.turned{t':Nat}{it:Addr}(I:Inv X pins σ H s)(k:∀b o,b≠it→s.heap.get? b=some o→h'.get? b=some o)(hn:H it=none)(hL:it≠X.env.locals)
  (h1:it∈X.ex∨X.s₀.heap.objs.size≤it) (h2:∀x c,X.env.cells.lookup x=some c→c≠it) (h3:∀p∈X.pn++pins,p.1≠it):Inv X pins σ H {s with heap:=h',toks:=t'}:=by
 have nit:∀b u,H b=some u→b≠it:=fun b u e z=>by rw[z,hn]at e;cases e
 refine I.step (g':=s.gens) (d':=s.drawn) (ch:=[it]) (fun b hb=> ?_) (fun b o _ _ hc e _=>k b o (fun z=>hc (by simp[z])) e) (fun b o _ _ hc e _=>⟨o.slots,k b o (fun z=>hc (by simp[z])) e⟩) (fun _ _ _ _ n=>n)
  (fun b o hc e=>⟨o,k b o (fun z=>hc (by simp[z])) e⟩) (fun _ _ e=>e) (fun _ _ _ e=>e) (fun b ps e=>⟨#[],by rw[e];simp⟩) (fun m hm=> ?_) (fun b u e=> ?_) I.bare
 ·have e:b=it:=by simpa using hb
  subst e
  exact⟨h1,hL,h2,h3⟩
 ·obtain⟨o,es,ep,ho,r⟩:=hm
  exact⟨o,es,ep,k _ o (Ne.symm hL) ho,r⟩
 ·refine(I.hok b u e).stay (fun c v hc q=>k c v ?_ q) (fun _ q=>q) fun _ _ q=>q
  rcases hc with z | z
  ·rw[z];exact nit b u e
  ·exact nit c _ z
theorem Inv.tok(I:Inv X pins σ H s)(t:Nat):Inv X pins σ H {s with toks:=t}:=I.un (h':=s.heap) (t':=t) Un.refl I.hok
theorem Inv.kept{t':Nat}(I:Inv X pins σ H s)(k:∀b u,s.heap.get? b=some u→h'.get? b=some u):Inv X pins σ H {s with heap:=h',toks:=t'}:=I.un (Un.kept k) (I.hok.kept k)
theorem Inv.laid{a:Addr}{o:HO}{t':Nat}(I:Inv X pins σ H s)(k:∀b u,s.heap.get? b=some u→h'.get? b=some u)(hp:s.heap.objs.size≤a)(new:dg X.prog X.w (upd H a o) h' a o):
  Inv X pins σ (upd H a o) {s with heap:=h',toks:=t'}:=I.un (Un.laid k hp (I.hok.fresh hp)) (I.hok.laid k hp new)
theorem Inv.write{x e:Addr}{o:HO}{t':Nat}(I:Inv X pins σ H s)(mu:Mut (H x))(he:e=x∨H e=some (.own x))(k:∀b u,b≠e→s.heap.get? b=some u→h'.get? b=some u)(heo:∃u,h'.get? e=some u)
  (new:dg X.prog X.w (upd H x o) h' x o):Inv X pins σ (upd H x o) {s with heap:=h',toks:=t'}:=I.un (Un.write mu he k heo) (I.hok.write mu he k heo new)
theorem Inv.weak{σ':List (Option V)}(I:Inv X pins σ H s)(hl:σ'.length=σ.length)(w:∀(i:Nat) v,σ'[i]? = some (some v)→σ[i]? = some (some v)):Inv X pins σ' H s:=
 ⟨I.ok,I.os,I.bare,I.base,let⟨m,hn,hl'⟩:=I.loc;⟨m,hn,fun i x v e1 e2 e3=>hl' i x v e1 (w i v e2) e3⟩,I.cell,I.free,I.rK,I.pin,I.hok,hl.trans I.len⟩
theorem Inv.uX{Ad:List (Addr×Obj)}(I:Inv X pins σ H s)(h:∀p∈Ad,s.heap.get? p.1=some p.2∧H p.1=none∧p.1≠X.env.locals∧p.1∉X.fs∧∀v,p.2.data≠ .cell v):Inv X Ad σ H s:=
 ⟨I.ok,I.os,I.bare,I.base,I.loc,I.cell,I.free,I.rK,fun p hp=>(List.mem_append.mp hp).elim (fun z=>I.pin p (List.mem_append_left _ z)) (h p),I.hok,I.len⟩
theorem OD{N:List Str}(hN:N.Nodup){i j:Nat}{x:Str}(a:N[i]? = some x)(b:N[j]? = some x):i=j:=by
 obtain⟨h1,e1⟩:=List.getElem?_eq_some_iff.mp a
 obtain⟨h2,e2⟩:=List.getElem?_eq_some_iff.mp b
 exact(List.getElem_inj hN).mp (e1.trans e2.symm)
theorem JP{M:Model}{A:Around}{E:Value→Shared→Prop}{i:Nat}{x:Str}{v:V}{u:Value}{Q:Unit→Shared→Prop}(I:Inv X pins σ H s)(hN:X.N.Nodup)(hi:X.N[i]? = some x)(hx:Loc X.env.scope x)(r:RelV v u)
  (h:∀s',Inv X pins (σ.set i (some v)) H s'→(∃a,Heap.SameBut a s.heap s'.heap∧(a=X.env.locals∨X.env.cells.lookup x=some a))→Q () s') (hf:X.fn x=true∨X.env.scope.names.lookup x=some .local:=by first | exact .inl rfl | exact .inr rfl | assumption):wpAny M A (storeName X.env x u) Q E s:=by
 obtain⟨m,hn,hl⟩:=id I.loc
 have hcls:(X.env.scope.kind== .class||(X.env.scope.kind== .module&&X.env.locals != X.env.globals))=false:=by rw[I.ok.kind];rfl
 have aid:i<σ.length:=by rw[I.len];exact(List.getElem?_eq_some_iff.mp hi).1
 have cne:=I.cne
 have tracked:∀{a:Addr} {h':Heap},(∃o,s.heap.get? a=some o∧H a=none)→Heap.SameBut a s.heap h'→uN X.prog X.w H h':=fun{a h'} ha hs b ob e=>by
  obtain⟨_,_,hfree⟩:=ha
  refine(I.hok b ob e).stay (fun c w' hc q=>(hs.2 c ?_).trans q) (fun _ q=>q) fun _ _ q=>q
  rintro rfl
  rcases hc with rfl | hc
  ·rw[hfree]at e;cases e
  ·rw[hfree]at hc;cases hc
 rcases hx with hk | hk
 ·refine wpAny_storeName_local hk hn (fun h' hn' hs=> ?_) hcls
  obtain⟨oL,_,_,hoL,_⟩:=id hn
  refine h _ ⟨I.ok,I.os,I.bare,⟨fun b o e n hb hx=> ?_,fun b o e n hb hx=> ?_,I.base.free,fun b o e hx=> ?_,I.base.tups,I.base.Be,I.base.BK⟩,⟨_,hn',fun j y v' e1 e2 e3=> ?_⟩,fun y c e=> ?_,I.free,I.rK,fun p hp=> ?_,tracked ⟨oL,hoL,I.free⟩ hs,by simpa using I.len⟩ ⟨_,hs,.inl rfl⟩
  ·exact(hs.2 b (Nat.ne_of_lt (Nat.lt_of_lt_of_le (Heap.lt_size e) I.ok.above))).trans (I.base.keep b o e n hb hx)
  ·obtain⟨sl,e1⟩:=I.base.slot b o e n hb hx
   exact⟨sl,(hs.2 b (Nat.ne_of_lt (Nat.lt_of_lt_of_le (Heap.lt_size e) I.ok.above))).trans e1⟩
  ·obtain⟨o',e1⟩:=I.base.there b o e hx
   exact⟨o',(hs.2 b (Nat.ne_of_lt (Nat.lt_of_lt_of_le (Heap.lt_size e) I.ok.above))).trans e1⟩
  ·by_cases hj:j=i
   ·subst hj
    rw[hi]at e1;cases e1
    rw[List.getElem?_set_self aid]at e2
    cases e2
    exact⟨u,r,.inl ⟨hk,by simp⟩⟩
   ·rw[List.getElem?_set_ne (Ne.symm hj)]at e2
    obtain⟨u',r',q⟩:=hl j y v' e1 e2 e3
    refine⟨u',r',?_⟩
    rcases q with⟨k,e⟩ | ⟨k,c,e,z⟩
    ·refine .inl ⟨k,?_⟩
     have:y≠x:=fun e=>hj (OD hN e1 (e▸hi))
     simp[this,e]
    ·exact .inr ⟨k,c,e,z.sameBut hs (cne y c e)⟩
  ·obtain⟨w',z⟩:=I.cell y c e
   exact⟨w',z.sameBut hs (cne y c e)⟩
  ·obtain⟨e,n,ne,nf,d⟩:=I.pin p hp
   exact⟨(hs.2 p.1 ne).trans e,n,ne,nf,d⟩
 ·have hfn:X.fn x=true:=by
   rcases hf with z | z
   ·exact z
   ·rw[z]at hk;cases hk
  obtain⟨c,hc⟩:=I.ok.has x (.inl hk)
  obtain⟨w',z⟩:=I.cell x c hc
  refine wpAny_storeName_cell I.ok.kind hk hc z (fun h' hc' hs=> ?_)
  obtain⟨oc,hoc,ap1⟩:=id z
  refine h {s with heap:=h'} ⟨I.ok,I.os,I.bare,⟨fun b o e n hb hx=> ?_,fun b o e n hb hx=> ?_,I.base.free,fun b o e hx=> ?_,I.base.tups,I.base.Be,I.base.BK⟩,⟨m,hn.sameBut hs (Ne.symm (cne x c hc)),fun j y v' e1 e2 e3=> ?_⟩,fun y c' e=> ?_,I.free,I.rK,fun p hp=> ?_,tracked ⟨oc,hoc,I.rK x c hc⟩ hs,by simpa using I.len⟩ ⟨c,hs,.inr hc⟩
  ·exact(hs.2 b (Nat.ne_of_lt (Nat.lt_of_lt_of_le (Heap.lt_size e) (I.ok.cab x c hfn hc)))).trans (I.base.keep b o e n hb hx)
  ·obtain⟨sl,e1⟩:=I.base.slot b o e n hb hx
   exact⟨sl,(hs.2 b (Nat.ne_of_lt (Nat.lt_of_lt_of_le (Heap.lt_size e) (I.ok.cab x c hfn hc)))).trans e1⟩
  ·obtain⟨o',e1⟩:=I.base.there b o e hx
   exact⟨o',(hs.2 b (Nat.ne_of_lt (Nat.lt_of_lt_of_le (Heap.lt_size e) (I.ok.cab x c hfn hc)))).trans e1⟩
  ·by_cases hj:j=i
   ·subst hj
    rw[hi]at e1;cases e1
    rw[List.getElem?_set_self aid]at e2
    cases e2
    exact⟨u,r,.inr ⟨.inl hk,c,hc,hc'⟩⟩
   ·rw[List.getElem?_set_ne (Ne.symm hj)]at e2
    obtain⟨u',r',q⟩:=hl j y v' e1 e2 e3
    refine⟨u',r',?_⟩
    rcases q with q | ⟨k,c',e,z'⟩
    ·exact .inl q
    ·refine .inr ⟨k,c',e,z'.sameBut hs ?_⟩
     rintro rfl
     exact hj (OD hN e1 (I.ok.inj _ _ _ e hc▸hi))
  ·by_cases hcc:c'=c
   ·subst hcc;exact⟨_,hc'⟩
   ·obtain⟨w2,z2⟩:=I.cell y c' e
    exact⟨w2,z2.sameBut hs hcc⟩
  ·obtain⟨e,n,ne,nf,d⟩:=I.pin p hp
   refine⟨(hs.2 p.1 ?_).trans e,n,ne,nf,d⟩
   intro q
   rw[q,hoc]at e
   have q':oc=p.2:=Option.some.inj e
   exact d w' (by rw[←q'];exact ap1)
theorem GQ{M:Model}{A:Around}{E:Value→Shared→Prop}{i:Nat}{x:Str}{v:V}{u:Value}{Q:Unit→Shared→Prop}(I:Inv X pins σ H s)(hN:X.N.Nodup)(hi:X.N[i]? = some x)(hx:Loc X.env.scope x)(r:RelV v u)
  (h:∀s',Inv X pins (σ.set i (some v)) H s'→Q () s') (hf:X.fn x=true∨X.env.scope.names.lookup x=some .local:=by first | exact .inl rfl | exact .inr rfl | assumption):wpAny M A (storeName X.env x u) Q E s:=
 JP I hN hi hx r (fun s' I' _=>h s' I') hf
theorem Inv.call'{s':Shared}{ch:List Addr}(I:Inv X pins σ H s)(ho:s'.os=s.os)(u:Un (frs X.stack) ch H H' s.heap s'.heap)(hok:uN X.prog X.w H' s'.heap)(hg:AllBare s'.gens)
  (hch:∀b∈ch,(b∈X.ex∨X.s₀.heap.objs.size≤b)∧b≠X.env.locals∧(∀x c,X.env.cells.lookup x=some c→c≠b)∧∀p∈X.pn++pins,p.1≠b):Inv X pins σ H' s':=by
 obtain⟨h',g',d',t',o'⟩:=s'
 have e:o'=s.os:=ho
 subst e
 exact I.call (g':=g') (t':=t') (d':=d') u hok hg hch
end
abbrev XK:=Value→Option Addr→Hp→Prop
abbrev St:=List (Option V)
abbrev VK:=V→Hp→Prop
abbrev TE:=St→Hp→VK→Prop
abbrev TT:=St→Hp→(Bool→Hp→Prop)→Prop
abbrev TA:=St→Hp→(List V→Hp→Prop)→Prop
structure Ends where
 nx:St→Hp→Prop
 rt:VK
 bk:St→Hp→Prop:=fun _ _=>False
 ct:St→Hp→Prop:=fun _ _=>False
abbrev TS:=Ends→St→Hp→Prop
def EP(X:Cx)(pins:List (Addr×Obj))(σ:St)(Q:VK)(u:Value)(s':Shared):Prop:=∃v H',Inv X pins σ H' s'∧RelV v u∧Q v H'
def TP(X:Cx)(pins:List (Addr×Obj))(σ:St)(Q:Bool→Hp→Prop)(b:Bool)(s':Shared):Prop:=∃H',Inv X pins σ H' s'∧Q b H'
def AP(X:Cx)(pins:List (Addr×Obj))(σ:St)(Q:List V→Hp→Prop)(us:List Value)(s':Shared):Prop:=∃vs H',Inv X pins σ H' s'∧Vals vs us∧Q vs H'
def SP(X:Cx)(pins:List (Addr×Obj))(D:Ends)(f:Flow)(s':Shared):Prop:=
 match f with
 | .next=>∃σ' H',Inv X pins σ' H' s'∧D.nx σ' H'
 | .brk=>∃σ' H',Inv X pins σ' H' s'∧D.bk σ' H'
 | .cont=>∃σ' H',Inv X pins σ' H' s'∧D.ct σ' H'
 | .ret u=>∃v σ' H',Inv X pins σ' H' s'∧RelV v u∧D.rt v H'
def PE(X:Cx)(e:Expr)(t:TE):Prop:=
 ∀(pins:List (Addr×Obj)) (s:Shared) (σ:St) (H:Hp) (Q:VK),Inv X pins σ H s→t σ H Q→wpAny (model X.prog X.w) X.A (eval e X.env) (EP X pins σ Q) X.xe s
def PT(X:Cx)(e:Expr)(t:TT):Prop:=
 ∀(pins:List (Addr×Obj)) (s:Shared) (σ:St) (H:Hp) (Q:Bool→Hp→Prop),Inv X pins σ H s→t σ H Q→wpAny (model X.prog X.w) X.A (isTrue e X.env (eval e X.env)) (TP X pins σ Q) X.xe s
def PW(X:Cx)(e:Expr)(t:TT):Prop:=
 ∀(whole:Sem Value) (pins:List (Addr×Obj)) (s:Shared) (σ:St) (H:Hp) (Q:Bool→Hp→Prop),Inv X pins σ H s→t σ H Q→wpAny (model X.prog X.w) X.A (isTrue e X.env whole) (TP X pins σ Q) X.xe s
theorem PW.pt{X:Cx}{e:Expr}{t:TT}(h:PW X e t):PT X e t:=h _
def PA(X:Cx)(es:List Expr)(t:TA):Prop:=
 ∀(pos:Pos) (pins:List (Addr×Obj)) (s:Shared) (σ:St) (H:Hp) (Q:List V→Hp→Prop),Inv X pins σ H s→t σ H Q→wpAny (model X.prog X.w) X.A (spliced (backTo pos (starEach es X.env))) (AP X pins σ Q) X.xe s
def PS(X:Cx)(st:Stmt)(t:TS):Prop:=
 ∀(pins:List (Addr×Obj)) (s:Shared) (σ:St) (H:Hp) (D:Ends),Inv X pins σ H s→t D σ H→wpAny (model X.prog X.w) X.A (exec st X.env) (SP X pins D) X.xe s
def Qp(X:Cx)(st:List Stmt)(t:TS):Prop:=
 ∀(pins:List (Addr×Obj)) (s:Shared) (σ:St) (H:Hp) (D:Ends),Inv X pins σ H s→t D σ H→wpAny (model X.prog X.w) X.A (execs st X.env) (SP X pins D) X.xe s
theorem gU{α:Type}{t:Sem α}{Q Q':α→Shared→Prop}{M:Model}{A:Around}{E:Value→Shared→Prop}{s:Shared}(h:wpAny M A t Q E s)(hQ:∀a s,Q a s→Q' a s):wpAny M A t Q' E s:=wpAny_mono h hQ fun _ _ x=>x
end L2
namespace L2
open PySem PySem.Spec PyProof.Rows
section
variable{X:Cx}
theorem bin{a b:Expr}{ta tb:TE}(ha:PE X a ta)(hb:PE X b tb){pins:List (Addr×Obj)}{s:Shared}{σ:St}{H:Hp}{R:V→V→Hp→Prop}(I:Inv X pins σ H s)(h:ta σ H fun x H1=>tb σ H1 fun y H2=>R x y H2)
  {α:Type} {Q:α→Shared→Prop} {f:Value→Value→Sem α}
  (hf:∀v u s2 x y H2,Inv X pins σ H2 s2→RelV x v→RelV y u→R x y H2→wpAny (model X.prog X.w) X.A (f v u) Q X.xe s2):
  wpAny (model X.prog X.w) X.A (eval a X.env) (fun v s₁=>wpAny (model X.prog X.w) X.A (eval b X.env) (fun u s₂=>wpAny (model X.prog X.w) X.A (f v u) Q X.xe s₂) X.xe s₁) X.xe s:=by
 refine gU (ha pins s σ H _ I h) fun v s1 ⟨x,H1,I1,r1,q1⟩=> ?_
 refine gU (hb pins s1 σ H1 _ I1 q1) fun u s2 ⟨y,H2,I2,r2,q2⟩=> ?_
 exact hf v u s2 x y H2 I2 r1 r2 q2
def aft(i:Nat):TE:=fun σ H Q=>∃v,σ[i]? = some (some v)∧Q v H
def tC(v:V):TE:=fun _ H Q=>Q v H
theorem Xx{i:Nat}{x:Str}{pos:Pos}(hN:X.N[i]? = some x)(hv:Vis X.env.scope x)(hd:(x==("__debug__" : Str))=false:=by decide)(hcd:(x==("__classdict__" : Str))=false:=by decide):PE X (.Name x pos) (aft i):=by
 intro pins s σ H Q I h
 obtain⟨v,e,h⟩:=h
 obtain⟨m,hn,hl⟩:=I.loc
 obtain⟨u,r,l⟩:=hl i x v hN e hv
 have fin:EP X pins σ Q u s:=⟨v,H,I,r,h⟩
 rcases l with⟨hk,hm⟩ | ⟨hk,c,hc,hcell⟩
 ·exact wpAny_Name (wpAny_loadName_local I.ok.kind hk hn hm fin) hd
 ·rcases hk with hk | hk
  ·exact wpAny_Name (wpAny_loadName_cell I.ok.kind hk hc hcell fin) hd
  ·exact wpAny_Name (wpAny_loadName_free I.ok.kind hk hc hcell fin hcd) hd
theorem acU{i j pos}:PE X (.Constant (.int i) j pos) (tC (.int i)):=fun _ _ _ H _ I h=>wpAny_Constant_int ⟨.int i,H,I.tok _,⟨_,rfl⟩,h⟩
theorem agN{b j pos}:PE X (.Constant (.bool b) j pos) (tC (.bl b)):=fun _ _ _ H _ I h=>Constant_bool ⟨.bl b,H,I,rfl,h⟩
theorem acS{j pos}:PE X (.Constant .none j pos) (tC .non):=fun _ _ _ H _ I h=>Constant_none ⟨.non,H,I,rfl,h⟩
theorem acP{x j pos}:PE X (.Constant (.str x) j pos) (tC (.str x)):=fun _ _ _ H _ I h=>Calls.Constant_str ⟨.str x,H,I.tok _,⟨_,rfl⟩,h⟩
def Gl(X:Cx)(x:Str):Prop:=X.env.kindOf x=some .globalImplicit
theorem Lz{E:Value→Shared→Prop}{pins:List (Addr×Obj)}{s:Shared}{σ:St}{H:Hp}{x:Str}{u:Value}{pos:Pos}{Q:Value→Shared→Prop}(I:Inv X pins σ H s)(hg:Gl X x)(hm:X.mg x=some u)(h:Q u s)
  (hd:(x==("__debug__" : Str))=false:=by decide):wpAny (model X.prog X.w) X.A (eval (.Name x pos) X.env) Q E s:=
 Calls.Name_function_global I.ok.kind hg (Calls.loadGlobal_global (by rw[I.ok.glob];exact I.mod.glob.keeps I.bk) hm h) hd
theorem LC{E:Value→Shared→Prop}{pins:List (Addr×Obj)}{s:Shared}{σ:St}{H:Hp}{x:Str}{u:Value}{pos:Pos}{Q:Value→Shared→Prop}(I:Inv X pins σ H s)(hg:Gl X x)(hm:X.mg x=none)(hv:bootBuiltins x=some u)(h:Q u s)
  (hn:x≠ "__name__" := by decide) (hd:(x==("__debug__" : Str))=false:=by decide):wpAny (model X.prog X.w) X.A (eval (.Name x pos) X.env) Q E s:=by
 obtain⟨mb,h1,h2⟩:=I.mod.blt
 exact Calls.Name_function_global I.ok.kind hg (Calls.loadGlobal_builtin (by rw[I.ok.glob];exact I.mod.glob.keeps I.bk) hm (by rw[I.ok.blt];exact h1.keeps I.bk) ((h2 x hn).trans hv) h) hd
theorem Le{x:Str}{v:V}{u:Value}{pos:Pos}(hg:Gl X x)(hm:X.mg x=some u)(r:RelV v u)(hd:(x==("__debug__" : Str))=false:=by decide):PE X (.Name x pos) (tC v):=
 fun _ _ _ H _ I h=>Lz I hg hm ⟨v,H,I,r,h⟩ hd
theorem aaf{x:Str}{v:V}{u:Value}{pos:Pos}(hg:Gl X x)(hm:X.mg x=none)(hv:bootBuiltins x=some u)(r:RelV v u)(hn:x≠ "__name__" := by decide)(hd:(x==("__debug__" : Str))=false:=by decide):PE X (.Name x pos) (tC v):=
 fun _ _ _ H _ I h=>LC I hg hm hv ⟨v,H,I,r,h⟩ hn hd
variable{a b:Expr}{ta tb:TE}{pos:Pos}
def PC(X:Cx)(op:CmpOp)(a b:Expr)(t:TE):Prop:=
 ∀(pins:List (Addr×Obj)) (s:Shared) (σ:St) (H:Hp) (Q:VK),Inv X pins σ H s→t σ H Q→
  wpAny (model X.prog X.w) X.A (eval a X.env) (fun v s₁=>wpAny (model X.prog X.w) X.A (eval b X.env) (fun u s₂=>wpAny (model X.prog X.w) X.A (compareOp op v u) (EP X pins σ Q) X.xe s₂) X.xe s₁) X.xe s
theorem X4(b:Expr){op:CmpOp}(h:op≠ .In)(h2:op≠ .NotIn):behindInMarks op b=false:=by
 have e1:(op==CmpOp.In)=false:=by cases op<;>first | rfl | exact absurd rfl h
 have e2:(op==CmpOp.NotIn)=false:=by cases op<;>first | rfl | exact absurd rfl h2
 cases b<;>simp[behindInMarks,e1,e2]
def tB(t:TE):TT:=fun σ H Q=>t σ H fun x H1=>∃c,x= .bl c∧Q c H1
theorem aok{op:CmpOp}{t:TE}(h:PC X op a b t)(h1:behindInMarks op b=false:=by first | exact X4 _ (by decide) (by decide) | rfl):PT X (.Compare a [op] [b] pos) (tB t):=by
 intro pins s σ H Q I hw
 refine wpAny_isTrue_Compare1 (gU (h pins s σ H _ I hw) fun v s1 h1=>gU h1 fun u s2 h2=>gU h2 fun c s3 ⟨x,H1,I1,r1,q1⟩=> ?_) h1
 obtain⟨d,rfl,q⟩:=q1
 cases r1
 exact wpAny_truthy_bool ⟨H1,I1,q⟩
theorem acG{e:Expr}{t:TE}(h:PE X e t)(he:∀whole,isTrue e X.env whole=(do let v ←whole;standAt e.pos;holding [v] (truthy v)):=by intro _;rfl):PT X e (tB t):=by
 intro pins s σ H Q I hw
 refine isTrue_plain (gU (h pins s σ H _ I hw) fun v s1 ⟨x,H1,I1,r1,q1⟩=> ?_) (he _)
 obtain⟨d,rfl,q⟩:=q1
 cases r1
 exact wpAny_truthy_bool ⟨H1,I1,q⟩
variable{tA tB':TT}{rest:List Expr}
def ani(t u:TT):TT:=fun σ H Q=>t σ H fun c H1=>if c=true then u σ H1 Q else Q false H1
def tOr(t u:TT):TT:=fun σ H Q=>t σ H fun c H1=>if c=true then Q true H1 else u σ H1 Q
def ana(t:TT):TT:=fun σ H Q=>t σ H fun c H1=>Q (!c) H1
theorem ZZ(ha:PT X a tA):PW X (.BoolOp .And [a] pos) tA:=by
 intro wh pins s σ H Q I h
 refine isTrue_and (gU (ha pins s σ H Q I h) fun c s1 e=> ?_)
 cases c with
 | true=>exact isTrue_and_nil e
 | false=>exact e
theorem acD(ha:PT X a tA):PW X (.BoolOp .Or [a] pos) tA:=by
 intro wh pins s σ H Q I h
 refine isTrue_or (gU (ha pins s σ H Q I h) fun c s1 e=> ?_)
 cases c with
 | false=>exact isTrue_or_nil e
 | true=>exact e
theorem acE(ha:PT X a tA)(hb:PW X (.BoolOp .And (b::rest) pos) tB'):PW X (.BoolOp .And (a::b::rest) pos) (ani tA tB'):=by
 intro wh pins s σ H Q I h
 refine isTrue_and (gU (ha pins s σ H _ I h) fun c s1 ⟨H1,I1,q1⟩=> ?_)
 cases c with
 | true=>exact hb wh pins s1 σ H1 Q I1 q1
 | false=>exact⟨H1,I1,q1⟩
theorem af_(ha:PT X a tA)(hb:PW X (.BoolOp .Or (b::rest) pos) tB'):PW X (.BoolOp .Or (a::b::rest) pos) (tOr tA tB'):=by
 intro wh pins s σ H Q I h
 refine isTrue_or (gU (ha pins s σ H _ I h) fun c s1 ⟨H1,I1,q1⟩=> ?_)
 cases c with
 | true=>exact⟨H1,I1,q1⟩
 | false=>exact hb wh pins s1 σ H1 Q I1 q1
theorem acH(ha:PT X a tA):PT X (.UnaryOp .Not a pos) (ana tA):=by
 intro pins s σ H Q I h
 exact isTrue_not (ha pins s σ H (fun c H1=>Q (!c) H1) I h)
def afD(ta tb:TE):TE:=fun σ H Q=>ta σ H fun x H1=>∃c,x= .bl c∧if c=true then tb σ H1 Q else Q (.bl false) H1
def am_(ta tb:TE):TE:=fun σ H Q=>ta σ H fun x H1=>∃c,x= .bl c∧if c=true then Q (.bl true) H1 else tb σ H1 Q
def afw(ta:TE):TE:=fun σ H Q=>ta σ H fun x H1=>∃c,x= .bl c∧Q (.bl (!c)) H1
theorem acQ{op}{t:TE}(h:PE X a t):PE X (.BoolOp op [a] pos) t:=fun pins s σ H Q I hw=>BoolOp_one (h pins s σ H Q I hw)
theorem acX(ha:PE X a ta)(hb:PE X (.BoolOp .And (b::rest) pos) tb):PE X (.BoolOp .And (a::b::rest) pos) (afD ta tb):=by
 intro pins s σ H Q I h
 refine BoolOp_and (gU (ha pins s σ H _ I h) fun v s1 ⟨x,H1,I1,r1,q1⟩=> ?_)
 obtain⟨c,rfl,q1⟩:=q1
 cases r1
 refine wpAny_truthy_bool ?_
 cases c with
 | true=>exact hb pins s1 σ H1 Q I1 q1
 | false=>exact⟨.bl false,H1,I1,rfl,q1⟩
theorem agJ(ha:PE X a ta)(hb:PE X (.BoolOp .Or (b::rest) pos) tb):PE X (.BoolOp .Or (a::b::rest) pos) (am_ ta tb):=by
 intro pins s σ H Q I h
 refine BoolOp_or (gU (ha pins s σ H _ I h) fun v s1 ⟨x,H1,I1,r1,q1⟩=> ?_)
 obtain⟨c,rfl,q1⟩:=q1
 cases r1
 refine wpAny_truthy_bool ?_
 cases c with
 | false=>exact hb pins s1 σ H1 Q I1 q1
 | true=>exact⟨.bl true,H1,I1,rfl,q1⟩
theorem acR(ha:PE X a ta):PE X (.UnaryOp .Not a pos) (afw ta):=by
 intro pins s σ H Q I h
 refine UnaryOp_ (gU (ha pins s σ H _ I h) fun v s1 ⟨x,H1,I1,r1,q1⟩=> ?_)
 obtain⟨c,rfl,q1⟩:=q1
 cases r1
 exact not_of (wpAny_truthy_bool ⟨.bl (!c),H1,I1,rfl,q1⟩)
def tIf(t:TT)(ta tb:TE):TE:=fun σ H Q=>t σ H fun c H1=>if c=true then ta σ H1 Q else tb σ H1 Q
theorem XD{c:Expr}(hc:PT X c tA)(ha:PE X a ta)(hb:PE X b tb):PE X (.IfExp c a b pos) (tIf tA ta tb):=by
 intro pins s σ H Q I h
 refine wpAny_IfExp (gU (hc pins s σ H _ I h) fun d s1 ⟨H1,I1,q1⟩=> ?_)
 cases d with
 | true=>exact ha pins s1 σ H1 Q I1 q1
 | false=>exact hb pins s1 σ H1 Q I1 q1
end
end L2
namespace L2
open PySem PySem.Spec PyProof.Rows
def yt(K:PySem.W.Frag)(H:Hp)(a:Addr)(xs:List V):Prop:=
 Rd H a (.lst xs)∨
  ∃(o:Obj) (its:Array Value) (n:Nat),K.lookup a=some o∧o.cls= .type "list" ∧ o.dict=none∧o.data= .seq its n∧its.size≤sizeLine∧Vals xs its.toList
def vK(K:PySem.W.Frag)(H:Hp)(a:Addr)(xs:List V):Prop:=
 Rd H a (.tup xs)∨
  ∃(o:Obj) (its:Array Value) (n:Nat),K.lookup a=some o∧o.cls= .type "tuple" ∧ o.data= .seq its n∧its.size≤sizeLine∧Vals xs its.toList
def aqw:Value→Option V
 | .none=>some .non
 | .bool b=>some (.bl b)
 | .int i _=>some (.int i)
 | .str x _=>some (.str x)
 | .bytes b _=>some (.byt b)
 | .float b _=>some (.flt b)
 | .ref a=>some (.ref a)
 | .type n=>some (.ty n)
 | _=>none
theorem RelV.abs{x:V}{u:Value}(r:RelV x u):aqw u=some x:=by
 cases x with
 | non=>cases r;rfl
 | bl _=>cases r;rfl
 | int _=>obtain⟨t,rfl⟩:=r;rfl
 | str _=>obtain⟨t,rfl⟩:=r;rfl
 | byt _=>obtain⟨t,rfl⟩:=r;rfl
 | flt _=>obtain⟨t,rfl⟩:=r;rfl
 | ref _=>cases r;rfl
 | ty _=>cases r;rfl
theorem RelV.inj{x y:V}{u:Value}(r:RelV x u)(q:RelV y u):x=y:=Option.some.inj (r.abs.symm.trans q.abs)
theorem Vals.inj:∀{xs ys:List V} {us:List Value},Vals xs us→Vals ys us→xs=ys
 | _,_,_,.nil,.nil=>rfl
 | _,_,_,.cons r t,.cons r' t'=>by rw[r.inj r',Vals.inj t t']
section
variable{X:Cx}{pins:List (Addr×Obj)}{σ:St}{H:Hp}{s:Shared}{a:Addr}{xs ys:List V}
theorem yt.of{K:PySem.W.Frag}(h:H a=some (.lst xs)):yt K H a xs:= .inl (.inl h)
theorem vK.of{K:PySem.W.Frag}(h:H a=some (.tup xs)):vK K H a xs:= .inl (.inl h)
theorem Inv.list(I:Inv X pins σ H s)(h:yt X.K H a xs):∃its:List Value,Vals xs its∧PlainL s.heap a its.toArray∧xs.length≤sizeLine:=by
 rcases h with h | ⟨o,its,n,hk,hc,hd,hs,hz,r⟩
 ·obtain⟨z,its,n,r,e⟩:=h.ok I.hok
  exact⟨its,r,⟨_,n,e,rfl,rfl,rfl⟩,z⟩
 ·refine⟨its.toList,r,⟨o,n,I.Bt a o hk,hc,hd,by simpa using hs⟩,?_⟩
  have e:=r.length
  simp only[Array.length_toList]at e
  omega
theorem Inv.tuple(I:Inv X pins σ H s)(h:vK X.K H a xs):∃its:List Value,Vals xs its∧IsTup s.heap a its.toArray∧xs.length≤sizeLine:=by
 rcases h with h | ⟨o,its,n,hk,hc,hs,hz,r⟩
 ·obtain⟨z,its,r,p⟩:=h.ok I.hok
  exact⟨its,r,p,z⟩
 ·refine⟨its.toList,r,⟨o,I.Bt a o hk,hc,n,by simpa using hs⟩,?_⟩
  have e:=r.length
  simp only[Array.length_toList]at e
  omega
theorem Inv.O6(I:Inv X pins σ H s)(h:yt X.K H a xs)(h':yt X.K H a ys):xs=ys:=by
 obtain⟨its,r,⟨o,n,e,_,_,d⟩,_⟩:=I.list h
 obtain⟨its',r',⟨o',n',e',_,_,d'⟩,_⟩:=I.list h'
 rw[e]at e';cases e'
 rw[d]at d'
 injection d' with d1 _
 have:its=its':=by simpa using congrArg Array.toList d1
 subst this
 exact r.inj r'
theorem Inv.JL(I:Inv X pins σ H s)(h:vK X.K H a xs)(h':vK X.K H a ys):xs=ys:=by
 obtain⟨its,r,⟨o,e,_,n,d⟩,_⟩:=I.tuple h
 obtain⟨its',r',⟨o',e',_,n',d'⟩,_⟩:=I.tuple h'
 rw[e]at e';cases e'
 rw[d]at d'
 injection d' with d1 _
 have:its=its':=by simpa using congrArg Array.toList d1
 subst this
 exact r.inj r'
end
abbrev Cx.wish(X:Cx)(E:Value→Shared→Prop):Cx:={X with xe:=E}
theorem Cx.Ok.wish{X:Cx}(ok:X.Ok)(E:Value→Shared→Prop):(X.wish E).Ok:=
 ⟨ok.mod,ok.kind,ok.glob,ok.blt,ok.above,ok.inj,ok.has,ok.cab,ok.hd,ok.frames,ok.stk,ok.exf,ok.bs,ok.Ut,ok.Rk,ok.RP,ok.CG,ok.frf⟩
theorem Cx.Ok.tu{X:Cx}{E:Value→Shared→Prop}(ok:(X.wish E).Ok):X.Ok:=
 ⟨ok.mod,ok.kind,ok.glob,ok.blt,ok.above,ok.inj,ok.has,ok.cab,ok.hd,ok.frames,ok.stk,ok.exf,ok.bs,ok.Ut,ok.Rk,ok.RP,ok.CG,ok.frf⟩
section
variable{X:Cx}{pins:List (Addr×Obj)}{σ:St}{H:Hp}{s:Shared}{E:Value→Shared→Prop}
theorem Inv.wish(I:Inv X pins σ H s)(E:Value→Shared→Prop):Inv (X.wish E) pins σ H s:=⟨I.ok.wish E,I.os,I.bare,I.base,I.loc,I.cell,I.free,I.rK,I.pin,I.hok,I.len⟩
theorem Inv.tu(I:Inv (X.wish E) pins σ H s):Inv X pins σ H s:=⟨I.ok.tu,I.os,I.bare,I.base,I.loc,I.cell,I.free,I.rK,I.pin,I.hok,I.len⟩
theorem SP.tu{D:Ends}{f:Flow}{s':Shared}(h:SP (X.wish E) pins D f s'):SP X pins D f s':=by
 cases f with
 | next=>obtain⟨σ',H',I,q⟩:=h;exact⟨σ',H',I.tu,q⟩
 | brk=>obtain⟨σ',H',I,q⟩:=h;exact⟨σ',H',I.tu,q⟩
 | cont=>obtain⟨σ',H',I,q⟩:=h;exact⟨σ',H',I.tu,q⟩
 | ret u=>obtain⟨v,σ',H',I,r,q⟩:=h;exact⟨v,σ',H',I.tu,r,q⟩
end
section
variable{X:Cx}{st:Stmt}{rest:List Stmt}{t u:TS}{e:Expr}{te:TE}{pos:Pos}
def abm:TS:=fun D σ H=>D.nx σ H
def am8(t u:TS):TS:=fun D σ H=>t {D with nx:=u D} σ H
theorem Z5:Qp X [] abm:=fun _ _ σ H _ I h=>wpAny_execs_nil ⟨σ,H,I,h⟩
theorem Xr(h1:PS X st t)(h2:Qp X rest u):Qp X (st::rest) (am8 t u):=by
 intro pins s σ H D I h
 refine wpAny_execs_cons (gU (h1 pins s σ H {D with nx:=u D} I h) fun f s1 q=> ?_)
 cases f with
 | next=>
  obtain⟨σ',H',I',q⟩:=q
  exact h2 pins s1 σ' H' D I' q
 | ret v=>exact q
 | brk=>exact q
 | cont=>exact q
theorem Z4(h1:PS X st t):Qp X [st] t:=by
 intro pins s σ H D I h
 refine wpAny_execs_cons (gU (h1 pins s σ H D I h) fun f s1 q=> ?_)
 cases f with
 | next=>exact wpAny_execs_nil q
 | ret v=>exact q
 | brk=>exact q
 | cont=>exact q
theorem Inv.quiet{pins:List (Addr×Obj)}{σ:St}{H:Hp}{s:Shared}(I:Inv X pins σ H s):interactive X.env=false:=by simp[interactive,I.ok.kind]
def afA(te:TE):TS:=fun D σ H=>te σ H fun _ H1=>D.nx σ H1
theorem Z8(he:PE X e te)(hs:swapsWith e none pos.line X.env=pure false:=by rfl):PS X (.Expr e pos) (afA te):=by
 intro pins s σ H D I h
 exact wpAny_Expr_any (gU (he pins s σ H _ I h) fun v s1 ⟨x,H1,I1,r1,q1⟩=>⟨σ,H1,I1,q1⟩) I.quiet hs
def am9(te:TE):TS:=fun D σ H=>te σ H D.rt
theorem acJ(he:PE X e te):PS X (.Return (some e) pos) (am9 te):=by
 intro pins s σ H D I h
 exact wpAny_Return_some (gU (he pins s σ H _ I h) fun v s1 ⟨x,H1,I1,r1,q1⟩=>⟨x,σ,H1,I1,r1,q1⟩)
def anc(c:TT)(t u:TS):TS:=fun D σ H=>c σ H fun b H1=>if b=true then t D σ H1 else u D σ H1
theorem aga{c:Expr}{a b:List Stmt}{tc:TT}(hc:PT X c tc)(ha:Qp X a t)(hb:Qp X b u):PS X (.If c a b pos) (anc tc t u):=by
 intro pins s σ H D I h
 refine wpAny_If (gU (hc pins s σ H _ I h) fun d s1 ⟨H1,I1,q1⟩=> ?_)
 cases d with
 | true=>exact ha pins s1 σ H1 D I1 q1
 | false=>exact hb pins s1 σ H1 D I1 q1
end
abbrev TG:=V→St→Hp→(St→Hp→Prop)→Prop
abbrev Zc:=List V→St→Hp→(St→Hp→Prop)→Prop
def PG(X:Cx)(target:Expr)(t:TG):Prop:=
 ∀(pins:List (Addr×Obj)) (s:Shared) (σ:St) (H:Hp) (v:V) (u:Value) (Q:St→Hp→Prop),Inv X pins σ H s→RelV v u→t v σ H Q→
  wpAny (model X.prog X.w) X.A (assign target X.env u) (fun _ s'=>∃σ' H',Inv X pins σ' H' s'∧Q σ' H') X.xe s
def Wn(X:Cx)(ts:List Expr)(t:Zc):Prop:=
 ∀(pins:List (Addr×Obj)) (s:Shared) (σ:St) (H:Hp) (vs:List V) (us:List Value) (Q:St→Hp→Prop),Inv X pins σ H s→Vals vs us→t vs σ H Q→
  wpAny (model X.prog X.w) X.A (assignInOrder ((assignEach ts X.env).map (·.2)) us) (fun _ s'=>∃σ' H',Inv X pins σ' H' s'∧Q σ' H') X.xe s
abbrev aqz:=V→V→V→Hp→(Hp→Prop)→Prop
def aqB(X:Cx)(t:aqz):Prop:=
 ∀(pins:List (Addr×Obj)) (s:Shared) (σ:St) (H:Hp) (o i v:V) (ov iv u:Value) (Q:Hp→Prop),Inv X pins σ H s→RelV o ov→RelV i iv→RelV v u→t o i v H Q→
  wpAny (model X.prog X.w) X.A (setItem ov iv u) (fun _ s'=>∃H',Inv X pins σ H' s'∧Q H') X.xe s
section
variable{X:Cx}{pos:Pos}
def Uj(i:Nat):TG:=fun v σ H Q=>Q (σ.set i (some v)) H
theorem Tv{i:Nat}{x:Str}(hN:X.N.Nodup)(hi:X.N[i]? = some x)(hx:Loc X.env.scope x)(hf:X.fn x=true∨X.env.scope.names.lookup x=some .local:=by first | exact .inl rfl | exact .inr rfl | assumption):PG X (.Name x pos) (Uj i):=by
 intro pins s σ H v u Q I r h
 exact wpAny_assign_Name (GQ I hN hi hx r (fun s' I'=>⟨_,H,I',h⟩) hf)
def aqb:Zc:=fun vs σ H Q=>vs=[]∧Q σ H
def aij(t:TG)(u:Zc):Zc:=fun vs σ H Q=>∃v r,vs=v::r∧t v σ H fun σ' H'=>u r σ' H' Q
theorem Tu:Wn X [] aqb:=by
 intro pins s σ H vs us Q I r h
 obtain⟨e,h⟩:=h
 subst e
 cases r
 exact assignInOrder_nil ⟨σ,H,I,h⟩
theorem Ol{e:Expr}{es:List Expr}{t:TG}{u:Zc}(h1:PG X e t)(h2:Wn X es u)
  (hs:(assignEach (e::es) X.env).map (·.2)=assign e X.env::(assignEach es X.env).map (·.2):=by rfl):Wn X (e::es) (aij t u):=by
 intro pins s σ H vs us Q I r h
 obtain⟨v,vr,e1,h⟩:=h
 subst e1
 cases r with
 | cons r rr=>
  rw[hs]
  refine assignInOrder_cons (gU (h1 pins s σ H _ _ _ I r h) fun _ s1 ⟨σ1,H1,I1,q1⟩=> ?_)
  exact h2 pins s1 σ1 H1 _ _ Q I1 rr q1
def aqa(K:PySem.W.Frag)(n:Nat)(t:Zc):TG:=fun v σ H Q=>∃a xs,v= .ref a∧vK K H a xs∧xs.length=n∧t xs σ H Q
theorem Xw{es:List Expr}{k:Nat}{t:Zc}{n:Nat}(hc:X.calm=true)(h:Wn X es t)
  (hn:(assignEach es X.env).length=n:=by rfl) (hst:(assignEach es X.env).findIdx? (·.1)=none:=by rfl):PG X (.Tuple es k pos) (aqa X.K n t):=by
 intro pins s σ H v u Q I r hw
 obtain⟨a,xs,e1,hq,hl,hw⟩:=hw
 subst e1
 cases r
 obtain⟨its,rv,ht,hz⟩:=I.tuple hq
 refine assign_Tuple_tuple (I.ok.hd hc) ht (by simp[hn,←hl,rv.length]) hst fun h' hx=> ?_
 have I1:Inv X pins σ H {s with heap:=h'}:=I.kept (t':=s.toks) fun b o e=>hx b o (Nat.ne_of_lt (Heap.lt_size e)) e
 exact h pins _ σ H xs _ Q I1 (by simpa using rv) hw
def ab4(te:TE)(g:TG):TS:=fun D σ H=>te σ H fun x H1=>g x σ H1 D.nx
theorem acI{i:Nat}{x:Str}{e:Expr}{te:TE}{pos':Pos}(hN:X.N.Nodup)(hi:X.N[i]? = some x)(hx:Loc X.env.scope x)(he:PE X e te)(hs:swapsWith e (some (.Name x pos')) pos.line X.env=pure false:=by rfl)(hf:X.fn x=true∨X.env.scope.names.lookup x=some .local:=by first | exact .inl rfl | exact .inr rfl | assumption):
  PS X (.Assign [.Name x pos'] e pos) (ab4 te (Uj i)):=by
 intro pins s σ H D I h
 refine wpAny_Assign_Name (gU (he pins s σ H _ I h) fun v s1 ⟨y,H1,I1,r1,q1⟩=> ?_) hs
 exact GQ I1 hN hi hx r1 (fun s2 I2=>⟨_,H1,I2,q1⟩) hf
end
section
variable{X:Cx}{pos:Pos}
def ab1(c:TT)(tb:TS):TS:=fun D σ H=>∃W:Nat→St→Hp→Prop,(∃m,W m σ H)∧∀m σ H,W m σ H→
 c σ H fun b H1=>if b=true then ∃N:St→Hp→Prop,(∀σ' H',N σ' H'→∃m',m'<m∧W m' σ' H')∧tb {D with nx:=N,ct:=N,bk:=D.nx} σ H1 else D.nx σ H1
theorem Xu{c:Expr}{body:List Stmt}{tc:TT}{tb:TS}(hp:PassesOwn (model X.prog X.w) X.A X.env X.xe)(hc:PT X c tc)(hb:Qp X body tb):PS X (.While c body [] pos) (ab1 tc tb):=by
 intro pins s σ H D I h
 obtain⟨W,⟨m0,w0⟩,turn⟩:=h
 refine wpAny_While (codeAny_whileLoop (fun n s'=>∃σ' H',Inv X pins σ' H' s'∧W n σ' H') ?_ m0 ⟨σ,H,I,w0⟩)
 rintro n s1 ⟨σ1,H1,I1,w1⟩
 refine wpAny_passesOwn hp (gU (hc pins s1 σ1 H1 _ I1 (turn n σ1 H1 w1)) fun b s2 ⟨H2,I2,q2⟩=> ?_)
 cases b with
 | true=>
  obtain⟨N,hN,q2⟩:=q2
  rw[if_pos rfl]
  refine wpAny_passesOwn hp (gU (hb pins s2 σ1 H2 _ I2 q2) fun f s3 q3=> ?_)
  cases f with
  | next=>
   obtain⟨σ3,H3,I3,n3⟩:=q3
   obtain⟨m',hm,w3⟩:=hN σ3 H3 n3
   exact⟨m',hm,σ3,H3,I3,w3⟩
  | cont=>
   obtain⟨σ3,H3,I3,n3⟩:=q3
   obtain⟨m',hm,w3⟩:=hN σ3 H3 n3
   exact⟨m',hm,σ3,H3,I3,w3⟩
  | brk=>exact q3
  | ret v=>exact q3
 | false=>
  rw[if_neg Bool.false_ne_true]
  exact wpAny_execs_nil ⟨σ1,H2,I2,q2⟩
end
structure It where
 go:Nat→Hp→Prop
 WD:Nat→Hp→V→Hp→Prop
 stop:Nat→Hp→Prop
def Ek(X:Cx)(pins:List (Addr×Obj))(H:Hp)(b:Addr):Prop:=
 H b=none∧b≠X.env.locals∧b∉X.fs∧(b∈X.ex∨X.s₀.heap.objs.size≤b)∧(∀x c,X.env.cells.lookup x=some c→c≠b)∧∀p∈X.pn++pins,p.1≠b
theorem Inv.V6{X:Cx}{pins:List (Addr×Obj)}{σ:St}{H H':Hp}{s:Shared}{b:Addr}(I:Inv X pins σ H s)(hb:s.heap.objs.size≤b)(hn:H' b=none):Ek X pins H' b:=by
 refine⟨hn,Nat.ne_of_gt (Nat.lt_of_lt_of_le I.lt hb),I.apq hb,.inr (Nat.le_trans I.sz hb),fun x c e z=> ?_,fun p hp z=> ?_⟩
 ·obtain⟨v,q⟩:=I.cell x c e
  exact absurd (Nat.lt_of_lt_of_le q.lt (by rw[z];exact hb)) (Nat.lt_irrefl _)
 ·exact absurd (Nat.lt_of_lt_of_le (Heap.lt_size (I.pin p hp).1) (by rw[z];exact hb)) (Nat.lt_irrefl _)
structure Turn(P:Program)(w:World)(K:PySem.W.Frag)(tg:Expr)(J:It)(fp:List Addr)(it:Addr)(tn:Nat→Heap→Prop):Prop where
 mem:it∈fp
 obj:∀i h,tn i h→∀b∈fp,∃o,h.get? b=some o∧∀v,o.data≠ .cell v
 keep:∀i h h',tn i h→(∀b∈fp,∀o,h.get? b=some o→h'.get? b=some o)→tn i h'
 item:∀(X:Cx),X.prog=P→X.w=w→X.K=K→X.calm=true→∀(i:Nat) (pins:List (Addr×Obj)) (s:Shared) (σ:St) (H:Hp) (E:Value→Shared→Prop),Inv X pins σ H s→(∀b∈fp,Ek X pins H b)→tn i s.heap→J.go i H→
  wpAny (model P w) X.A (pyNext (.ref it)) (fun r s1=>∃u,r=some u∧
   wpAny (model P w) X.A (letOwnedTupleGo tg (.ref it) u) (fun _ s2=>∃x H',Inv X pins σ H' s2∧RelV x u∧J.WD i H x H'∧tn (i+1) s2.heap∧∀b∈fp,H' b=none) E s1) E s
 done:∀(X:Cx),X.prog=P→X.w=w→X.K=K→X.calm=true→∀(i:Nat) (pins:List (Addr×Obj)) (s:Shared) (σ:St) (H:Hp) (E:Value→Shared→Prop),Inv X pins σ H s→(∀b∈fp,Ek X pins H b)→tn i s.heap→J.stop i H→
  wpAny (model P w) X.A (pyNext (.ref it)) (fun r s1=>r=none∧Inv X pins σ H s1) E s
 self:∀(A:Around) (i:Nat) (s:Shared) (Q:Value→Shared→Prop) (E:Value→Shared→Prop),tn i s.heap→Q (.ref it) s→wpAny (model P w) A (pyIter (.ref it)) Q E s
abbrev TI:=St→Hp→(It→Hp→Prop)→Prop
def PIE(X:Cx)(pins:List (Addr×Obj))(σ:St)(tg:Expr)(R:It→Hp→Prop)(itv:Value)(s2:Shared):Prop:=
 ∃(it:Addr) (fp:List Addr) (tn:Nat→Heap→Prop) (J:It) (H':Hp),itv= .ref it∧Inv X pins σ H' s2∧Turn X.prog X.w X.K tg J fp it tn∧tn 0 s2.heap∧(∀b∈fp,Ek X pins H' b)∧R J H'
def PI(X:Cx)(tg iter:Expr)(wi:TI):Prop:=
 ∀(pins:List (Addr×Obj)) (s:Shared) (σ:St) (H:Hp) (R:It→Hp→Prop),Inv X pins σ H s→wi σ H R→
  wpAny (model X.prog X.w) X.A (eval iter X.env) (fun v s1=>wpAny (model X.prog X.w) X.A (pyIter v) (PIE X pins σ tg R) X.xe s1) X.xe s
theorem Uh{M:Model}{A:Around}{E:Value→Shared→Prop}{s:Shared}{tg:Expr}{it:Addr}{u:Value}{o:Obj}{n:String}{vs:Array Value}{Q:Unit→Shared→Prop}(ho:s.heap.get? it=some o)(hc:o.cls= .type n)(hd:o.data= .fields vs)
  (hn:["enumerate","zip","dict_itemiterator","dict_reverseitemiterator","odict_iterator","itertools.zip_longest","itertools.pairwise"].contains n=false) (hQ:Q () s):wpAny M A (letOwnedTupleGo tg (.ref it) u) Q E s:=by
 unfold letOwnedTupleGo
 cases tg<;>first
  | exact wpAny_pure hQ
  | (cases u<;>first
    | exact wpAny_pure hQ
    | (refine wpAny_bind (wpAny_load ho ?_)
       rw[hc,hd]
       show wpAny M A (if(["enumerate","zip","dict_itemiterator","dict_reverseitemiterator","odict_iterator","itertools.zip_longest","itertools.pairwise"].contains n&&vs[0]? == some (rawInt _))=true then _ else _) Q E s
       rw[if_neg (by intro h;rw[hn,Bool.false_and]at h;cases h)]
       exact wpAny_pure hQ))
def Itl(K:PySem.W.Frag)(a:Addr):It:=
 ⟨fun i H=>∃xs x,yt K H a xs∧xs[i]? = some x,fun i H x H'=>H'=H∧∀xs,yt K H a xs→xs[i]? = some x,fun i H=>∃xs,yt K H a xs∧xs.length≤i⟩
def Itt(K:PySem.W.Frag)(a:Addr):It:=
 ⟨fun i H=>∃xs x,vK K H a xs∧xs[i]? = some x,fun i H x H'=>H'=H∧∀xs,vK K H a xs→xs[i]? = some x,fun i H=>∃xs,vK K H a xs∧xs.length≤i⟩
def Itr(lo:Int)(n:Nat):It:=⟨fun i _=>i<n,fun i H x H'=>H'=H∧x= .int (lo+i),fun i _=>n≤i⟩
theorem U8{P:Program}{w:World}{K:PySem.W.Frag}{tg:Expr}(a it:Addr):Turn P w K tg (Itl K a) [it] it (fun i h=>h.IsListIter it a i) where
 mem:=by simp
 obj:=fun i h st b hb=>by
  have e:b=it:=by simpa using hb
  subst e
  obtain⟨o,e,c,d⟩:=st
  exact⟨o,e,fun v z=>by rw[d]at z;cases z⟩
 keep:=fun i h h' st k=>st.at fun o e=>k it (by simp) o e
 item:=by
  intro X hP hw hK hc i pins s σ H E I hf st hg
  subst hP hw hK
  obtain⟨xs,x,hq,hx⟩:=hg
  obtain⟨its,rv,p,hz⟩:=I.list hq
  obtain⟨u,hu,ru⟩:=rv.get hx
  obtain⟨f0,f1,f2,f3,f4,f5⟩:=hf it (by simp)
  refine wpAny_pyNext_list_item st p.isList (x:=u) (by simpa using hu) fun h' st' sb=> ?_
  have I1:Inv X pins σ H {s with heap:=h'}:=I.turned (t':=s.toks) (fun b o hb e=>(sb.2 b hb).trans e) f0 f1 f3 f4 f5
  obtain⟨o,e,c,d⟩:=id st'
  exact⟨u,rfl,Uh (s:={s with heap:=h'}) e c d (by decide) ⟨x,H,I1,ru,⟨rfl,fun ys hy=>by rw[I.O6 hy hq];exact hx⟩,st',fun b hb=>(hf b hb).1⟩⟩
 done:=by
  intro X hP hw hK hc i pins s σ H E I hf st hg
  subst hP hw hK
  obtain⟨xs,hq,hx⟩:=hg
  obtain⟨its,rv,p,hz⟩:=I.list hq
  obtain⟨f0,f1,f2,f3,f4,f5⟩:=hf it (by simp)
  have hl:=rv.length
  exact wpAny_pyNext_list_end (I.ok.hd hc) st p.isList (by simp;omega) fun h' eb=>⟨rfl,I.turned (t':=s.toks) (fun b o hb e=>eb b o hb e) f0 f1 f3 f4 f5⟩
 self:=fun _ _ _ _ _ st h=>wpAny_pyIter_listiter st h
theorem QK{P:Program}{w:World}{K:PySem.W.Frag}{tg:Expr}(a it:Addr):Turn P w K tg (Itt K a) [it] it (fun i h=>h.IsTupleIter it a i) where
 mem:=by simp
 obj:=fun i h st b hb=>by
  have e:b=it:=by simpa using hb
  subst e
  obtain⟨o,e,c,d⟩:=st
  exact⟨o,e,fun v z=>by rw[d]at z;cases z⟩
 keep:=fun i h h' st k=>st.at fun o e=>k it (by simp) o e
 item:=by
  intro X hP hw hK hc i pins s σ H E I hf st hg
  subst hP hw hK
  obtain⟨xs,x,hq,hx⟩:=hg
  obtain⟨its,rv,p,hz⟩:=I.tuple hq
  obtain⟨u,hu,ru⟩:=rv.get hx
  obtain⟨f0,f1,f2,f3,f4,f5⟩:=hf it (by simp)
  refine wpAny_pyNext_tuple_item st (show s.heap.IsTuple a its.toArray from p) (x:=u) (by simpa using hu) fun h' st' sb=> ?_
  have I1:Inv X pins σ H {s with heap:=h'}:=I.turned (t':=s.toks) (fun b o hb e=>(sb.2 b hb).trans e) f0 f1 f3 f4 f5
  obtain⟨o,e,c,d⟩:=id st'
  exact⟨u,rfl,Uh (s:={s with heap:=h'}) e c d (by decide) ⟨x,H,I1,ru,⟨rfl,fun ys hy=>by rw[I.JL hy hq];exact hx⟩,st',fun b hb=>(hf b hb).1⟩⟩
 done:=by
  intro X hP hw hK hc i pins s σ H E I hf st hg
  subst hP hw hK
  obtain⟨xs,hq,hx⟩:=hg
  obtain⟨its,rv,p,hz⟩:=I.tuple hq
  obtain⟨f0,f1,f2,f3,f4,f5⟩:=hf it (by simp)
  have hl:=rv.length
  exact wpAny_pyNext_tuple_end (I.ok.hd hc) st (show s.heap.IsTuple a its.toArray from p) (by simp;omega) fun h' eb=>⟨rfl,I.turned (t':=s.toks) (fun b o hb e=>eb b o hb e) f0 f1 f3 f4 f5⟩
 self:=fun _ _ _ _ _ st h=>wpAny_pyIter_tupleiter st h
theorem QL{P:Program}{w:World}{K:PySem.W.Frag}{tg:Expr}(it:Addr)(lo:Int)(n:Nat):Turn P w K tg (Itr lo n) [it] it (fun i h=>IsRangeIter h it (lo+(i:Nat)*1) ((n:Int) - (i:Nat)) 1) where
 mem:=by simp
 obj:=fun i h st b hb=>by
  have e:b=it:=by simpa using hb
  subst e
  exact⟨_,st,fun v z=>by
   have z':Data.fields _=Data.cell v:=z
   cases z'⟩
 keep:=fun i h h' st k=>k it (by simp) _ st
 item:=by
  intro X hP hw hK hc i pins s σ H E I hf st hg
  subst hP hw hK
  obtain⟨f0,f1,f2,f3,f4,f5⟩:=hf it (by simp)
  have W:=Walks.range (prog:=X.prog) (w:=X.w) (I.ok.hd hc) it lo 1 n
  refine W.item i s _ _ hg st fun v h' tk hv st' kk=> ?_
  obtain⟨t,rfl⟩:=hv
  have I1:Inv X pins σ H {s with heap:=h',toks:=tk}:=I.turned (fun b o hb e=>kk b o (by simpa using hb) e) f0 f1 f3 f4 f5
  refine⟨_,rfl,Uh (s:={s with heap:=h',toks:=tk}) (n:= "range_iterator") st' rfl rfl (by decide) ⟨.int (lo+i),H,I1,⟨t,?_⟩,⟨rfl,rfl⟩,st',fun b hb=>(hf b hb).1⟩⟩
  rw[Int.mul_one]
 done:=by
  intro X hP hw hK hc i pins s σ H E I hf st hg
  subst hP hw hK
  obtain⟨f0,f1,f2,f3,f4,f5⟩:=hf it (by simp)
  exact wpAny_pyNext_range_end (I.ok.hd hc) st (by have:n≤i:=hg;omega) fun h' eb=>⟨rfl,I.turned (t':=s.toks) (fun b o hb e=>eb b o hb e) f0 f1 f3 f4 f5⟩
 self:=fun _ _ _ _ _ st h=>wpAny_pyIter_rangeiter st h
end L2
namespace L2
open PySem PySem.Spec PyProof.Rows
section
variable{X:Cx}{tg:Expr}
theorem Xn{pins:List (Addr×Obj)}{σ:St}{H:Hp}{s:Shared}{R:It→Hp→Prop}{E:Value→Shared→Prop}{lo hi:Int}{t u v:Tok}{tk:Nat}(I:Inv X pins σ H s)(h1: -(2 ^ 62)≤lo)(h2:lo<2 ^ 62)(h3: -(2 ^ 62)≤hi)(h4:hi<2 ^ 62)
  (q:R (Itr lo (hi - lo).toNat) H):wpAny (model X.prog X.w) X.A (pyIter (.ref s.heap.objs.size)) (PIE X pins σ tg R) E {s with heap:=s.heap.push {cls:= .type "range",data:= .fields #[.int lo t,.int hi u,.int 1 v]},toks:=tk}:=by
 refine wpAny_pyIter_range (IsRange.new ..) (small_one h1 h2 h3 h4) ?_
 have I1:Inv X pins σ H {s with heap:=s.heap.push {cls:= .type "range",data:= .fields #[.int lo t,.int hi u,.int 1 v]},toks:=tk}:=I.kept fun b o e=>Heap.get?_push_of_some _ e
 refine⟨(s.heap.push {cls:= .type "range",data:= .fields #[.int lo t,.int hi u,.int 1 v]}).objs.size,[(s.heap.push {cls:= .type "range",data:= .fields #[.int lo t,.int hi u,.int 1 v]}).objs.size],_,_,H,rfl,
  I1.kept (t':=tk) fun b o e=>Heap.get?_push_of_some _ e,QL _ lo (hi - lo).toNat,?_,fun b hb=> ?_,q⟩
 ·have e1:lo+((0:Nat):Int)*1=lo:=by simp
  have e2:(((hi - lo).toNat:Nat):Int) - ((0:Nat):Int)=Builtin.Range.rangeSize lo hi 1:=by rw[rangeSize_one];split<;>omega
  show IsRangeIter _ _ (lo+((0:Nat):Int)*1) ((((hi - lo).toNat:Nat):Int) - ((0:Nat):Int)) 1
  rw[e1,e2]
  exact Heap.get?_push_size _ rfl
 ·have e:b=(s.heap.push {cls:= .type "range",data:= .fields #[.int lo t,.int hi u,.int 1 v]}).objs.size:=by simpa using hb
  subst e
  exact I1.V6 (Nat.le_refl _) (I1.hok.fresh (Nat.le_refl _))
def ah9(ta:TA):TI:=fun σ H R=>ta σ H fun vs H1=>∃j:Int,vs=[.int j]∧ -(2 ^ 62)≤j∧j<2 ^ 62∧R (Itr 0 j.toNat) H1
theorem Vo{a:Expr}{ta:TA}{p pos:Pos}(hg:Gl X "range")(hm:X.mg "range" = none)(ha:PA X [a] ta)(hs:starEach [a] X.env=[(false,eval a X.env)]:=by rfl):PI X tg (.Call (.Name "range" p) [a] [] pos) (ah9 ta):=by
 intro pins s σ H R I h
 refine Call_ (LC I hg hm boot_range (PyProof.Rows.callWith_type1 (gU (ha pos pins s σ H _ I h) fun us s1 ⟨vs,H1,I1,r1,q1⟩=> ?_) hs rfl))
 obtain⟨j,e,q1,q2,q⟩:=q1
 subst e
 cases r1 with
 | cons r rr=>
  cases rr
  obtain⟨t,rfl⟩:=r
  exact call_range_1 (Xn I1 (by omega) (by omega) q1 q2 (by simpa using q))
def ane(wi:TI)(g:TG)(tb:TS):TS:=fun D σ H=>wi σ H fun J H1=>∃W:Nat→Nat→St→Hp→Prop,(∃m,W 0 m σ H1)∧∀i m σ H,W i m σ H→
 (J.stop i H∧D.nx σ H)∨(J.go i H∧∃N:St→Hp→Prop,(∀σ' H',N σ' H'→∃m',m'<m∧W (i+1) m' σ' H')∧∀x H',J.WD i H x H'→g x σ H' fun σ2 H2=>tb {D with nx:=N,ct:=N,bk:=D.nx} σ2 H2)
def DG(fp:List Addr)(h:Heap):List (Addr×Obj):=fp.filterMap fun b=>(h.get? b).map fun o=>(b,o)
theorem pJ{fp:List Addr}{h:Heap}{b:Addr}{o:Obj}(hb:b∈fp)(e:h.get? b=some o):(b,o)∈DG fp h:=List.mem_filterMap.mpr ⟨b,hb,by rw[e];rfl⟩
theorem Vw{fp:List Addr}{h:Heap}{p:Addr×Obj}(hp:p∈DG fp h):p.1∈fp∧h.get? p.1=some p.2:=by
 obtain⟨b,hb,e⟩:=List.mem_filterMap.mp hp
 cases q:h.get? b with
 | none=>rw[q]at e;cases e
 | some o=>
  rw[q]at e
  have e':(b,o)=p:=Option.some.inj e
  subst e'
  exact⟨hb,q⟩
theorem Inv.pinned{pins:List (Addr×Obj)}{σ:St}{H:Hp}{s:Shared}{fp:List Addr}(I:Inv X pins σ H s)(hf:∀b∈fp,Ek X pins H b)(ho:∀b∈fp,∃o,s.heap.get? b=some o∧∀v,o.data≠ .cell v):Inv X (pins++DG fp s.heap) σ H s:=
 I.uX fun p hp=>(List.mem_append.mp hp).elim (fun z=>I.pin p (List.mem_append_right _ z)) fun z=>by
  obtain⟨hb,e⟩:=Vw z
  obtain⟨f0,f1,f2,_⟩:=hf p.1 hb
  obtain⟨o,e',d⟩:=ho p.1 hb
  rw[e]at e';cases e'
  exact⟨e,f0,f1,f2,d⟩
theorem Inv.yz{pins pl:List (Addr×Obj)}{σ:St}{H:Hp}{s:Shared}(I:Inv X (pins++pl) σ H s):Inv X pins σ H s:=I.uX fun p hp=>I.pin p (List.mem_append_right _ (List.mem_append_left _ hp))
theorem acK{iter:Expr}{body:List Stmt}{wi:TI}{g:TG}{tb:TS}{pos:Pos}(hp:PassesOwn (model X.prog X.w) X.A X.env X.xe)(hc:X.calm=true)(hi:PI X tg iter wi)(hg:PG X tg g)(hb:Qp X body tb)
  (hs:∀x,foldedSetIterable iter X.env x=pure x:=by intro _;rfl):PS X (.For tg iter body [] pos) (ane wi g tb):=by
 intro pins s σ H D I h
 refine wpAny_For (gU (hi pins s σ H _ I h) fun v s1 h1=>gU h1 fun itv s2 h2=> ?_) hs
 obtain⟨it,fp,tn,J,H2,e,I2,T,st2,f2,W,⟨m0,w0⟩,turn⟩:=h2
 subst e
 have stat:∀{H':Hp},(∀b∈fp,H' b=none)→∀b∈fp,Ek X pins H' b:=fun hn b hb=>⟨hn b hb,(f2 b hb).2⟩
 refine codeAny_forLoop_any (fun n s'=>∃i σ' H',Inv X pins σ' H' s'∧tn i s'.heap∧(∀b∈fp,H' b=none)∧W i n σ' H') ?_ m0 ⟨0,σ,H2,I2,st2,fun b hb=>(f2 b hb).1,w0⟩
 rintro n s3 ⟨i,σ3,H3,I3,st3,fr3,w3⟩
 rcases turn i n σ3 H3 w3 with⟨stop,qn⟩ | ⟨go,N,hN,step⟩
 ·refine wpAny_passesOwn hp (gU (T.done X rfl rfl rfl hc i pins s3 σ3 H3 X.xe I3 (stat fr3) st3 stop) fun r s4 ⟨hr,I4⟩=> ?_)
  subst hr
  exact wpAny_execs_nil ⟨σ3,H3,I4,qn⟩
 ·refine wpAny_passesOwn hp (gU (T.item X rfl rfl rfl hc i pins s3 σ3 H3 X.xe I3 (stat fr3) st3 go) fun r s4 ⟨u,hr,h4⟩=> ?_)
  subst hr
  refine wpAny_passesOwn hp (gU h4 fun _ s5 ⟨x,H5,I5,r5,y5,Vb,fr5⟩=> ?_)
  have I5':=I5.pinned (stat fr5) (T.obj _ _ Vb)
  refine wpAny_passesOwn hp (gU (hg _ s5 σ3 H5 x u _ I5' r5 (step x H5 y5)) fun _ s6 ⟨σ6,H6,I6,q6⟩=> ?_)
  refine wpAny_passesOwn hp (gU (hb _ s6 σ6 H6 _ I6 q6) fun f s7 q7=> ?_)
  have again:∀{Wv:St} {H7:Hp},Inv X (pins++DG fp s5.heap) Wv H7 s7→N Wv H7→∃m,m<n∧∃i σ' H',Inv X pins σ' H' s7∧tn i s7.heap∧(∀b∈fp,H' b=none)∧W i m σ' H':=fun{Wv H7} I7 n7=>by
   obtain⟨m',hm,w7⟩:=hN Wv H7 n7
   refine⟨m',hm,i+1,Wv,H7,I7.yz,T.keep _ _ _ Vb fun b hb o e=>(I7.pin (b,o) (List.mem_append_right _ (List.mem_append_right _ (pJ hb e)))).1,fun b hb=> ?_,w7⟩
   obtain⟨o,e,d⟩:=T.obj _ _ Vb b hb
   exact(I7.pin (b,o) (List.mem_append_right _ (List.mem_append_right _ (pJ hb e)))).2.1
  cases f with
  | next=>obtain⟨Wv,H7,I7,n7⟩:=q7;exact again I7 n7
  | cont=>obtain⟨Wv,H7,I7,n7⟩:=q7;exact again I7 n7
  | brk=>obtain⟨Wv,H7,I7,q7⟩:=q7;exact⟨Wv,H7,I7.yz,q7⟩
  | ret v=>obtain⟨x7,Wv,H7,I7,r7,q7⟩:=q7;exact⟨x7,Wv,H7,I7.yz,r7,q7⟩
end
end L2
namespace L2
open PySem PySem.Spec PyProof.Rows
abbrev R2:=V→V→Hp→VK→Prop
def yu(X:Cx)(f:Value→Value→Sem Value)(r:R2):Prop:=
 ∀(pins:List (Addr×Obj)) (s:Shared) (σ:St) (H:Hp) (x y:V) (v u:Value) (Q:VK),Inv X pins σ H s→RelV x v→RelV y u→r x y H Q→
  wpAny (model X.prog X.w) X.A (f v u) (EP X pins σ Q) X.xe s
def UnR(X:Cx)(f:Value→Sem Value)(r:V→Hp→VK→Prop):Prop:=
 ∀(pins:List (Addr×Obj)) (s:Shared) (σ:St) (H:Hp) (x:V) (v:Value) (Q:VK),Inv X pins σ H s→RelV x v→r x H Q→
  wpAny (model X.prog X.w) X.A (f v) (EP X pins σ Q) X.xe s
def mV(X:Cx)(f:Value)(r:List V→Hp→VK→Prop):Prop:=
 ∀(pins:List (Addr×Obj)) (s:Shared) (σ:St) (H:Hp) (xs:List V) (us:List Value) (Q:VK),Inv X pins σ H s→Vals xs us→r xs H Q→
  wpAny (model X.prog X.w) X.A (call f us) (EP X pins σ Q) X.xe s
def tOp(r:R2)(ta tb:TE):TE:=fun σ H Q=>ta σ H fun x H1=>tb σ H1 fun y H2=>r x y H2 Q
def tUn(r:V→Hp→VK→Prop)(ta:TE):TE:=fun σ H Q=>ta σ H fun x H1=>r x H1 Q
def rI(C:Int→Int→Prop)(g:Int→Int→V):R2:=fun x y H Q=>∃i j,x= .int i∧y= .int j∧C i j∧Q (g i j) H
def Za(g:Int→Int→V):R2:=fun x y H Q=>∃i j,x= .int i∧y= .int j∧Q (g i j) H
def rU(g:Int→V):V→Hp→VK→Prop:=fun x H Q=>∃i,x= .int i∧Q (g i) H
section
variable{X:Cx}{a b c:Expr}{ta tb tc:TE}{pos:Pos}
theorem aeK(ha:PE X a ta)(hb:PE X b tb){pins:List (Addr×Obj)}{s:Shared}{σ:St}{H:Hp}{R:V→V→Hp→Prop}(I:Inv X pins σ H s)
  (h:ta σ H fun x H1=>tb σ H1 fun y H2=>R x y H2) {Q:Value→Shared→Prop} {f:Value→Value→Sem Value}
  (hf:∀v u s2 x y H2,Inv X pins σ H2 s2→RelV x v→RelV y u→R x y H2→wpAny (model X.prog X.w) X.A (f v u) Q X.xe s2):
  wpAny (model X.prog X.w) X.A (eval a X.env) (fun v s₁=>wpAny (model X.prog X.w) X.A (eval b X.env) (fun u s₂=>wpAny (model X.prog X.w) X.A (f v u) Q X.xe s₂) X.xe s₁) X.xe s:=by
 refine gU (ha pins s σ H _ I h) fun v s1 ⟨x,H1,I1,r1,q1⟩=> ?_
 refine gU (hb pins s1 σ H1 _ I1 q1) fun u s2 ⟨y,H2,I2,r2,q2⟩=> ?_
 exact hf v u s2 x y H2 I2 r1 r2 q2
theorem agK{op:Operator}{r:R2}(ho:yu X (binaryOp op) r)(ha:PE X a ta)(hb:PE X b tb):PE X (.BinOp a op b pos) (tOp r ta tb):=by
 intro pins s σ H Q I h
 exact wpAny_BinOp (aeK ha hb I h fun v u s2 x y H2 I2 rx ry q=>ho pins s2 σ H2 x y v u Q I2 rx ry q)
theorem agI{op:UnaryOp}{r:V→Hp→VK→Prop}(ho:UnR X (unaryOp op) r)(ha:PE X a ta):PE X (.UnaryOp op a pos) (tUn r ta):=by
 intro pins s σ H Q I h
 exact UnaryOp_ (gU (ha pins s σ H _ I h) fun v s1 ⟨x,H1,I1,r1,q1⟩=>ho pins s1 σ H1 x v Q I1 r1 q1)
theorem opI{f:Value→Value→Sem Value}{C:Int→Int→Prop}{g:Int→Int→Int}
  (rule:∀(i j:Int) (t u:Tok) (s:Shared) (Q:Value→Shared→Prop) (E:Value→Shared→Prop),C i j→Q (.int (g i j) s.toks) {s with toks:=s.toks+1}→wpAny (model X.prog X.w) X.A (f (.int i t) (.int j u)) Q E s):
  yu X f (rI C fun i j=> .int (g i j)):=by
 intro pins s σ H x y v u Q I rx ry h
 obtain⟨i,j,rfl,rfl,hc,q⟩:=h
 obtain⟨t,rfl⟩:=rx
 obtain⟨t',rfl⟩:=ry
 exact rule i j t t' s _ _ hc ⟨.int (g i j),H,I.tok _,⟨_,rfl⟩,q⟩
theorem agS{f:Value→Value→Sem Value}{g:Int→Int→Int}
  (rule:∀(i j:Int) (t u:Tok) (s:Shared) (Q:Value→Shared→Prop) (E:Value→Shared→Prop),Q (.int (g i j) s.toks) {s with toks:=s.toks+1}→wpAny (model X.prog X.w) X.A (f (.int i t) (.int j u)) Q E s):
  yu X f (Za fun i j=> .int (g i j)):=by
 intro pins s σ H x y v u Q I rx ry h
 obtain⟨i,j,rfl,rfl,q⟩:=h
 obtain⟨t,rfl⟩:=rx
 obtain⟨t',rfl⟩:=ry
 exact rule i j t t' s _ _ ⟨.int (g i j),H,I.tok _,⟨_,rfl⟩,q⟩
theorem aak{f:Value→Value→Sem Value}{g:Int→Int→Bool}
  (rule:∀(i j:Int) (t u:Tok) (s:Shared) (Q:Value→Shared→Prop) (E:Value→Shared→Prop),Q (.bool (g i j)) s→wpAny (model X.prog X.w) X.A (f (.int i t) (.int j u)) Q E s):
  yu X f (Za fun i j=> .bl (g i j)):=by
 intro pins s σ H x y v u Q I rx ry h
 obtain⟨i,j,rfl,rfl,q⟩:=h
 obtain⟨t,rfl⟩:=rx
 obtain⟨t',rfl⟩:=ry
 exact rule i j t t' s _ _ ⟨.bl (g i j),H,I,rfl,q⟩
def aqG(i j:Int):Prop:=0<j∧j<1073741824
def akC(i j:Int):Prop:=0≤j∧j≤1000000∧i.natAbs<2 ^ 64
def aeX(i j:Int):Prop:=(-(2 ^ 64)<i∧i<2 ^ 64)∨(-(2 ^ 64)<j∧j<2 ^ 64)
theorem aeX.ok{i j:Int}(h:aeX i j):IntMulOk i j:=by
 rcases h with⟨h1,h2⟩ | ⟨h1,h2⟩
 ·exact .of_left (intBits_le_64 h1 h2)
 ·exact .of_right (intBits_le_64 h1 h2)
theorem ade:yu X (binaryOp .Add) (Za fun i j=> .int (i+j)):=agS fun _ _ _ _ _ _ _ q=>add_int q
theorem ac2:yu X (binaryOp .Sub) (Za fun i j=> .int (i - j)):=agS fun _ _ _ _ _ _ _ q=>sub_int q
theorem ac6:yu X (binaryOp .Mult) (rI aeX fun i j=> .int (i*j)):=opI fun _ _ _ _ _ _ _ hc q=>mul_int q hc.ok
theorem aai:yu X (binaryOp .FloorDiv) (rI aqG fun i j=> .int (i / j)):=opI fun i j _ _ _ _ _ hc q=>by
 have h1:(0:Int)<j:=hc.1
 have h2:j<1073741824:=hc.2
 exact floordiv_int (by omega) (by rw[Int.fdiv_eq_ediv_of_nonneg i (by omega)];exact q) (.inl (PyProof.noPylong_small (by omega)))
theorem ac7:yu X (binaryOp .Mod) (rI (fun _ j=>0<j) fun i j=> .int (i % j)):=opI fun i j _ _ _ _ _ hc q=>by
 have h1:(0:Int)<j:=hc
 exact mod_int' (by omega) (by rw[Int.fmod_eq_emod_of_nonneg i (by omega)];exact q)
theorem ac4:yu X (binaryOp .Pow) (rI akC fun i j=> .int (i ^ j.toNat)):=opI fun _ _ _ _ _ _ _ hc q=>pow_int_small hc.1 hc.2.1 hc.2.2 q
theorem ac3:yu X (binaryOp .LShift) (rI akC fun i j=> .int (i*2 ^ j.toNat)):=opI fun _ _ _ _ _ _ _ hc q=>lshift_int_small hc.1 hc.2.1 hc.2.2 q
theorem unI{f:Value→Sem Value}{g:Int→Int}
  (rule:∀(i:Int) (t:Tok) (s:Shared) (Q:Value→Shared→Prop) (E:Value→Shared→Prop),Q (.int (g i) s.toks) {s with toks:=s.toks+1}→wpAny (model X.prog X.w) X.A (f (.int i t)) Q E s):
  UnR X f (rU fun i=> .int (g i)):=by
 intro pins s σ H x v Q I rx h
 obtain⟨i,rfl,q⟩:=h
 obtain⟨t,rfl⟩:=rx
 exact rule i t s _ _ ⟨.int (g i),H,I.tok _,⟨_,rfl⟩,q⟩
theorem abW:UnR X (unaryOp .USub) (rU fun i=> .int (-i)):=unI fun _ _ _ _ _ q=>neg_int q
end
section
variable{X:Cx}{a b c:Expr}{ta tb tc:TE}{pos:Pos}
theorem Mm{pins:List (Addr×Obj)}{σ:St}{H:Hp}{s:Shared}{Q:VK}{k k':Bool}(I:Inv X pins σ H s)(q:Q (.bl k) H)(e:k=k'):EP X pins σ Q (.bool k') s:=by
 subst e
 exact⟨.bl k,H,I,rfl,q⟩
theorem agO:yu X (compareOp .Lt) (Za fun i j=> .bl (decide (i<j))):=aak fun _ _ _ _ _ _ _ q=>lt_int q
theorem agP:yu X (compareOp .LtE) (Za fun i j=> .bl (decide (i≤j))):=aak fun _ _ _ _ _ _ _ q=>le_int q
theorem agQ:yu X (compareOp .Gt) (Za fun i j=> .bl (decide (j<i))):=aak fun _ _ _ _ _ _ _ q=>gt_int q
theorem agR:yu X (compareOp .GtE) (Za fun i j=> .bl (decide (j≤i))):=aak fun _ _ _ _ _ _ _ q=>ge_int q
theorem Vs:yu X (compareOp .Lt) (fun x y H Q=>∃i j,x= .str i∧y= .str j∧Q (.bl (decide (i.cps.toList<j.cps.toList))) H):=by
 intro pins s σ H x y v u Q I rx ry h
 obtain⟨i,j,rfl,rfl,q⟩:=h
 obtain⟨t,rfl⟩:=rx
 obtain⟨t',rfl⟩:=ry
 exact lt_str (Mm I q rfl)
theorem Vu:yu X (compareOp .In) (fun x y H Q=>∃i j,x= .str i∧y= .str j∧Q (.bl (!(Builtin.Str.occurrences j i 0 j.length 1).isEmpty)) H):=by
 intro pins s σ H x y v u Q I rx ry h
 obtain⟨i,j,rfl,rfl,q⟩:=h
 obtain⟨t,rfl⟩:=rx
 obtain⟨t',rfl⟩:=ry
 exact in_str (Mm I q rfl)
theorem ac_:yu X (compareOp .Is) (fun x y H Q=>y= .non∧Q (.bl (decide (x= .non))) H):=by
 intro pins s σ H x y v u Q I rx ry h
 obtain⟨rfl,q⟩:=h
 cases ry
 refine is_none_gen (Mm I q ?_)
 cases x<;>first
  | (cases rx;rfl)
  | (obtain⟨t,rfl⟩:=rx;rfl)
theorem yu.or{f:Value→Value→Sem Value}{r r':R2}(h:yu X f r)(h':yu X f r'):yu X f (fun x y H Q=>r x y H Q∨r' x y H Q):=by
 intro pins s σ H x y v u Q I rx ry q
 rcases q with q | q
 ·exact h pins s σ H x y v u Q I rx ry q
 ·exact h' pins s σ H x y v u Q I rx ry q
theorem bH(b:Expr){op:CmpOp}(h:op≠ .In:=by decide)(h2:op≠ .NotIn:=by decide):behindInMarks op b=false:=by
 have e1:(op==CmpOp.In)=false:=by cases op<;>first | rfl | exact absurd rfl h
 have e2:(op==CmpOp.NotIn)=false:=by cases op<;>first | rfl | exact absurd rfl h2
 cases b<;>simp[behindInMarks,e1,e2]
theorem aae{op:CmpOp}{r:R2}(ho:yu X (compareOp op) r)(ha:PE X a ta)(hb:PE X b tb)(hm:behindInMarks op b=false):PE X (.Compare a [op] [b] pos) (tOp r ta tb):=by
 intro pins s σ H Q I h
 exact wpAny_Compare1 (aeK ha hb I h fun v u s2 x y H2 I2 rx ry q=>ho pins s2 σ H2 x y v u Q I2 rx ry q) hm
def abl(t:TE):TT:=fun σ H Q=>t σ H fun x H'=>∃k,x= .bl k∧Q k H'
theorem Z3{op:CmpOp}{r:R2}(ho:yu X (compareOp op) r)(ha:PE X a ta)(hb:PE X b tb)(hm:behindInMarks op b=false):PT X (.Compare a [op] [b] pos) (abl (tOp r ta tb)):=by
 intro pins s σ H Q I h
 refine wpAny_isTrue_Compare1 (gU (ha pins s σ H _ I h) fun v s1 ⟨x,H1,I1,r1,q1⟩=>gU (hb pins s1 σ H1 _ I1 q1) fun u s2 ⟨y,H2,I2,r2,q2⟩=>
  gU (ho pins s2 σ H2 x y v u _ I2 r1 r2 q2) fun c s3 ⟨z,H3,I3,r3,k,e,q3⟩=> ?_) hm
 subst e
 cases r3
 exact wpAny_truthy_bool ⟨H3,I3,q3⟩
theorem DR:(sizeLine:Nat)<2 ^ 63:=by rw[sizeLine_eq];decide
theorem Rc:yu X (binaryOp .Add) (fun x y H Q=>∃i j,x= .str i∧y= .str j∧i.length+j.length≤sizeLine∧Q (.str (i++j)) H):=by
 intro pins s σ H x y v u Q I rx ry h
 obtain⟨i,j,rfl,rfl,hz,q⟩:=h
 obtain⟨t,rfl⟩:=rx
 obtain⟨t',rfl⟩:=ry
 exact add_str (fun t' tk=>⟨.str (i++j),H,I.tok _,⟨_,rfl⟩,q⟩) hz
theorem vals1{x:V}{us:List Value}(r:Vals [x] us):∃u,us=[u]∧RelV x u:=by
 cases r with
 | cons r1 r2=>cases r2;exact⟨_,rfl,r1⟩
theorem vals2{x y:V}{us:List Value}(r:Vals [x,y] us):∃u w',us=[u,w']∧RelV x u∧RelV y w':=by
 cases r with
 | cons r1 r2=>
  cases r2 with
  | cons r3 r4=>cases r4;exact⟨_,_,rfl,r1,r3⟩
theorem J_:mV X (.type "int") (fun xs H Q=>(∃i,xs=[.int i]∧Q (.int i) H)∨∃k,xs=[.bl k]∧Q (.int (if k then 1 else 0)) H):=by
 intro pins s σ H xs us Q I r h
 rcases h with⟨i,rfl,q⟩ | ⟨k,rfl,q⟩
 ·obtain⟨u,rfl,t,rfl⟩:=vals1 r
  exact call_int_int ⟨.int i,H,I,⟨_,rfl⟩,q⟩
 ·obtain⟨u,rfl,r1⟩:=vals1 r
  cases r1
  exact call_int_bool ⟨.int (if k then 1 else 0),H,I.tok _,⟨_,rfl⟩,q⟩
theorem Mu:mV X (.type "str") (fun xs H Q=>∃i,xs=[.int i]∧i.natAbs.log2<1920∧Q (.str (toString i)) H):=by
 intro pins s σ H xs us Q I r h
 obtain⟨i,rfl,hz,q⟩:=h
 obtain⟨u,rfl,t,rfl⟩:=vals1 r
 exact PySem.P.str_of_int hz ⟨.str _,H,I.tok _,⟨_,rfl⟩,q⟩
end
end L2
namespace L2
open PySem PySem.Spec PyProof.Rows
structure Sh(h:Heap)(x dx C:Addr)(mA:Str→Option Value):Prop where
 obj:h.get? x=some (PySem.W.instObj C dx)
 ns:h.Ns1 dx mA
 ne:dx≠x
theorem VH{h:Heap}{dx:Addr}{mA:Str→Option Value}(n:h.Ns1 dx mA):∃od,h.get? dx=some od∧∀name,PySem.W.lookIn name od=some (mA name):=by
 obtain⟨o,es,ep,ho,hd,hk,_,hm⟩:=n
 refine⟨o,ho,fun name=> ?_⟩
 have e:=hm name
 unfold nsFind findBy at e
 rw[←Array.find?_toList]at e
 unfold PySem.W.lookIn
 rw[hd]
 dsimp only
 split
 ·rename_i y q
  rw[q]at e
  exact congrArg some e
 ·rename_i q
  rw[q]at e
  have a:es.toList.any (·.refKey)=false:=by
   rw[List.any_eq_false]
   intro y hy
   obtain⟨z,t,hkey⟩:=hk y (Array.mem_toList_iff.mp hy)
   simp[DictEntry.refKey,hkey]
  have a':¬es.toList.any (·.refKey)=true:=by rw[a];exact Bool.false_ne_true
  rw[if_neg a']
  exact congrArg some e
theorem Sh.look{h:Heap}{x dx C:Addr}{mA:Str→Option Value}(I:Sh h x dx C mA):∃od,PySem.W.InstAt h x (PySem.W.instObj C dx) C (some od)∧∀name,PySem.W.lookIn name od=some (mA name):=
 let⟨od,ho,hl⟩:=VH I.ns
 ⟨od,⟨I.obj,rfl,rfl,ho⟩,hl⟩
section
variable{prog:Program}{w:World}{A:Around}{E:Value→Shared→Prop}{s:Shared}{K:PySem.W.Frag}{x dx C f:Addr}{mA:Str→Option Value}{name:Str}{v:Value}
theorem get_map{expr:Bool}{Q:Value→Shared→Prop}(X:K.In s.heap)(I:Sh s.heap x dx C mA)(hg:PySem.W.plainGet K C name=true)(hh:PySem.W.hasDictIn K C=true)
  (ha:PySem.W.findIn K (.ref C) name=some none) (hv:mA name=some v) (hv':PySem.W.handedIn v=true) (h:Q v {s with toks:=s.toks+1}):
  wpAny (model prog w) A (getAttr (.ref x) name expr) Q E s:=by
 obtain⟨od,J,hl⟩:=I.look
 exact PySem.W.get_value X J (PySem.W.plainGet_of hg).1 (PySem.W.findObj_own hh ha rfl (by rw[hl,hv])) hv' h
theorem Yu{pl:Sem Bool}{Q:Value×List Value→Shared→Prop}(X:K.In s.heap)(I:Sh s.heap x dx C mA)(hg:PySem.W.plainGet K C name=true)
  (hf:PySem.W.findIn K (.ref C) name=some (some (.ref f))) (ht:PySem.W.isFn K (.ref f)=true) (hv:mA name=none) (h:Q (.ref f,[.ref x]) s):
  wpAny (model prog w) A (getMethod (.ref x) name pl) Q E s:=by
 obtain⟨od,J,hl⟩:=I.look
 exact PySem.W.method_fn X J (PySem.W.plainGet_of hg).1 (PySem.W.plainGet_of hg).2 hf (beq_iff_eq.mp ht) (by show(PySem.W.lookIn name od).map (·.isSome)=some false;rw[hl,hv];rfl) h
theorem ZD{ns:List Str}{Q:Unit→Shared→Prop}(X:K.In s.heap)(I:Sh s.heap x dx C mA)
  (hs:PySem.W.findIn K (.ref C) "__setattr__" = some (some (.builtin "object.__setattr__"))) (hp:PySem.W.plainOver K C=true) (ht:PySem.W.takerIn K C name=some none) (hh:PySem.W.hasDictIn K C=true)
  (hw:PySem.Within mA ns) (hsz:ns.length≤sizeLine)
  (h:∀h',Sh h' x dx C (fun y=>if y=name then some v else mA y)→Heap.SameBut dx s.heap h'→Q () {s with heap:=h',toks:=s.toks+2}):
  wpAny (model prog w) A (setAttr (.ref x) name v) Q E s:=by
 obtain⟨od,J,hl⟩:=I.look
 refine PySem.W.set_plain X J hs (PySem.W.osa_open (s:={s with toks:=s.toks+1}) (r:=none) X J hp ht fun b=> ?_)
 obtain⟨cd,hc,hd'⟩:=PySem.W.any_some hh
 have hx:s.heap.get? x=some ⟨.ref C,some dx,.plain,#[]⟩:=I.obj
 refine wpAny_bind (wpAny_pure (wpAny_bind (wpAny_bind (wpAny_loadPart hx (wpAny_bind (PySem.W.Looks.here (s:={s with toks:=s.toks+1}) (PySem.W.looks_clsIn X hc) ?_))))))
 rw[hd']
 refine wpAny_pure (a:=some dx) (wpAny_bind (wpAny_pure (wpAny_bind ?_)))
 refine wpAny_nsSet1 (s:={s with toks:=s.toks+1}) I.ns fun h' hn2 hs2=> ?_
 obtain⟨oD,esD,epD,hoD,hdD,hcD⟩:=hn2.count (PySem.Within.cons name v hw)
 refine wpAny_bind (wpAny_lookBehind hoD (by rw[hdD];exact pastItsLine_dict (Nat.le_trans hcD (by rw[List.length_cons];omega))) ?_)
 exact wpAny_pure (h _ ⟨(hs2.2 _ (Ne.symm I.ne)).trans I.obj,hn2,I.ne⟩ hs2)
theorem Yc{R:Result→Shared→Prop}{vs:List Value}{kw:List (Str×Value)}(X:K.In s.heap)(hm:PySem.W.makesIn K C=true)
  (hi:PySem.W.findIn K (.ref C) "__init__" = some (some (.ref f))) (hf:PySem.W.typeIn K (.ref f)=some (.type "function"))
  (h:codeAny (model prog w) (A.under (.builtin "type.__call__" ⟨.ref C::vs,kw⟩)) (.call (.ref f) ⟨.ref (s.heap.objs.size+1)::vs,kw⟩) (PySem.W.InitBack (s.heap.objs.size+1) R)
   {s with heap:=(s.heap.push PySem.W.emptyDict).push (PySem.W.instObj C s.heap.objs.size)}):
  codeAny (model prog w) A (.call (.ref C) ⟨vs,kw⟩) R s:=by
 obtain⟨hh,g,d,t,os⟩:=s
 exact PySem.W.make_core (PySem.W.makes_of X hm) (PySem.W.looks_findIn X hi) (fun self=>PySem.W.bind_fn X self hf) (.inl rfl) h
end
def vB(f:Str)(v:V):List (Str×V)→List (Str×V)
 | []=>[(f,v)]
 | (g,x)::r=>if g=f then(g,v)::r else(g,x)::vB f v r
theorem Ez(f g:Str)(v:V):∀fs:List (Str×V),(vB f v fs).lookup g=if g=f then some v else fs.lookup g
 | []=>by
  show List.lookup g [(f,v)]=_
  by_cases h:g=f
  ·have hb:(g==f)=true:=beq_iff_eq.mpr h
   simp only[List.lookup,hb,if_pos h]
  ·have hb:(g==f)=false:=beq_eq_false_iff_ne.mpr h
   simp only[List.lookup,hb,if_neg h]
 | (k,x)::r=>by
  have ih:=Ez f g v r
  rw[show vB f v ((k,x)::r)=(if k=f then(k,v)::r else(k,x)::vB f v r)from rfl]
  by_cases hk:k=f
  ·rw[if_pos hk]
   by_cases h:g=k
   ·have hb:(g==k)=true:=beq_iff_eq.mpr h
    simp only[List.lookup,hb,if_pos (h.trans hk)]
   ·have hb:(g==k)=false:=beq_eq_false_iff_ne.mpr h
    simp only[List.lookup,hb,if_neg (fun e:g=f=>h (e.trans hk.symm))]
  ·rw[if_neg hk]
   by_cases h:g=k
   ·have hb:(g==k)=true:=beq_iff_eq.mpr h
    simp only[List.lookup,hb,if_neg (fun e:g=f=>hk (h.symm.trans e))]
   ·have hb:(g==k)=false:=beq_eq_false_iff_ne.mpr h
    simp only[List.lookup,hb]
    exact ih
theorem DW(f:Str)(v:V):∀fs:List (Str×V),f∈(vB f v fs).map (·.1)∧∀g,g∈fs.map (·.1)→g∈(vB f v fs).map (·.1)
 | []=>⟨by simp[vB],fun g h=>by simp at h⟩
 | (k,x)::r=>by
  obtain⟨i1,i2⟩:=DW f v r
  rw[show vB f v ((k,x)::r)=(if k=f then(k,v)::r else(k,x)::vB f v r)from rfl]
  by_cases hk:k=f
  ·rw[if_pos hk]
   subst hk
   exact⟨by simp,fun g h=>by simpa using h⟩
  ·rw[if_neg hk]
   refine⟨?_,fun g h=> ?_⟩
   ·rw[List.map_cons]
    exact List.mem_cons_of_mem _ i1
   ·rw[List.map_cons]at h ⊢
    rcases List.mem_cons.mp h with e | e
    ·exact List.mem_cons.mpr (.inl e)
    ·exact List.mem_cons_of_mem _ (i2 g e)
theorem E_(f:Str)(v:V):∀fs:List (Str×V),(vB f v fs).length≤fs.length+1
 | []=>by simp[vB]
 | (k,x)::r=>by
  have ih:=E_ f v r
  rw[show vB f v ((k,x)::r)=(if k=f then(k,v)::r else(k,x)::vB f v r)from rfl]
  by_cases hk:k=f
  ·rw[if_pos hk,List.length_cons,List.length_cons];omega
  ·rw[if_neg hk,List.length_cons,List.length_cons];omega
theorem yo.some_of{v:V}{o:Option Value}(r:yo (some v) o):∃u,o=some u∧RelV v u:=by
 cases o with
 | none=>exact(show False from r).elim
 | some u=>exact⟨u,rfl,r⟩
theorem yo.none_of{o:Option Value}(r:yo none o):o=none:=by
 cases o with
 | none=>rfl
 | some u=>exact(show False from r).elim
theorem V3{v:V}{u:Value}(r:RelV v u):PySem.W.handedIn u=true:=by
 cases v with
 | non=>cases(show u=Value.none from r);rfl
 | bl b=>cases(show u=Value.bool b from r);rfl
 | int i=>obtain⟨t,e⟩:=(show ∃t,u=Value.int i t from r);cases e;rfl
 | str x=>obtain⟨t,e⟩:=(show ∃t,u=Value.str x t from r);cases e;rfl
 | byt b=>obtain⟨t,e⟩:=(show ∃t,u=Value.bytes b t from r);cases e;rfl
 | flt b=>obtain⟨t,e⟩:=(show ∃t,u=Value.float b t from r);cases e;rfl
 | ref a=>cases(show u=Value.ref a from r);rfl
 | ty n=>cases(show u=Value.type n from r);rfl
section
variable{P:Program}{w:World}{H H':Hp}{h h':Heap}{a C dx:Addr}{fs fs':List (Str×V)}
theorem Gk(hok:uN P w H h)(e:H a=some (.ins C dx fs)):∃mA,Sh h a dx C mA∧(∀f,yo (fs.lookup f) (mA f))∧PySem.Within mA (fs.map (·.1))∧fs.length≤1000∧H dx=some (.own a):=by
 obtain⟨d,z,ne,ob,mA,n,r,q⟩:=(show dg P w H h a (.ins C dx fs)from hok a _ e)
 exact⟨mA,⟨ob,n,ne⟩,r,q,z,d⟩
end
structure Qv(K:PySem.W.Frag)(C:Addr):Prop where
 pg:PySem.W.plainGet K C Str.empty=true
 hd:PySem.W.hasDictIn K C=true
 po:PySem.W.plainOver K C=true
 sa:PySem.W.findIn K (.ref C) "__setattr__" = some (some (.builtin "object.__setattr__"))
theorem Qv.get{K:PySem.W.Frag}{C:Addr}(c:Qv K C)(f:Str):PySem.W.plainGet K C f=true:=c.pg
def jT(K:PySem.W.Frag)(C:Addr)(f:Str):Prop:=PySem.W.findIn K (.ref C) f=some none
theorem jT.taker{K:PySem.W.Frag}{C:Addr}{f:Str}(n:jT K C f):PySem.W.takerIn K C f=some none:=by
 unfold PySem.W.takerIn
 rw[show PySem.W.findIn K (.ref C) f=some none from n]
 rfl
structure Meth(K:PySem.W.Frag)(C:Addr)(m:Str)(f:Addr):Prop where
 at_:PySem.W.findIn K (.ref C) m=some (some (.ref f))
 fn:PySem.W.isFn K (.ref f)=true
 kp:PySem.W.keepIn K (.ref f)=true
section
variable{X:Cx}{pins:List (Addr×Obj)}{σ:St}{H:Hp}{s:Shared}{a C dx:Addr}{fs:List (Str×V)}{f:Str}{v:V}{A:Around}{E:Value→Shared→Prop}
theorem RM{b:Bool}{Q:Value→Shared→Prop}(I:Inv X pins σ H s)(e:H a=some (.ins C dx fs))(c:Qv X.K C)(n:jT X.K C f)(l:fs.lookup f=some v)
  (h:∀u s',Inv X pins σ H s'→RelV v u→Q u s'):wpAny (model X.prog X.w) A (getAttr (.ref a) f b) Q E s:=by
 obtain⟨mA,O,r,_,_,_⟩:=Gk I.hok e
 obtain⟨u,hu,ru⟩:=yo.some_of (v:=v) (o:=mA f) (by rw[←l];exact r f)
 exact get_map I.Bt O (c.get f) c.hd n hu (V3 ru) (h u _ (I.tok _) ru)
theorem Il{m:Str}{g:Addr}{pl:Sem Bool}{Q:Value×List Value→Shared→Prop}(I:Inv X pins σ H s)(e:H a=some (.ins C dx fs))(c:Qv X.K C)(k:Meth X.K C m g)(l:fs.lookup m=none)
  (h:Q (.ref g,[.ref a]) s):wpAny (model X.prog X.w) A (getMethod (.ref a) m pl) Q E s:=by
 obtain⟨mA,O,r,_,_,_⟩:=Gk I.hok e
 have hn:mA m=none:=yo.none_of (by rw[←l];exact r m)
 exact Yu I.Bt O (c.get m) k.at_ k.fn hn h
theorem QV{y:V}{u:Value}{Q:Unit→Shared→Prop}(I:Inv X pins σ H s)(e:H a=some (.ins C dx fs))(c:Qv X.K C)(n:jT X.K C f)(hl:fs.length<1000)(ry:RelV y u)
  (h:∀s',Inv X pins σ (upd H a (.ins C dx (vB f y fs))) s'→Q () s'):wpAny (model X.prog X.w) A (setAttr (.ref a) f u) Q E s:=by
 obtain⟨mA,O,r,wi,_,ho⟩:=Gk I.hok e
 have hz:(fs.map (·.1)).length≤sizeLine:=by rw[List.length_map,sizeLine_eq];omega
 refine ZD I.Bt O c.sa c.po n.taker c.hd wi hz fun h' O' sb=>h _ ?_
 have hd:∃o,h'.get? dx=some o:=let⟨o,_,_,e',_⟩:=O'.ns;⟨o,e'⟩
 refine I.write (x:=a) (e:=dx) (by rw[e];exact True.intro) (.inr ho) (fun b q hb z=>(sb.2 b hb).trans z) hd ?_
 refine⟨by rw[bh O.ne];exact ho,?_,O.ne,O'.obj,_,O'.ns,fun g=> ?_,fun g hg=> ?_⟩
 ·have:=E_ f y fs;omega
 ·show yo ((vB f y fs).lookup g) (if g=f then some u else mA g)
  rw[Ez]
  by_cases q:g=f
  ·rw[if_pos q,if_pos q];exact ry
  ·rw[if_neg q,if_neg q];exact r g
 ·by_cases q:g=f
  ·rw[q];exact(DW f y fs).1
  ·refine(DW f y fs).2 g (wi g fun z=>hg ?_)
   show(if g=f then some u else mA g)=none
   rw[if_neg q];exact z
theorem Inv.made(I:Inv X pins σ H s):Inv X pins σ (upd (upd H s.heap.objs.size (.own (s.heap.objs.size+1))) (s.heap.objs.size+1) (.ins C s.heap.objs.size []))
  {s with heap:=(s.heap.push PySem.W.emptyDict).push (PySem.W.instObj C s.heap.objs.size)}:=by
 have e1:(s.heap.push PySem.W.emptyDict).get? s.heap.objs.size=some PySem.W.emptyDict:=Heap.get?_push_size s.heap rfl
 have e2:((s.heap.push PySem.W.emptyDict).push (PySem.W.instObj C s.heap.objs.size)).get? (s.heap.objs.size+1)=some (PySem.W.instObj C s.heap.objs.size):=by
  have:=Heap.get?_push_size (s.heap.push PySem.W.emptyDict) (o:=PySem.W.instObj C s.heap.objs.size) rfl
  rwa [Heap.size_push]at this
 have e3:(s.heap.push PySem.W.emptyDict).Ns s.heap.objs.size (fun _=>none):=⟨PySem.W.emptyDict,#[],_,e1,rfl,(fun e he=>absurd he (by simp)),fun _=>rfl⟩
 have I1:=I.laid (a:=s.heap.objs.size) (o:= .own (s.heap.objs.size+1)) (h':=s.heap.push PySem.W.emptyDict) (t':=s.toks) (fun b u q=>Heap.get?_push_of_some _ q) (Nat.le_refl _) ⟨_,e1⟩
 refine I1.laid (a:=s.heap.objs.size+1) (o:= .ins C s.heap.objs.size []) (t':=s.toks) (fun b u q=>Heap.get?_push_of_some _ q) (Nat.le_of_eq (Heap.size_push _ _)) ?_
 have ne:s.heap.objs.size≠s.heap.objs.size+1:=Nat.ne_of_lt (Nat.lt_succ_self _)
 refine⟨by rw[bh ne,dh],Nat.zero_le _,ne,e2,fun _=>none,(Heap.Ns1.of_empty e3).at fun o q=>Heap.get?_push_of_some _ q,fun _=>True.intro,fun y hy=>absurd rfl hy⟩
theorem abb{prog:Program}{w:World}{env:Env}{e:Expr}{f:Str}{pos:Pos}{s:Shared}{Q:Value→Shared→Prop}(hb:attributeBase e f env (eval e env)=eval e env)
  (h:wpAny (model prog w) A (eval e env) (fun o s₁=>wpAny (model prog w) A (getAttr o f true) Q E s₁) E s):wpAny (model prog w) A (eval (.Attribute e f pos) env) Q E s:=
 Attribute_any_ h (by rw[arm_eval_Attribute,hb])
end
def anf(K:PySem.W.Frag)(ta:TE)(f:Str):TE:=fun σ H Q=>ta σ H fun x H1=>∃a C dx fs v,x= .ref a∧H1 a=some (.ins C dx fs)∧Qv K C∧jT K C f∧fs.lookup f=some v∧Q v H1
def aoa(K:PySem.W.Frag)(ta tv:TE)(f:Str):TS:=fun D σ H=>tv σ H fun y H1=>ta σ H1 fun x H2=>∃a C dx fs,x= .ref a∧H2 a=some (.ins C dx fs)∧Qv K C∧jT K C f∧fs.length<1000∧
 D.nx σ (upd H2 a (.ins C dx (vB f y fs)))
section
variable{X:Cx}{o e value:Expr}{f:Str}{pos pos' tpos:Pos}{ta tv:TE}
theorem acV(he:PE X e ta)(hb:attributeBase e f X.env (eval e X.env)=eval e X.env):PE X (.Attribute e f pos) (anf X.K ta f):=by
 intro pins s σ H Q I h
 refine abb hb (gU (he pins s σ H _ I h) fun u s1 ⟨x,H1,I1,rx,a,C,dx,fs,v,ex,ea,c,n,l,q⟩=> ?_)
 subst ex
 obtain rfl:u=Value.ref a:=rx
 exact RM I1 ea c n l fun u' s2 I2 ru=>⟨v,H1,I2,ru,q⟩
theorem acL(ha:PE X o ta)(hv:PE X value tv)(hs:swapsWith value (some (.Attribute o f pos')) pos.line X.env=pure false):PS X (.Assign [.Attribute o f pos'] value pos) (aoa X.K ta tv f):=by
 intro pins s σ H D I h
 refine plainObj_wpAny_Assign_Attribute (gU (hv pins s σ H _ I h) fun u s1 ⟨y,H1,I1,ry,q⟩=>gU (ha pins s1 σ H1 _ I1 q) fun ov s2 ⟨x,H2,I2,rx,a,C,dx,fs,ex,ea,c,n,l,q2⟩=> ?_) hs
 subst ex
 obtain rfl:ov=Value.ref a:=rx
 exact QV I2 ea c n l ry fun s3 I3=>⟨σ,_,I3,q2⟩
end
section
variable{X:Cx}{pins:List (Addr×Obj)}{σ:St}{H:Hp}{s:Shared}{A:Around}{E:Value→Shared→Prop}{Q:Value→Shared→Prop}{c:Value}{b:Bool}
inductive Ej (K:PySem.W.Frag) (H:Hp):V→Value→Prop where
 | non:Ej K H .non (.type "NoneType")
 | bl (x:Bool):Ej K H (.bl x) (.type "bool")
 | int (i:Int):Ej K H (.int i) (.type "int")
 | str (x:Str):Ej K H (.str x) (.type "str")
 | flt (x:UInt64):Ej K H (.flt x) (.type "float")
 | lst {a:Addr} {xs:List V} (e:H a=some (.lst xs)):Ej K H (.ref a) (.type "list")
 | zR {a:Addr} {o:Obj} {xs:List V} (e:H a=some (.zR o (.lst xs))):Ej K H (.ref a) (.type "list")
 | tup {a:Addr} {xs:List V} (e:H a=some (.tup xs)):Ej K H (.ref a) (.type "tuple")
 | dK {a:Addr} {kvs:List (Key×V)} (e:H a=some (.dK kvs)):Ej K H (.ref a) (.type "dict")
 | dT {a:Addr} {kvs:List (List Key×V)} (e:H a=some (.dT kvs)):Ej K H (.ref a) (.type "dict")
 | ins {a C dx:Addr} {fs:List (Str×V)} (e:H a=some (.ins C dx fs)) (cl:Qv K C) (ha:PySem.W.findIn K (.ref C) "__class__" = some (some (.builtin "object.__class__")))
   (hn:PySem.W.specialIn K (.builtin "object.__class__") "__get__" = some (some (.builtin "getset_descriptor.__get__"))) (htk:PySem.W.takesIn K (.builtin "object.__class__")=some true)
   (hm:PySem.W.mroIn K C (.type "object")=some true):Ej K H (.ref a) (.ref C)
theorem VN{x:V}{u t:Value}(I:Inv X pins σ H s)(rx:RelV x u)(ty:Ej X.K H x t)(e:PySem.W.kitOne X.K t c=some b)(h:∀tk,Q (.bool b) {s with toks:=tk}):
  wpAny (model X.prog X.w) A (call (.builtin "isinstance") [u,c]) Q E s:=by
 cases ty with
 | non=>cases(show u=Value.none from rx);exact PySem.W.kia_one PySem.W.kitx_none I.Bt True.intro e (fun z=>nomatch z) h
 | bl y=>cases(show u=Value.bool y from rx);exact PySem.W.kia_one PySem.W.kitx_bool I.Bt True.intro e (fun z=>nomatch z) h
 | int i=>obtain⟨t,q⟩:=(show ∃t,u=Value.int i t from rx);cases q;exact PySem.W.kia_one PySem.W.kitx_int I.Bt True.intro e (fun z=>nomatch z) h
 | str y=>obtain⟨t,q⟩:=(show ∃t,u=Value.str y t from rx);cases q;exact PySem.W.kia_one PySem.W.kitx_str I.Bt True.intro e (fun z=>nomatch z) h
 | flt y=>obtain⟨t,q⟩:=(show ∃t,u=Value.float y t from rx);cases q;exact PySem.W.kia_one PySem.W.kitx_float I.Bt True.intro e (fun z=>nomatch z) h
 | @lst a xs ea=>
  cases(show u=Value.ref a from rx)
  obtain⟨_,_,n,_,h1⟩:=(show dg X.prog X.w H s.heap a (.lst xs)from I.hok a _ ea)
  exact PySem.W.kia_one PySem.W.kitx_list I.Bt ⟨_,h1,rfl⟩ e (fun z=>nomatch z) h
 | @zR a ob xs ea=>
  cases(show u=Value.ref a from rx)
  obtain⟨_,_,_,n,_,h1⟩:=(show dg X.prog X.w H s.heap a (.zR ob (.lst xs))from I.hok a _ ea)
  exact PySem.W.kia_one PySem.W.kitx_list I.Bt ⟨_,h1,rfl⟩ e (fun z=>nomatch z) h
 | @tup a xs ea=>
  cases(show u=Value.ref a from rx)
  obtain⟨_,_,_,p⟩:=(show dg X.prog X.w H s.heap a (.tup xs)from I.hok a _ ea)
  obtain⟨o,h1,h2,_⟩:=p
  exact PySem.W.kia_one PySem.W.kitx_tuple I.Bt ⟨o,h1,h2⟩ e (fun z=>nomatch z) h
 | @dK a kvs ea=>
  cases(show u=Value.ref a from rx)
  obtain⟨_,_,vs,_,p⟩:=(show dg X.prog X.w H s.heap a (.dK kvs)from I.hok a _ ea)
  obtain⟨o,es,ep,h1,h2,_⟩:=p
  exact PySem.W.kia_one PySem.W.kitx_dict I.Bt ⟨o,h1,h2.1⟩ e (fun z=>nomatch z) h
 | @dT a kvs ea=>
  cases(show u=Value.ref a from rx)
  obtain⟨_,_,xs,_,o,es,ep,h1,h2,_⟩:=(show dg X.prog X.w H s.heap a (.dT kvs)from I.hok a _ ea)
  exact PySem.W.kia_one PySem.W.kitx_dict I.Bt ⟨o,h1,h2.1⟩ e (fun z=>nomatch z) h
 | @ins a C dx fs ea cl ha hn htk hm=>
  cases(show u=Value.ref a from rx)
  obtain⟨mA,O,_⟩:=Gk I.hok ea
  obtain⟨od,J,_⟩:=O.look
  exact PySem.W.kia_one (PySem.W.kitx_own (cl.get _) cl.hd ha hn htk hm) I.Bt J e (fun z=>nomatch z) h
end
end L2
namespace L2
open PySem PySem.Spec PyProof.Rows
structure lQ(k:Nat)(A:Around):Prop where
 hd:A.handled=none
 dp:A.depth+3*k+5<recursionLimit
 un:A.units+16*k+200<cLine
theorem lQ.mono{j k:Nat}{A:Around}(r:lQ k A)(h:j≤k):lQ j A:=⟨r.hd,by have:=r.dp;omega,by have:=r.un;omega⟩
theorem lQ.deeper{k:Nat}{A:Around}(r:lQ (k+1) A)(env:Env):lQ k (A.deeper env):=
 ⟨r.hd,by have:=r.dp;show A.depth+1+3*k+5<_;omega,by have:=r.un;show A.units+3+16*k+200<_;omega⟩
theorem lQ.in1{k:Nat}{A:Around}(r:lQ (k+1) A):lQ k A.in1:=
 ⟨r.hd,by have:=r.dp;show A.depth+3*k+5<_;omega,by have:=r.un;show A.units+1+16*k+200<_;omega⟩
theorem Rp{A:Around}{C:Addr}{us:List Value}{kw:List (Str×Value)}:(A.under (.builtin "type.__call__" ⟨.ref C::us,kw⟩)).depth=A.depth+1:=by
 first | rfl | simp[Around.under,Code.weight,Code.isCreation,Code.isGuard,Code.isCaller,Code.frames,Code.isFrame,guardIds]
theorem Rn{A:Around}{C:Addr}{us:List Value}{kw:List (Str×Value)}:(A.under (.builtin "type.__call__" ⟨.ref C::us,kw⟩)).units=A.units+1:=by
 first | rfl | simp[Around.under,Code.cUnits,Code.frames,Code.isFrame]
theorem lQ.make{k:Nat}{A:Around}(r:lQ (k+1) A)(C:Addr)(us:List Value)(kw:List (Str×Value)):lQ k (A.under (.builtin "type.__call__" ⟨.ref C::us,kw⟩)):=
 ⟨r.hd,by have:=r.dp;rw[Rp];omega,by have:=r.un;rw[Rn];omega⟩
theorem lQ.depth{k:Nat}{A:Around}(r:lQ k A):A.depth<recursionLimit:=by have:=r.dp;omega
theorem lQ.units{k:Nat}{A:Around}(r:lQ k A):A.units+64<cLine:=by have:=r.un;omega
def afx:TA:=fun _ H Q=>Q [] H
def afB(ta:TE)(tr:TA):TA:=fun σ H Q=>ta σ H fun x H1=>tr σ H1 fun xs H2=>Q (x::xs) H2
section
variable{X:Cx}{e:Expr}{es:List Expr}{te:TE}{t:TA}{pos:Pos}
theorem XR:PA X [] afx:=fun _ _ _ _ H Q I h=>Calls.spliced_nil ⟨[],H,I,.nil,h⟩
theorem TF(ha:PE X e te)(hr:PA X es t)(hs:starEach (e::es) X.env=(false,eval e X.env)::starEach es X.env:=by rfl):PA X (e::es) (afB te t):=by
 intro pos pins s σ H Q I h
 rw[hs]
 show wpAny _ _ (spliced ((false,eval e X.env)::backTo pos (starEach es X.env))) _ _ s
 refine Calls.spliced_cons (gU (ha pins s σ H _ I h) fun u s1 ⟨x,H1,I1,r1,q1⟩=> ?_)
 exact gU (hr pos pins s1 σ H1 _ I1 q1) fun us s2 ⟨xs,H2,I2,r2,q2⟩=>⟨x::xs,H2,I2,.cons r1 r2,q2⟩
def am5(t:TA):TE:=fun σ H Q=>t σ H fun xs H1=>xs.length≤sizeLine∧∀p,H1 p=none→Q (.ref p) (upd H1 p (.tup xs))
def anb(t:TA):TE:=fun σ H Q=>t σ H fun xs H1=>xs.length≤sizeLine∧∀p,H1 p=none→Q (.ref p) (upd H1 p (.lst xs))
theorem acO{x1}(h:PA X es t):PE X (.Tuple es x1 pos) (am5 t):=by
 intro pins s σ H Q I hq
 refine wpAny_Tuple_spliced (gU (h pos pins s σ H _ I hq) fun us s1 ⟨xs,H1,I1,r,z,q⟩=>⟨by rw[←r.length];exact z,?_⟩)
 have hf:H1 s1.heap.objs.size=none:=I1.hok.fresh (Nat.le_refl _)
 refine⟨.ref s1.heap.objs.size,upd H1 s1.heap.objs.size (.tup xs),I1.laid (t':=s1.toks) (fun b u e=>Heap.get?_push_of_some _ e) (Nat.le_refl _) ?_,rfl,q _ hf⟩
 exact⟨z,us,r,⟨_,Heap.get?_push_size _ rfl,rfl,_,rfl⟩⟩
theorem acT(h:PA X es t):PE X (.List es pos) (anb t):=by
 intro pins s σ H Q I hq
 refine wpAny_List_spliced (gU (h pos pins s σ H _ I hq) fun us s1 ⟨xs,H1,I1,r,z,q⟩=>⟨by rw[←r.length];exact z,?_⟩)
 have hf:H1 s1.heap.objs.size=none:=I1.hok.fresh (Nat.le_refl _)
 refine⟨.ref s1.heap.objs.size,upd H1 s1.heap.objs.size (.lst xs),I1.laid (t':=s1.toks) (fun b u e=>Heap.get?_push_of_some _ e) (Nat.le_refl _) ?_,rfl,q _ hf⟩
 exact⟨z,us,0,r,Heap.get?_push_size _ rfl⟩
end
abbrev Sp:=List V→Hp→VK→XK→Prop
abbrev Sy:=List Env→Hp→Shared→XK→Value→Shared→Prop
structure JC(P:Program)(w:World)(K:PySem.W.Frag)(mg:Str→Option Value)(base:Heap)(A:Around)(outer:List Env)(s:Shared)(H:Hp):Prop where
 frames:A.frames=some outer
 mod:Mod K mg base
 bs:∀b o,base.get? b=some o→s.heap.get? b=some o∧H b=none
 Ut:base.objs.size≤s.heap.objs.size
 CG:s.heap.FunFrames base outer
 frf:∀b∈frs outer,H b=none
 hok:uN P w H s.heap
 bare:AllBare s.gens
def CE(outer:List Env)(P:Program)(w:World)(H:Hp)(s:Shared)(Q:VK)(u:Value)(s':Shared):Prop:=
 ∃v H',s'.os=s.os∧AllBare s'.gens∧Un (frs outer) [] H H' s.heap s'.heap∧uN P w H' s'.heap∧RelV v u∧Q v H'
def CR(CX:Sy)(outer:List Env)(P:Program)(w:World)(H:Hp)(s:Shared)(Q:VK)(E:XK)(r:Result)(s':Shared):Prop:=
 match r with
 | .ok (.ret u)=>CE outer P w H s Q u s'
 | .ok _=>False
 | .error e=>CX outer H s E e s'
structure aX(P:Program)(w:World)(K:PySem.W.Frag)(mg:Str→Option Value)(base:Heap)(CX:Sy)(k:Nat)(f:Addr)(fd:FuncData)(ps:List Str)(sp:Sp):Prop where
 len:∀vs H Q E,sp vs H Q E→vs.length=ps.length
 run:∀(A:Around) (outer:List Env) (s:Shared) (H:Hp) (args:Args) (us:List Value) (vs:List V) (Q:VK) (E:XK),lQ k A→JC P w K mg base A outer s H→BindsTo s fd args (ps.zip us)→Vals vs us→sp vs H Q E→
  codeAny (model P w) A (.call (.ref f) args) (CR CX outer P w H s Q E) s
theorem aX.imp{P:Program}{w:World}{K:PySem.W.Frag}{mg:Str→Option Value}{base:Heap}{CX:Sy}{k:Nat}{f:Addr}{fd:FuncData}{ps:List Str}{sp sp':Sp}(F:aX P w K mg base CX k f fd ps sp)
  (h:∀vs H Q E,sp' vs H Q E→sp vs H Q E):aX P w K mg base CX k f fd ps sp':=
 ⟨fun vs H Q E q=>F.len vs H Q E (h _ _ _ _ q),fun A outer s H args us vs Q E hr he hb hv hs=>F.run A outer s H args us vs Q E hr he hb hv (h _ _ _ _ hs)⟩
theorem JC.make{P:Program}{w:World}{K:PySem.W.Frag}{mg:Str→Option Value}{base:Heap}{A:Around}{outer:List Env}{s:Shared}{H:Hp}(e:JC P w K mg base A outer s H)(C:Addr)(us:List Value)(kw:List (Str×Value)):
  JC P w K mg base (A.under (.builtin "type.__call__" ⟨.ref C::us,kw⟩)) outer s H:=⟨by first | exact e.frames | (simpa[Around.under,Code.envs,Code.isFrame,pushEnvs]using e.frames),e.mod,e.bs,e.Ut,e.CG,e.frf,e.hok,e.bare⟩
theorem JC.in1{P:Program}{w:World}{K:PySem.W.Frag}{mg:Str→Option Value}{base:Heap}{A:Around}{outer:List Env}{s:Shared}{H:Hp}(e:JC P w K mg base A outer s H):
  JC P w K mg base A.in1 outer s H:=⟨e.frames,e.mod,e.bs,e.Ut,e.CG,e.frf,e.hok,e.bare⟩
section
variable{X:Cx}{pins:List (Addr×Obj)}{σ:St}{H:Hp}{s s':Shared}
theorem Inv.env0(I:Inv X pins σ H s):JC X.prog X.w X.K X.mg X.base X.A X.stack s H:=
 ⟨I.ok.frames,I.ok.mod,I.bs,Nat.le_trans I.ok.Ut I.sz,I.stack,I.BL,I.hok,I.bare⟩
theorem Inv.after{Q:VK}{u:Value}(I:Inv X pins σ H s)(h:CE X.stack X.prog X.w H s Q u s'):EP X pins σ Q u s':=by
 obtain⟨v,H',os,bare,un,hok,r,q⟩:=h
 obtain⟨hh,g,d,t,os'⟩:=s'
 obtain rfl:os'=s.os:=os
 exact⟨v,H',I.call (h':=hh) (g':=g) (d':=d) (t':=t) (ch:=[]) un hok bare (fun b z=>absurd z (by simp)),r,q⟩
end
def Binds(K:PySem.W.Frag)(fd:FuncData)(ps:List Str)(ds:List Value):Prop:=
 ∀(s:Shared) (us:List Value),K.In s.heap→(us++ds).length=ps.length→BindsTo s fd ⟨us,[]⟩ (ps.zip (us++ds))
theorem Binds.all{K:PySem.W.Frag}{fd:FuncData}{ps:List Str}(h:∀us:List Value,us.length=ps.length→bindArgs fd ⟨us,[]⟩=pure (ps.zip us)):Binds K fd ps []:=fun s us _ hl=>by
 rw[List.append_nil]at hl ⊢
 exact .of_eq (h us hl)
section
variable{X:Cx}{CX:Sy}{k:Nat}{f C:Addr}{fd:FuncData}{ps:List Str}{sp:Sp}{zU:List V}{ds:List Value}{E:XK}{x m:Str}{p pos apos:Pos}{e o:Expr}{es:List Expr}{ta:TE}{t:TA}
structure Mk(K:PySem.W.Frag)(C f:Addr):Prop where
 makes:PySem.W.makesIn K C=true
 init:PySem.W.findIn K (.ref C) "__init__" = some (some (.ref f))
 fn:PySem.W.isFn K (.ref f)=true
 kp:PySem.W.keepIn K (.ref C)=true
end
section
variable{X:Cx}{CX:Sy}{k:Nat}{f C:Addr}{fd:FuncData}{ps ks:List Str}{sp:Sp}{E:XK}{x m:Str}{p pos apos kpos:Pos}{e o:Expr}{es:List Expr}{kws:List Keyword}{te ta:TE}{t tk:TA}{nm:Option Str}
variable{g:List Value→List Value→List Value}{gV:List V→List V→List V}
end
structure aU(N P:List Str)(sc:Scope):Prop where
 kind:sc.kind= .function
 co:sc.isCoroutine=false
 gen:sc.isGenerator=false
 nd:N.Nodup
 pre:N.take P.length=P
 par:∀x∈P,sc.names.lookup x=some .local∨sc.names.lookup x=some .cell
 adg:∀y∈sc.names,y.2≠ .free
theorem Ka{kindOf:Str→Option NameKind}{x:Str}:∀{binds:List (Str×Value)} {m:Str→Option Value},(∀v,(x,v)∉binds)→bindL kindOf binds m x=m x
 | [],_,_=>rfl
 | (n,v)::r,m,h=>by
  unfold bindL
  rw[Ka fun w hw=>h w (List.mem_cons_of_mem _ hw)]
  split
  ·have:x≠n:=by rintro rfl;exact h v List.mem_cons_self
   simp[this]
  ·rfl
theorem Kd{kindOf:Str→Option NameKind}{x:Str}:∀{binds:List (Str×Value)} {m:Str→Option Value},(∀v,(x,v)∉binds)→bindC kindOf binds m x=m x
 | [],_,_=>rfl
 | (n,v)::r,m,h=>by
  unfold bindC
  rw[Kd fun w hw=>h w (List.mem_cons_of_mem _ hw)]
  split
  ·rfl
  ·have:x≠n:=by rintro rfl;exact h v List.mem_cons_self
   simp[this]
theorem Kc{kindOf:Str→Option NameKind}{x:Str}{v:Value}:∀{P:List Str} {vs:List Value} {i:Nat} {m:Str→Option Value},P.Nodup→P[i]? = some x→vs[i]? = some v→kindOf x=some .local→
  bindL kindOf (P.zip vs) m x=some v
 | [],_,_,_,_,h,_,_=>by simp at h
 | _::_,[],_,_,_,_,h,_=>by simp at h
 | p::P,w::vs,0,m,nd,h1,h2,hk=>by
  simp at h1 h2;subst h1;subst h2
  show bindL kindOf ((p,w)::P.zip vs) m p=_
  unfold bindL
  rw[Ka fun v hv=>(List.nodup_cons.mp nd).1 (List.of_mem_zip hv).1,if_pos hk]
  simp
 | p::P,w::vs,i+1,m,nd,h1,h2,hk=>by
  show bindL kindOf ((p,w)::P.zip vs) m x=_
  unfold bindL
  exact Kc (i:=i) (List.nodup_cons.mp nd).2 (by simpa using h1) (by simpa using h2) hk
theorem Ke{kindOf:Str→Option NameKind}{x:Str}{v:Value}:∀{P:List Str} {vs:List Value} {i:Nat} {m:Str→Option Value},P.Nodup→P[i]? = some x→vs[i]? = some v→kindOf x≠some .local→
  bindC kindOf (P.zip vs) m x=some v
 | [],_,_,_,_,h,_,_=>by simp at h
 | _::_,[],_,_,_,_,h,_=>by simp at h
 | p::P,w::vs,0,m,nd,h1,h2,hk=>by
  simp at h1 h2;subst h1;subst h2
  show bindC kindOf ((p,w)::P.zip vs) m p=_
  unfold bindC
  rw[Kd fun v hv=>(List.nodup_cons.mp nd).1 (List.of_mem_zip hv).1,if_neg hk]
  simp
 | p::P,w::vs,i+1,m,nd,h1,h2,hk=>by
  show bindC kindOf ((p,w)::P.zip vs) m x=_
  unfold bindC
  exact Ke (i:=i) (List.nodup_cons.mp nd).2 (by simpa using h1) (by simpa using h2) hk
def start(N:List Str)(vs:List V):St:=vs.map some++List.replicate (N.length - vs.length) none
def Bh(CX:Sy)(P:Program)(w:World)(K:PySem.W.Frag)(mg:Str→Option Value)(base:Heap)(N:List Str)(qual:Str)(scope:Scope)(f:Addr)(cd:Value)(A:Around)(outer:List Env)(s:Shared)(H:Hp)(E:XK):Cx where
 prog:=P
 w:=w
 K:=K
 mg:=mg
 base:=base
 A:=A.deeper (envOfC qual scope s.heap.objs.size f cd)
 N:=N
 s₀:=s
 H₀:=H
 env:=envOfC qual scope s.heap.objs.size f cd
 outer:=outer
 stack:=envOfC qual scope s.heap.objs.size f cd::outer
 ex:=[]
 calm:=true
 fn:=fun _=>true
 pn:=[]
 xe:=fun e s'=>wpAny (model P w) (A.deeper (envOfC qual scope s.heap.objs.size f cd)) (leaving (envOfC qual scope s.heap.objs.size f cd) e) (fun _ s''=>CX outer H s E e s'') (fun e' s''=>CX outer H s E e' s'') s'
theorem Qi{sc:Scope}{n:Nat}{x:Str}(h:sc.names.lookup x=some .cell):∃c,(cellsFrom n sc.names []).lookup x=some c:=by
 have q:=PySem.W.cellsFrom_some sc.names n [] (.inl h)
 exact Option.isSome_iff_exists.mp q
theorem VV{CX:Sy}{P:Program}{w:World}{K:PySem.W.Frag}{mg:Str→Option Value}{base:Heap}{N ps:List Str}{qual:Str}{scope:Scope}{f:Addr}{cd:Value}{A:Around}{outer:List Env}{s s1:Shared}{H:Hp}{E:XK}{us:List Value}{vs:List V}
  (S:aU N ps scope) (hd:A.handled=none) (e0:JC P w K mg base A outer s H) (hl:vs.length=ps.length) (r:Vals vs us)
  (x:InCallC s s.heap.objs.size (bindL (envOfC qual scope s.heap.objs.size f cd).kindOf (ps.zip us) fun _=>none) (cellsFrom (s.heap.objs.size+1) scope.names []) (bindC (envOfC qual scope s.heap.objs.size f cd).kindOf (ps.zip us) fun _=>none) s1):
  Inv (Bh CX P w K mg base N qual scope f cd A outer s H E) [] (start N vs) H s1:=by
 have hpl:ps.length≤N.length:=by have:=congrArg List.length S.pre;rw[List.length_take]at this;omega
 obtain⟨h1,tk,rfl,hk⟩:=x.done
 have noA:∀b:Addr,b∉(Bh CX P w K mg base N qual scope f cd A outer s H E).ex:=fun b z=>absurd (show b∈([]:List Addr)from z) (by simp)
 refine⟨⟨e0.mod,S.kind,rfl,rfl,Nat.le_refl _,fun y z c h1 h2=> ?_,fun y hy=> ?_,fun y c _ h=> ?_,fun _=>hd,Around.frames_deeper e0.frames,.inr ⟨rfl,rfl⟩,fun b z=>absurd z (noA b),e0.bs,e0.Ut,fun b _ _=>noA b,fun b z=>absurd z (noA b),e0.CG,e0.frf⟩,
  rfl,e0.bare,Un.kept hk,⟨_,x.toInCall.ns,fun i y v h1 h2 h3=> ?_⟩,fun y c h=>⟨_,x.cell y c h⟩,e0.hok.fresh (Nat.le_refl _),fun y c h=> ?_,fun p hp=>absurd (show p∈([]:List (Addr×Obj))from hp) (by simp),e0.hok.kept hk,?_⟩
 ·exact name_of_addr x.apart (PySem.mem_of_lookup h1) (PySem.mem_of_lookup h2)
 ·have hy:scope.names.lookup y=some .cell∨scope.names.lookup y=some .free:=hy
  rcases hy with hy | hy
  ·exact Qi hy
  ·exact absurd rfl (S.adg _ (PySem.mem_of_lookup hy))
 ·exact Nat.le_of_lt (x.above y c (PySem.mem_of_lookup h))
 ·have hi:i<vs.length:=by
   unfold start at h2
   by_cases hi:i<vs.length
   ·exact hi
   ·rw[List.getElem?_append_right (by simpa using hi)]at h2
    rw[List.getElem?_replicate]at h2
    split at h2<;>cases h2
  have ha:vs[i]? = some v:=by
   unfold start at h2
   rw[List.getElem?_append_left (by simpa using hi),List.getElem?_map]at h2
   cases e:vs[i]? with
   | none=>rw[e]at h2;cases h2
   | some a=>rw[e]at h2;cases h2;rfl
  obtain⟨u,hu,rv⟩:=r.get ha
  have hp:ps[i]? = some y:=by
   rw[←S.pre,List.getElem?_take_of_lt (by omega)];exact h1
  have ndP:ps.Nodup:=by rw[←S.pre];exact S.nd.sublist (List.take_sublist _ _)
  refine⟨u,rv,?_⟩
  rcases S.par y (List.mem_of_getElem? hp)with k | k
  ·exact .inl ⟨k,Kc ndP hp hu k⟩
  ·obtain⟨c,e⟩:=Qi (n:=s.heap.objs.size+1) k
   refine .inr ⟨.inl k,c,e,?_⟩
   have q:=x.cell y c e
   rw[Ke ndP hp hu (by show scope.names.lookup y≠_;rw[k];decide)]at q
   exact q
 ·exact e0.hok.fresh (Nat.le_of_lt (x.above y c (PySem.mem_of_lookup h)))
 ·unfold start
  show _=N.length
  rw[List.length_append,List.length_map,List.length_replicate]
  omega
theorem aio{CX:Sy}{P:Program}{w:World}{K:PySem.W.Frag}{mg:Str→Option Value}{base:Heap}{k:Nat}{f:Addr}{name qual:Str}{params:Arguments}{body:List Stmt}{scope:Scope}{dV kV doc pm cdv ct oc:Value}{an od:Option Addr}
  {osl:Array (Option Value)} {N ps:List Str} {sp:Sp} (lk:K.lookup f=some ⟨oc,od,.func (PySem.W.fnOf name qual params body scope dV kV doc pm an cdv ct),osl⟩) (hcd:PySem.W.codeIn K cdv qual=true) (S:aU N ps scope)
  (len:∀vs H Q E,sp vs H Q E→vs.length=ps.length)
  (hbody:∀(A:Around) (outer:List Env) (s:Shared) (H:Hp) (vs:List V) (Q:VK) (E:XK),lQ k (A.deeper (envOfC qual scope s.heap.objs.size f cdv))→sp vs H Q E→
   ∃t,Qp (Bh CX P w K mg base N qual scope f cdv A outer s H E) body t∧t {nx:=fun _ H'=>Q .non H',rt:=Q} (start N vs) H):
  aX P w K mg base CX (k+1) f (PySem.W.fnOf name qual params body scope dV kV doc pm an cdv ct) ps sp:=by
 refine⟨len,fun A outer s H args us vs Q E hr e0 hb r hsp=> ?_⟩
 have hl:=len _ _ _ _ hsp
 have KX:K.In s.heap:=e0.mod.kin.keeps fun b o e=>(e0.bs b o e).1
 have lim:s.heap.NoLimit:=e0.mod.nolimit.keeps fun b o e=>(e0.bs b o e).1
 have hkind:∀y∈ps.zip us,scope.names.lookup y.1=some .local∨(scope.names.lookup y.1=some .cell∧((cellsFrom (s.heap.objs.size+1) scope.names []).lookup y.1).isSome=true):=fun⟨n,v⟩ hy=>by
  rcases S.par n (List.of_mem_zip hy).1 with q | q
  ·exact .inl q
  ·exact .inr ⟨q,PySem.W.cellsFrom_some _ _ _ (.inl q)⟩
 refine codeAny_call_function hr.depth (KX _ _ lk) rfl S.co S.gen rfl (PySem.W.codeRec_of KX hcd) (hb _ _ _ _ ?_)
 refine wpAny_newFunctionEnv_cells S.kind hkind fun env he s1 x=> ?_
 subst he
 refine⟨lim.keeps x.toInCall.keep,codeAny_func ?_⟩
 obtain⟨t,ht,hq⟩:=hbody A outer s H vs Q E (hr.deeper _) hsp
 have I:Inv (Bh CX P w K mg base N qual scope f cdv A outer s H E) [] (start N vs) H s1:=VV S hr.hd e0 hl r x
 refine wpAny_mono (ht [] s1 (start N vs) H _ I hq) (fun fl s' hs=> ?_) fun e s' hs=>hs
 have fin:∀{σ':St} {H':Hp} {v:V} {u:Value},Inv (Bh CX P w K mg base N qual scope f cdv A outer s H E) [] σ' H' s'→RelV v u→Q v H'→CE outer P w H s Q u s':=
  fun{σ' H' v u} J rv q=>⟨v,H',J.os,J.bare,J.base,J.hok,rv,q⟩
 cases fl with
 | ret u=>
  obtain⟨v,σ',H',J,rv,q⟩:=hs
  exact fin J rv q
 | next=>
  obtain⟨σ',H',J,q⟩:=hs
  exact fin (v:=V.non) (u:=Value.none) J rfl q
 | brk=>
  obtain⟨_,_,_,q⟩:=hs
  exact False.elim q
 | cont=>
  obtain⟨_,_,_,q⟩:=hs
  exact False.elim q
end L2
namespace L2
open PySem PySem.Spec PyProof.Rows
section
variable{X:Cx}{x:Str}{p pos:Pos}{e:Expr}{es:List Expr}{t:TA}{id T:String}{r:List V→Hp→VK→Prop}
def tCB(r:List V→Hp→VK→Prop)(t:TA):TE:=fun σ H Q=>t σ H fun vs H1=>r vs H1 Q
theorem Om(hc:mV X (.builtin id) r)(hg:Gl X x)(hm:X.mg x=none)(hv:bootBuiltins x=some (.builtin id))(ha:PA X (e::es) t)(hn:x≠ "__name__" := by decide)(hdb:(x==("__debug__" : Str))=false:=by decide)
  (he:starEach (e::es) X.env=(false,eval e X.env)::starEach es X.env:=by rfl) (hpl:(backTo pos (starEach es X.env)).any (·.1)=false:=by rfl):PE X (.Call (.Name x p) (e::es) [] pos) (tCB r t):=by
 intro pins s σ H Q I h
 refine wpAny_Call_Name_kw (LC I hg hm hv ?_ hn hdb)
 exact PyProof.Rows.callWith_builtin1 (gU (ha pos pins s σ H _ I h) fun us s1 ⟨vs,H1,I1,r1,q1⟩=>hc pins s1 σ H1 vs us Q I1 r1 q1) he hpl
theorem Vq(hc:mV X (.type T) r)(hg:Gl X x)(hm:X.mg x=none)(hv:bootBuiltins x=some (.type T))(ha:PA X (e::es) t)(hn:x≠ "__name__" := by decide)(hdb:(x==("__debug__" : Str))=false:=by decide)
  (he:starEach (e::es) X.env=(false,eval e X.env)::starEach es X.env:=by rfl) (hpl:(backTo pos (starEach es X.env)).any (·.1)=false:=by rfl):PE X (.Call (.Name x p) (e::es) [] pos) (tCB r t):=by
 intro pins s σ H Q I h
 refine wpAny_Call_Name_kw (LC I hg hm hv ?_ hn hdb)
 exact PyProof.Rows.callWith_type1 (gU (ha pos pins s σ H _ I h) fun us s1 ⟨vs,H1,I1,r1,q1⟩=>hc pins s1 σ H1 vs us Q I1 r1 q1) he hpl
end
end L2
namespace HT
open PySem PyProof.Rows
def lexLt:List Int→List Int→Bool
 | [],[]=>false
 | [],_::_=>true
 | _::_,[]=>false
 | x::xs,y::ys=>if x=y then lexLt xs ys else decide (x<y)
theorem bw(x y:Int)(xs ys:List Int):lexLt (x::xs) (y::ys)=if x=y then lexLt xs ys else decide (x<y):=rfl
theorem Jt:lexLt [] []=false:=rfl
theorem Ib(y:Int)(ys:List Int):lexLt [] (y::ys)=true:=rfl
theorem Ie(x:Int)(xs:List Int):lexLt (x::xs) []=false:=rfl
theorem YC(A:Around)(s:Shared)(a:Int)(t:Tok)(c:Int)(u:Tok):∃e,SeqAt.EqAt A s (.int a t) (.int c u) e∧(e=true↔a=c):=
 ⟨(a==c),SeqAt.EqAt.int_int a t c u,by simp⟩
theorem Xm(A:Around)(s:Shared)(a:Int)(t:Tok)(c:Int)(u:Tok)(prog:Program)(w:World)(E:Value→Shared→Prop)(Q:Value→Shared→Prop)(h:Q (.bool (decide (a<c))) s):
  wpAny (model prog w) A (richCompare .Lt (.int a t) (.int c u)) Q E s:=
 (PyProof.Rows.lt_int h:wpAny (model prog w) A (compareOp .Lt (.int a t) (.int c u)) Q E s)
section
open PySem.SeqAt
open PySem.AutoSeq1 (wpAny_loadPart')
open PySem.MeetsSeq PySem.MeetsSeq2 PySem.MeetsSeq3
theorem Jj(l b:Addr)(items items2:Array Value)(n n2:Nat)(dd dd2:Option Addr)(sl sl2:Array (Option Value))(ns ms:List Int)(hi:IntsAre items.toList ns)(hj:IntsAre items2.toList ms):
  Meets (Builtin.«tuple.__lt__» ⟨[.ref l,.ref b],[]⟩)
   (fun _ R s=>s.heap.get? l=some {cls:= .type "tuple",dict:=dd,data:= .seq items n,slots:=sl}∧s.heap.get? b=some {cls:= .type "tuple",dict:=dd2,data:= .seq items2 n2,slots:=sl2}∧
    R (.ok (.ret (.bool (lexLt ns ms)))) s):=
 .of_wp fun prog w A R s h=>by
  obtain⟨hp,g,d,tk,os⟩:=s;obtain⟨hl,hb,h⟩:=h
  have f2:=AutoSeq1.sub_tuple_tuple
  have z1:items.size=ns.length:=by rw[←hi.length];simp
  have z2:items2.size=ms.length:=by rw[←hj.length];simp
  wp_walk using wpAny_loadPart' hl,wpAny_loadPart' hb,wpAny_forIn_list _ (fun rest b s'=>b.1=none∧s'=⟨hp,g,d,tk,os⟩∧∃(vs ws:List Value) (ns' ms':List Int),rest=vs.zip ws∧
   IntsAre vs ns'∧IntsAre ws ms'∧ns'.length+items2.size=ms'.length+items.size∧R (.ok (.ret (.bool (lexLt ns' ms')))) ⟨hp,g,d,tk,os⟩) _
  case turn=>
   rintro⟨y,x⟩ rest b s' ⟨hb',rfl,vs,ws,ns',ms',hz,hvi,hwi,hlen,hR⟩
   cases hvi with
   | nil=>rw[List.zip_nil_left]at hz;cases hz
   | cons a t apV=>
    cases hwi with
    | nil=>rw[List.zip_nil_right]at hz;cases hz
    | cons c u apU=>
     rw[List.zip_cons_cons]at hz
     injection hz with hyx hrest
     injection hyx with hy hx
     subst hy hx
     rw[bw]at hR
     simp only[List.length_cons]at hlen
     obtain⟨e,he,hiff⟩:=YC A.in1 ⟨hp,g,d,tk,os⟩ a t c u
     refine wpAny_bind (he prog w _ _ ?_)
     cases e with
     | true=>
      rw[if_pos (hiff.mp rfl)]at hR
      wp_walk
      exact⟨rfl,rfl,_,_,_,_,hrest,apV,apU,by omega,hR⟩
     | false=>
      rw[if_neg (fun q=>absurd (hiff.mpr q) Bool.false_ne_true)]at hR
      have hri:=Xm A.in1 ⟨hp,g,d,tk,os⟩ a t c u prog w
      wp_walk using hri
      exact⟨_,rfl,by simpa using hR⟩
  case fin=>
   rintro⟨b1,b2⟩ s' ⟨hb',rfl,vs,ws,ns',ms',hz,hvi,hwi,hlen,hR⟩
   simp only at hb'
   subst hb'
   have hv:lexLt ns' ms'=decide (items.size<items2.size):=by
    cases hvi with
    | nil=>
     cases hwi with
     | nil=>
      simp only[List.length_nil]at hlen
      rw[Jt]
      exact(decide_eq_false (by omega)).symm
     | cons c u hw=>
      simp only[List.length_nil,List.length_cons]at hlen
      rw[Ib]
      exact(decide_eq_true (by omega)).symm
    | cons a t hv=>
     cases hwi with
     | nil=>
      simp only[List.length_nil,List.length_cons]at hlen
      rw[Ie]
      exact(decide_eq_false (by omega)).symm
     | cons c u hw=>
      rw[List.zip_cons_cons]at hz
      cases hz
   rw[hv]at hR
   wp_walk
   exact⟨_,rfl,by simpa[Builtin.Tuple.tupleCompareSizes]using hR⟩
  case h=>
   exact⟨rfl,rfl,items.toList,items2.toList,ns,ms,rfl,hi,hj,by omega,h⟩
end
section
variable{prog:Program}{w:World}{A:Around}{E:Value→Shared→Prop}{s:Shared}
theorem H_{l b:Addr}{items items2:Array Value}{ns ms:List Int}{Q:Value→Shared→Prop}(hl:IsTup s.heap l items)(hb:IsTup s.heap b items2)(hi:IntsAre items.toList ns)(hj:IntsAre items2.toList ms)
  (hu:A.units<cLine) (h:Q (.bool (lexLt ns ms)) s):wpAny (model prog w) A (compareOp .Lt (.ref l) (.ref b)) Q E s:=by
 obtain⟨⟨cls,dd,data,sl⟩,ho,hc,n,hd⟩:=id hl
 obtain⟨⟨cls2,dd2,data2,sl2⟩,ho2,hc2,n2,hd2⟩:=id hb
 simp only at hc hd hc2 hd2
 subst hc hd hc2 hd2
 exact richCompare_meets_room (op:= .Lt) ⟨_,ho,rfl⟩ ⟨_,ho2,rfl⟩ PySem.F.slot_tuple_lt PySem.F.entry_tuple_lt (PySem.F.args_tuple_lt_2 _ _) (Jj l b items items2 n n2 dd dd2 sl sl2 ns ms hi hj)
  ⟨ho,ho2,show Value.bool (lexLt ns ms)≠Value.notImplemented∧Q (.bool (lexLt ns ms)) s from⟨(fun x=>nomatch x),h⟩⟩ hu
theorem aa5{t b:Addr}{vs ws:List Value}{Q:Value→Shared→Prop}(ht:IsTup s.heap t vs.toArray)(hb:IsTup s.heap b ws.toArray)(hv:vs≠[])
  (h1:ws=[]→Q (.ref t) s) (h2:ws≠[]→Q (.ref s.heap.objs.size) {s with heap:=s.heap.push {cls:= .type "tuple",data:= .seq (vs++ws).toArray}})
  (hsz:vs.length+ws.length≤sizeLine):wpAny (model prog w) A (binaryOp .Add (.ref t) (.ref b)) Q E s:=by
 obtain⟨⟨cls,dd,data,sl⟩,ho,hc,n,hd⟩:=id ht
 obtain⟨⟨cls2,dd2,data2,sl2⟩,ho2,hc2,n2,hd2⟩:=id hb
 simp only at hc hd hc2 hd2
 subst hc hd hc2 hd2
 have e:vs.toArray++ws.toArray=(vs++ws).toArray:=by simp
 by_cases hw:ws=[]
 ·exact concat_meets ⟨_,ho,rfl⟩ ⟨_,ho2,rfl⟩ noFill_tuple_add seq_tuple_add PySem.F.slot_tuple_add PySem.F.entry_tuple_add (PySem.F.args_tuple_add_2 _ _)
   (tuple_addW1 t b vs.toArray ws.toArray n n2 dd dd2 sl sl2 (by simpa using hv) (by simp[hw])) ⟨ho,ho2,h1 hw⟩
 ·refine concat_meets ⟨_,ho,rfl⟩ ⟨_,ho2,rfl⟩ noFill_tuple_add seq_tuple_add PySem.F.slot_tuple_add PySem.F.entry_tuple_add (PySem.F.args_tuple_add_2 _ _)
   (tuple_addW2 t b vs.toArray ws.toArray n n2 dd dd2 sl sl2 (by simpa using hv) (by simpa using hw) (by rw[List.size_toArray,List.size_toArray];exact hsz)) ⟨ho,ho2,?_⟩
  rw[e]
  exact h2 hw
def aR(n d:Nat):Option Int→Nat
 | none=>d
 | some v=>if v<0 then(v+(n:Int)).toNat else min v.toNat n
theorem acr(n d:Nat)(hd:d≤n)(o:Option Int):aR n d o≤n:=by
 cases o with
 | none=>exact hd
 | some v=>
  show(if v<0 then(v+(n:Int)).toNat else min v.toNat n)≤n
  by_cases hv:v<0
  ·rw[if_pos hv];omega
  ·rw[if_neg hv];exact Nat.min_le_right _ _
theorem Us(v:Int)(n d:Nat):(if v<0 then max (v+(n:Int)) 0 else min v (n:Int))=((aR n d (some v):Nat):Int):=by
 show(if v<0 then max (v+(n:Int)) 0 else min v (n:Int))=(((if v<0 then(v+(n:Int)).toNat else min v.toNat n):Nat):Int)
 by_cases hv:v<0
 ·simp only[if_pos hv];omega
 ·simp only[if_neg hv];omega
theorem R9(lo hi:Option Int)(n:Nat):Builtin.Slice.sliceAdjust lo hi 1 (n:Int)=(((aR n 0 lo:Nat):Int),((aR n n hi:Nat):Int)):=by
 have h1:¬((1:Int)<0):=by omega
 unfold Builtin.Slice.sliceAdjust
 simp only[h1,if_false]
 refine Prod.ext ?_ ?_
 ·cases lo with
  | none=>rfl
  | some v=>exact Us v n 0
 ·cases hi with
  | none=>rfl
  | some v=>exact Us v n n
theorem Q9(i j:Nat):Builtin.Slice.slicePlaces (i:Int) (j:Int) 1=j - i:=by
 unfold Builtin.Slice.slicePlaces
 have h1:(1:Int) > 0:=by omega
 simp only[h1,if_true,Int.ediv_one]
 split<;>omega
theorem G4{v:Value}{o:Option Int}{Q:Option Int→Shared→Prop}(p:IsPart v o)(h:Q o s):wpAny (model prog w) A (Builtin.Slice.slicePartIndex v) Q E s:=by
 cases p with
 | none=>exact slicePart_none h
 | int i t=>exact slicePart_int h
theorem Dp{sl:Addr}{vl vu:Value}{lo hi:Option Int}{n:Nat}{Q:Int×Int×Nat→Shared→Prop}(hs:s.heap.IsSliceOf sl vl vu .none)(pl:IsPart vl lo)(pu:IsPart vu hi)
  (h:Q (((aR n 0 lo:Nat):Int),1,aR n n hi - aR n 0 lo) s):wpAny (model prog w) A (Builtin.Slice.sliceApplied (.ref sl) (pure (n:Int))) Q E s:=by
 obtain⟨os,hos,hcs,hds⟩:=id hs
 unfold Builtin.Slice.sliceApplied Builtin.Slice.sliceFields
 refine wpAny_bind (wpAny_bind (wpAny_field hos hds (x:=vl) rfl (wpAny_bind (wpAny_field hos hds (x:=vu) rfl (wpAny_bind (wpAny_field hos hds (x:= .none) rfl (wpAny_pure ?_)))))))
 refine wpAny_bind (slicePart_none ?_)
 show wpAny _ _ (if((1:Int)==0)=true then _ else _) _ _ s
 rw[if_neg (by decide)]
 refine wpAny_bind (G4 pl (wpAny_bind (G4 pu (wpAny_bind (wpAny_pure ?_)))))
 show wpAny _ _ (match Builtin.Slice.sliceAdjust lo hi 1 (n:Int)with | (lo,hi)=>pure (lo,(1:Int),Builtin.Slice.slicePlaces lo hi 1)) _ _ s
 rw[R9 lo hi n]
 show wpAny _ _ (pure (((aR n 0 lo:Nat):Int),(1:Int),Builtin.Slice.slicePlaces ((aR n 0 lo:Nat):Int) ((aR n n hi:Nat):Int) 1)) _ _ s
 rw[Q9]
 exact wpAny_pure h
theorem Xv(xs:Array Value)(i k:Nat):((List.range k).filterMap fun(m:Nat)=>xs[((i:Int)+(m:Int)*1).toNat]?).toArray=((xs.toList.drop i).take k).toArray:=by
 have e:(fun(m:Nat)=>xs[((i:Int)+(m:Int)*1).toNat]?)=fun m=>xs[i+m]? := by
  funext m
  have:((i:Int)+(m:Int)*1).toNat=i+m:=by omega
  rw[this]
 rw[e]
 have:=pick_run xs i k
 rw[List.filterMap_map]at this
 have e2:((fun x=>xs[x]?)∘fun x=>i+x)=fun m=>xs[i+m]? := rfl
 rw[e2]at this
 rw[this]
theorem Cz{t sl:Addr}{items:Array Value}{vl vu:Value}{lo hi:Option Int}{Q:Value→Shared→Prop}(ht:IsTup s.heap t items)(hs:s.heap.IsSliceOf sl vl vu .none)(pl:IsPart vl lo)(pu:IsPart vu hi)
  (hw:¬(aR items.size 0 lo=0∧aR items.size items.size hi=items.size))
  (h:Q (.ref s.heap.objs.size) {s with heap:=s.heap.push {cls:= .type "tuple",data:= .seq ((items.toList.drop (aR items.size 0 lo)).take (aR items.size items.size hi - aR items.size 0 lo)).toArray}})
  (hsz:items.size≤sizeLine):wpAny (model prog w) A (getItem (.ref t) (.ref sl)) Q E s:=by
 have Ug:sizeOk (.seq ((items.toList.drop (aR items.size 0 lo)).take (aR items.size items.size hi - aR items.size 0 lo)).toArray):=by
  show((items.toList.drop (aR items.size 0 lo)).take (aR items.size items.size hi - aR items.size 0 lo)).toArray.size≤sizeLine
  rw[List.size_toArray,List.length_take,List.length_drop,Array.length_toList]
  omega
 have hj:aR items.size items.size hi≤items.size:=acr _ _ (Nat.le_refl _) hi
 obtain⟨os,hos,hcs,hds⟩:=id hs
 have hTs:s.TypeIs (.ref sl) "slice" := ⟨os,hos,hcs⟩
 unfold getItem
 try with_reducible refine wpAny_holding ?_
 first | refine wpAny_bind (wpAny_pure ?_) | skip
 refine wpAny_bind (wpAny_sequenceKey ht.typeIs (by decide) ?_)
 refine wpAny_bind (wpAny_callSpecial?_slot (name:=Str.ofString "__getitem__") ht.typeIs PyProof.Rows.slot_tuple_getitem
  (wpAny_call_entry PyProof.Rows.slot_tuple_getitem ht.typeIs entry_tuple_getitem ?_ (args_tuple_getitem _ _)))
 show wpAny _ _ (Builtin.Tuple.tupleItemsOf (.ref t) >>= _) _ _ s
 refine wpAny_bind (tupleItemsOf_ ht ?_)
 refine wpAny_bind (wpAny_typeOf hTs ?_)
 rw[if_pos (by decide)]
 refine wpAny_bind (Dp hs pl pu ?_)
 have hno:¬((((aR items.size 0 lo:Nat):Int)==0&&(1:Int)==1&&(aR items.size items.size hi - aR items.size 0 lo)==items.size)=true):=by
  intro q
  rw[Bool.and_eq_true,Bool.and_eq_true]at q
  have q1:((aR items.size 0 lo:Nat):Int)=0:=eq_of_beq q.1.1
  have q2:aR items.size items.size hi - aR items.size 0 lo=items.size:=eq_of_beq q.2
  exact hw ⟨by omega,by omega⟩
 show wpAny _ _ (if(((aR items.size 0 lo:Nat):Int)==0&&(1:Int)==1&&(aR items.size items.size hi - aR items.size 0 lo)==items.size)=true then _ else _) _ _ s
 rw[if_neg hno,Xv]
 first
  | exact wpAny_bind (m:=Builtin.Tuple.tupleExact _) (wpAny_newObj_type (wpAny_pure ⟨_,rfl,wpAny_pure h⟩) Ug)
  | exact wpAny_bind (m:=Builtin.Tuple.tupleExact _) (wpAny_newObj_type (wpAny_bind (wpAny_pure (wpAny_pure ⟨_,rfl,wpAny_pure h⟩))) Ug)
  | exact wpAny_bind (wpAny_bind (m:=Builtin.Tuple.tupleExact _) (wpAny_newObj_type (wpAny_pure (wpAny_pure ⟨_,rfl,wpAny_pure h⟩)) Ug))
  | exact wpAny_bind (wpAny_bind (m:=Builtin.Tuple.tupleExact _) (wpAny_newObj_type (wpAny_pure ⟨_,rfl,wpAny_pure h⟩) Ug))
end
end HT
namespace L2
open PySem PySem.Spec PyProof.Rows
abbrev TO:=St→Hp→(Option Int→Hp→Prop)→Prop
def PO(X:Cx)(e:Option Expr)(t:TO):Prop:=
 ∀(pins:List (Addr×Obj)) (s:Shared) (σ:St) (H:Hp) (Q:Option Int→Hp→Prop),Inv X pins σ H s→t σ H Q→
  wpAny (model X.prog X.w) X.A (evalPart e X.env) (fun u s'=>∃o H',Inv X pins σ H' s'∧IsPart u o∧Q o H') X.xe s
def Zu:TO:=fun _ H Q=>Q none H
def afu(t:TE):TO:=fun σ H Q=>t σ H fun x H1=>∃i,x= .int i∧Q (some i) H1
theorem intsAre_of{ns:List Int}:∀{us:List Value},Vals (ns.map V.int) us→IntsAre us ns:=by
 induction ns with
 | nil=>intro us r;rw[List.map_nil]at r;cases r;exact .nil
 | cons n ns ih=>
  intro us r
  rw[List.map_cons]at r
  cases r with
  | cons r1 r2=>
   obtain⟨t,e⟩:=r1
   subst e
   exact .cons n t (ih r2)
section
variable{X:Cx}{e:Expr}{te:TE}{lo hi:Option Expr}{tl th:TO}{pos p2:Pos}
theorem aab:PO X none Zu:=by
 intro pins s σ H Q I h
 rw[evalPart_none]
 exact wpAny_pure ⟨none,H,I,.none,h⟩
theorem aaa(h:PE X e te):PO X (some e) (afu te):=by
 intro pins s σ H Q I hw
 rw[evalPart_some]
 refine gU (h pins s σ H _ I hw) fun u s1 ⟨x,H1,I1,r1,q1⟩=> ?_
 obtain⟨i,rfl,q⟩:=q1
 obtain⟨t,rfl⟩:=r1
 exact⟨some i,H1,I1,.int i t,q⟩
def SlR(X:Cx)(r:V→Option Int→Option Int→Hp→VK→Prop):Prop:=
 ∀(pins:List (Addr×Obj)) (s:Shared) (σ:St) (H:Hp) (x:V) (v vl vu:Value) (lo hi:Option Int) (sl:Addr) (Q:VK),Inv X pins σ H s→RelV x v→s.heap.IsSliceOf sl vl vu .none→IsPart vl lo→IsPart vu hi→r x lo hi H Q→
  ∃T id,typeLookup (.type T) "__getitem__" = pure (some (.builtin id))∧s.TypeIs v T∧wpAny (model X.prog X.w) X.A (getItem v (.ref sl)) (EP X pins σ Q) X.xe s
theorem SlR.or{r r':V→Option Int→Option Int→Hp→VK→Prop}(h:SlR X r)(h':SlR X r'):SlR X (fun x lo hi H Q=>r x lo hi H Q∨r' x lo hi H Q):=by
 intro pins s σ H x v vl vu lo hi sl Q I rx hs pl pu q
 rcases q with q | q
 ·exact h pins s σ H x v vl vu lo hi sl Q I rx hs pl pu q
 ·exact h' pins s σ H x v vl vu lo hi sl Q I rx hs pl pu q
def tSl(r:V→Option Int→Option Int→Hp→VK→Prop)(te:TE)(tl th:TO):TE:=fun σ H Q=>te σ H fun x H1=>tl σ H1 fun l H2=>th σ H2 fun u H3=>r x l u H3 Q
theorem Xy{r:V→Option Int→Option Int→Hp→VK→Prop}(hr:SlR X r)(he:PE X e te)(hl:PO X lo tl)(hu:PO X hi th):PE X (.Subscript e (.Slice lo hi none p2) pos) (tSl r te tl th):=by
 intro pins s σ H Q I h
 refine Subscript_ (gU (he pins s σ H _ I h) fun v s1 ⟨x,H1,I1,r1,q1⟩=> ?_)
 refine wpAny_Slice (gU (hl pins s1 σ H1 _ I1 q1) fun vl s2 ⟨l,H2,I2,pl,q2⟩=>gU (hu pins s2 σ H2 _ I2 q2) fun vu s3 ⟨u,H3,I3,pu,q3⟩=> ?_)
 rw[evalPart_none]
 refine wpAny_pure ?_
 have I4:Inv X pins σ H3 {s3 with heap:=s3.heap.push {cls:= .type "slice",data:= .fields #[vl,vu,.none]}}:=I3.kept (t':=s3.toks) fun b ob q=>Heap.get?_push_of_some _ q
 obtain⟨T,id,hT,ht,hg⟩:=hr pins {s3 with heap:=s3.heap.push {cls:= .type "slice",data:= .fields #[vl,vu,.none]}} σ H3 x v vl vu l u s3.heap.objs.size Q I4 r1 (Heap.IsSliceOf.new ..) pl pu q3
 show wpAny (model X.prog X.w) X.A (subscriptTail e (.Slice lo hi none p2) v (.ref s3.heap.objs.size)) (EP X pins σ Q) X.xe {s3 with heap:=s3.heap.push {cls:= .type "slice",data:= .fields #[vl,vu,.none]}}
 exact tail_any (ops:=[.ref s3.heap.objs.size,v]) ht hT hg (by with_unfolding_all rfl)
def Qa(xs:List V)(lo hi:Option Int):List V:=(xs.drop (HT.aR xs.length 0 lo)).take (HT.aR xs.length xs.length hi - HT.aR xs.length 0 lo)
theorem Fg(xs:List V)(lo hi:Option Int):(Qa xs lo hi).length≤xs.length:=by
 unfold Qa
 rw[List.length_take,List.length_drop]
 omega
def aoc(K:PySem.W.Frag):V→Option Int→Option Int→Hp→VK→Prop:=fun x lo hi H Q=>∃a xs,x= .ref a∧vK K H a xs∧
 ¬(HT.aR xs.length 0 lo=0∧HT.aR xs.length xs.length hi=xs.length)∧∀p,H p=none→Q (.ref p) (upd H p (.tup (Qa xs lo hi)))
theorem acd:SlR X (aoc X.K):=by
 intro pins s σ H x v vl vu lo hi sl Q I rx hs pl pu h
 obtain⟨a,xs,rfl,hx,hw,q⟩:=h
 cases rx
 obtain⟨its,r,ht,hz⟩:=I.tuple hx
 have hlen:its.toArray.size=xs.length:=by rw[List.size_toArray];exact r.length.symm
 refine⟨"tuple",_,PyProof.Rows.slot_tuple_getitem.lookup,ht.typeIs,?_⟩
 refine HT.Cz ht hs pl pu (by rw[hlen];exact hw) ?_ (by rw[hlen];exact hz)
 rw[hlen]
 refine⟨.ref s.heap.objs.size,_,I.laid (t':=s.toks) (o:= .tup (Qa xs lo hi)) (fun b ob q=>Heap.get?_push_of_some _ q) (Nat.le_refl _) ?_,rfl,q _ (I.hok.fresh (Nat.le_refl _))⟩
 exact⟨Nat.le_trans (Fg xs lo hi) hz,_,(r.drop (HT.aR xs.length 0 lo)).take (HT.aR xs.length xs.length hi - HT.aR xs.length 0 lo),IsTup.new _ _⟩
def aog(K:PySem.W.Frag):R2:=fun x y H Q=>∃a b ns ms,x= .ref a∧y= .ref b∧vK K H a (ns.map V.int)∧vK K H b (ms.map V.int)∧Q (.bl (HT.lexLt ns ms)) H
theorem ac8(hu:X.A.units<cLine):yu X (compareOp .Lt) (aog X.K):=by
 intro pins s σ H x y v u Q I rx ry h
 obtain⟨a,b,ns,ms,rfl,rfl,ha,hb,q⟩:=h
 cases rx
 cases ry
 obtain⟨its,r1,p1,_⟩:=I.tuple ha
 obtain⟨its2,r2,p2,_⟩:=I.tuple hb
 have i1:IntsAre its.toArray.toList ns:=intsAre_of r1
 have i2:IntsAre its2.toArray.toList ms:=intsAre_of r2
 exact HT.H_ p1 p2 i1 i2 hu ⟨.bl (HT.lexLt ns ms),H,I,rfl,q⟩
def af9(K:PySem.W.Frag):R2:=fun x y H Q=>∃a b xs ys,x= .ref a∧y= .ref b∧vK K H a xs∧vK K H b ys∧xs≠[]∧xs.length+ys.length≤sizeLine∧
 (ys=[]→Q (.ref a) H)∧(ys≠[]→∀p,H p=none→Q (.ref p) (upd H p (.tup (xs++ys))))
theorem Vals.Lq{xs:List V}{us:List Value}(r:Vals xs us):us=[]↔xs=[]:=by
 cases r with
 | nil=>simp
 | cons _ _=>simp
theorem aaj:yu X (binaryOp .Add) (af9 X.K):=by
 intro pins s σ H x y v u Q I rx ry h
 obtain⟨a,b,xs,ys,rfl,rfl,ha,hb,hx,hz,q1,q2⟩:=h
 cases rx
 cases ry
 obtain⟨its,r1,p1,_⟩:=I.tuple ha
 obtain⟨its2,r2,p2,_⟩:=I.tuple hb
 refine HT.aa5 p1 p2 (fun z=>hx (r1.Lq.mp z)) (fun z=>⟨.ref a,H,I,rfl,q1 (r2.Lq.mp z)⟩) (fun z=> ?_) (by rw[←r1.length,←r2.length];exact hz)
 refine⟨.ref s.heap.objs.size,_,I.laid (t':=s.toks) (o:= .tup (xs++ys)) (fun b ob q=>Heap.get?_push_of_some _ q) (Nat.le_refl _) ?_,rfl,q2 (fun w=>z (r2.Lq.mpr w)) _ (I.hok.fresh (Nat.le_refl _))⟩
 exact⟨by rw[List.length_append];exact hz,_,r1.append r2,IsTup.new _ _⟩
end
end L2
namespace L2
open PySem PySem.Spec PyProof.Rows
def ixN(n:Nat)(i:Int):Option Nat:=if 0≤i then(if i<n then some i.toNat else none)else if -(n:Int)≤i then some (i+n).toNat else none
def Jw{α:Type}(xs:List α)(i:Int):Option α:=(ixN xs.length i).bind fun j=>xs[j]?
theorem Ub{n:Nat}{i:Int}{j:Nat}(h:ixN n i=some j):seqIndex? i n=some j∧j<n∧ -(n:Int)≤i∧i<n:=by
 unfold ixN at h
 by_cases h0:0≤i
 ·rw[if_pos h0]at h
  by_cases h1:i<n
  ·rw[if_pos h1]at h
   have e:i.toNat=j:=Option.some.inj h
   exact⟨by rw[seqIndex_of h0 h1,e],by omega,by omega,h1⟩
  ·rw[if_neg h1]at h;cases h
 ·rw[if_neg h0]at h
  by_cases h1: -(n:Int)≤i
  ·rw[if_pos h1]at h
   have e:(i+n).toNat=j:=Option.some.inj h
   exact⟨by rw[seqIndex_neg (by omega) h1,e],by omega,h1,by omega⟩
  ·rw[if_neg h1]at h;cases h
theorem MK{α:Type}{xs:List α}{i:Int}{v:α}(h:Jw xs i=some v):∃j,seqIndex? i xs.length=some j∧xs[j]? = some v∧j<xs.length∧ -(xs.length:Int)≤i∧i<xs.length:=by
 unfold Jw at h
 cases e:ixN xs.length i with
 | none=>rw[e]at h;cases h
 | some j=>
  rw[e]at h
  obtain⟨h1,h2,h3,h4⟩:=Ub e
  exact⟨j,h1,h,h2,h3,h4⟩
def UJ(b:Expr):Prop:=∀o i,subscripted b false o i=operate [o,i] (getItem o i)
def IxR(X:Cx)(r:R2):Prop:=
 ∀(value slice:Expr) (pins:List (Addr×Obj)) (s:Shared) (σ:St) (H:Hp) (x y:V) (v u:Value) (Q:VK),Inv X pins σ H s→RelV x v→RelV y u→r x y H Q→
  subscripted slice false v u=operate [v,u] (getItem v u)→wpAny (model X.prog X.w) X.A (subscriptTail value slice v u) (EP X pins σ Q) X.xe s
def MtR(X:Cx)(id:String)(r:V→List V→Hp→VK→Prop):Prop:=
 ∀(pins:List (Addr×Obj)) (s:Shared) (σ:St) (H:Hp) (x:V) (xs:List V) (v:Value) (us:List Value) (Q:VK),Inv X pins σ H s→RelV x v→Vals xs us→r x xs H Q→
  wpAny (model X.prog X.w) X.A (call (.builtin id) (v::us)) (EP X pins σ Q) X.xe s
section
variable{X:Cx}{a b:Expr}{ta tb:TE}{pos:Pos}
theorem IxR.or{r r':R2}(h:IxR X r)(h':IxR X r'):IxR X (fun x y H Q=>r x y H Q∨r' x y H Q):=by
 intro value slice pins s σ H x y v u Q I rx ry q hs
 rcases q with q | q
 ·exact h value slice pins s σ H x y v u Q I rx ry q hs
 ·exact h' value slice pins s σ H x y v u Q I rx ry q hs
theorem agL{r:R2}(hr:IxR X r)(ha:PE X a ta)(hb:PE X b tb)(hs:UJ b):PE X (.Subscript a b pos) (tOp r ta tb):=by
 intro pins s σ H Q I h
 exact Subscript_ (aeK ha hb I h fun v u s2 x y H2 I2 rx ry q=>hr a b pins s2 σ H2 x y v u Q I2 rx ry q (hs _ _))
def af7(K:PySem.W.Frag):R2:=fun x y H Q=>∃p xs i v,x= .ref p∧y= .int i∧yt K H p xs∧Jw xs i=some v∧Q v H
def af5(K:PySem.W.Frag):R2:=fun x y H Q=>∃p xs i v,x= .ref p∧y= .int i∧vK K H p xs∧Jw xs i=some v∧Q v H
def af6:R2:=fun x y H Q=>∃z i c,x= .str z∧y= .int i∧z.length≤sizeLine∧Jw z.cps.toList i=some c∧Q (.str ⟨#[c]⟩) H
theorem aaF:IxR X (af7 X.K):=by
 intro value slice pins s σ H x y v u Q I rx ry h hs
 obtain⟨p,xs,i,z,rfl,rfl,hq,he,q⟩:=h
 cases rx
 obtain⟨t,rfl⟩:=ry
 obtain⟨its,r,pl,hz⟩:=I.list hq
 obtain⟨j,h1,h2,h3,h4,h5⟩:=MK he
 obtain⟨w,ew,rw'⟩:=r.get h2
 have hl:=r.length
 have hn:=DR
 have fin:EP X pins σ Q w s:=⟨z,H,I,rw',q⟩
 by_cases h0:0≤i
 ·have hj:i.toNat=j:=by
   rw[seqIndex_of h0 h5]at h1
   exact Option.some.inj h1
  exact item_listR pl.isList h0 (by omega) (by rw[hj];simpa using ew) fin hs
 ·have hj:(i+(its.toArray.size:Int)).toNat=j:=by
   rw[seqIndex_neg (by omega) h4]at h1
   rw[List.size_toArray,←hl]
   exact Option.some.inj h1
  exact subscriptTail_builtinR (x:=w) pl.isList.typeIs slot_list_getitem.lookup
   (wpAny_getItem_list_neg (Q:=fun r s'=>r=w∧EP X pins σ Q r s') pl.isList (by omega) (by rw[List.size_toArray]<;>omega) (by omega) (by rw[hj];simpa using ew) ⟨rfl,fin⟩) hs
theorem adz:IxR X (af5 X.K):=by
 intro value slice pins s σ H x y v u Q I rx ry h hs
 obtain⟨p,xs,i,z,rfl,rfl,hq,he,q⟩:=h
 cases rx
 obtain⟨t,rfl⟩:=ry
 obtain⟨its,r,pl,hz⟩:=I.tuple hq
 obtain⟨j,h1,h2,h3,h4,h5⟩:=MK he
 obtain⟨w,ew,rw'⟩:=r.get h2
 have hl:=r.length
 have hn:=DR
 have fin:EP X pins σ Q w s:=⟨z,H,I,rw',q⟩
 exact subscriptTail_builtinR (x:=w) pl.typeIs slot_tuple_getitem.lookup
  (getItem_tuple (j:=j) (Q:=fun r s'=>r=w∧EP X pins σ Q r s') pl (by omega) (by omega) (by rw[List.size_toArray,←hl];exact h1) (by simpa using ew) ⟨rfl,fin⟩) hs
theorem adA:IxR X af6:=by
 intro value slice pins s σ H x y v u Q I rx ry h hs
 obtain⟨z,i,c,rfl,rfl,hz,he,q⟩:=h
 obtain⟨t,rfl⟩:=rx
 obtain⟨t',rfl⟩:=ry
 obtain⟨j,h1,h2,h3,h4,h5⟩:=MK he
 have hl:z.cps.toList.length=z.length:=by simp[Str.length]
 rw[hl]at h1 h4 h5
 have hn:=DR
 exact tail_any (typeIs_str s z t) slot_str_getitem.lookup (getItem_str (c:=c) (by
  have e1:decide (i< -(2 ^ 63:Int))=false:=decide_eq_false (by omega)
  have e2:decide (i≥2 ^ 63)=false:=decide_eq_false (by omega)
  rw[e1,e2,Bool.or_false]) (by rw[h1];simpa using h2) ⟨.str ⟨#[c]⟩,H,I.tok _,⟨_,rfl⟩,q⟩) hs
theorem Rm(its:List Value)(n j:Nat)(u:Value):Obj.mapSeq (·.setIfInBounds j u) {cls:= .type "list",data:= .seq its.toArray n}={cls:= .type "list",data:= .seq (its.set j u).toArray n}:=by
 simp[Obj.mapSeq]
theorem Inv.lst{pins:List (Addr×Obj)}{σ:St}{H:Hp}{s:Shared}{p:Addr}{xs:List V}(I:Inv X pins σ H s)(h:H p=some (.lst xs)):
  ∃(its:List Value) (n:Nat),Vals xs its∧s.heap.get? p=some {cls:= .type "list",data:= .seq its.toArray n}∧xs.length≤sizeLine:=by
 obtain⟨z,its,n,r,e⟩:=I.hok p _ h
 exact⟨its,n,r,e,z⟩
theorem Inv.adm{pins:List (Addr×Obj)}{σ:St}{H:Hp}{s:Shared}{p:Addr}{xs ys:List V}{its its':List Value}{n n':Nat}{f:Obj→Obj}(I:Inv X pins σ H s)(h:H p=some (.lst xs))
  (ho:s.heap.get? p=some {cls:= .type "list",data:= .seq its.toArray n}) (hf:f {cls:= .type "list",data:= .seq its.toArray n}={cls:= .type "list",data:= .seq its'.toArray n'}) (r:Vals ys its') (hz:ys.length≤sizeLine) (t:Nat):
  Inv X pins σ (upd H p (.lst ys)) {s with heap:=s.heap.update p f,toks:=t}:=by
 have e:(s.heap.update p f).get? p=some {cls:= .type "list",data:= .seq its'.toArray n'}:=by
  rw[Heap.get?_update_self f ho (by rw[hf]<;>rfl),hf]
 refine I.write (x:=p) (e:=p) (by rw[h];trivial) (.inl rfl) (fun b u hb q=>(Heap.get?_update_other _ _ (Ne.symm hb)).trans q) ⟨_,e⟩ ?_
 exact⟨hz,its',n',r,e⟩
def abq:V→V→V→Hp→(Hp→Prop)→Prop:=fun o i v H Q=>∃p xs k j,o= .ref p∧i= .int k∧H p=some (.lst xs)∧ixN xs.length k=some j∧Q (upd H p (.lst (xs.set j v)))
theorem set_list:aqB X abq:=by
 intro pins s σ H o i v ov iv u Q I ro ri rv h
 obtain⟨p,xs,k,j,rfl,rfl,hp,hj,q⟩:=h
 cases ro
 obtain⟨t,rfl⟩:=ri
 obtain⟨its,n,r,ho,hz⟩:=I.lst hp
 obtain⟨h1,h2,h3,h4⟩:=Ub hj
 have hl:=r.length
 have hn:=DR
 have I':Inv X pins σ (upd H p (.lst (xs.set j v))) {s with heap:=s.heap.update p (Obj.mapSeq (·.setIfInBounds j u))}:=
  I.adm hp ho (Rm its n j u) (r.set rv j) (by rw[List.length_set];exact hz) s.toks
 by_cases h0:0≤k
 ·have hk:k.toNat=j:=by
   rw[seqIndex_of h0 h4]at h1
   exact Option.some.inj h1
  exact PySem.W.ki_setAt ho h0 (by omega) (by rw[List.size_toArray,←hl];exact h4) (by rw[hk];exact⟨_,I',q⟩)
 ·have hk:(k+(its.toArray.size:Int)).toNat=j:=by
   rw[seqIndex_neg (by omega) h3]at h1
   rw[List.size_toArray,←hl]
   exact Option.some.inj h1
  exact PySem.W.ki_setBack ho (by omega) (by rw[List.size_toArray,←hl];exact h3) (by omega) (by rw[hk];exact⟨_,I',q⟩)
theorem Kz(lo hi:Option Int)(n:Nat):(sliceBounds lo hi none n).1=((HT.aR n 0 lo:Nat):Int)∧(sliceBounds lo hi none n).2.1=((HT.aR n n hi:Nat):Int)∧(sliceBounds lo hi none n).2.2=1:=by
 refine⟨?_,?_,rfl⟩
 ·cases lo with
  | none=>simp[sliceBounds,HT.aR]
  | some i=>
   simp only[sliceBounds,HT.aR,Option.getD_none,show(1:Int) > 0 by decide,if_true]
   by_cases h:i<0
   ·simp only[h,if_true]<;>omega
   ·simp only[h,if_false]<;>omega
 ·cases hi with
  | none=>simp[sliceBounds,HT.aR]
  | some i=>
   simp only[sliceBounds,HT.aR,Option.getD_none,show(1:Int) > 0 by decide,if_true]
   by_cases h:i<0
   ·simp only[h,if_true]<;>omega
   ·simp only[h,if_false]<;>omega
theorem Jk(its:List Value)(lo hi:Option Int):slicePick its.toArray lo hi none=((its.drop (HT.aR its.length 0 lo)).take (HT.aR its.length its.length hi - HT.aR its.length 0 lo)).toArray:=by
 obtain⟨h1,h2,h3⟩:=Kz lo hi its.toArray.size
 unfold slicePick
 rw[h1,h2,h3]
 simp only[sliceRange_one,pick_run,List.size_toArray]<;>rfl
def aoe(K:PySem.W.Frag):V→Option Int→Option Int→Hp→VK→Prop:=fun x lo hi H Q=>∃a xs,x= .ref a∧yt K H a xs∧∀p,H p=none→Q (.ref p) (upd H p (.lst (Qa xs lo hi)))
theorem Zz:SlR X (aoe X.K):=by
 intro pins s σ H x v vl vu lo hi sl Q I rx hs pl pu h
 obtain⟨a,xs,rfl,hx,q⟩:=h
 cases rx
 obtain⟨its,r,ht,hz⟩:=I.list hx
 have hlen:=r.length
 refine⟨"list",_,slot_list_getitem.lookup,ht.isList.typeIs,?_⟩
 refine wpAny_getItem_list_slice ht.isList hs pl pu .none (by simp) ?_ (by rw[List.size_toArray]<;>omega)
 rw[Jk,←hlen]
 refine⟨.ref s.heap.objs.size,_,I.laid (t':=s.toks) (o:= .lst (Qa xs lo hi)) (fun b ob q=>Heap.get?_push_of_some _ q) (Nat.le_refl _) ?_,rfl,q _ (I.hok.fresh (Nat.le_refl _))⟩
 exact⟨Nat.le_trans (Fg xs lo hi) hz,_,0,(r.drop (HT.aR xs.length 0 lo)).take (HT.aR xs.length xs.length hi - HT.aR xs.length 0 lo),Heap.get?_push_size _ rfl⟩
theorem Mz:mV X (.builtin "len") (fun xs H Q=>∃p ys,xs=[.ref p]∧(yt X.K H p ys∨vK X.K H p ys)∧Q (.int ys.length) H):=by
 intro pins s σ H xs us Q I r h
 obtain⟨p,ys,rfl,hq,q⟩:=h
 obtain⟨u,rfl,rx⟩:=vals1 r
 cases rx
 have hn:=DR
 rcases hq with hq | hq
 ·obtain⟨its,r',pl,hz⟩:=I.list hq
  have hlen:=r'.length
  exact Calls.call_len_list pl.isList (by simp only[List.size_toArray]<;>omega) ⟨.int ys.length,H,I.tok _,⟨s.toks+1,by rw[List.size_toArray,hlen]⟩,q⟩
 ·obtain⟨its,r',pl,hz⟩:=I.tuple hq
  have hlen:=r'.length
  exact len_tuple pl (by simp only[List.size_toArray]<;>omega) ⟨.int ys.length,H,I.tok _,⟨s.toks+1,by rw[List.size_toArray,hlen]⟩,q⟩
theorem Mx:mV X (.builtin "len") (fun xs H Q=>∃z,xs=[.str z]∧z.length≤sizeLine∧Q (.int z.length) H):=by
 intro pins s σ H xs us Q I r h
 obtain⟨z,rfl,hz,q⟩:=h
 obtain⟨u,rfl,t,rfl⟩:=vals1 r
 have hn:=DR
 exact len_str (by omega) ⟨.int z.length,H,I.tok _,⟨_,rfl⟩,q⟩
theorem mV.or{f:Value}{r r':List V→Hp→VK→Prop}(h:mV X f r)(h':mV X f r'):mV X f (fun xs H Q=>r xs H Q∨r' xs H Q):=by
 intro pins s σ H xs us Q I rs q
 rcases q with q | q
 ·exact h pins s σ H xs us Q I rs q
 ·exact h' pins s σ H xs us Q I rs q
theorem Mw:mV X (.type "list") (fun xs H Q=>∃p ys,xs=[.ref p]∧(yt X.K H p ys∨vK X.K H p ys)∧∀l,H l=none→Q (.ref l) (upd H l (.lst ys))):=by
 intro pins s σ H xs us Q I r h
 obtain⟨p,ys,rfl,hq,q⟩:=h
 obtain⟨u,rfl,rx⟩:=vals1 r
 cases rx
 have fin:∀(its:List Value),Vals ys its→ys.length≤sizeLine→∀(h':Heap) (c':Nat),(∀b o',s.heap.get? b=some o'→h'.get? b=some o')→
   h'.get? s.heap.objs.size=some {cls:= .type "list",dict:=none,data:= .seq its.toArray c',slots:= #[]}→EP X pins σ Q (.ref s.heap.objs.size) {s with heap:=h'}:=fun its r' hz h' c' kp e=>
  ⟨.ref s.heap.objs.size,_,I.laid (t':=s.toks) kp (Nat.le_refl _) (show dg X.prog X.w _ h' _ (.lst ys)from⟨hz,its,c',r',e⟩),rfl,q _ (I.hok.fresh (Nat.le_refl _))⟩
 rcases hq with hq | hq
 ·obtain⟨its,r',pl,hz⟩:=I.list hq
  have hlen:=r'.length
  obtain⟨o,ho,hc,n,hd⟩:=pl.isList
  exact call_list_seq p (.inl rfl) ho hc hd (fun h' c' kp e=>fin its r' hz h' c' kp e) (by simp only[List.size_toArray]<;>omega)
 ·obtain⟨its,r',pl,hz⟩:=I.tuple hq
  have hlen:=r'.length
  obtain⟨o,ho,hc,n,hd⟩:=pl
  exact call_list_seq p (.inr rfl) ho hc hd (fun h' c' kp e=>fin its r' hz h' c' kp e) (by simp only[List.size_toArray]<;>omega)
theorem Jv:mV X (.type "tuple") (fun xs H Q=>∃p ys,xs=[.ref p]∧((yt X.K H p ys∧∀l,H l=none→Q (.ref l) (upd H l (.tup ys)))∨(vK X.K H p ys∧Q (.ref p) H))):=by
 intro pins s σ H xs us Q I r h
 obtain⟨p,ys,rfl,h⟩:=h
 obtain⟨u,rfl,rx⟩:=vals1 r
 cases rx
 rcases h with⟨hq,q⟩ | ⟨hq,q⟩
 ·obtain⟨its,r',pl,hz⟩:=I.list hq
  have hlen:=r'.length
  refine call_tuple_list pl.isList (fun h' kp=> ?_) (by simp only[List.size_toArray]<;>omega)
  have I1:Inv X pins σ H {s with heap:=h'}:=I.kept (t':=s.toks) kp
  have I2:Inv X pins σ (upd H h'.objs.size (.tup ys)) {s with heap:=h'.push {cls:= .type "tuple",data:= .seq its.toArray}}:=
   I1.laid (t':=s.toks) (fun b o e=>Heap.get?_push_of_some _ e) (Nat.le_refl _) (show dg X.prog X.w _ _ _ (.tup ys)from⟨hz,its,r',IsTup.new _ _⟩)
  exact⟨.ref h'.objs.size,_,I2,rfl,q _ (I1.hok.fresh (Nat.le_refl _))⟩
 ·obtain⟨its,r',pl,hz⟩:=I.tuple hq
  exact call_tuple_same pl ⟨.ref p,H,I,rfl,q⟩
def tyV(K:PySem.W.Frag)(T:String)(x:V)(H:Hp):Prop:=match x with
 | .str _=>T= "str"
 | .int _=>T= "int"
 | .ref p=>(T= "list" ∧ ∃xs,yt K H p xs)∨(T= "tuple" ∧ ∃o,K.lookup p=some o∧o.cls= .type "tuple" ∧ o.dict=none)∨
   (T= "dict" ∧ ((∃kvs,H p=some (.dK kvs))∨∃kvs,H p=some (.dT kvs)))∨(T= "set" ∧ ∃S n,H p=some (.set S n))
 | _=>False
theorem WW{pins:List (Addr×Obj)}{σ:St}{H:Hp}{s:Shared}{T:String}{x:V}{v:Value}(I:Inv X pins σ H s)(r:RelV x v)(ty:tyV X.K T x H):
  s.TypeIs v T∧∀a,v= .ref a→∃ob,s.heap.get? a=some ob∧ob.dict=none:=by
 cases x with
 | str z=>
  obtain⟨t,rfl⟩:=r
  cases(show T= "str" from ty)
  exact⟨typeIs_str s z t,fun _ e=>nomatch e⟩
 | int i=>
  obtain⟨t,rfl⟩:=r
  cases(show T= "int" from ty)
  exact⟨typeIs_int s i t,fun _ e=>nomatch e⟩
 | ref p=>
  cases r
  rcases ty with⟨rfl,xs,hq⟩ | ⟨rfl,o,hk,hc,hd⟩ | ⟨rfl,hk⟩ | ⟨rfl,S,n,hk⟩
  ·obtain⟨its,_,pl,_⟩:=I.list hq
   refine⟨pl.isList.typeIs,fun a e=> ?_⟩
   cases e
   obtain⟨o,n,e,c,hd,_⟩:=pl
   exact⟨o,e,hd⟩
  ·refine⟨⟨o,I.Bt p o hk,hc⟩,fun a e=> ?_⟩
   cases e
   exact⟨o,I.Bt _ o hk,hd⟩
  ·have z:∃o,s.heap.get? p=some o∧o.ExactDict:=by
    rcases hk with⟨kvs,hk⟩ | ⟨kvs,hk⟩
    ·obtain⟨_,_,_,_,o,_,_,e,ex,_⟩:=I.hok p _ hk
     exact⟨o,e,ex⟩
    ·obtain⟨_,_,_,_,o,_,_,e,ex,_⟩:=I.hok p _ hk
     exact⟨o,e,ex⟩
   obtain⟨o,e,ex⟩:=z
   refine⟨⟨o,e,ex.1⟩,fun a e2=> ?_⟩
   cases e2
   exact⟨o,e,ex.2.1⟩
  ·obtain⟨o,_,_,_,e,ex,_⟩:=I.hok p _ hk
   refine⟨⟨o,e,ex.1⟩,fun a e2=> ?_⟩
   cases e2
   exact⟨o,e,ex.2.1⟩
 | _=>exact False.elim ty
def anh(K:PySem.W.Frag)(T:String)(r:V→List V→Hp→VK→Prop)(to:TE):TE:=fun σ H Q=>to σ H fun x H1=>tyV K T x H1∧r x [] H1 Q
def tBM(K:PySem.W.Frag)(T:String)(r:V→List V→Hp→VK→Prop)(to:TE)(t:TA):TE:=fun σ H Q=>to σ H fun x H1=>tyV K T x H1∧t σ H1 fun xs H2=>r x xs H2 Q
variable{o e:Expr}{es:List Expr}{to:TE}{t:TA}{name:Str}{apos cpos:Pos}{T id:String}{r:V→List V→Hp→VK→Prop}
theorem acW(pa:PlainAttrs T)(slot:Slot T name id)(hty:typeOf (.builtin id)=pure (.type "method_descriptor"))(hm:MtR X id r)(ho:PE X o to)
  (hbase:attributeBase o name X.env (eval o X.env)=eval o X.env:=by rfl) (hline:(apos.endLine==cpos.line)=true:=by rfl):PE X (.Call (.Attribute o name apos) [] [] cpos) (anh X.K T r to):=by
 intro pins s σ H Q I h
 refine wpAny_Call_method0_late hbase hline (gU (ho pins s σ H _ I h) fun v s1 ⟨x,H1,I1,r1,ty,q1⟩=> ?_)
 obtain⟨h1,h2⟩:=WW I1 r1 ty
 exact⟨T,id,pa,slot,hty,h1,h2,Calls.callWith_builtin rfl (PySem.evalArgs_none (hm pins s1 σ H1 x [] v [] Q I1 r1 .nil q1))⟩
theorem agM(pa:PlainAttrs T)(slot:Slot T name id)(hty:typeOf (.builtin id)=pure (.type "method_descriptor"))(hm:MtR X id r)(ho:PE X o to)(ha:PA X (e::es) t)
  (hbase:attributeBase o name X.env (eval o X.env)=eval o X.env:=by rfl)
  (hfew:((backTo cpos (starEach (e::es) X.env)).all (fun x=> !x.1)&&(backToKw cpos (keywordEach [] X.env)).all (fun x=>x.1.isSome)
   && decide ((e::es).length+([]:List Keyword).length+(if([]:List Keyword).isEmpty then 0 else 1)<30))=true:=by rfl)
  (hline:(apos.endLine==cpos.line)=true:=by rfl) (hs:starEach (e::es) X.env=(false,eval e X.env)::starEach es X.env:=by rfl) (hplain:(backTo cpos (starEach es X.env)).any (·.1)=false:=by rfl):
  PE X (.Call (.Attribute o name apos) (e::es) [] cpos) (tBM X.K T r to t):=by
 intro pins s σ H Q I h
 refine wpAny_Call_method_late hbase hfew hline rfl (gU (ho pins s σ H _ I h) fun v s1 ⟨x,H1,I1,r1,ty,q1⟩=> ?_)
 obtain⟨h1,h2⟩:=WW I1 r1 ty
 refine⟨T,id,pa,slot,hty,h1,h2,?_⟩
 have hA:=ha cpos pins s1 σ H1 _ I1 q1
 rw[hs]at hA ⊢
 refine Calls.callWith_builtin (by show(false||(backTo cpos (starEach es X.env)).any (·.1))=false;rw[hplain]<;>rfl) (Calls.evalArgs_plain ?_)
 exact gU hA fun us s2 ⟨vs,H2,I2,r2,q2⟩=>hm pins s2 σ H2 x vs v us Q I2 r1 r2 q2
end
end L2
namespace L2
open PySem PySem.Spec PyProof.Rows
def MtM(X:Cx)(id:String)(r:V→List V→Hp→VK→Prop):Prop:=
 ∀(pins:List (Addr×Obj)) (s:Shared) (σ:St) (H:Hp) (x:V) (xs:List V) (v:Value) (us:List Value) (Q:VK),Inv X pins σ H s→RelV x v→Vals xs us→r x xs H Q→
  wpAny (model X.prog X.w) X.A (call (.builtin id) (v::us)) (EP X pins σ Q) X.xe s
theorem Vals.one:∀{x:V} {us:List Value},Vals [x] us→∃u,us=[u]∧RelV x u
 | _,_,.cons r .nil=>⟨_,rfl,r⟩
theorem Vals.two:∀{x y:V} {us:List Value},Vals [x,y] us→∃u v,us=[u,v]∧RelV x u∧RelV y v
 | _,_,_,.cons r (.cons q .nil)=>⟨_,_,rfl,r,q⟩
theorem Vals.zero:∀{us:List Value},Vals [] us→us=[]
 | _,.nil=>rfl
theorem Vals.dropLast{xs:List V}{us:List Value}(h:Vals xs us):Vals xs.dropLast us.dropLast:=by
 induction h with
 | nil=>exact .nil
 | cons r t ih=>
  cases t with
  | nil=>exact .nil
  | cons q t'=>exact .cons r ih
section
variable{X:Cx}{pins:List (Addr×Obj)}{σ:St}{H:Hp}{s:Shared}{l b:Addr}{xs ys zs:List V}
theorem Inv.ahf{its its':List Value}{n:Nat}{f:Array Value→Array Value}{t':Nat}(I:Inv X pins σ H s)(hH:H l=some (.lst xs))
  (e:s.heap.get? l=some {cls:= .type "list",data:= .seq its.toArray n}) (hf:f its.toArray=its'.toArray) (hv:Vals ys its') (hz:ys.length≤sizeLine):
  Inv X pins σ (upd H l (.lst ys)) {s with heap:=s.heap.update l (Obj.mapSeq f),toks:=t'}:=by
 have q:=PySem.IsL.update e f
 rw[hf]at q
 refine I.write (x:=l) (e:=l) (by rw[hH];exact trivial) (.inl rfl) (fun b' u hb hu=>(Heap.get?_update_other s.heap (Obj.mapSeq f) (Ne.symm hb)).trans hu) ⟨_,q⟩ ?_
 exact⟨hz,its',_,hv,q⟩
theorem Inv.ahg{its:List Value}{t':Nat}(I:Inv X pins σ H s)(hv:Vals ys its)(hz:ys.length≤sizeLine):
  Inv X pins σ (upd H s.heap.objs.size (.lst ys)) {s with heap:=s.heap.push {cls:= .type "list",data:= .seq its.toArray},toks:=t'}:=
 I.laid (fun _ _ q=>Heap.get?_push_of_some _ q) (Nat.le_refl _) ⟨hz,its,0,hv,Heap.get?_push_size _ rfl⟩
theorem Inv.fresh(I:Inv X pins σ H s):H s.heap.objs.size=none:=I.hok.fresh (Nat.le_refl _)
theorem Inv.VG(I:Inv X pins σ H s)(hH:H l=some (.lst xs)):xs.length≤sizeLine∧∃(its:List Value) (n:Nat),Vals xs its∧xs.length=its.length∧s.heap.get? l=some {cls:= .type "list",data:= .seq its.toArray n}:=by
 obtain⟨z,its,n,r,e⟩:=I.hok l _ hH
 exact⟨z,its,n,r,r.length,e⟩
theorem X3{n:Nat}(h:n≤sizeLine):Builtin.List.listTooLong n=false:=by
 unfold Builtin.List.listTooLong
 exact decide_eq_false (by omega)
end
section
variable{X:Cx}
def ZX:V→List V→Hp→VK→Prop:=fun x vs H Q=>∃l xs y,x= .ref l∧vs=[y]∧H l=some (.lst xs)∧xs.length<sizeLine∧Q .non (upd H l (.lst (xs++[y])))
theorem VD:MtM X "list.append" ZX:=by
 intro pins s σ H x vs v us Q I rx rv h
 obtain⟨l,xs,y,rfl,rfl,hH,hz,q⟩:=h
 cases rx
 obtain⟨u,rfl,ru⟩:=rv.one
 obtain⟨z,its,n,r,hl,e⟩:=I.VG hH
 refine call_meets F.slot_list_append ⟨_,e,rfl⟩ F.entry_list_append (F.args_list_append_2 _ _) (PySem.list_append l its.toArray n u (by rw[List.size_toArray];omega)) ⟨e,?_⟩
 refine⟨.non,_,I.ahf (its':=its++[u]) hH e (by simp) (r.append (.cons ru .nil)) ?_,rfl,q⟩
 rw[List.length_append,List.length_singleton]
 omega
def ZW:V→List V→Hp→VK→Prop:=fun x vs H Q=>∃l b xs zs,x= .ref l∧vs=[.ref b]∧H l=some (.lst xs)∧H b=some (.lst zs)∧xs.length+zs.length≤sizeLine∧Q .non (upd H l (.lst (xs++zs)))
theorem VB:MtM X "list.extend" ZW:=by
 intro pins s σ H x vs v us Q I rx rv h
 obtain⟨l,b,xs,zs,rfl,rfl,hH,hB,hz,q⟩:=h
 cases rx
 obtain⟨u,rfl,ru⟩:=rv.one
 cases ru
 obtain⟨z,its,n,r,hl,e⟩:=I.VG hH
 obtain⟨z2,its2,n2,r2,hl2,e2⟩:=I.VG hB
 have hsz:its.toArray.size+its2.toArray.size≤sizeLine:=by rw[List.size_toArray,List.size_toArray];omega
 have aic:¬(!its.toArray.isEmpty&&Builtin.List.listTooLong (its.toArray.size+its2.toArray.size))=true:=by
  rw[X3 hsz,Bool.and_false]
  exact Bool.false_ne_true
 refine call_meets F.slot_list_extend ⟨_,e,rfl⟩ F.entry_list_extend (F.args_list_extend_2 _ _)
  (AutoSeq1.list_extend_list_list_0 l its.toArray n b its2.toArray n2 aic (by rw[List.size_toArray];omega) (by omega)) ⟨e,e2,?_⟩
 refine⟨.non,_,I.ahf (its':=its++its2) hH e (by simp) (r.append r2) ?_,rfl,q⟩
 rw[List.length_append]
 omega
def aoi:R2:=fun x y H Q=>∃l b xs zs,x= .ref l∧y= .ref b∧H l=some (.lst xs)∧H b=some (.lst zs)∧xs.length+zs.length≤sizeLine∧∀p,H p=none→Q (.ref p) (upd H p (.lst (xs++zs)))
theorem adb:yu X (binaryOp .Add) aoi:=by
 intro pins s σ H x y v u Q I rx ry h
 obtain⟨l,b,xs,zs,rfl,rfl,hH,hB,hz,q⟩:=h
 cases rx
 cases ry
 obtain⟨z,its,n,r,hl,e⟩:=I.VG hH
 obtain⟨z2,its2,n2,r2,hl2,e2⟩:=I.VG hB
 refine PySem.P.add_list e e2 ?_ (by rw[List.size_toArray,List.size_toArray];omega)
 have ea:its.toArray++its2.toArray=(its++its2).toArray:=by simp
 rw[ea]
 exact⟨.ref _,_,I.ahg (t':=s.toks) (r.append r2) (by rw[List.length_append];omega),rfl,q _ I.fresh⟩
end
section
variable{prog:Program}{w:World}{A:Around}{E:Value→Shared→Prop}{s:Shared}
end
section
variable{X:Cx}
end
end L2
namespace Att
open PySem PySem.W PySem.Calls PyProof.Rows
theorem Fx{P:Params}{h:Heap}:∀(ns:List Int) (vs:List Value),WellAll P h vs (ns.map WData.int)→IntsAre vs ns:=by
 intro ns
 induction ns with
 | nil=>
  intro vs w
  rw[List.map_nil]at w
  cases w
  exact .nil
 | cons n ns ih=>
  intro vs w
  rw[List.map_cons]at w
  cases w with
  | cons a b=>
   cases a
   exact .cons _ _ (ih _ b)
theorem Vf{l:OpenLaw}{n:Nat}(hn:l.most=some n){P:Params}{h:Heap}{args:List WData}{vals:List Value}
  (hpre:l.row.toRowW.claim.pre args=true) (hwl:WellAll P h vals args):
  ∃a vs ns,vals=[Value.ref a]∧args=[WData.list (ns.map WData.int)]∧h.get? a=some {cls:= .type "list",data:= .seq vs.toArray}∧IntsAre vs ns∧ns.length≤n:=by
 have hsh:WShape.hasAll [] args [.list .int]=true:=(pre_splitW hpre).1
 have hc:l.pre.holds [] {args:=args}=true:=(pre_splitW hpre).2
 obtain⟨d,r,rfl,h1,h2⟩:=hasAllW_cons hsh
 obtain rfl:=hasAllW_nil h2
 obtain⟨xs,rfl,h3⟩:=hasW_list h1
 obtain⟨ns,rfl⟩:=items_int h3
 have hlen:ns.length≤n:=by
  unfold OpenLaw.pre at hc
  have h4:(WTm.not (.lt (.lit (.int (n:Int))) (.len (.arg 0)))).holds [] {args:=[.list (ns.map .int)]}=true:=by
   have h4:=(holds_andW hc).1
   rw[hn]at h4
   exact h4
  have h5:=condW_of h4 (w_not (w_lt w_lit (w_len_list (w_arg rfl))))
  rw[List.length_map]at h5
  refine Nat.le_of_not_lt fun q=> ?_
  have q':(n:Int)<((ns.length:Nat):Int):=by omega
  first
   | (rw[decide_eq_true q']at h5;exact absurd h5 (by decide))
   | (simp at h5;omega)
 cases hwl with
 | cons w1 w2=>
  cases w2
  cases w1 with
  | list ho hall=>exact⟨_,_,ns,rfl,rfl,ho,Fx ns _ hall,hlen⟩
theorem Vn(l:OpenLaw)(args:List WData):l.row.toRowW.claim.post args (.bool true) args=true:=
 postW_of (r:=l.row.toRowW) (X:=(true==true))
  (show WShape.has [] (.bool true) .bool=true by first | rfl | decide | simp[WShape.has,WShape.arms,WShape.armsAll])
  (show(WTm.eq .res (.lit (.bool true))).value [] {args:=args,res:=some (.bool true),after:=args}=some (.bool (true==true))from w_eq_bool (w_res rfl) w_lit) rfl
theorem Qk{l:OpenLaw}{n:Nat}{q:Program}{loose:List Str}{XP:(Str→Option Value)→Heap→Prop}{YP:World→Heap→Prop}{d:DefRec}
  (hn:l.most=some n) (hdf:d.params.defaults=[])
  (call:∀(w:World) (s₀ s₁:Shared) (mg mb:Str→Option Value) (fa:Addr) (o:Obj) (pm cd doc:Value) (a:Addr) (vs:List Value) (ns:List Int),
   Ground q loose [] XP w s₀ mg mb s₁.heap→YP w s₁.heap→
   s₁.heap.get? fa=some o→o.data= .func (docDef d.name d.params d.body d.scope pm cd doc)→s₁.heap.CodeRec cd d.name→mg d.name=some (.ref fa)→
   s₁.heap.get? a=some {cls:= .type "list",data:= .seq vs.toArray}→IntsAre vs ns→ns.length≤n→s₁.gens= #[]→
   codeAny (model l.prog w) callerA (.call (.ref fa) ⟨[.ref a],[]⟩) (fun r s'=>r= .ok (.ret (.bool true))∧OldK s₁.heap s'.heap∧s'.os=s₁.os∧AllBare s'.gens) s₁):
  WalkO q loose XP YP l.row.toRowW d [] (fun f vs=>PySem.call f vs):=by
 intro w s₀ s₁ mg mb G Y fa o pm cd doc dV kV ho hd hcd hD hmg hg args vals as hpre hlay hrd hwl hlo
 obtain rfl:dV= .none:=Dflts.none hD hdf
 obtain rfl:kV= .none:=Dflts.noKw hD
 obtain⟨a,vs,ns,rfl,rfl,hobj,hints,hlen⟩:=Vf hn hpre hwl
 refine enter_call (codeAny_mono (call w s₀ s₁ mg mb fa o pm cd doc a vs ns G Y ho (fd_plain hd) hcd hmg hobj hints hlen hg) fun r s' hq=> ?_)
 obtain⟨rfl,h2,h3,h4⟩:=hq
 exact⟨.inl ⟨.bool true,.bool true,[],rfl,fun _=>rfl,.bool true,Vn l _,fun _=>⟨List.Pairwise.nil,fun _ hm=>(nomatch hm)⟩⟩,h2,h3,h4⟩
section
variable{prog:Program}{w:World}{A:Around}{E:Value→Shared→Prop}{s:Shared}{K:Frag}
end
end Att
namespace L2
open PySem PySem.Spec PyProof.Rows
theorem JH:∀{vs:List Value} {ns:List Int},IntsAre vs ns→Vals (ns.map V.int) vs
 | _,_,.nil=> .nil
 | _,_,.cons n t h=> .cons ⟨t,rfl⟩ (JH h)
def Only(H:Hp):Prop:=∀b,H b=none∨∃o xs,H b=some (.zR o (.lst xs))
theorem Yk{P:Program}{w:World}{K:PySem.W.Frag}{mg mb:Str→Option Value}{CX:Sy}{k:Nat}{fa a:Addr}{fd:FuncData}{x:Str}{sp:Sp}{s₁:Shared}{vs:List Value}{ns:List Int}
  (KX:K.In s₁.heap) (hns:s₁.heap.Ns mainGlobals mg) (hb:s₁.heap.Ns builtinsNs mb) (hbb:∀x:Str,x≠ "__name__" → mb x=bootBuiltins x) (hlim:s₁.heap.NoLimit) (hg:s₁.gens= #[])
  (ha:s₁.heap.get? a=some {cls:= .type "list",data:= .seq vs.toArray}) (hi:IntsAre vs ns) (hl:ns.length≤sizeLine) (hr:lQ k callerA)
  (F:∀base:Heap,K.In base→base.Ns mainGlobals mg→aX P w K mg base CX k fa fd [x] sp) (hbind:∀(s:Shared) (u:Value),BindsTo s fd ⟨[u],[]⟩ [(x,u)])
  (hsp:∀H:Hp,Only H→yt K H a (ns.map V.int)→sp [.ref a] H (fun v _=>v= .bl true) fun _ _ _=>False)
  (hCX:∀H e s',CX [] H s₁ (fun _ _ _=>False) e s'→False):
  codeAny (model P w) callerA (.call (.ref fa) ⟨[.ref a],[]⟩) (fun r s'=>r= .ok (.ret (.bool true))∧OldK s₁.heap s'.heap∧s'.os=s₁.os∧AllBare s'.gens) s₁:=by
 have rv:=JH hi
 have lenV:=hi.length
 have core:∀H:Hp,Only H→yt K H a (ns.map V.int)→uN P w H s₁.heap→(∀b,H b≠none→b=a)→(H a≠none→K.lookup a=none)→
   codeAny (model P w) callerA (.call (.ref fa) ⟨[.ref a],[]⟩) (fun r s'=>r= .ok (.ret (.bool true))∧OldK s₁.heap s'.heap∧s'.os=s₁.os∧AllBare s'.gens) s₁:=by
  intro H hO hS hok hA hK
  have Ux:∀{b:Addr} {o:Obj},s₁.heap.get? b=some o→H b=none→(Mh s₁.heap H).get? b=some o:=fun e n=>Yr e n
  have noA:∀{b:Addr} {o:Obj} {es:Array DictEntry} {ep:Nat},s₁.heap.get? b=some o→o.data= .dict es ep→H b=none:=fun{b o es ep} e d=>by
   cases q:H b with
   | none=>rfl
   | some u=>
    have e':b=a:=hA b (by rw[q];simp)
    subst e'
    rw[ha]at e;cases e
    have d':Data.seq vs.toArray _=Data.dict es ep:=d
    cases d'
  have nsK:∀{b:Addr} {m:Str→Option Value},s₁.heap.Ns b m→(Mh s₁.heap H).Ns b m:=fun{b m} ⟨o,es,ep,e,d,r⟩=>⟨o,es,ep,Ux e (noA e d),d,r⟩
  have hKb:K.In (Mh s₁.heap H):=fun b o e=>Ux (KX b o e) (by
   cases q:H b with
   | none=>rfl
   | some u=>
    have e':b=a:=hA b (by rw[q];simp)
    subst e'
    rw[hK (by rw[q];simp)]at e;cases e)
  have hM:Mod K mg (Mh s₁.heap H):=⟨hKb,nsK hns,⟨mb,nsK hb,hbb⟩,let⟨mc,h1,h2⟩:=hlim;⟨mc,nsK h1,h2⟩⟩
  have e0:JC P w K mg (Mh s₁.heap H) callerA [] s₁ H:=⟨rfl,hM,fun b o e=>aam e,Nat.le_of_eq (V1 _ _),trivial,fun b hb=>absurd (show b∈([]:List Addr)from hb) (by simp),hok,.of_eq hg⟩
  refine codeAny_mono ((F _ hKb (nsK hns)).run callerA [] s₁ H ⟨[.ref a],[]⟩ [.ref a] [.ref a] _ _ hr e0 (hbind s₁ (.ref a)) (.cons rfl .nil) (hsp H hO hS)) fun r s' h=> ?_
  cases r with
  | error e=>exact(hCX H e s' h).elim
  | ok fl=>
   cases fl with
   | next=>exact False.elim h
   | brk=>exact False.elim h
   | cont=>exact False.elim h
   | ret u=>
    obtain⟨v,H',os,bare,un,hok',r',q⟩:=h
    have q':v= .bl true:=q
    subst q'
    obtain rfl:u=Value.bool true:=r'
    refine⟨rfl,OldK.of_keep fun b o e=> ?_,os,bare⟩
    cases q:H b with
    | none=>exact un.keep b o e q (by intro z;exact absurd (show b∈([]:List Addr)from z) (by simp)) (by simp)
    | some u=>
     rcases hO b with z | ⟨ob,xs,z⟩
     ·rw[q]at z;cases z
     ·have z2:=un.Be b ob _ z
      obtain⟨e1,_⟩:=hok b _ z
      obtain⟨e2,_⟩:=hok' b _ z2
      rw[e]at e1;cases e1
      exact e2
 cases hk:K.lookup a with
 | some o=>
  have e:=KX a o hk
  rw[ha]at e
  cases e
  refine core (fun _=>none) (fun _=> .inl rfl) (.inr ⟨_,vs.toArray,_,hk,rfl,rfl,rfl,by rw[List.size_toArray,lenV];exact hl,by simpa using rv⟩) (fun b u z=>by have z':(none:Option HO)=some u:=z;cases z') (fun b z=>absurd rfl z) fun z=>absurd rfl z
 | none=>
  refine core (fun b=>if b=a then some (.zR {cls:= .type "list",data:= .seq vs.toArray} (.lst (ns.map V.int)))else none) (fun b=> ?_) (.inl (.inr ⟨{cls:= .type "list",data:= .seq vs.toArray},if_pos rfl⟩)) (fun b u z=> ?_) (fun b z=> ?_) fun _=>hk
  ·by_cases hb:b=a
   ·exact .inr ⟨_,_,if_pos hb⟩
   ·exact .inl (if_neg hb)
  ·by_cases hb:b=a
   ·have z':=(if_pos hb).symm.trans z
    cases z'
    subst hb
    exact⟨ha,by rw[List.length_map];exact hl,vs,_,rv,ha⟩
   ·have z':=(if_neg hb).symm.trans z
    cases z'
  ·by_cases hb:b=a
   ·exact hb
   ·exact absurd (if_neg hb) z
end L2
namespace L2
open PySem PySem.Spec PyProof.Rows
abbrev KOf{K:PySem.W.Frag}{h:Heap}(_:K.In h):PySem.W.Frag:=K
theorem Zh{l:PySem.W.OpenLaw}{n k:Nat}{q:Program}{loose:List Str}{XP:(Str→Option Value)→Heap→Prop}{YP:World→Heap→Prop}{d:DefRec}{K:Params→PySem.W.Frag}{CX:World→Sy}{sp:World→Sp}{x:Str}
  (hn:l.most=some n) (hn2:n≤sizeLine) (hdf:d.params.defaults=[]) (hr:lQ k callerA)
  (hY:∀(w:World) (h:Heap),YP w h→(K w.params).In h)
  (F:∀(w:World) (mg:Str→Option Value) (fa:Addr) (h:Heap),(K w.params).In h→h.Ns mainGlobals mg→mg d.name=some (.ref fa)→
   ∃fd:FuncData,(∀(s:Shared) (u:Value),BindsTo s fd ⟨[u],[]⟩ [(x,u)])∧
    ∀base:Heap,(K w.params).In base→base.Ns mainGlobals mg→aX l.prog w (K w.params) mg base (CX w) k fa fd [x] (sp w))
  (hsp:∀(w:World) (H:Hp) (a:Addr) (ns:List Int),ns.length≤n→Only H→yt (K w.params) H a (ns.map V.int)→sp w [.ref a] H (fun v _=>v= .bl true) fun _ _ _=>False)
  (hCX:∀(w:World) (H:Hp) (s:Shared) (e:Value) (s':Shared),CX w [] H s (fun _ _ _=>False) e s'→False):
  PySem.W.WalkO q loose XP YP l.row.toRowW d [] (fun f vs=>PySem.call f vs):=by
 refine Att.Qk hn hdf fun w s₀ s₁ mg mb fa o pm cd doc a vs ns G Y ho hd hcd hmg hobj hints hlen hg=> ?_
 have KX:=hY w _ Y
 obtain⟨fd,hb,hF⟩:=F w mg fa _ KX G.T.g hmg
 exact Yk KX G.T.g G.T.b G.T.builtins G.T.nolimit hg hobj hints (Nat.le_trans hlen hn2) hr hF hb (fun H hO hS=>hsp w H a ns hlen hO hS) fun H e s'=>hCX w H s₁ e s'
end L2
namespace L2
open PySem PySem.Spec PyProof.Rows
def inClass(s:Stmt)(j:Nat):Stmt:=match s with
 | .ClassDef _ _ _ body _ _ _ _ _ _ _=>body.getD j (.Pass ⟨0,0,0,0⟩)
 | _=> .Pass ⟨0,0,0,0⟩
def aH(s:Stmt):Arguments:=match s with
 | .FunctionDef _ a _ _ _ _ _ _ _ _=>a
 | _=>{posonlyargs:=[],args:=[],vararg:=none,kwonlyargs:=[],kw_defaults:=[],kwarg:=none,defaults:=[]}
def aG(s:Stmt):List Stmt:=match s with
 | .FunctionDef _ _ b _ _ _ _ _ _ _=>b
 | _=>[]
def au(s:Stmt):Scope:=match s with
 | .FunctionDef _ _ _ _ _ _ sc _ _ _=>sc
 | _=>{kind:= .function,names:=[],isGenerator:=false,isCoroutine:=false}
abbrev CX0:Sy:=fun _ _ _ _ _ _=>False
abbrev E0:XK:=fun _ _ _=>False
section
variable{P:Program}{w:World}{K:PySem.W.Frag}{mg:Str→Option Value}{base:Heap}
end
section
variable{X:Cx}
theorem pv(i:Nat){x:Str}{pos:Pos}(hN:X.N[i]? = some x:=by rfl)(hv:Vis X.env.scope x:=by first | exact Or.inl rfl | exact Or.inr (Or.inl rfl) | exact Or.inr (Or.inr rfl))(hd:(x==("__debug__" : Str))=false:=by decide)
  (hcd:(x==("__classdict__" : Str))=false:=by decide):PE X (.Name x pos) (aft i):=Xx hN hv hd hcd
end
def aeP(H H':Hp):Prop:=∀b o,H b=some o→H' b=some o
theorem aeP.free{H H':Hp}(e:aeP H H'){l:Addr}(h:H' l=Option.none):H l=Option.none:=by
 cases q:H l with
 | none=>rfl
 | some o=>
  rw[e l o q]at h
  cases h
end L2
namespace L2
open PySem PySem.Spec PyProof.Rows
theorem Bl{env:Env}{scope:Scope}(h:∀n,(n,NameKind.free)∈scope.names→∃c,env.cells.lookup n=some c):
  ∃cl,closureFor scope env=pure cl∧(∀n c,cl.lookup n=some c→env.cells.lookup n=some c)∧∀n,(n,NameKind.free)∈scope.names→∃c,cl.lookup n=some c:=by
 have go:∀(names:List (Str×NameKind)) (acc:List (Str×Addr)),(∀n,(n,NameKind.free)∈names→∃c,env.cells.lookup n=some c)→(∀n c,acc.lookup n=some c→env.cells.lookup n=some c)→
   ∃cl,(forIn names acc fun(x:Str×NameKind) (r:List (Str×Addr))=>if(x.2==NameKind.free)=true then do let a ←cellOf env x.1;pure (ForInStep.yield ((x.1,a)::r))else pure (ForInStep.yield r):Sem (List (Str×Addr)))=pure cl∧
    (∀n c,cl.lookup n=some c→env.cells.lookup n=some c)∧(∀n,(n,NameKind.free)∈names→∃c,cl.lookup n=some c)∧∀n c,acc.lookup n=some c→∃c,cl.lookup n=some c:=by
  intro names
  induction names with
  | nil=>intro acc _ h2;exact⟨acc,rfl,h2,(fun _ z=>nomatch z),fun n c e=>⟨c,e⟩⟩
  | cons x r ih=>
   intro acc h1 h2
   obtain⟨n,k⟩:=x
   by_cases hk:k=NameKind.free
   ·subst hk
    obtain⟨c,hc⟩:=h1 n List.mem_cons_self
    obtain⟨cl,e1,e2,e3,e4⟩:=ih ((n,c)::acc) (fun m z=>h1 m (List.mem_cons_of_mem _ z)) (fun m d e=>by
     rw[List.lookup_cons]at e
     cases q:m==n with
     | true=>rw[q]at e;cases e;rw[eq_of_beq q];exact hc
     | false=>rw[q]at e;exact h2 m d e)
    refine⟨cl,?_,e2,fun m z=> ?_,fun m d e=> ?_⟩
    ·rw[List.forIn_cons]
     have:cellOf env n=pure c:=by unfold cellOf;rw[hc]
     simp only[this,beq_self_eq_true,if_true]
     exact e1
    ·rcases List.mem_cons.mp z with z | z
     ·cases z
      exact e4 n c (by rw[List.lookup_cons,beq_self_eq_true])
     ·exact e3 m z
    ·cases q:m==n with
     | true=>exact e4 m c (by rw[List.lookup_cons,q])
     | false=>exact e4 m d (by rw[List.lookup_cons,q];exact e)
   ·obtain⟨cl,e1,e2,e3,e4⟩:=ih acc (fun m z=>h1 m (List.mem_cons_of_mem _ z)) h2
    refine⟨cl,?_,e2,fun m z=> ?_,e4⟩
    ·rw[List.forIn_cons]
     have:(k==NameKind.free)=false:=by simpa using hk
     simp only[this,Bool.false_eq_true,if_false]
     exact e1
    ·rcases List.mem_cons.mp z with z | z
     ·cases z;exact absurd rfl hk
     ·exact e3 m z
 obtain⟨cl,e1,e2,e3,_⟩:=go scope.names [] h (fun _ _ e=>nomatch e)
 refine⟨cl,?_,e2,e3⟩
 unfold closureFor
 show(forIn scope.names [] _ >>= fun r=>pure r)=_
 rw[show(forIn scope.names [] fun(x:Str×NameKind) (r:List (Str×Addr))=>_:Sem (List (Str×Addr)))=pure cl from e1]
 rfl
def fc(env:Env)(x:Str×NameKind):Str×NameKind:=if(x.2== .free&&env.scope.kind== .function&&env.kindOf x.1==some .cell)then(x.1,.cell)else(x.1,x.2)
theorem Hr(env:Env)(x:Str×NameKind):(fc env x).1=x.1:=by
 unfold fc;split<;>rfl
theorem La{env:Env}{y:Str}:∀{names:List (Str×NameKind)},(∀z∈names,z.2≠ .cell)→((names.map (fc env)).lookup y=some .cell∨(names.map (fc env)).lookup y=some .free)→(y,NameKind.free)∈names
 | [],_,h=>by rcases h with h | h<;>cases h
 | (n,k)::r,hc,h=>by
  rw[List.map_cons]at h
  have e1:(fc env (n,k)).1=n:=Hr env (n,k)
  cases hx:y==n with
  | true=>
   have ey:=eq_of_beq hx
   subst ey
   have hk:k≠ .cell:=hc (y,k) List.mem_cons_self
   have q:(fc env (y,k)).2= .cell∨(fc env (y,k)).2= .free:=by
    have l:∀kk,List.lookup y (fc env (y,k)::List.map (fc env) r)=some kk→(fc env (y,k)).2=kk:=fun kk z=>by
     rw[show fc env (y,k)=(y,(fc env (y,k)).2)from Prod.ext e1 rfl,List.lookup_cons,beq_self_eq_true]at z
     exact Option.some.inj z
    rcases h with h | h
    ·exact .inl (l _ h)
    ·exact .inr (l _ h)
   have hk2:k= .free:=by
    unfold fc at q
    split at q
    ·rename_i z
     rw[Bool.and_eq_true,Bool.and_eq_true]at z
     simpa using z.1.1
    ·rcases q with q | q
     ·exact absurd q hk
     ·exact q
   rw[hk2]
   exact List.mem_cons_self
  | false=>
   have l:List.lookup y (fc env (n,k)::List.map (fc env) r)=List.lookup y (List.map (fc env) r):=by
    rw[show fc env (n,k)=(n,(fc env (n,k)).2)from Prod.ext e1 rfl,List.lookup_cons,hx]
   rw[l]at h
   exact List.mem_cons_of_mem _ (La (fun z hz=>hc z (List.mem_cons_of_mem _ hz)) h)
theorem Q7{env:Env}{y:Str}:∀{names:List (Str×NameKind)},names.lookup y=some .free→(names.map (fc env)).lookup y=some .cell∨(names.map (fc env)).lookup y=some .free
 | [],h=>by cases h
 | (n,k)::r,h=>by
  rw[List.map_cons]
  have e1:(fc env (n,k)).1=n:=Hr env (n,k)
  rw[show fc env (n,k)=(n,(fc env (n,k)).2)from Prod.ext e1 rfl,List.lookup_cons]
  rw[List.lookup_cons]at h
  cases hx:y==n with
  | true=>
   rw[hx]at h
   have hk:k= .free:=Option.some.inj h
   subst hk
   show some (fc env (n,NameKind.free)).2=some NameKind.cell∨some (fc env (n,NameKind.free)).2=some NameKind.free
   unfold fc
   split
   ·exact .inl rfl
   ·exact .inr rfl
  | false=>
   rw[hx]at h
   exact Q7 h
section
variable{prog:Program}{w:World}{A:Around}{R:Result→Shared→Prop}
theorem Nr{elt tg iter:Expr}{ifs:List Expr}{scope:Scope}{pos:Pos}{it acc:Value}{env:Env}(W:Nat→Shared→Prop){s:Shared}
  (turn:∀n s,W n s→wpAny (model prog w) A (pyNext it) (fun r s1=>match r with
   | none=>R (.ok .next) s1
   | some v=>wpAny (model prog w) A (letOwnedTupleGo tg it v) (fun _ s2=>wpAny (model prog w) A (assign tg env v) (fun _ s3=>
     wpAny (model prog w) A (forIn ifs true fun c r=>if r=true then do let ok ←isTrue c env (eval c env);pure (ForInStep.yield ok)else pure (ForInStep.yield r)) (fun ok s4=>
      if ok=true then wpAny (model prog w) A (eval elt env) (fun x s5=>wpAny (model prog w) A (call (.builtin "list.append") [acc,x]) (fun _ s6=>∃m,m<n∧W m s6) (fun _ _=>False) s5) (fun _ _=>False) s4
      else ∃m,m<n∧W m s4) (fun _ _=>False) s3) (fun _ _=>False) s2) (fun _ _=>False) s1) (fun _ _=>False) s)
  (n:Nat) (h:W n s):codeAny (model prog w) A (.compLoop (.ListComp elt [⟨tg,iter,ifs,0⟩] scope pos) 0 it acc env) R s:=by
 have ex:∀{α:Type} {t:Sem α} {Q Q':α→Shared→Prop} {E:Value→Shared→Prop} {s:Shared},wpAny (model prog w) A t Q (fun _ _=>False) s→(∀a s,Q a s→Q' a s)→wpAny (model prog w) A t Q' E s:=
  fun h f=>wpAny_mono h f fun _ _ z=>z.elim
 refine codeAny_loop rfl W (fun n s hI=> ?_) n h
 show wpAny _ A ((compTurn (.ListComp elt [⟨tg,iter,ifs,0⟩] scope pos) 0 it acc env).onRaise (fun x=>do noteFrame x env;theTreesLotGoes x)) _ _ s
 refine wpAny_noted ?_
 rw[compTurn_list]
 refine wpAny_bind (wpAny_standAt (wpAny_bind (ex (turn n s hI) fun r s1 h1=> ?_)))
 cases r with
 | none=>exact wpAny_pure h1
 | some v=>
  refine wpAny_bind (ex h1 fun _ s2 h2=>wpAny_bind (ex h2 fun _ s3 h3=>wpAny_bind (ex h3 fun ok s4 h4=> ?_)))
  cases ok with
  | false=>exact wpAny_pure ⟨rfl,h4⟩
  | true=>exact wpAny_bind (wpAny_bind (ex h4 fun x s5 h5=>wpAny_bind (ex h5 fun _ s6 h6=>wpAny_pure (wpAny_pure ⟨rfl,h6⟩))))
end
def bz(X:Cx)(scope:Scope)(cl:List (Str×Addr))(C:Addr)(N:List Str)(fp:List Addr)(s:Shared)(H:Hp):Cx where
 prog:=X.prog
 w:=X.w
 K:=X.K
 mg:=X.mg
 base:=X.base
 A:=X.A
 N:=N
 s₀:=s
 H₀:=H
 env:=compEnvC scope cl C X.env
 outer:=X.stack
 stack:=X.stack
 ex:=fp
 fn:=fun _=>false
 calm:=X.calm
 pn:=[]
 xe:=fun _ _=>False
def uP(X:Cx)(scope:Scope):List Str→List Nat→Prop
 | [],[]=>True
 | y::cs,i::js=>(X.N[i]? = some y∧scope.names.lookup y=some .free∧(X.env.kindOf y=some .cell∨X.env.kindOf y=some .free))∧uP X scope cs js
 | _,_=>False
theorem uP.len{X:Cx}{scope:Scope}:∀{cs:List Str} {js:List Nat},uP X scope cs js→js.length=cs.length
 | [],[],_=>rfl
 | _::_,_::_,h=>by rw[List.length_cons,List.length_cons,uP.len h.2]
 | [],_::_,h=>h.elim
 | _::_,[],h=>h.elim
theorem uP.get{X:Cx}{scope:Scope}{y:Str}:∀{cs:List Str} {js:List Nat} {j:Nat},uP X scope cs js→cs[j]? = some y→
  ∃i,js[j]? = some i∧X.N[i]? = some y∧scope.names.lookup y=some .free∧(X.env.kindOf y=some .cell∨X.env.kindOf y=some .free)
 | [],[],_,_,e=>by simp at e
 | _::_,i::_,0,h,e=>by simp at e;subst e;exact⟨i,rfl,h.1.1,h.1.2⟩
 | _::_,_::_,j+1,h,e=>by
  obtain⟨i,e1,r⟩:=uP.get (j:=j) h.2 (by simpa using e)
  exact⟨i,by simpa using e1,r⟩
 | [],_::_,_,h,_=>h.elim
 | _::_,[],_,h,_=>h.elim
def caps(js:List Nat)(σ:St):St:=js.map fun i=>(σ[i]?).join
def PTs(X:Cx)(ifs:List Expr)(t:TT):Prop:=
 ∀(pins:List (Addr×Obj)) (s:Shared) (σ:St) (H:Hp) (Q:Bool→Hp→Prop),Inv X pins σ H s→t σ H Q→
  wpAny (model X.prog X.w) X.A (forIn ifs true fun c r=>if r=true then do let ok ←isTrue c X.env (eval c X.env);pure (ForInStep.yield ok)else pure (ForInStep.yield r)) (TP X pins σ Q) X.xe s
def anj:TT:=fun _ H Q=>Q true H
theorem Z2{X:Cx}:PTs X [] anj:=fun _ _ _ H _ I h=>wpAny_pure ⟨H,I,h⟩
theorem Z1{X:Cx}{c:Expr}{t:TT}(h:PT X c t):PTs X [c] t:=by
 intro pins s σ H Q I hq
 rw[List.forIn_cons]
 simp only[if_true]
 exact wpAny_bind (wpAny_bind (gU (h pins s σ H Q I hq) fun ok s1 q=>wpAny_pure (wpAny_pure q)))
def aeW(js:List Nat)(tt:TT)(te:TE)(σ:St)(Q:VK)(J:It)(H1:Hp):Prop:=
 ∃W:Nat→Nat→List V→Hp→Prop,(∃m,W 0 m [] H1)∧∀i m ys H,W i m ys H→
  (J.stop i H∧ys.length≤sizeLine∧∀p,H p=none→Q (.ref p) (upd H p (.lst ys)))∨
  (J.go i H∧∃N:List V→Hp→Prop,(∀ys' H',N ys' H'→ys'.length≤sizeLine∧∃m',m'<m∧W (i+1) m' ys' H')∧∀x H',J.WD i H x H'→tt (some x::caps js σ) H' fun b H2=>
   if b=true then te (some x::caps js σ) H2 fun y H3=>N (ys++[y]) H3 else N ys H2)
def W8(js:List Nat)(wi:TI)(tt:TT)(te:TE):TE:=fun σ H Q=>wi σ H fun J H1=>aeW js tt te σ Q J H1
theorem uN.track{P:Program}{w:World}{H:Hp}{h:Heap}{a:Addr}{o:HO}(x:uN P w H h)(hn:H a=none)(new:dg P w (upd H a o) h a o):uN P w (upd H a o) h:=fun b u e=>by
 by_cases hb:b=a
 ·subst hb;rw[dh]at e;cases e;exact new
 ·rw[bh hb]at e
  exact(x b u e).stay (fun c v _ q=>q) (fun c q=>by rw[bh (cC q hn)];exact q) fun c xs q=>by rw[bh (cC q hn)];exact q
theorem Un.track{fs ex:List Addr}{H H1:Hp}{h h1:Heap}{a:Addr}{o:HO}(u:Un fs ex H H1 h h1)(hn:h.get? a=none)(hH:H a=none):Un fs ex H (upd H1 a o) h h1 where
 keep:=u.keep
 slot:=u.slot
 free:=fun b ob e n hx=>by rw[bh (by rintro rfl;rw[hn]at e;cases e)];exact u.free b ob e n hx
 there:=u.there
 tups:=fun b xs e=>by rw[bh (cC e hH)];exact u.tups b xs e
 Be:=fun b ob xs e=>by rw[bh (cC e hH)];exact u.Be b ob xs e
 BK:=fun b ps e=>by rw[bh (cC e hH)];exact u.BK b ps e
section
variable{X:Cx}{x:Str}{px:Pos}{elt iter:Expr}{ifs:List Expr}{scope:Scope}{cs:List Str}{js:List Nat}{tt:TT}{te:TE}{pos:Pos}
theorem IK{cl:List (Str×Addr)}{pins:List (Addr×Obj)}{σ:St}{H2:Hp}{s2:Shared}{it:Addr}{fp:List Addr}{tn:Nat→Heap→Prop}{J:It}{Q:VK}{RR:Value→Addr→Result→Shared→Prop}
  (hc:X.calm=true) (hcap:uP X scope cs js) (ht:∀cl C fp s H,PTs (bz X scope cl C (x::cs) fp s H) ifs tt) (he:∀cl C fp s H,PE (bz X scope cl C (x::cs) fp s H) elt te)
  (hcell:∀y∈scope.names,y.2≠ .cell) (hkind:scope.kind= .function) (hx:scope.names.lookup x=some .local) (hnd:(x::cs).Nodup)
  (vD:∀n c,cl.lookup n=some c→X.env.cells.lookup n=some c) (Ik:∀n,(n,NameKind.free)∈scope.names→∃c,cl.lookup n=some c)
  (I2:Inv X pins σ H2 s2) (T:Turn X.prog X.w X.K (.Name x px) J fp it tn) (st2:tn 0 s2.heap) (f2:∀b∈fp,Ek X pins H2 b)
  (W:Nat→Nat→List V→Hp→Prop) (w0:∃m,W 0 m [] H2)
  (step:∀i m ys H,W i m ys H→
   (J.stop i H∧ys.length≤sizeLine∧∀p,H p=none→Q (.ref p) (upd H p (.lst ys)))∨
   (J.go i H∧∃N:List V→Hp→Prop,(∀ys' H',N ys' H'→ys'.length≤sizeLine∧∃m',m'<m∧W (i+1) m' ys' H')∧∀x H',J.WD i H x H'→tt (some x::caps js σ) H' fun b H2=>
    if b=true then te (some x::caps js σ) H2 fun y H3=>N (ys++[y]) H3 else N ys H2))
  (fin:∀(D C:Addr) (H3:Hp) (s4:Shared) (m':Str→Option Value),Inv X pins σ H3 s4→s4.heap.Ns C m'→s2.heap.objs.size≤C→H3 C=none→Q (.ref D) H3→RR (.ref D) C (.ok .next) s4):
  wpAny (model X.prog X.w) X.A (newList []) (fun acc s3=>wpAny (model X.prog X.w) X.A (newFunctionEnv scope X.env.globals cl [] X.env.qual none .none (some X.env)) (fun cenv s4=>
   codeAny (model X.prog X.w) X.A (.compStart (.ListComp elt [⟨.Name x px,iter,ifs,0⟩] scope pos) 0 (.ref it) acc {cenv with scope:=relabel scope X.env}) (RR acc cenv.locals) s4) X.xe s3) X.xe s2:=by
 refine wpAny_newObj_type (wpAny_newFunctionEnv hcell (by intro y hy;simp at hy) (fun h1 hns hsb=> ?_) hkind)
 dsimp only at hns hsb ⊢
 generalize hP:s2.heap.push {cls:= .type "list",dict:=none,data:= .seq ([]:List Value).toArray}=hq at hns hsb ⊢
 have eC:hq.objs.size=s2.heap.objs.size+1:=by rw[←hP,Heap.size_push]
 generalize eD:s2.heap.objs.size=D at eC ⊢
 generalize eCC:hq.objs.size=C at hns hsb eC ⊢
 have DC:D≠C:=by omega
 have old:∀b o,s2.heap.get? b=some o→h1.get? b=some o:=fun b o e=>by
  have lt: @LT.lt Nat _ b s2.heap.objs.size:=Heap.lt_size e
  exact hsb.extBut b o (fun z=>by subst z;omega) (Heap.get?_push_of_some _ (hP▸Heap.get?_push_of_some _ e))
 have aeN:h1.get? D=some {cls:= .type "list",dict:=none,data:= .seq ([]:List Value).toArray}:=hsb.extBut _ _ DC (Heap.get?_push_of_some _ (hP▸eD▸Heap.get?_push_size _ rfl))
 have noD:s2.heap.get? D=none:=Heap.get?_none_of_le (by omega)
 have HD:H2 D=none:=I2.hok.fresh (by omega)
 have HC:H2 C=none:=I2.hok.fresh (by omega)
 have Yv:∀b∈fp,@LT.lt Nat _ b D:=fun b hb=>by
  obtain⟨o,e,_⟩:=T.obj _ _ st2 b hb
  have q: @LT.lt Nat _ b s2.heap.objs.size:=Heap.lt_size e
  omega
 have Dfp:D∉fp:=fun z=>Nat.lt_irrefl _ (Yv D z)
 have adO:∀b∈frs X.stack,@LT.lt Nat _ b D:=fun b hb=>by
  obtain⟨_,o,ho,_⟩:=I2.stack.mem hb
  have q: @LT.lt Nat _ b s2.heap.objs.size:=Heap.lt_size ho
  omega
 have ad4:∀y c,cl.lookup y=some c→ @LT.lt Nat _ c D:=fun y c e=>by
  obtain⟨v,z⟩:=I2.cell y c (vD y c e)
  have q: @LT.lt Nat _ c s2.heap.objs.size:=z.lt
  omega
 have ok:(bz X scope cl C (x::cs) fp s2 H2).Ok:=by
  refine⟨I2.ok.mod,hkind,I2.ok.glob,I2.ok.blt,(by show s2.heap.objs.size≤C;omega),fun y z c e1 e2=>I2.ok.inj y z c (vD y c e1) (vD z c e2),fun y hy=>Ik y (La hcell hy),fun y c e=>(by cases e),I2.ok.hd,I2.ok.frames,.inl rfl,
   fun b hb=>⟨?_,fun y c e=>(f2 b hb).2.2.2.2.1 y c (vD y c e)⟩,I2.bs,Nat.le_trans I2.ok.Ut I2.sz,fun b o e hb=> ?_,fun b hb z=> ?_,I2.stack,I2.BL⟩
  ·have q:=Yv b hb
   show b≠C
   intro z
   subst z
   omega
  ·rcases(f2 b hb).2.2.2.1 with z | z
   ·exact I2.ok.Rk b o e z
   ·have l: @LT.lt Nat _ b X.base.objs.size:=Heap.lt_size e
    have l2:=I2.ok.Ut
    have l3: @LE.le Nat _ X.s₀.heap.objs.size b:=z
    omega
  ·rcases List.mem_cons.mp (I2.GR b z)with e | e
   ·exact(f2 b hb).2.1 e
   ·exact(f2 b hb).2.2.1 e
 have I0:Inv (bz X scope cl C (x::cs) fp s2 H2) [(D,{cls:= .type "list",dict:=none,data:= .seq ([]:List Value).toArray})] (none::caps js σ) H2 {s2 with heap:=h1,toks:=s2.toks+([]:List (Str×Value)).length}:=by
  refine⟨ok,rfl,I2.bare,Un.kept old,⟨_,hns,fun i y v e1 e2 e3=> ?_⟩,fun y c e=> ?_,HC,fun y c e=>I2.rK y c (vD y c e),fun p hp=> ?_,I2.hok.kept old,?_⟩
  ·cases i with
   | zero=>simp at e2
   | succ j=>
    have e1':cs[j]? = some y:=by simpa[bz]using e1
    obtain⟨i0,q1,q2,q3,q4⟩:=hcap.get e1'
    have e2':σ[i0]? = some (some v):=by
     have z:(caps js σ)[j]? = some (some v):=by simpa using e2
     unfold caps at z
     rw[List.getElem?_map,q1]at z
     have z':(σ[i0]?).join=some v:=by simpa using z
     cases r:σ[i0]? with
     | none=>rw[r]at z';cases z'
     | some r'=>rw[r]at z';exact congrArg some z'
    obtain⟨m,_,hl⟩:=I2.loc
    obtain⟨u,r,l⟩:=hl i0 y v q2 e2' (by rcases q4 with q | q;exact .inr (.inl q);exact .inr (.inr q))
    obtain⟨c,hcy⟩:=Ik y (PySem.mem_of_lookup q3)
    refine⟨u,r,.inr ⟨Q7 q3,c,hcy,?_⟩⟩
    rcases l with⟨k,_⟩ | ⟨_,c',ec,o,ho,hd⟩
    ·rcases q4 with q | q<;>rw[q]at k<;>cases k
    ·rw[vD y c hcy]at ec
     cases ec
     exact⟨o,old _ _ ho,hd⟩
  ·obtain⟨v,o,ho,hd⟩:=I2.cell y c (vD y c e)
   exact⟨v,o,old _ _ ho,hd⟩
  ·have ep:p=(D,{cls:= .type "list",dict:=none,data:= .seq ([]:List Value).toArray}):=by simpa[bz]using hp
   subst ep
   exact⟨aeN,HD,(by show D≠C;omega),(fun z=>Nat.lt_irrefl _ (adO D z)),fun v z=>by cases z⟩
  ·show(none::caps js σ).length=(x::cs).length
   unfold caps
   rw[List.length_cons,List.length_cons,List.length_map,hcap.len]
 have stat:∀{pn:List (Addr×Obj)} {H':Hp},(∀b∈fp,H' b=none)→(∀p∈pn,p.1∉fp)→∀b∈fp,Ek (bz X scope cl C (x::cs) fp s2 H2) pn H' b:=fun hn hpn b hb=>
  ⟨hn b hb,(ok.exf b hb).1,ok.RP b hb,.inl hb,fun y c e=>(ok.exf b hb).2 y c e,fun p hp z=>hpn p (by simpa[bz]using hp) (z▸hb)⟩
 have loop:∀s3:Shared,s3={s2 with heap:=h1,toks:=s2.toks+([]:List (Str×Value)).length}→
   codeAny (model X.prog X.w) X.A (.compLoop (.ListComp elt [⟨.Name x px,iter,ifs,0⟩] scope pos) 0 (.ref it) (.ref D) (compEnvC scope cl C X.env)) (RR (.ref D) C) s3:=by
  rintro s3 rfl
  obtain⟨m0,w0⟩:=w0
  refine Nr (fun n s=>∃(i:Nat) (ys:List V) (its:List Value) (c:Nat) (H:Hp),Inv (bz X scope cl C (x::cs) fp s2 H2) [(D,{cls:= .type "list",data:= .seq its.toArray c})] (none::caps js σ) H s∧
   tn i s.heap∧(∀b∈fp,H b=none)∧Vals ys its∧W i n ys H) ?_ m0 ⟨0,[],[],0,H2,I0,T.keep _ _ _ st2 fun b _ o e=>old b o e,fun b hb=>(f2 b hb).1,.nil,w0⟩
  rintro n s3 ⟨i,ys,its,c,H3,I3,st3,fr3,rv,w3⟩
  have pD:∀p∈[((D,{cls:= .type "list",data:= .seq its.toArray c}):Addr×Obj)],p.1∉fp:=fun p hp=>by
   have:p=(D,{cls:= .type "list",data:= .seq its.toArray c}):=by simpa using hp
   subst this
   exact Dfp
  rcases step i n ys H3 w3 with⟨stop,hlen,qn⟩ | ⟨go,N,hN,step⟩
  ·refine gU (T.done (bz X scope cl C (x::cs) fp s2 H2) rfl rfl rfl hc i _ s3 _ H3 (fun _ _=>False) I3 (stat fr3 pD) st3 stop) fun r s4 ⟨hr,I4⟩=> ?_
   subst hr
   obtain⟨gD,nD,_⟩:=I4.pin _ (List.mem_append_right _ List.mem_cons_self)
   obtain⟨m',hn',_⟩:=id I4.loc
   have u4:Un (frs X.stack) fp H2 H3 s2.heap s4.heap:=I4.base
   have k4:uN X.prog X.w (upd H3 D (.lst ys)) s4.heap:=uN.track I4.hok nD ⟨hlen,its,c,rv,gD⟩
   have I5:Inv X pins σ (upd H3 D (.lst ys)) s4:=I2.call' (ch:=fp) I4.os (u4.track noD HD) k4 I4.bare fun b hb=>⟨(f2 b hb).2.2.2.1,(f2 b hb).2.1,(f2 b hb).2.2.2.2.1,(f2 b hb).2.2.2.2.2⟩
   exact fin D C _ s4 m' I5 hn' (by omega) (by rw[bh (Ne.symm DC)];exact I4.free) (qn D nD)
  ·refine gU (T.item (bz X scope cl C (x::cs) fp s2 H2) rfl rfl rfl hc i _ s3 _ H3 (fun _ _=>False) I3 (stat fr3 pD) st3 go) fun r s4 ⟨u,hr,h4⟩=> ?_
   subst hr
   refine gU h4 fun _ s5 ⟨v,H5,I5,r5,y5,Vb,fr5⟩=> ?_
   have I5':=I5.pinned (stat fr5 pD) (T.obj _ _ Vb)
   have hxl:(compEnvC scope cl C X.env).scope.names.lookup x=some .local:=lookup_relabel_local hx
   refine wpAny_assign_Name (GQ (X:=bz X scope cl C (x::cs) fp s2 H2) (i:=0) I5' hnd rfl (.inl hxl) r5 (fun s6 I6=> ?_) (.inr hxl))
   have weak:∀{pn:List (Addr×Obj)} {H':Hp} {s':Shared},Inv (bz X scope cl C (x::cs) fp s2 H2) pn (some v::caps js σ) H' s'→Inv (bz X scope cl C (x::cs) fp s2 H2) pn (none::caps js σ) H' s':=fun I'=>
    I'.weak rfl fun j z e=>by
     cases j with
     | zero=>simp at e
     | succ j=>simpa using e
   have Zq:∀{σ':St} {H':Hp} {s':Shared},Inv (bz X scope cl C (x::cs) fp s2 H2) ([(D,{cls:= .type "list",data:= .seq its.toArray c})]++DG fp s5.heap) σ' H' s'→(∀b∈fp,∀o,s5.heap.get? b=some o→s'.heap.get? b=some o)∧∀b∈fp,H' b=none:=fun I'=>
    ⟨fun b hb o e=>(I'.pin (b,o) (List.mem_append_right _ (List.mem_append_right _ (pJ hb e)))).1,fun b hb=>by
     obtain⟨o,e,_⟩:=T.obj _ _ Vb b hb
     exact(I'.pin (b,o) (List.mem_append_right _ (List.mem_append_right _ (pJ hb e)))).2.1⟩
   refine gU (ht cl C fp s2 H2 _ s6 (some v::caps js σ) H5 _ I6 (step v H5 y5)) fun b s7 ⟨H7,I7,q7⟩=> ?_
   cases b with
   | false=>
    rw[if_neg Bool.false_ne_true]at q7 ⊢
    obtain⟨_,m',hm,w7⟩:=hN _ _ q7
    exact⟨m',hm,i+1,ys,its,c,H7,weak I7.yz,T.keep _ _ _ Vb (Zq I7).1,(Zq I7).2,rv,w7⟩
   | true=>
    rw[if_pos rfl]at q7 ⊢
    refine gU (he cl C fp s2 H2 _ s7 (some v::caps js σ) H7 _ I7 q7) fun yv s8 ⟨y,H8,I8,r8,q8⟩=> ?_
    obtain⟨hl8,m',hm,w8⟩:=hN _ _ q8
    rw[List.length_append,List.length_singleton]at hl8
    obtain⟨gD,nD,dC,dF,_⟩:=I8.pin (D,{cls:= .type "list",data:= .seq its.toArray c}) (List.mem_append_right _ (List.mem_append_left _ List.mem_cons_self))
    have el:=rv.length
    refine wpAny_list_append_plain (hsz:=by rw[List.size_toArray];omega) ⟨c,gD⟩ fun h9 p9 sb9=> ?_
    obtain⟨c9,g9⟩:=p9
    have g9':h9.get? D=some {cls:= .type "list",data:= .seq (its++[yv]).toArray c9}:=by simpa using g9
    have I9:Inv (bz X scope cl C (x::cs) fp s2 H2) [] (none::caps js σ) H8 {s8 with heap:=h9}:=
     (weak (I8.uX (Ad:=[]) (fun p hp=>nomatch hp))).turned (t':=s8.toks) (it:=D) (fun b o hb e=>(sb9.2 b hb).trans e) nD dC (.inr (by show s2.heap.objs.size≤D;omega)) (fun y c e z=>by have q:=ad4 y c e;subst z;omega) (fun p hp=>nomatch hp)
    refine⟨m',hm,i+1,ys++[y],its++[yv],c9,H8,I9.uX fun p hp=> ?_,?_,(Zq I8).2,rv.append (.cons r8 .nil),w8⟩
    ·have:p=(D,{cls:= .type "list",data:= .seq (its++[yv]).toArray c9}):=by simpa using hp
     subst this
     exact⟨g9',nD,dC,dF,fun v z=>by cases z⟩
    ·exact T.keep _ _ _ Vb fun b hb o e=>(sb9.2 b (fun z=>Dfp (z▸hb))).trans ((Zq I8).1 b hb o e)
 exact codeAny_compStart_list (loop _ rfl) (T.self _ 0 _ _ _ (T.keep _ _ _ st2 fun b _ o e=>old b o e) (loop _ rfl))
theorem Inv.letGo{pins:List (Addr×Obj)}{σ:St}{H:Hp}{s:Shared}{C:Addr}{h':Heap}{s2:Shared}{H2:Hp}{σ2:St}(I2:Inv X pins σ2 H2 s2)(I:Inv X pins σ H s)(hC:s2.heap.objs.size≤C)(hn:H C=none)(sb:Heap.SameBut C s.heap h'):Inv X pins σ H {s with heap:=h'}:=
 I.turned (t':=s.toks) (fun b o hb e=>(sb.2 b hb).trans e) hn (Nat.ne_of_gt (Nat.lt_of_lt_of_le I2.lt hC)) (.inr (Nat.le_trans I2.sz hC))
  (fun y c e z=>by obtain⟨v,q⟩:=I2.cell y c e;exact absurd (Nat.lt_of_lt_of_le q.lt (by rw[z];exact hC)) (Nat.lt_irrefl _))
  (fun p hp z=>absurd (Nat.lt_of_lt_of_le (Heap.lt_size (I2.pin p hp).1) (by rw[z];exact hC)) (Nat.lt_irrefl _))
theorem aad{wi:TI}(hc:X.calm=true)(cs:List Str)(js:List Nat)(hi:PI X (.Name x px) iter wi)(hcap:uP X scope cs js)(ht:∀cl C fp s H,PTs (bz X scope cl C (x::cs) fp s H) ifs tt)(he:∀cl C fp s H,PE (bz X scope cl C (x::cs) fp s H) elt te)
  (hall:∀y∈scope.names,y.2= .free→y.1∈cs) (hcell:∀y∈scope.names,y.2≠ .cell) (hnames:∀y∈scope.names,y.2= .local→scope.names.lookup y.1=some .local) (hnd:(x::cs).Nodup)
  (hkind:scope.kind= .function:=by rfl) (hx:scope.names.lookup x=some .local:=by rfl) (hs:∀v,foldedSetIterable iter X.env v=pure v:=by intro _;rfl):
  PE X (.ListComp elt [⟨.Name x px,iter,ifs,0⟩] scope pos) (W8 js wi tt te):=by
 intro pins s σ H Q I h
 obtain⟨cl,Yt,vD,Ik⟩:=Bl (env:=X.env) (scope:=scope) fun n hn=>by
  obtain⟨j,hj⟩:=List.getElem?_of_mem (hall _ hn rfl)
  obtain⟨_,_,_,_,k⟩:=hcap.get hj
  exact I.ok.has n k
 rw[eval_ListComp]
 refine wpAny_comprehension_free (use:=none) rfl hs Yt hkind hnames (gU (hi pins s σ H _ I h) fun v s1 h1=>gU h1 fun itv s2 h2=> ?_)
 obtain⟨it,fp,tn,J,H2,e,I2,T,st2,f2,W,w0,step⟩:=h2
 subst e
 refine IK (Q:=Q) (RR:=fun acc C=>compPost (model X.prog X.w) X.A X.xe none (EP X pins σ Q) acc C) hc hcap ht he hcell hkind hx hnd vD Ik I2 T st2 f2 W w0 step fun D C H3 s4 m' I4 hn hC hH q=> ?_
 exact⟨m',hn,fun h' sb=>⟨.ref D,H3,I2.letGo I4 hC hH sb,rfl,q⟩⟩
theorem Z_{wi:TI}{y:Str}{py spos:Pos}{k:Nat}(hc:X.calm=true)(cs:List Str)(js:List Nat)(hN:X.N.Nodup)(hk:X.N[k]? = some y)(hy:X.env.scope.names.lookup y=some .local)(hi:PI X (.Name x px) iter wi)(hcap:uP X scope cs js)
  (ht:∀cl C fp s H,PTs (bz X scope cl C (x::cs) fp s H) ifs tt) (he:∀cl C fp s H,PE (bz X scope cl C (x::cs) fp s H) elt te)
  (hall:∀y∈scope.names,y.2= .free→y.1∈cs) (hcell:∀y∈scope.names,y.2≠ .cell) (hnames:∀y∈scope.names,y.2= .local→scope.names.lookup y.1=some .local) (hnd:(x::cs).Nodup)
  (hsw:swapsWith (.ListComp elt [⟨.Name x px,iter,ifs,0⟩] scope pos) (some (.Name y py)) spos.line X.env=pure true:=by rfl)
  (hkind:scope.kind= .function:=by rfl) (hx:scope.names.lookup x=some .local:=by rfl) (hs:∀v,foldedSetIterable iter X.env v=pure v:=by intro _;rfl):
  PS X (.Assign [.Name y py] (.ListComp elt [⟨.Name x px,iter,ifs,0⟩] scope pos) spos) (ab4 (W8 js wi tt te) (Uj k)):=by
 intro pins s σ H D I h
 obtain⟨cl,Yt,vD,Ik⟩:=Bl (env:=X.env) (scope:=scope) fun n hn=>by
  obtain⟨j,hj⟩:=List.getElem?_of_mem (hall _ hn rfl)
  obtain⟨_,_,_,_,k⟩:=hcap.get hj
  exact I.ok.has n k
 rw[exec_Assign_Name_used _ _ _ _ hsw]
 refine wpAny_bind (wpAny_standAt (wpAny_bind ?_))
 show wpAny _ X.A (do let _ ←comprehension (.ListComp elt [⟨.Name x px,iter,ifs,0⟩] scope pos) scope X.env _ (newList []) false (eval iter X.env) (some (assign (.Name y py) X.env))) _ _ s
 refine wpAny_bind (gU (wpAny_comprehension_free (use:=some (assign (.Name y py) X.env)) (Q:=fun _ s'=>SP X pins D .next s') rfl hs Yt hkind hnames (gU (hi pins s σ H _ I h) fun v s1 h1=>gU h1 fun itv s2 h2=> ?_)) (fun _ s' q=>wpAny_pure (wpAny_pure q)))
 obtain⟨it,fp,tn,J,H2,e,I2,T,st2,f2,W,w0,step⟩:=h2
 subst e
 refine IK (Q:=fun x H1=>Uj k x σ H1 D.nx) (RR:=fun acc C=>compPost (model X.prog X.w) X.A X.xe (some (assign (.Name y py) X.env)) (fun _ s'=>SP X pins D .next s') acc C) hc hcap ht he hcell hkind hx hnd vD Ik I2 T st2 f2 W w0 step fun D' C H3 s4 m' I4 hn hC hH q=> ?_
 show wpAny _ X.A (assign (.Name y py) X.env (.ref D')) _ _ _
 refine wpAny_assign_Name (JP (v:= .ref D') I4 hN hk (.inl hy) rfl (fun s5 I5 ⟨a,sb,ha⟩=> ?_) (.inr hy))
 have neC:C≠a:=by
  rcases ha with e | e
  ·rw[e];exact Nat.ne_of_gt (Nat.lt_of_lt_of_le I2.lt hC)
  ·intro z
   obtain⟨v,q⟩:=I2.cell y a e
   exact absurd (Nat.lt_of_lt_of_le q.lt (by rw[←z];exact hC)) (Nat.lt_irrefl _)
 exact⟨m',hn.sameBut sb neC,fun h' sb'=>⟨_,H3,I2.letGo I5 hC hH sb',q⟩⟩
end
end L2
namespace L2
open PySem PySem.Spec PyProof.Rows
def abE:HO→Bool
 | .dT _=>false
 | .zR _ (.dT _)=>false
 | .zR _ (.ins _ _ _)=>false
 | .zR _ (.zR _ _)=>false
 | _=>true
def Flat(H:Hp):Prop:=∀a o,H a=some o→abE o=true
def UL(H:Hp):Prop:=∀a C dx fs,H a=some (.ins C dx fs)→H dx=some (.own a)
structure Fgt(H H' Wu:Hp):Prop where
 sub:∀a o,Wu a=some o→H' a=some o
 flat:Flat Wu
 own:UL H→UL Wu
 tup:∀b xs,H b=some (.tup xs)→Wu b=some (.tup xs)
 zR:∀b o u,H b=some (.zR o u)→Wu b=some (.zR o u)
 W2:∀b ps,H b=some (.W2 ps)→∃more,Wu b=some (.W2 (ps++more))
theorem Fgt.self{H H':Hp}(s:aeP H H')(f:Flat H):Fgt H H' H:=
 ⟨s,f,id,fun _ _ e=>e,fun _ _ _ e=>e,fun _ ps e=>⟨#[],by rw[e];simp⟩⟩
theorem dg.less{P:Program}{w:World}{H H':Hp}{h:Heap}{a:Addr}{o:HO}(x:dg P w H' h a o)(f:abE o=true)(hw:∀C dx fs,o= .ins C dx fs→H dx=some (.own a)):dg P w H h a o:=by
 cases o with
 | dT kvs=>exact absurd f Bool.false_ne_true
 | ins C dx fs=>exact⟨hw C dx fs rfl,x.2⟩
 | zR ob u=>
  cases u with
  | dT _=>exact absurd f Bool.false_ne_true
  | ins _ _ _=>exact absurd f Bool.false_ne_true
  | zR _ _=>exact absurd f Bool.false_ne_true
  | _=>exact x
 | _=>exact x
theorem uN.less{P:Program}{w:World}{H H':Hp}{h:Heap}(x:uN P w H' h)(s:∀a o,H a=some o→H' a=some o)(f:Flat H)(hw:UL H):uN P w H h:=fun a o e=>
 (x a o (s a o e)).less (f a o e) fun C dx fs z=>hw a C dx fs (by rw[←z];exact e)
theorem uN.own{P:Program}{w:World}{H:Hp}{h:Heap}(x:uN P w H h):UL H:=fun a _ _ _ e=>(x a _ e).1
def gcK(H:Hp)(Q:VK):VK:=fun v H'=>Q v H'∨∃Wu,Fgt H H' Wu∧Q v Wu
theorem aX.gc{P:Program}{w:World}{K:PySem.W.Frag}{mg:Str→Option Value}{base:Heap}{CX:Sy}{k:Nat}{f:Addr}{fd:FuncData}{ps:List Str}{sp sp':Sp}(F:aX P w K mg base CX k f fd ps sp)
  (h:∀vs H Q E,sp' vs H Q E→sp vs H (gcK H Q) E):aX P w K mg base CX k f fd ps sp':=by
 refine⟨fun vs H Q E q=>F.len vs H _ E (h _ _ _ _ q),fun A outer s H args us vs Q E hr he hb hv hs=>codeAny_mono (F.run A outer s H args us vs (gcK H Q) E hr he hb hv (h _ _ _ _ hs)) fun r s' hq=> ?_⟩
 cases r with
 | error e=>exact hq
 | ok fl=>
  cases fl with
  | ret u=>
   obtain⟨v,H',os,bare,un,hok,rv,q⟩:=hq
   rcases q with q | ⟨Wu,g,q⟩
   ·exact⟨v,H',os,bare,un,hok,rv,q⟩
   refine⟨v,Wu,os,bare,⟨un.keep,un.slot,fun b o e n hx=> ?_,un.there,g.tup,g.zR,g.W2⟩,hok.less g.sub g.flat (g.own he.hok.own),rv,q⟩
   cases z:Wu b with
   | none=>rfl
   | some o'=>
    have z':=g.sub b o' z
    rw[un.free b o e n hx]at z'
    cases z'
  | next=>exact hq
  | brk=>exact hq
  | cont=>exact hq
structure bx(K:PySem.W.Frag)(x qual:Str)(st:Stmt)(dV:Value)(f:Addr)(fd:FuncData):Prop where
 ex:∃(oc:Value) (od:Option Addr) (kV doc pm:Value) (an:Option Addr) (cdv ct:Value) (osl:Array (Option Value)),
  fd=PySem.W.fnOf x qual (aH st) (aG st) (au st) dV kV doc pm an cdv ct∧K.lookup f=some ⟨oc,od,.func fd,osl⟩∧PySem.W.codeIn K cdv qual=true
 kp:PySem.W.keepIn K (.ref f)=true
section
variable{P:Program}{w:World}{K:PySem.W.Frag}{mg:Str→Option Value}{base:Heap}
theorem bx.binds{x qual:Str}{st:Stmt}{dV:Value}{f:Addr}{fd:FuncData}{ps:List Str}(F:bx K x qual st dV f fd)
  (h:∀(kV doc pm:Value) (an:Option Addr) (cdv ct:Value) (us:List Value),us.length=ps.length→bindArgs (PySem.W.fnOf x qual (aH st) (aG st) (au st) dV kV doc pm an cdv ct) ⟨us,[]⟩=pure (ps.zip us)):Binds K fd ps []:=by
 obtain⟨oc,od,kV,doc,pm,an,cdv,ct,osl,rfl,lk,hcd⟩:=F.ex
 exact .all (h kV doc pm an cdv ct)
theorem aJ{x qual:Str}{st:Stmt}{dV:Value}{f:Addr}{oc:Value}{od an:Option Addr}{osl:Array (Option Value)}{kV doc pm cdv ct:Value}(l:K.lookup f=some ⟨oc,od,.func (PySem.W.fnOf x qual (aH st) (aG st) (au st) dV kV doc pm an cdv ct),osl⟩)
  (c:PySem.W.codeIn K cdv qual=true) (k:PySem.W.keepIn K (.ref f)=true):bx K x qual st dV f (PySem.W.fnOf x qual (aH st) (aG st) (au st) dV kV doc pm an cdv ct):=⟨⟨oc,od,kV,doc,pm,an,cdv,ct,osl,rfl,l,c⟩,k⟩
end
theorem o7:bootBuiltins "len" = some (.builtin "len"):=by decide +kernel
theorem vJ:bootBuiltins "isinstance" = some (.builtin "isinstance"):=by decide +kernel
theorem aeD:bootBuiltins "all" = some (.builtin "all"):=by decide +kernel
theorem aeC:bootBuiltins "int" = some (.type "int"):=by decide +kernel
theorem aa6:bootBuiltins "bool" = some (.type "bool"):=by decide +kernel
theorem Gq:bootBuiltins "list" = some (.type "list"):=by decide +kernel
theorem uJ:bootBuiltins "tuple" = some (.type "tuple"):=by decide +kernel
theorem RW:bootBuiltins "str" = some (.type "str"):=by decide +kernel
section
variable{X:Cx}
end
section
variable{X:Cx}
end
theorem Only.flat{H:Hp}(o:Only H):Flat H:=fun a u e=>by
 rcases o a with z | ⟨ob,xs,z⟩
 ·rw[z]at e;cases e
 ·rw[z]at e;cases e;rfl
def cell(ns:List Int)(k:Nat):Int:=ns.getD k 0
def aky(g:TG)(tb:TS)(D:Ends)(σ:St)(J:It)(H1:Hp):Prop:=
 ∃W:Nat→Nat→St→Hp→Prop,(∃m,W 0 m σ H1)∧∀i m σ H,W i m σ H→
  (J.stop i H∧D.nx σ H)∨(J.go i H∧∃N:St→Hp→Prop,(∀σ' H',N σ' H'→∃m',m'<m∧W (i+1) m' σ' H')∧∀x H',J.WD i H x H'→g x σ H' fun σ2 H2=>tb {D with nx:=N,ct:=N,bk:=D.nx} σ2 H2)
def afz(wi:TI)(g:TG)(tb:TS):TS:=fun D σ H=>wi σ H fun J H1=>aky g tb D σ J H1
theorem Z7{X:Cx}{tg iter:Expr}{body:List Stmt}{wi:TI}{g:TG}{tb:TS}{pos:Pos}(hp:PassesOwn (model X.prog X.w) X.A X.env X.xe)(hc:X.calm=true)(hi:PI X tg iter wi)(hg:PG X tg g)(hb:Qp X body tb)
  (hs:∀x,foldedSetIterable iter X.env x=pure x:=by intro _;rfl):PS X (.For tg iter body [] pos) (afz wi g tb):=acK hp hc hi hg hb hs
end L2
namespace L2
open PySem PySem.Spec PyProof.Rows
inductive Dt where
 | non | bl (b:Bool) | int (i:Int) | str (x:Str) | tup (ds:List Dt) | lst (ds:List Dt)
mutual
inductive Is (K:PySem.W.Frag) (H:Hp):V→Dt→Prop
 | non:Is K H .non .non
 | bl (b:Bool):Is K H (.bl b) (.bl b)
 | int (i:Int):Is K H (.int i) (.int i)
 | str (x:Str):Is K H (.str x) (.str x)
 | tup {a:Addr} {xs:List V} {ds:List Dt}:vK K H a xs→QB K H xs ds→Is K H (.ref a) (.tup ds)
 | lst {a:Addr} {xs:List V} {ds:List Dt}:yt K H a xs→QB K H xs ds→Is K H (.ref a) (.lst ds)
inductive QB (K:PySem.W.Frag) (H:Hp):List V→List Dt→Prop
 | nil:QB K H [] []
 | cons {x:V} {d:Dt} {xs:List V} {ds:List Dt}:Is K H x d→QB K H xs ds→QB K H (x::xs) (d::ds)
end
mutual
def cz:Dt→Dt→Bool
 | .non,.non=>true
 | .bl a,.bl b=>a==b
 | .bl a,.int b=>(if a then 1 else 0)==b
 | .int a,.bl b=>a==(if b then 1 else 0)
 | .int a,.int b=>a==b
 | .str a,.str b=>a==b
 | .tup ds,.tup es=>z_ ds es
 | .lst ds,.lst es=>z_ ds es
 | _,_=>false
def z_:List Dt→List Dt→Bool
 | [],[]=>true
 | d::ds,e::es=>cz d e&&z_ ds es
 | _,_=>false
end
mutual
def dep:Dt→Nat
 | .tup ds=>deps ds+1
 | .lst ds=>deps ds+1
 | _=>0
def deps:List Dt→Nat
 | []=>0
 | d::ds=>max (dep d) (deps ds)
end
mutual
theorem C_:∀d:Dt,cz d d=true
 | .non=>by unfold cz;rfl
 | .bl a=>by unfold cz;simp
 | .int a=>by unfold cz;simp
 | .str a=>by unfold cz;simp
 | .tup ds=>by unfold cz;exact Ec ds
 | .lst ds=>by unfold cz;exact Ec ds
theorem Ec:∀ds:List Dt,z_ ds ds=true
 | []=>by unfold z_;rfl
 | d::ds=>by unfold z_;rw[C_ d,Ec ds];rfl
end
theorem qP:∀{ds es:List Dt},ds.length≠es.length→z_ ds es=false
 | [],[],h=>absurd rfl h
 | [],_::_,_=>by unfold z_;rfl
 | _::_,[],_=>by unfold z_;rfl
 | d::ds,e::es,h=>by
  unfold z_
  rw[qP (ds:=ds) (es:=es) fun z=>h (by rw[List.length_cons,List.length_cons,z]),Bool.and_false]
theorem uy:∀{ds es:List Dt},ds.length=es.length→(List.range ds.length).all (fun j=>cz (ds.getD j .non) (es.getD j .non))=z_ ds es
 | [],[],_=>by unfold z_;rfl
 | [],_::_,h=>by cases h
 | _::_,[],h=>by cases h
 | d::ds,e::es,h=>by
  have ih:=uy (ds:=ds) (es:=es) (Nat.succ.inj h)
  rw[List.length_cons,List.range_succ_eq_map,List.all_cons,List.all_map,z_,←ih]
  rfl
theorem QB.length{K:PySem.W.Frag}{H:Hp}:∀{xs:List V} {ds:List Dt},QB K H xs ds→xs.length=ds.length
 | _,_,.nil=>rfl
 | _,_,.cons _ r=>by rw[List.length_cons,List.length_cons,QB.length r]
theorem QB.get{K:PySem.W.Frag}{H:Hp}:∀{xs:List V} {ds:List Dt} {i:Nat} {x:V},QB K H xs ds→xs[i]? = some x→∃d,ds[i]? = some d∧Is K H x d
 | _,_,_,_,.nil,e=>by simp at e
 | _,_,0,_,.cons r _,e=>by simp at e;subst e;exact⟨_,rfl,r⟩
 | _,_,i+1,x,.cons _ t,e=>by
  obtain⟨d,h1,h2⟩:=QB.get (i:=i) (x:=x) t (by simpa using e)
  exact⟨d,by simpa using h1,h2⟩
theorem Mr(ds es:List Dt):cz (.tup ds) (.tup es)=z_ ds es:=by unfold cz;rfl
theorem zV(ds es:List Dt):cz (.lst ds) (.lst es)=z_ ds es:=by unfold cz;rfl
section
variable{X:Cx}{pins:List (Addr×Obj)}{σ:St}{H:Hp}{s:Shared}
theorem Inv.Oz(I:Inv X pins σ H s){a:Addr}{xs ys:List V}(h:vK X.K H a xs)(h':yt X.K H a ys):False:=by
 obtain⟨its,_,pt,_⟩:=I.tuple h
 obtain⟨jts,_,pl,_⟩:=I.list h'
 obtain⟨o,e,c,_⟩:=pt
 obtain⟨o',n',e',c',_⟩:=pl
 rw[e]at e';cases e'
 rw[c]at c'
 injection c' with z
 exact absurd z (by decide)
mutual
theorem Inv.Yn(I:Inv X pins σ H s):∀{v:V} {d e:Dt},Is X.K H v d→Is X.K H v e→d=e
 | _,_,_,.non,.non=>rfl
 | _,_,_,.bl _,.bl _=>rfl
 | _,_,_,.int _,.int _=>rfl
 | _,_,_,.str _,.str _=>rfl
 | _,_,_,.tup q r,.tup q' r'=>congrArg Dt.tup (Inv.L_ I r (I.JL q q'▸r'))
 | _,_,_,.lst q r,.lst q' r'=>congrArg Dt.lst (Inv.L_ I r (I.O6 q q'▸r'))
 | _,_,_,.tup q _,.lst q' _=>(I.Oz q q').elim
 | _,_,_,.lst q _,.tup q' _=>(I.Oz q' q).elim
theorem Inv.L_(I:Inv X pins σ H s):∀{vs:List V} {ds es:List Dt},QB X.K H vs ds→QB X.K H vs es→ds=es
 | _,_,_,.nil,.nil=>rfl
 | _,_,_,.cons r t,.cons r' t'=>by rw[Inv.Yn I r r',Inv.L_ I t t']
end
theorem Bg:∀{ds:List Dt} {j:Nat} {d:Dt},ds[j]? = some d→dep d≤deps ds
 | [],_,_,e=>by simp at e
 | d'::ds,0,d,e=>by simp at e;subst e;unfold deps;exact Nat.le_max_left _ _
 | d'::ds,j+1,d,e=>by
  have:=Bg (ds:=ds) (j:=j) (d:=d) (by simpa using e)
  unfold deps
  exact Nat.le_trans this (Nat.le_max_right _ _)
theorem v5{A:Around}{xs ys:List V}{its jts:List Value}{ds es:List Dt}(r1:Vals xs its)(r2:Vals ys jts)(q1:QB X.K H xs ds)(q2:QB X.K H ys es)
  (ih:∀(j:Nat) (x y:V) (d e:Dt) (u v:Value),ds[j]? = some d→es[j]? = some e→Is X.K H x d→Is X.K H y e→RelV x u→RelV y v→SeqAt.EqAt A s u v (cz d e)):
  ∀j (h1:j<its.toArray.size) (h2:j<jts.toArray.size),SeqAt.EqAt A s its.toArray[j] jts.toArray[j] (cz (ds.getD j .non) (es.getD j .non)):=fun j h1 h2=>by
 have l1:=r1.length
 have l2:=r2.length
 have j1:j<xs.length:=by simp at h1;omega
 have j2:j<ys.length:=by simp at h2;omega
 obtain⟨w1,g1,p1⟩:=r1.get (i:=j) (x:=xs[j]) (by simp[j1])
 obtain⟨w2,g2,p2⟩:=r2.get (i:=j) (x:=ys[j]) (by simp[j2])
 obtain⟨d,e1,i1⟩:=q1.get (i:=j) (x:=xs[j]) (by simp[j1])
 obtain⟨e,e2,i2⟩:=q2.get (i:=j) (x:=ys[j]) (by simp[j2])
 have d1:ds.getD j .non=d:=by simp[List.getD,e1]
 have d2:es.getD j .non=e:=by simp[List.getD,e2]
 have c1:its.toArray[j]=w1:=by
  have:=List.getElem?_eq_some_iff.mp g1
  simpa using this.2
 have c2:jts.toArray[j]=w2:=by
  have:=List.getElem?_eq_some_iff.mp g2
  simpa using this.2
 rw[d1,d2,c1,c2]
 exact ih j _ _ d e _ _ e1 e2 i1 i2 p1 p2
theorem Dy{n m:Nat}(h:n=m)(p:Nat→Bool):((List.range (min n m)).all p&&n==m)=(List.range n).all p:=by
 subst h
 rw[Nat.min_self]
 simp
theorem Ea(I:Inv X pins σ H s):∀(n:Nat) (A:Around) (x y:V) (d e:Dt) (u v:Value),dep d≤n→A.units+n<cLine→Is X.K H x d→Is X.K H y e→RelV x u→RelV y v→SeqAt.EqAt A s u v (cz d e)
 | n,A,x,y,d,e,u,v,hd,hu,hx,hy,rx,ry=>by
  have same:u=v→SeqAt.EqAt A s u v (cz d e):=fun z=>by
   subst z
   have xy:x=y:=rx.inj ry
   subst xy
   rw[I.Yn hx hy,C_]
   exact SeqAt.EqAt.same _
  have hu0:A.units<cLine:=by omega
  have in1:A.in1.units=A.units+1:=rfl
  cases hx with
  | non=>
   cases rx
   cases hy with
   | non=>cases ry;exact same rfl
   | bl b=>cases ry;unfold cz;exact SeqAt.EqAt.none_bool b
   | int b=>obtain⟨t,rfl⟩:=ry;unfold cz;exact SeqAt.EqAt.none_int b t
   | str b=>obtain⟨t,rfl⟩:=ry;unfold cz;exact SeqAt.EqAt.none_str b t
   | tup q r=>cases ry;obtain⟨its,_,p,_⟩:=I.tuple q;unfold cz;exact SeqAt.EqAt.none_tuple p hu0
   | lst q r=>cases ry;obtain⟨its,_,p,_⟩:=I.list q;unfold cz;exact SeqAt.EqAt.none_list p.isList hu0
  | bl a=>
   cases rx
   cases hy with
   | non=>cases ry;unfold cz;exact SeqAt.EqAt.bool_none a
   | bl b=>cases ry;unfold cz;exact SeqAt.EqAt.bool_bool a b
   | int b=>obtain⟨t,rfl⟩:=ry;unfold cz;exact SeqAt.EqAt.bool_int a b t
   | str b=>obtain⟨t,rfl⟩:=ry;unfold cz;exact SeqAt.EqAt.bool_str a b t
   | tup q r=>cases ry;obtain⟨its,_,p,_⟩:=I.tuple q;unfold cz;exact SeqAt.EqAt.bool_tuple a p hu0
   | lst q r=>cases ry;obtain⟨its,_,p,_⟩:=I.list q;unfold cz;exact SeqAt.EqAt.bool_list a p.isList hu0
  | int a=>
   obtain⟨t',rfl⟩:=rx
   cases hy with
   | non=>cases ry;unfold cz;exact SeqAt.EqAt.int_none a t'
   | bl b=>cases ry;unfold cz;exact SeqAt.EqAt.int_bool a t' b
   | int b=>obtain⟨t,rfl⟩:=ry;unfold cz;exact SeqAt.EqAt.int_int a t' b t
   | str b=>obtain⟨t,rfl⟩:=ry;unfold cz;exact SeqAt.EqAt.int_str a t' b t
   | tup q r=>cases ry;obtain⟨its,_,p,_⟩:=I.tuple q;unfold cz;exact SeqAt.EqAt.int_tuple a t' p hu0
   | lst q r=>cases ry;obtain⟨its,_,p,_⟩:=I.list q;unfold cz;exact SeqAt.EqAt.int_list a t' p.isList hu0
  | str a=>
   obtain⟨t',rfl⟩:=rx
   cases hy with
   | non=>cases ry;unfold cz;exact SeqAt.EqAt.str_none a t'
   | bl b=>cases ry;unfold cz;exact SeqAt.EqAt.str_bool a t' b
   | int b=>obtain⟨t,rfl⟩:=ry;unfold cz;exact SeqAt.EqAt.str_int a t' b t
   | str b=>obtain⟨t,rfl⟩:=ry;unfold cz;exact SeqAt.EqAt.str_str a t' b t
   | tup q r=>cases ry;obtain⟨its,_,p,_⟩:=I.tuple q;unfold cz;exact SeqAt.EqAt.str_tuple a t' p hu0
   | lst q r=>cases ry;obtain⟨its,_,p,_⟩:=I.list q;unfold cz;exact SeqAt.EqAt.str_list a t' p.isList hu0
  | @tup a xs ds q r=>
   cases(show u=Value.ref a from rx)
   obtain⟨its,r1,p1,_⟩:=I.tuple q
   cases hy with
   | non=>cases ry;unfold cz;exact SeqAt.EqAt.tuple_none p1 hu0
   | bl b=>cases ry;unfold cz;exact SeqAt.EqAt.tuple_bool b p1 hu0
   | int b=>obtain⟨t,rfl⟩:=ry;unfold cz;exact SeqAt.EqAt.tuple_int b t p1 hu0
   | str b=>obtain⟨t,rfl⟩:=ry;unfold cz;exact SeqAt.EqAt.tuple_str b t p1 hu0
   | lst q' r'=>cases ry;obtain⟨jts,_,p,_⟩:=I.list q';unfold cz;exact SeqAt.EqAt.tuple_list p1 p.isList hu0
   | @tup b ys es q' r'=>
    cases(show v=Value.ref b from ry)
    by_cases hab:a=b
    ·subst hab;exact same rfl
    ·obtain⟨jts,r2,p2,_⟩:=I.tuple q'
     refine SeqAt.EqAt.of_refs hab ?_
     have l1:=r1.length
     have l2:=r2.length
     have l3:=r.length
     have l4:=r'.length
     cases n with
     | zero=>unfold dep at hd;omega
     | succ n=>
      have dl:deps ds≤n:=by unfold dep at hd;omega
      have z:=SeqAt.RcAt.tuples (A:=A) (s:=s) (e:=fun j=>cz (ds.getD j .non) (es.getD j .non)) p1 p2 hu0 (v5 r1 r2 r r' fun j x y d e u v h1 h2 ix iy rx ry=>Ea I n A.in1 x y d e u v (Nat.le_trans (Bg h1) dl) (by omega) ix iy rx ry)
      have ez:((List.range (min its.toArray.size jts.toArray.size)).all (fun j=>cz (ds.getD j .non) (es.getD j .non))&&its.toArray.size==jts.toArray.size)=cz (.tup ds) (.tup es):=by
       rw[Mr]
       by_cases hl:ds.length=es.length
       ·rw[Dy (by simp;omega),←uy hl]
        congr 2
        simp;omega
       ·rw[qP hl]
        have:(its.toArray.size==jts.toArray.size)=false:=by simp;omega
        rw[this,Bool.and_false]
      rw[ez]at z
      exact z
  | @lst a xs ds q r=>
   cases(show u=Value.ref a from rx)
   obtain⟨its,r1,p1,_⟩:=I.list q
   cases hy with
   | non=>cases ry;unfold cz;exact SeqAt.EqAt.list_none p1.isList hu0
   | bl b=>cases ry;unfold cz;exact SeqAt.EqAt.list_bool b p1.isList hu0
   | int b=>obtain⟨t,rfl⟩:=ry;unfold cz;exact SeqAt.EqAt.list_int b t p1.isList hu0
   | str b=>obtain⟨t,rfl⟩:=ry;unfold cz;exact SeqAt.EqAt.list_str b t p1.isList hu0
   | tup q' r'=>cases ry;obtain⟨jts,_,p,_⟩:=I.tuple q';unfold cz;exact SeqAt.EqAt.list_tuple p1.isList p hu0
   | @lst b ys es q' r'=>
    cases(show v=Value.ref b from ry)
    by_cases hab:a=b
    ·subst hab;exact same rfl
    ·obtain⟨jts,r2,p2,_⟩:=I.list q'
     refine SeqAt.EqAt.of_refs hab ?_
     have l1:=r1.length
     have l2:=r2.length
     have l3:=r.length
     have l4:=r'.length
     cases n with
     | zero=>unfold dep at hd;omega
     | succ n=>
      have dl:deps ds≤n:=by unfold dep at hd;omega
      by_cases hl:ds.length=es.length
      ·have z:=SeqAt.RcAt.lists (A:=A) (s:=s) (e:=fun j=>cz (ds.getD j .non) (es.getD j .non)) p1.isList p2.isList (by simp;omega) hu0 (v5 r1 r2 r r' fun j x y d e u v h1 h2 ix iy rx ry=>Ea I n A.in1 x y d e u v (Nat.le_trans (Bg h1) dl) (by omega) ix iy rx ry)
       have ez:(List.range its.toArray.size).all (fun j=>cz (ds.getD j .non) (es.getD j .non))=cz (.lst ds) (.lst es):=by
        rw[zV]
        rw[←uy hl]
        congr 2
        simp;omega
       rw[ez]at z
       exact z
      ·have z:=SeqAt.RcAt.lists_lengths (A:=A) (s:=s) p1.isList p2.isList (by simp;omega) hu0
       have ez:cz (.lst ds) (.lst es)=false:=by rw[zV];exact qP hl
       rw[ez]
       exact z
theorem acz(I:Inv X pins σ H s)(A:Around){x y:V}{d e:Dt}{u v:Value}{n:Nat}(hd:dep d≤n)(hu:A.units+n<cLine)(hx:Is X.K H x d)(hy:Is X.K H y e)(rx:RelV x u)(ry:RelV y v):SeqAt.RcAt A s u v (cz d e):=by
 have hu0:A.units<cLine:=by omega
 have in1:A.in1.units=A.units+1:=rfl
 cases hx with
 | non=>
  cases rx
  cases hy with
  | non=>
   cases ry
   unfold cz
   exact SeqAt.RcAt.none_none
  | bl b=>
   cases ry
   unfold cz
   exact SeqAt.RcAt.none_bool  b
  | int b=>
   obtain⟨t,rfl⟩:=ry
   unfold cz
   exact SeqAt.RcAt.none_int  b t
  | str b=>
   obtain⟨t,rfl⟩:=ry
   unfold cz
   exact SeqAt.RcAt.none_str  b t
  | @tup b ys es q' r'=>
   cases(show v=Value.ref b from ry)
   obtain⟨jts,r2,p2,_⟩:=I.tuple q'
   unfold cz
   exact SeqAt.RcAt.none_tuple  p2 hu0
  | @lst b ys es q' r'=>
   cases(show v=Value.ref b from ry)
   obtain⟨jts,r2,p2,_⟩:=I.list q'
   unfold cz
   exact SeqAt.RcAt.none_list  p2.isList hu0
 | bl a=>
  cases rx
  cases hy with
  | non=>
   cases ry
   unfold cz
   exact SeqAt.RcAt.bool_none a
  | bl b=>
   cases ry
   unfold cz
   exact SeqAt.RcAt.bool_bool a b
  | int b=>
   obtain⟨t,rfl⟩:=ry
   unfold cz
   exact SeqAt.RcAt.bool_int a b t
  | str b=>
   obtain⟨t,rfl⟩:=ry
   unfold cz
   exact SeqAt.RcAt.bool_str a b t
  | @tup b ys es q' r'=>
   cases(show v=Value.ref b from ry)
   obtain⟨jts,r2,p2,_⟩:=I.tuple q'
   unfold cz
   exact SeqAt.RcAt.bool_tuple a p2 hu0
  | @lst b ys es q' r'=>
   cases(show v=Value.ref b from ry)
   obtain⟨jts,r2,p2,_⟩:=I.list q'
   unfold cz
   exact SeqAt.RcAt.bool_list a p2.isList hu0
 | int a=>
  obtain⟨t',rfl⟩:=rx
  cases hy with
  | non=>
   cases ry
   unfold cz
   exact SeqAt.RcAt.int_none a t'
  | bl b=>
   cases ry
   unfold cz
   exact SeqAt.RcAt.int_bool a t' b
  | int b=>
   obtain⟨t,rfl⟩:=ry
   unfold cz
   exact SeqAt.RcAt.int_int a t' b t
  | str b=>
   obtain⟨t,rfl⟩:=ry
   unfold cz
   exact SeqAt.RcAt.int_str a t' b t
  | @tup b ys es q' r'=>
   cases(show v=Value.ref b from ry)
   obtain⟨jts,r2,p2,_⟩:=I.tuple q'
   unfold cz
   exact SeqAt.RcAt.int_tuple a t' p2 hu0
  | @lst b ys es q' r'=>
   cases(show v=Value.ref b from ry)
   obtain⟨jts,r2,p2,_⟩:=I.list q'
   unfold cz
   exact SeqAt.RcAt.int_list a t' p2.isList hu0
 | str a=>
  obtain⟨t',rfl⟩:=rx
  cases hy with
  | non=>
   cases ry
   unfold cz
   exact SeqAt.RcAt.str_none a t'
  | bl b=>
   cases ry
   unfold cz
   exact SeqAt.RcAt.str_bool a t' b
  | int b=>
   obtain⟨t,rfl⟩:=ry
   unfold cz
   exact SeqAt.RcAt.str_int a t' b t
  | str b=>
   obtain⟨t,rfl⟩:=ry
   unfold cz
   exact SeqAt.RcAt.str_str a t' b t
  | @tup b ys es q' r'=>
   cases(show v=Value.ref b from ry)
   obtain⟨jts,r2,p2,_⟩:=I.tuple q'
   unfold cz
   exact SeqAt.RcAt.str_tuple a t' p2 hu0
  | @lst b ys es q' r'=>
   cases(show v=Value.ref b from ry)
   obtain⟨jts,r2,p2,_⟩:=I.list q'
   unfold cz
   exact SeqAt.RcAt.str_list a t' p2.isList hu0
 | @tup a xs ds q r=>
  cases(show u=Value.ref a from rx)
  obtain⟨its,r1,p1,_⟩:=I.tuple q
  cases hy with
  | non=>
   cases ry
   unfold cz
   exact SeqAt.RcAt.tuple_none  p1 hu0
  | bl b=>
   cases ry
   unfold cz
   exact SeqAt.RcAt.tuple_bool b p1 hu0
  | int b=>
   obtain⟨t,rfl⟩:=ry
   unfold cz
   exact SeqAt.RcAt.tuple_int b t p1 hu0
  | str b=>
   obtain⟨t,rfl⟩:=ry
   unfold cz
   exact SeqAt.RcAt.tuple_str b t p1 hu0
  | @tup b ys es q' r'=>
   cases(show v=Value.ref b from ry)
   obtain⟨jts,r2,p2,_⟩:=I.tuple q'
   have l1:=r1.length
   have l2:=r2.length
   have l3:=r.length
   have l4:=r'.length
   cases n with
   | zero=>unfold dep at hd;omega
   | succ n=>
    have dl:deps ds≤n:=by unfold dep at hd;omega
    have z:=SeqAt.RcAt.tuples (A:=A) (s:=s) (e:=fun j=>cz (ds.getD j .non) (es.getD j .non)) p1 p2 hu0 (v5 r1 r2 r r' fun j x y d e u v h1 h2 ix iy rx ry=>Ea I n A.in1 x y d e u v (Nat.le_trans (Bg h1) dl) (by omega) ix iy rx ry)
    have ez:((List.range (min its.toArray.size jts.toArray.size)).all (fun j=>cz (ds.getD j .non) (es.getD j .non))&&its.toArray.size==jts.toArray.size)=cz (.tup ds) (.tup es):=by
     rw[Mr]
     by_cases hl:ds.length=es.length
     ·rw[Dy (by simp;omega),←uy hl]
      congr 2
      simp;omega
     ·rw[qP hl]
      have:(its.toArray.size==jts.toArray.size)=false:=by simp;omega
      rw[this,Bool.and_false]
    rw[ez]at z
    exact z
  | @lst b ys es q' r'=>
   cases(show v=Value.ref b from ry)
   obtain⟨jts,r2,p2,_⟩:=I.list q'
   unfold cz
   exact SeqAt.RcAt.tuple_list p1 p2.isList hu0
 | @lst a xs ds q r=>
  cases(show u=Value.ref a from rx)
  obtain⟨its,r1,p1,_⟩:=I.list q
  cases hy with
  | non=>
   cases ry
   unfold cz
   exact SeqAt.RcAt.list_none  p1.isList hu0
  | bl b=>
   cases ry
   unfold cz
   exact SeqAt.RcAt.list_bool b p1.isList hu0
  | int b=>
   obtain⟨t,rfl⟩:=ry
   unfold cz
   exact SeqAt.RcAt.list_int b t p1.isList hu0
  | str b=>
   obtain⟨t,rfl⟩:=ry
   unfold cz
   exact SeqAt.RcAt.list_str b t p1.isList hu0
  | @tup b ys es q' r'=>
   cases(show v=Value.ref b from ry)
   obtain⟨jts,r2,p2,_⟩:=I.tuple q'
   unfold cz
   exact SeqAt.RcAt.list_tuple p1.isList p2 hu0
  | @lst b ys es q' r'=>
   cases(show v=Value.ref b from ry)
   obtain⟨jts,r2,p2,_⟩:=I.list q'
   have l1:=r1.length
   have l2:=r2.length
   have l3:=r.length
   have l4:=r'.length
   cases n with
   | zero=>unfold dep at hd;omega
   | succ n=>
    have dl:deps ds≤n:=by unfold dep at hd;omega
    by_cases hl:ds.length=es.length
    ·have z:=SeqAt.RcAt.lists (A:=A) (s:=s) (e:=fun j=>cz (ds.getD j .non) (es.getD j .non)) p1.isList p2.isList (by simp;omega) hu0 (v5 r1 r2 r r' fun j x y d e u v h1 h2 ix iy rx ry=>Ea I n A.in1 x y d e u v (Nat.le_trans (Bg h1) dl) (by omega) ix iy rx ry)
     have ez:(List.range its.toArray.size).all (fun j=>cz (ds.getD j .non) (es.getD j .non))=cz (.lst ds) (.lst es):=by
      rw[zV,←uy hl]
      congr 2
      simp;omega
     rw[ez]at z
     exact z
    ·have z:=SeqAt.RcAt.lists_lengths (A:=A) (s:=s) p1.isList p2.isList (by simp;omega) hu0
     have ez:cz (.lst ds) (.lst es)=false:=by rw[zV];exact qP hl
     rw[ez]
     exact z
theorem acy(I:Inv X pins σ H s)(A:Around){x y:V}{d e:Dt}{u v:Value}{n:Nat}(hd:dep d≤n)(hu:A.units+n<cLine)(hx:Is X.K H x d)(hy:Is X.K H y e)(rx:RelV x u)(ry:RelV y v):SeqAt.RcNeAt A s u v (!cz d e):=by
 have hu0:A.units<cLine:=by omega
 have in1:A.in1.units=A.units+1:=rfl
 cases hx with
 | non=>
  cases rx
  cases hy with
  | non=>
   cases ry
   unfold cz
   exact SeqAt.RcNeAt.none_none
  | bl b=>
   cases ry
   unfold cz
   exact SeqAt.RcNeAt.none_bool  b
  | int b=>
   obtain⟨t,rfl⟩:=ry
   unfold cz
   exact SeqAt.RcNeAt.none_int  b t
  | str b=>
   obtain⟨t,rfl⟩:=ry
   unfold cz
   exact SeqAt.RcNeAt.none_str  b t
  | @tup b ys es q' r'=>
   cases(show v=Value.ref b from ry)
   obtain⟨jts,r2,p2,_⟩:=I.tuple q'
   unfold cz
   exact SeqAt.RcNeAt.none_tuple  p2 hu0
  | @lst b ys es q' r'=>
   cases(show v=Value.ref b from ry)
   obtain⟨jts,r2,p2,_⟩:=I.list q'
   unfold cz
   exact SeqAt.RcNeAt.none_list  p2.isList hu0
 | bl a=>
  cases rx
  cases hy with
  | non=>
   cases ry
   unfold cz
   exact SeqAt.RcNeAt.bool_none a
  | bl b=>
   cases ry
   unfold cz
   exact SeqAt.RcNeAt.bool_bool a b
  | int b=>
   obtain⟨t,rfl⟩:=ry
   unfold cz
   exact SeqAt.RcNeAt.bool_int a b t
  | str b=>
   obtain⟨t,rfl⟩:=ry
   unfold cz
   exact SeqAt.RcNeAt.bool_str a b t
  | @tup b ys es q' r'=>
   cases(show v=Value.ref b from ry)
   obtain⟨jts,r2,p2,_⟩:=I.tuple q'
   unfold cz
   exact SeqAt.RcNeAt.bool_tuple a p2 hu0
  | @lst b ys es q' r'=>
   cases(show v=Value.ref b from ry)
   obtain⟨jts,r2,p2,_⟩:=I.list q'
   unfold cz
   exact SeqAt.RcNeAt.bool_list a p2.isList hu0
 | int a=>
  obtain⟨t',rfl⟩:=rx
  cases hy with
  | non=>
   cases ry
   unfold cz
   exact SeqAt.RcNeAt.int_none a t'
  | bl b=>
   cases ry
   unfold cz
   exact SeqAt.RcNeAt.int_bool a t' b
  | int b=>
   obtain⟨t,rfl⟩:=ry
   unfold cz
   exact SeqAt.RcNeAt.int_int a t' b t
  | str b=>
   obtain⟨t,rfl⟩:=ry
   unfold cz
   exact SeqAt.RcNeAt.int_str a t' b t
  | @tup b ys es q' r'=>
   cases(show v=Value.ref b from ry)
   obtain⟨jts,r2,p2,_⟩:=I.tuple q'
   unfold cz
   exact SeqAt.RcNeAt.int_tuple a t' p2 hu0
  | @lst b ys es q' r'=>
   cases(show v=Value.ref b from ry)
   obtain⟨jts,r2,p2,_⟩:=I.list q'
   unfold cz
   exact SeqAt.RcNeAt.int_list a t' p2.isList hu0
 | str a=>
  obtain⟨t',rfl⟩:=rx
  cases hy with
  | non=>
   cases ry
   unfold cz
   exact SeqAt.RcNeAt.str_none a t'
  | bl b=>
   cases ry
   unfold cz
   exact SeqAt.RcNeAt.str_bool a t' b
  | int b=>
   obtain⟨t,rfl⟩:=ry
   unfold cz
   exact SeqAt.RcNeAt.str_int a t' b t
  | str b=>
   obtain⟨t,rfl⟩:=ry
   unfold cz
   exact SeqAt.RcNeAt.str_str a t' b t
  | @tup b ys es q' r'=>
   cases(show v=Value.ref b from ry)
   obtain⟨jts,r2,p2,_⟩:=I.tuple q'
   unfold cz
   exact SeqAt.RcNeAt.str_tuple a t' p2 hu0
  | @lst b ys es q' r'=>
   cases(show v=Value.ref b from ry)
   obtain⟨jts,r2,p2,_⟩:=I.list q'
   unfold cz
   exact SeqAt.RcNeAt.str_list a t' p2.isList hu0
 | @tup a xs ds q r=>
  cases(show u=Value.ref a from rx)
  obtain⟨its,r1,p1,_⟩:=I.tuple q
  cases hy with
  | non=>
   cases ry
   unfold cz
   exact SeqAt.RcNeAt.tuple_none  p1 hu0
  | bl b=>
   cases ry
   unfold cz
   exact SeqAt.RcNeAt.tuple_bool b p1 hu0
  | int b=>
   obtain⟨t,rfl⟩:=ry
   unfold cz
   exact SeqAt.RcNeAt.tuple_int b t p1 hu0
  | str b=>
   obtain⟨t,rfl⟩:=ry
   unfold cz
   exact SeqAt.RcNeAt.tuple_str b t p1 hu0
  | @tup b ys es q' r'=>
   cases(show v=Value.ref b from ry)
   obtain⟨jts,r2,p2,_⟩:=I.tuple q'
   have l1:=r1.length
   have l2:=r2.length
   have l3:=r.length
   have l4:=r'.length
   cases n with
   | zero=>unfold dep at hd;omega
   | succ n=>
    have dl:deps ds≤n:=by unfold dep at hd;omega
    have z:=SeqAt.RcNeAt.tuples (A:=A) (s:=s) (e:=fun j=>cz (ds.getD j .non) (es.getD j .non)) p1 p2 hu0 (v5 r1 r2 r r' fun j x y d e u v h1 h2 ix iy rx ry=>Ea I n A.in1 x y d e u v (Nat.le_trans (Bg h1) dl) (by omega) ix iy rx ry)
    have ez:((List.range (min its.toArray.size jts.toArray.size)).all (fun j=>cz (ds.getD j .non) (es.getD j .non))&&its.toArray.size==jts.toArray.size)=cz (.tup ds) (.tup es):=by
     rw[Mr]
     by_cases hl:ds.length=es.length
     ·rw[Dy (by simp;omega),←uy hl]
      congr 2
      simp;omega
     ·rw[qP hl]
      have:(its.toArray.size==jts.toArray.size)=false:=by simp;omega
      rw[this,Bool.and_false]
    rw[ez]at z
    exact z
  | @lst b ys es q' r'=>
   cases(show v=Value.ref b from ry)
   obtain⟨jts,r2,p2,_⟩:=I.list q'
   unfold cz
   exact SeqAt.RcNeAt.tuple_list p1 p2.isList hu0
 | @lst a xs ds q r=>
  cases(show u=Value.ref a from rx)
  obtain⟨its,r1,p1,_⟩:=I.list q
  cases hy with
  | non=>
   cases ry
   unfold cz
   exact SeqAt.RcNeAt.list_none  p1.isList hu0
  | bl b=>
   cases ry
   unfold cz
   exact SeqAt.RcNeAt.list_bool b p1.isList hu0
  | int b=>
   obtain⟨t,rfl⟩:=ry
   unfold cz
   exact SeqAt.RcNeAt.list_int b t p1.isList hu0
  | str b=>
   obtain⟨t,rfl⟩:=ry
   unfold cz
   exact SeqAt.RcNeAt.list_str b t p1.isList hu0
  | @tup b ys es q' r'=>
   cases(show v=Value.ref b from ry)
   obtain⟨jts,r2,p2,_⟩:=I.tuple q'
   unfold cz
   exact SeqAt.RcNeAt.list_tuple p1.isList p2 hu0
  | @lst b ys es q' r'=>
   cases(show v=Value.ref b from ry)
   obtain⟨jts,r2,p2,_⟩:=I.list q'
   have l1:=r1.length
   have l2:=r2.length
   have l3:=r.length
   have l4:=r'.length
   cases n with
   | zero=>unfold dep at hd;omega
   | succ n=>
    have dl:deps ds≤n:=by unfold dep at hd;omega
    by_cases hl:ds.length=es.length
    ·have z:=SeqAt.RcNeAt.lists (A:=A) (s:=s) (e:=fun j=>cz (ds.getD j .non) (es.getD j .non)) p1.isList p2.isList (by simp;omega) hu0 (v5 r1 r2 r r' fun j x y d e u v h1 h2 ix iy rx ry=>Ea I n A.in1 x y d e u v (Nat.le_trans (Bg h1) dl) (by omega) ix iy rx ry)
     have ez:(List.range its.toArray.size).all (fun j=>cz (ds.getD j .non) (es.getD j .non))=cz (.lst ds) (.lst es):=by
      rw[zV,←uy hl]
      congr 2
      simp;omega
     rw[ez]at z
     exact z
    ·have z:=SeqAt.RcNeAt.lists_lengths (A:=A) (s:=s) p1.isList p2.isList (by simp;omega) hu0
     have ez:cz (.lst ds) (.lst es)=false:=by rw[zV];exact qP hl
     rw[ez]
     exact z
end
def aoh(K:PySem.W.Frag):R2:=fun x y H Q=>∃d e,Is K H x d∧Is K H y e∧dep d≤20∧Q (.bl (cz d e)) H
def aof(K:PySem.W.Frag):R2:=fun x y H Q=>∃d e,Is K H x d∧Is K H y e∧dep d≤20∧Q (.bl (!cz d e)) H
theorem ada{X:Cx}(hu:X.A.units+64<cLine):yu X (compareOp .Eq) (aoh X.K):=by
 intro pins s σ H x y v u Q I rx ry h
 obtain⟨d,e,hx,hy,hd,q⟩:=h
 exact acz I X.A hd (by omega) hx hy rx ry _ _ _ _ ⟨.bl _,H,I,rfl,q⟩
theorem ac5{X:Cx}(hu:X.A.units+64<cLine):yu X (compareOp .NotEq) (aof X.K):=by
 intro pins s σ H x y v u Q I rx ry h
 obtain⟨d,e,hx,hy,hd,q⟩:=h
 exact acy I X.A hd (by omega) hx hy rx ry _ _ _ _ ⟨.bl _,H,I,rfl,q⟩
end L2
set_option Elab.async false
set_option linter.all false
set_option maxRecDepth 100000
namespace L2
open PySem PySem.Spec PyProof.Rows
end L2
namespace L2
open PySem PySem.Spec PyProof.Rows
section
variable(P:Program)(w:World)
end
section
variable{P:Program}{w:World}{H H':Hp}{h h':Heap}{a:Addr}{o:HO}
end
section
variable{P:Program}{w:World}{H:Hp}{h h':Heap}{x e:Addr}{o':HO}
end
section
variable{fs fs' ex ex':List Addr}{H H1 H2:Hp}{h h1 h2 h':Heap}{a x e:Addr}{o:HO}
end
end L2
namespace L2
open PySem PySem.Spec PyProof.Rows
section
variable{X:Cx}{pins:List (Addr×Obj)}{σ:List (Option V)}{H H':Hp}{s:Shared}{h':Heap}
end
end L2
namespace L2
open PySem PySem.Spec PyProof.Rows
section
variable{X:Cx}
variable{a b:Expr}{ta tb:TE}{pos:Pos}
variable{tA tB':TT}{rest:List Expr}
end
end L2
namespace L2
open PySem PySem.Spec PyProof.Rows
section
variable{X:Cx}{pins:List (Addr×Obj)}{σ:St}{H:Hp}{s:Shared}{a:Addr}{xs ys:List V}
end
section
variable{X:Cx}{pins:List (Addr×Obj)}{σ:St}{H:Hp}{s:Shared}{E:Value→Shared→Prop}
end
section
variable{X:Cx}{st:Stmt}{rest:List Stmt}{t u:TS}{e:Expr}{te:TE}{pos:Pos}
end
section
variable{X:Cx}{pos:Pos}
end
section
variable{X:Cx}{pos:Pos}
end
end L2
namespace L2
open PySem PySem.Spec PyProof.Rows
section
variable{X:Cx}{tg:Expr}
end
end L2
namespace L2
open PySem PySem.Spec PyProof.Rows
section
variable{X:Cx}{a b c:Expr}{ta tb tc:TE}{pos:Pos}
end
section
variable{X:Cx}{a b c:Expr}{ta tb tc:TE}{pos:Pos}
end
end L2
namespace L2
open PySem PySem.Spec PyProof.Rows
section
variable{prog:Program}{w:World}{A:Around}{E:Value→Shared→Prop}{s:Shared}{K:PySem.W.Frag}{x dx C f:Addr}{mA:Str→Option Value}{name:Str}{v:Value}
end
section
variable{P:Program}{w:World}{H H':Hp}{h h':Heap}{a C dx:Addr}{fs fs':List (Str×V)}
end
section
variable{X:Cx}{pins:List (Addr×Obj)}{σ:St}{H:Hp}{s:Shared}{a C dx:Addr}{fs:List (Str×V)}{f:Str}{v:V}{A:Around}{E:Value→Shared→Prop}
end
section
variable{X:Cx}{o e value:Expr}{f:Str}{pos pos' tpos:Pos}{ta tv:TE}
end
section
variable{X:Cx}{pins:List (Addr×Obj)}{σ:St}{H:Hp}{s:Shared}{A:Around}{E:Value→Shared→Prop}{Q:Value→Shared→Prop}{c:Value}{b:Bool}
end
end L2
namespace L2
open PySem PySem.Spec PyProof.Rows
section
variable{X:Cx}{e:Expr}{es:List Expr}{te:TE}{t:TA}{pos:Pos}
end
section
variable{X:Cx}{pins:List (Addr×Obj)}{σ:St}{H:Hp}{s s':Shared}
end
section
variable{X:Cx}{CX:Sy}{k:Nat}{f C:Addr}{fd:FuncData}{ps:List Str}{sp:Sp}{zU:List V}{ds:List Value}{E:XK}{x m:Str}{p pos apos:Pos}{e o:Expr}{es:List Expr}{ta:TE}{t:TA}
end
section
variable{X:Cx}{CX:Sy}{k:Nat}{f C:Addr}{fd:FuncData}{ps ks:List Str}{sp:Sp}{E:XK}{x m:Str}{p pos apos kpos:Pos}{e o:Expr}{es:List Expr}{kws:List Keyword}{te ta:TE}{t tk:TA}{nm:Option Str}
variable{g:List Value→List Value→List Value}{gV:List V→List V→List V}
end
end L2
namespace L2
open PySem PySem.Spec PyProof.Rows
section
variable{X:Cx}{x:Str}{p pos:Pos}{e:Expr}{es:List Expr}{t:TA}{id T:String}{r:List V→Hp→VK→Prop}
end
end L2
namespace L2
open PySem PySem.Spec PyProof.Rows
section
variable{κ:Type}[DecidableEq κ]
def zY(kvs:List (κ×V))(k:κ):Option V:=(kvs.find? fun kv=>decide (kv.1=k)).map (·.2)
def putK(kvs:List (κ×V))(k:κ)(v:V):List (κ×V):=
 if(kvs.any fun kv=>decide (kv.1=k))=true then kvs.map (fun kv=>if kv.1=k then(kv.1,v)else kv)else kvs++[(k,v)]
theorem Bv{p:κ×V}{r:List (κ×V)}{k:κ}(e:p.1=k):zY (p::r) k=some p.2:=by simp[zY,List.find?_cons,e]
theorem Bw{p:κ×V}{r:List (κ×V)}{k:κ}(e:¬p.1=k):zY (p::r) k=zY r k:=by simp[zY,List.find?_cons,e]
theorem Np(k:κ):∀kvs:List (κ×V),(kvs.any fun kv=>decide (kv.1=k))=(zY kvs k).isSome
 | []=>rfl
 | p::r=>by
  rw[List.any_cons]
  by_cases e:p.1=k
  ·simp only[Bv e,decide_eq_true e,Bool.true_or,Option.isSome_some]
  ·rw[Bw e,decide_eq_false e,Bool.false_or];exact Np k r
theorem EY(kvs:List (κ×V))(k:κ)(v:V):(putK kvs k v).length≤kvs.length+1:=by
 unfold putK
 split
 ·rw[List.length_map];omega
 ·rw[List.length_append,List.length_cons,List.length_nil];omega
theorem yo.VP{o:Option V}{u:Option Value}(r:yo o u):o.isSome=u.isSome:=by
 cases o with
 | none=>cases u with
  | none=>rfl
  | some _=>exact(show False from r).elim
 | some _=>cases u with
  | none=>exact(show False from r).elim
  | some _=>rfl
theorem yo.getD{o:Option V}{u:Option Value}{d:V}{d':Value}(r:yo o u)(rd:RelV d d'):RelV (o.getD d) (u.getD d'):=by
 cases o with
 | none=>cases u with
  | none=>exact rd
  | some _=>exact(show False from r).elim
 | some _=>cases u with
  | none=>exact(show False from r).elim
  | some _=>exact r
theorem KV.val{kvs:List (κ×V)}{vs:List (κ×Value)}(r:KV kvs vs)(k:κ):yo (zY kvs k) (valueAt vs k):=by
 unfold KV at r
 induction r with
 | nil=>exact True.intro
 | @cons p q ps qs h t ih=>
  obtain⟨h1,h2⟩:=h
  by_cases e:p.1=k
  ·have e':q.1=k:=h1.symm.trans e
   have b:valueAt (q::qs) k=some q.2:=by simp[valueAt,List.find?_cons,e']
   rw[Bv e,b];exact h2
  ·have e':¬q.1=k:=fun z=>e (h1.trans z)
   have b:valueAt (q::qs) k=valueAt qs k:=by simp[valueAt,List.find?_cons,e']
   rw[Bw e,b];exact ih
theorem KV.any{kvs:List (κ×V)}{vs:List (κ×Value)}(r:KV kvs vs)(k:κ):(kvs.any fun kv=>decide (kv.1=k))=vs.any fun kv=>decide (kv.1=k):=by
 unfold KV at r
 induction r with
 | nil=>rfl
 | cons h t ih=>rw[List.any_cons,List.any_cons,ih,h.1]
theorem KV.repl{kvs:List (κ×V)}{vs:List (κ×Value)}(r:KV kvs vs)(k:κ){y:V}{u:Value}(ry:RelV y u):
  KV (kvs.map fun kv=>if kv.1=k then(kv.1,y)else kv) (vs.map fun kv=>if kv.1=k then(kv.1,u)else kv):=by
 unfold KV at r ⊢
 induction r with
 | nil=>exact .nil
 | @cons p q ps qs h t ih=>
  rw[List.map_cons,List.map_cons]
  refine .cons ?_ ih
  obtain⟨h1,h2⟩:=h
  by_cases e:p.1=k
  ·rw[if_pos e,if_pos (h1.symm.trans e)];exact⟨h1,ry⟩
  ·rw[if_neg e,if_neg (fun z=>e (h1.trans z))];exact⟨h1,h2⟩
theorem KV.put{kvs:List (κ×V)}{vs:List (κ×Value)}(r:KV kvs vs)(k:κ){y:V}{u:Value}(ry:RelV y u):KV (putK kvs k y) (stored vs k u):=by
 unfold putK stored
 rw[r.any k]
 by_cases e:(vs.any fun kv=>decide (kv.1=k))=true
 ·rw[if_pos e,if_pos e];exact r.repl k ry
 ·rw[if_neg e,if_neg e];exact Paired.snoc r ⟨rfl,ry⟩
theorem KV.length{kvs:List (κ×V)}{vs:List (κ×Value)}(r:KV kvs vs):kvs.length=vs.length:=Paired.length r
end
theorem Ua{P:Program}{w:World}{k:Key}{u:Value}(r:RelV (kV k) u):(fX P w).is k u=true:=by
 cases k with
 | inl i=>obtain⟨t,e⟩:=(show ∃t,u=Value.int i t from r);subst e;exact O2 P w i t
 | inr x=>obtain⟨t,e⟩:=(show ∃t,u=Value.str x t from r);subst e;exact O1 P w x t
theorem J2{P:Program}{w:World}:∀{ks:List Key} {us:List Value},Vals (ks.map kV) us→ItemsAre (fX P w) ks us
 | [],_,r=>by rw[List.map_nil]at r;cases r;exact .nil
 | k::ks,_,r=>by
  rw[List.map_cons]at r
  cases r with
  | cons h t=>exact .cons (Ua h) (J2 t)
abbrev KT(H:Hp):List (List Key×V)→List (List Key×Addr×Value)→Prop:=Paired fun p q=>p.1=q.1∧H q.2.1=some (.tup (p.1.map kV))∧RelV p.2 q.2.2
theorem KT.val{H:Hp}{kvs:List (List Key×V)}{xs:List (List Key×Addr×Value)}(r:KT H kvs xs)(k:List Key):yo (zY kvs k) ((atKey xs k).map (·.2)):=by
 induction r with
 | nil=>exact True.intro
 | @cons p q ps qs h t ih=>
  obtain⟨h1,_,h2⟩:=h
  by_cases e:p.1=k
  ·have e':q.1=k:=h1.symm.trans e
   have b:atKey (q::qs) k=some q.2:=by simp[atKey,List.find?_cons,e']
   rw[Bv e,b];exact h2
  ·have e':¬q.1=k:=fun z=>e (h1.trans z)
   have b:atKey (q::qs) k=atKey qs k:=by simp[atKey,List.find?_cons,e']
   rw[Bw e,b];exact ih
theorem KT.repl{H:Hp}{kvs:List (List Key×V)}{xs:List (List Key×Addr×Value)}(r:KT H kvs xs)(k:List Key){y:V}{u:Value}(ry:RelV y u):
  KT H (kvs.map fun kv=>if kv.1=k then(kv.1,y)else kv) (xs.map (putAt k u)):=by
 induction r with
 | nil=>exact .nil
 | @cons p q ps qs h t ih=>
  rw[List.map_cons,List.map_cons]
  refine .cons ?_ ih
  obtain⟨h1,h2,h3⟩:=h
  unfold putAt
  by_cases e:p.1=k
  ·rw[if_pos e,if_pos (h1.symm.trans e)];exact⟨h1,h2,ry⟩
  ·rw[if_neg e,if_neg (fun z=>e (h1.trans z))];exact⟨h1,h2,h3⟩
theorem KT.put{H:Hp}{kvs:List (List Key×V)}{xs:List (List Key×Addr×Value)}(r:KT H kvs xs)(k:List Key){b:Addr}{y:V}{u:Value}(hb:H b=some (.tup (k.map kV)))(ry:RelV y u):
  KT H (putK kvs k y) (storedH xs k b u):=by
 have e:(kvs.any fun kv=>decide (kv.1=k))=(atKey xs k).isSome:=by
  rw[Np,(r.val k).VP,Option.isSome_map]
 unfold putK storedH
 rw[e]
 by_cases q:(atKey xs k).isSome=true
 ·rw[if_pos q,if_pos q];exact r.repl k ry
 ·rw[if_neg q,if_neg q];exact Paired.snoc r ⟨rfl,hb,ry⟩
theorem KT.keeps{H H':Hp}{kvs:List (List Key×V)}{xs:List (List Key×Addr×Value)}(r:KT H kvs xs)(ht:∀b ys,H b=some (.tup ys)→H' b=some (.tup ys)):KT H' kvs xs:=
 Paired.aat r fun _ _ z=>⟨z.1,ht _ _ z.2.1,z.2.2⟩
section
variable{P:Program}{w:World}{H:Hp}{h:Heap}{a:Addr}
theorem abp{u:HO}(ok:uN P w H h)(e:Rd H a u):dg P w H h a u:=e.ok ok
theorem J8{kvs:List (Key×V)}(ok:uN P w H h)(e:Rd H a (.dK kvs)):kvs.length≤sizeLine∧(a==sysModules)=false∧∃vs,KV kvs vs∧h.DictOf (fX P w) a vs:=
 show dg P w H h a (.dK kvs)from abp ok e
theorem abG{kvs:List (Key×V)}(ok:uN P w H h)(e:H a=some (.dK kvs)):kvs.length≤sizeLine∧(a==sysModules)=false∧∃vs,KV kvs vs∧h.DictOf (fX P w) a vs:=J8 ok (.inl e)
theorem Ih{ks:List Key}(ok:uN P w H h)(e:H a=some (.tup (ks.map kV))):(tupleKind (fX P w)).is h ks a:=by
 obtain⟨_,its,r,o,h1,h2,n,h3⟩:=(show dg P w H h a (.tup (ks.map kV))from ok a _ e)
 exact⟨o,its.toArray,n,h1,h2,h3,by simpa using J2 r⟩
theorem PN{kvs:List (List Key×V)}(ok:uN P w H h)(e:Rd H a (.dT kvs)):kvs.length≤sizeLine∧(a==sysModules)=false∧
  ∃xs,KT H kvs xs∧h.DictOfH (tupleKind (fX P w)) a xs:=by
 obtain⟨z,y,xs,r,o,es,ep,h1,h2,h3,h4,h5⟩:=(show dg P w H h a (.dT kvs)from abp ok e)
 refine⟨z,y,xs,r,o,es,ep,h1,h2,h3,h4,fun x hx=> ?_,h5⟩
 have all:∀{l:List (List Key×V)} {m:List (List Key×Addr×Value)},KT H l m→∀x∈m,(tupleKind (fX P w)).is h x.1 x.2.1:=by
  intro l m q
  induction q with
  | nil=>intro x hx;exact nomatch hx
  | @cons p q ps qs hq t ih=>
   intro x hx
   rcases List.mem_cons.mp hx with e | hx
   ·subst e
    exact Ih ok (by rw[←hq.1];exact hq.2.1)
   ·exact ih x hx
 exact all r x hx
theorem abF{kvs:List (List Key×V)}(ok:uN P w H h)(e:H a=some (.dT kvs)):kvs.length≤sizeLine∧(a==sysModules)=false∧
  ∃xs,KT H kvs xs∧h.DictOfH (tupleKind (fX P w)) a xs:=PN ok (.inl e)
end
def FN(H:Hp)(a:Addr)(y:V)(r:Option V):Prop:=
 (∃kvs k,Rd H a (.dK kvs)∧y=kV k∧r=zY kvs k)∨∃kvs k b,Rd H a (.dT kvs)∧y= .ref b∧H b=some (.tup (k.map kV))∧r=zY kvs k
def Ng(H:Hp)(a:Addr)(y v:V)(H':Hp):Prop:=
 (∃kvs k,H a=some (.dK kvs)∧y=kV k∧kvs.length<sizeLine∧H'=upd H a (.dK (putK kvs k v)))∨
 ∃kvs k b,H a=some (.dT kvs)∧y= .ref b∧H b=some (.tup (k.map kV))∧kvs.length<sizeLine∧H'=upd H a (.dT (putK kvs k v))
theorem FN.k{H:Hp}{a:Addr}{kvs:List (Key×V)}{k:Key}(e:H a=some (.dK kvs)):FN H a (kV k) (zY kvs k):= .inl ⟨kvs,k,.inl e,rfl,rfl⟩
theorem FN.t{H:Hp}{a b:Addr}{kvs:List (List Key×V)}{k:List Key}(e:H a=some (.dT kvs))(eb:H b=some (.tup (k.map kV))):FN H a (.ref b) (zY kvs k):= .inr ⟨kvs,k,b,.inl e,rfl,eb,rfl⟩
theorem Ng.k{H:Hp}{a:Addr}{kvs:List (Key×V)}{k:Key}{v:V}(e:H a=some (.dK kvs))(hl:kvs.length<sizeLine):Ng H a (kV k) v (upd H a (.dK (putK kvs k v))):= .inl ⟨kvs,k,e,rfl,hl,rfl⟩
theorem Ng.t{H:Hp}{a b:Addr}{kvs:List (List Key×V)}{k:List Key}{v:V}(e:H a=some (.dT kvs))(eb:H b=some (.tup (k.map kV)))(hl:kvs.length<sizeLine):
  Ng H a (.ref b) v (upd H a (.dT (putK kvs k v))):= .inr ⟨kvs,k,b,e,rfl,eb,hl,rfl⟩
section
variable{X:Cx}{pins:List (Addr×Obj)}{σ:St}{H:Hp}{s:Shared}{a:Addr}{y v:V}{u r:Value}{o:Option V}{A:Around}{E:Value→Shared→Prop}
theorem Inv.big(I:Inv X pins σ H s):sysModules<s.heap.objs.size:=by
 have h:mainGlobals<s.heap.objs.size:=(I.mod.glob.keeps I.bk).lt
 exact Nat.lt_trans (by decide) h
theorem V8{Q:Value→Shared→Prop}(hu:A.units+1<cLine)(I:Inv X pins σ H s)(g:FN H a y (some v))(ry:RelV y u)(h:∀w' s',Inv X pins σ H s'→RelV v w'→Q w' s'):
  wpAny (model X.prog X.w) A (getItem (.ref a) u) Q E s:=by
 rcases g with⟨kvs,k,e,ey,l⟩ | ⟨kvs,k,b,e,ey,eb,l⟩
 ·subst ey
  obtain⟨z,hd,vs,rel,dd⟩:=J8 I.hok e
  obtain⟨w',hw,rw'⟩:=yo.some_of (v:=v) (o:=valueAt vs k) (by rw[l];exact rel.val k)
  exact wpAny_getItem_of (Ua ry) dd.mapOf hw (h w' _ (I.tok _) rw')
 ·subst ey
  cases(show u=Value.ref b from ry)
  obtain⟨z,hd,xs,rel,dd⟩:=PN I.hok e
  obtain⟨w',hw,rw'⟩:=yo.some_of (v:=v) (o:=(atKey xs k).map (·.2)) (by rw[l];exact rel.val k)
  obtain⟨p,hp,hp2⟩:=Option.map_eq_some_iff.mp hw
  refine wpAny_getItem_heap (tupleKind_room_in1 hu) (Ih I.hok eb) dd hp ?_
  rw[hp2]
  exact h w' _ (I.tok _) rw'
theorem Ms{h':Heap}{t':Nat}{ob:HO}(I:Inv X pins σ H s)(mu:Mut (H a))(hs:Heap.SameBut a s.heap h')(he:∃q,h'.get? a=some q)(new:dg X.prog X.w (upd H a ob) h' a ob):
  Inv X pins σ (upd H a ob) {s with heap:=h',toks:=t'}:=
 I.write (x:=a) (e:=a) mu (.inl rfl) (fun b q hb z=>(hs.2 b hb).trans z) he new
theorem adV{P:Program}{w:World}{H':Hp}{h':Heap}{kvs:List (Key×V)}{vs:List (Key×Value)}(z:kvs.length≤sizeLine)(hd:(a==sysModules)=false)(rel:KV kvs vs)(dd:h'.DictOf (fX P w) a vs):
  dg P w H' h' a (.dK kvs):=⟨z,hd,vs,rel,dd⟩
theorem J9{H':Hp}{Q:Unit→Shared→Prop}(hu:A.units+1<cLine)(I:Inv X pins σ H s)(g:Ng H a y v H')(ry:RelV y u)(rv:RelV v r)(h:∀s',Inv X pins σ H' s'→Q () s'):
  wpAny (model X.prog X.w) A (setItem (.ref a) u r) Q E s:=by
 rcases g with⟨kvs,k,e,ey,l,eH⟩ | ⟨kvs,k,b,e,ey,eb,l,eH⟩
 ·subst ey eH
  obtain⟨z,hd,vs,rel,dd⟩:=abG I.hok e
  have hz:vs.length≤sizeLine:=by rw[←rel.length];exact z
  have hl:(putK kvs k v).length≤sizeLine:=by have:=EY kvs k v;omega
  refine wpAny_setItem_pairs (hsz:=hz) (Ua ry) dd fun h' dd' hs=>h _ ?_
  have he:∃q,h'.get? a=some q:=let⟨q,_,_,hq,_⟩:=dd';⟨q,hq⟩
  exact Ms I (by rw[e];exact True.intro) hs he (adV hl hd (rel.put k rv) dd')
 ·subst ey eH
  cases(show u=Value.ref b from ry)
  obtain⟨z,hd,xs,rel,dd⟩:=abF I.hok e
  have hz:xs.length≤sizeLine:=by rw[←Paired.length rel];exact z
  have hl:(putK kvs k v).length≤sizeLine:=by have:=EY kvs k v;omega
  refine wpAny_setItem_heap (hsz:=hz) (tupleKind_room_in1 hu) (Ih I.hok eb) dd fun h' dd' hs=>h _ ?_
  obtain⟨q,es,ep,hq,h2,h3,h4,_,h5⟩:=dd'
  refine Ms I (by rw[e];exact True.intro) hs ⟨q,hq⟩ ⟨hl,hd,_,(rel.put k eb rv).keeps fun c ys ec=> ?_,q,es,ep,hq,h2,h3,h4,h5⟩
  rw[bh (agZ ec e (fun z=>nomatch z))]
  exact ec
end
section
variable{X:Cx}{pins:List (Addr×Obj)}{σ:St}{H:Hp}{s:Shared}{a:Addr}{kvs:List (Key×V)}{k:Key}{u:Value}{A:Around}{E:Value→Shared→Prop}
theorem aje{Q:Value→Shared→Prop}(I:Inv X pins σ H s)(e:Rd H a (.dK kvs))(h:∀t s',Inv X pins σ H s'→Q (.int kvs.length t) s'):wpAny (model X.prog X.w) A (call (.builtin "len") [.ref a]) Q E s:=by
 obtain⟨z,hd,vs,rel,dd⟩:=J8 I.hok e
 refine call_len_dict hd dd (by rw[←rel.length];rw[sizeLine_eq]at z;omega) ?_
 rw[←rel.length]
 exact h _ _ (I.tok _)
end
theorem P_{X:Cx}{pins:List (Addr×Obj)}{σ:St}{H:Hp}{s:Shared}{a:Addr}{y:V}{o:Option V}(I:Inv X pins σ H s)(g:FN H a y o):s.TypeIs (.ref a) "dict" := by
 rcases g with⟨kvs,k,e,_,_⟩ | ⟨kvs,k,b,e,_,_,_⟩
 ·obtain⟨_,_,vs,_,dd⟩:=J8 I.hok e
  exact dd.typeIs
 ·obtain⟨_,_,xs,_,dd⟩:=PN I.hok e
  exact dd.typeIs
section
variable{X:Cx}{o i e value:Expr}{pos pos' tpos:Pos}{td ty tv:TE}
end
theorem YH{P:Program}{w:World}{H:Hp}(h:Heap)(hb:sysModules<h.objs.size):dg P w H (h.push {cls:= .type "dict",data:= .dict #[]}) h.objs.size (.dK []):=
 ⟨Nat.zero_le _,beq_eq_false_iff_ne.mpr (Ne.symm (Nat.ne_of_lt hb)),[],.nil,Heap.DictOf.new h⟩
def ab3:TE:=fun _ H Q=>∀p,H p=none→Q (.ref p) (upd H p (.dK []))
section
variable{X:Cx}{pos:Pos}
theorem XH:PE X (.Dict [] [] pos) ab3:=fun pins s σ H Q I h=>
 wpAny_Dict_empty ⟨.ref s.heap.objs.size,_,I.laid (a:=s.heap.objs.size) (o:= .dK []) (t':=s.toks) (fun _ _ q=>Heap.get?_push_of_some _ q) (Nat.le_refl _) (YH s.heap I.big),rfl,h _ (I.hok.fresh (Nat.le_refl _))⟩
end
structure M1(X:Cx)(o:Expr)(m:Str)(apos:Pos)(e:Expr)(cpos:Pos):Prop where
 base:attributeBase o m X.env (eval o X.env)=eval o X.env
 few:((backTo cpos (starEach [e] X.env)).all (fun x=> !x.1)&&(backToKw cpos (keywordEach [] X.env)).all (fun x=>x.1.isSome)
  && decide (([e]:List Expr).length+([]:List Keyword).length+(if([]:List Keyword).isEmpty then 0 else 1)<30))=true
 line:(apos.endLine==cpos.line)=true
 trees:backTo cpos (starEach [e] X.env)=[(false,eval e X.env)]
structure M2(X:Cx)(o:Expr)(m:Str)(apos:Pos)(e f:Expr)(cpos:Pos):Prop where
 base:attributeBase o m X.env (eval o X.env)=eval o X.env
 few:((backTo cpos (starEach [e,f] X.env)).all (fun x=> !x.1)&&(backToKw cpos (keywordEach [] X.env)).all (fun x=>x.1.isSome)
  && decide (([e,f]:List Expr).length+([]:List Keyword).length+(if([]:List Keyword).isEmpty then 0 else 1)<30))=true
 line:(apos.endLine==cpos.line)=true
 trees:backTo cpos (starEach [e,f] X.env)=[(false,eval e X.env),(false,eval f X.env)]
def IsD(H:Hp)(a:Addr):Prop:=(∃kvs,Rd H a (.dK kvs))∨∃kvs,Rd H a (.dT kvs)
theorem Yq{X:Cx}{pins:List (Addr×Obj)}{σ:St}{H:Hp}{s:Shared}{a:Addr}(I:Inv X pins σ H s)(d:IsD H a):
  s.TypeIs (.ref a) "dict" ∧ (∀b,Value.ref a= .ref b→∃ob,s.heap.get? b=some ob∧ob.dict=none)∧(a==sysModules)=false:=by
 rcases d with⟨kvs,e⟩ | ⟨kvs,e⟩
 ·obtain⟨_,hd,vs,_,dd⟩:=J8 I.hok e
  refine⟨dd.typeIs,fun b q=> ?_,hd⟩
  cases q
  obtain⟨ob,_,_,h1,h2,_⟩:=dd
  exact⟨ob,h1,h2.2.1⟩
 ·obtain⟨_,hd,xs,_,dd⟩:=PN I.hok e
  refine⟨dd.typeIs,fun b q=> ?_,hd⟩
  cases q
  obtain⟨ob,_,_,h1,h2,_⟩:=dd
  exact⟨ob,h1,h2.2.1⟩
section
variable{X:Cx}{pins:List (Addr×Obj)}{σ:St}{H:Hp}{s:Shared}{a:Addr}{y d:V}{u r:Value}{o:Option V}{A:Around}{E:Value→Shared→Prop}
theorem ad1{Q:Value→Shared→Prop}(hu:A.units+1<cLine)(I:Inv X pins σ H s)(g:FN H a y o)(ry:RelV y u)(rd:RelV d r)(h:∀w' s',Inv X pins σ H s'→RelV (o.getD d) w'→Q w' s'):
  wpAny (model X.prog X.w) A (call (.builtin "dict.get") [.ref a,u,r]) Q E s:=by
 rcases g with⟨kvs,k,e,ey,l⟩ | ⟨kvs,k,b,e,ey,eb,l⟩
 ·subst ey
  obtain⟨z,hd,vs,rel,dd⟩:=J8 I.hok e
  refine call_meetsIn PySem.F.slot_dict_get dd.typeIs PySem.F.entry_dict_get (PySem.F.args_dict_get_3 _ _ _) (meets_dict_get_default (fX X.prog X.w) a (Ua ry) hd r) ⟨_,dd.mapOf,h _ _ (I.tok _) ?_⟩
  rw[l]
  exact(rel.val k).getD rd
 ·subst ey
  cases(show u=Value.ref b from ry)
  obtain⟨z,hd,xs,rel,dd⟩:=PN I.hok e
  refine call_meetsIn PySem.F.slot_dict_get dd.typeIs PySem.F.entry_dict_get (PySem.F.args_dict_get_3 _ _ _) (meetsH_dict_get_default (tupleKind (fX X.prog X.w)) a b hd r) ⟨tupleKind_room_in1 hu,k,xs,Ih I.hok eb,dd,h _ _ (I.tok _) ?_⟩
  rw[l]
  exact(rel.val k).getD rd
end
section
variable{X:Cx}{o e f:Expr}{apos cpos:Pos}{td ty tx:TE}
end
section
variable{X:Cx}{pins:List (Addr×Obj)}{σ:St}{H:Hp}{s:Shared}{a:Addr}{kvs:List (Key×V)}{A:Around}{E:Value→Shared→Prop}
end
section
variable{X:Cx}{pins:List (Addr×Obj)}{σ:St}{H:Hp}{s:Shared}{a:Addr}{y:V}{u:Value}{A:Around}{E:Value→Shared→Prop}
end
end L2
namespace Att
open PySem PySem.W PySem.Calls PyProof.Rows
section
variable{prog:Program}{w:World}{A:Around}{E:Value→Shared→Prop}{s:Shared}{K:Frag}
end
end Att
namespace L2
open PySem PySem.Spec PyProof.Rows
end L2
namespace L2
open PySem PySem.Spec PyProof.Rows
end L2
namespace L2
open PySem PySem.Spec PyProof.Rows
section
variable{P:Program}{w:World}{K:PySem.W.Frag}{mg:Str→Option Value}{base:Heap}
end
section
variable{X:Cx}
theorem Wa:mV X (.builtin "len") (fun xs H Q=>∃a kvs,xs=[V.ref a]∧H a=some (.dK kvs)∧Q (.int kvs.length) H):=by
 intro pins s σ H xs us Q I r h
 obtain⟨a,kvs,rfl,ha,q⟩:=h
 obtain⟨u,rfl,ru⟩:=vals1 r
 cases ru
 exact aje I (.inl ha) fun t s' I'=>⟨.int kvs.length,H,I',⟨t,rfl⟩,q⟩
end
section
variable{κ:Type}[DecidableEq κ]
end
end L2
namespace L2
open PySem PySem.Spec PyProof.Rows
section
variable{prog:Program}{w:World}{A:Around}{E:Value→Shared→Prop}{s:Shared}
end
end L2
namespace L2
open PySem PySem.Spec PyProof.Rows
section
variable{X:Cx}{pins:List (Addr×Obj)}{σ:L2.St}{H:Hp}{s:Shared}{h':Heap}
end
section
variable{X:Cx}{pins:List (Addr×Obj)}{σ:L2.St}{H:Hp}{s:Shared}{h':Heap}
end
section
variable{P:Program}{w:World}{K:PySem.W.Frag}{es:List Expr}{n:Nat}{pos:Pos}
end
end L2
namespace L2
open PySem PySem.Spec PyProof.Rows
section
variable{M:Model}{A:Around}{E:Value→Shared→Prop}{s:Shared}{env:Env}
end
section
variable{X:Cx}
end
end L2
namespace L2
open PySem PySem.Spec PyProof.Rows
section
variable{prog:Program}{w:World}{A:Around}{E:Value→Shared→Prop}{s:Shared}{K:PySem.W.Frag}{x C:Addr}{name:Str}{v:Value}
end
end L2
namespace L2
open PySem
section
variable{prog:Program}{w:World}{A:Around}{E:Value→Shared→Prop}{h:Heap}{g:Array GenState}{d:Drawn}{t:Nat}{os:OsState}
variable{nm q:Str}{C N:Addr}{bs bm bmB:List Value}{hdct:Bool}{sn:List Str}{sub:List Value}{ab:Bool}{col:Option Bool}{dd:Option Addr}{k0 k1 k2 k3 k5:Option Value}{B newId initId:String}
end
end L2
namespace L2
open PySem
structure Exc(h:Heap)(e C:Addr)(dx T:Option Addr)(fl:Value):Prop where
 at_:∃vs,h.get? e=some {cls:= .ref C,dict:=dx,data:= .fields vs}∧(match T with
  | none=>vs[1]? = some .none
  | some T=>vs[1]? = some (.ref T)∧T≠e∧∃oT ts,h.get? T=some oT∧oT.data= .fields ts∧ts[3]? = some fl)
def pA(fs:List Addr)(e:Addr)(T:Option Addr)(h h':Heap):Prop:=
 (h.objs.size≤h'.objs.size∧∀b o,h.get? b=some o→∃o',h'.get? b=some o')∧(∀b o,b≠e→some b≠T→b∉fs→h.get? b=some o→h'.get? b=some o)∧(∀b o,b≠e→some b≠T→h.get? b=some o→∃sl,h'.get? b=some {o with slots:=sl})
theorem pA.refl{fs:List Addr}{e:Addr}{T:Option Addr}{h:Heap}:pA fs e T h h:=⟨⟨Nat.le_refl _,fun b o q=>⟨o,q⟩⟩,fun _ _ _ _ _ x=>x,fun _ o _ _ x=>⟨o.slots,x⟩⟩
theorem pA.trans{fs:List Addr}{e:Addr}{T T':Option Addr}{h h1 h2:Heap}(x:pA fs e T h h1)(y:pA fs e T' h1 h2)(hT:T'=T∨∃t,T'=some t∧h.objs.size≤t):pA fs e T h h2:=by
 have ne:∀b o,some b≠T→h.get? b=some o→some b≠T':=fun b o n q z=>by
  rcases hT with r | ⟨t,r,q2⟩
  ·exact n (z.trans r)
  ·rw[r]at z;cases z
   exact absurd (Nat.lt_of_lt_of_le (Heap.lt_size q) q2) (Nat.lt_irrefl _)
 refine⟨⟨Nat.le_trans x.1.1 y.1.1,fun b o q=>let⟨o1,q1⟩:=x.1.2 b o q;y.1.2 b o1 q1⟩,fun b o n1 n2 n3 q=>y.2.1 b o n1 (ne b o n2 q) n3 (x.2.1 b o n1 n2 n3 q),fun b o n1 n2 q=> ?_⟩
 obtain⟨sl,e1⟩:=x.2.2 b o n1 n2 q
 obtain⟨sl2,e2⟩:=y.2.2 b _ n1 (ne b o n2 q) e1
 exact⟨sl2,e2⟩
section
variable{M:Model}{A:Around}{E:Value→Shared→Prop}{s:Shared}
theorem SJ{base:Heap}{env:Env}{outer:List Env}{L e C:Addr}{dx:Option Addr}{vs:Array Value}{head:Value}{hadNext:Bool}{Q:Unit→Shared→Prop}
  (hfr:A.frames=some (env::outer)) (hl:s.heap.FunFrames base (env::outer)) (hf:env.frame=some L)
  (he:s.heap.get? e=some {cls:= .ref C,dict:=dx,data:= .fields vs}) (hsz:1<vs.size)
  (h:∀h' T,s.heap.objs.size≤T→pA ((env::outer).filterMap (·.frame)) e (some T) s.heap h'→Exc h' e C dx (some T) (rawInt L)→Q () {s with heap:=h'}):
  wpAny M A (do let a ←frameOf env;let pl ←entryPlaceOf L hadNext;let b ←EntryCells.newEntry head a .none (rawInt L) .none pl;setField (.ref e) 1 b) Q E s:=by
 have hene:e∉(env::outer).filterMap (·.frame):=fun hm=>by
  obtain⟨_,o,ho,hnf⟩:=hl.mem hm
  rw[he]at ho;injection ho with ho;subst ho;exact hnf vs rfl
 refine wpAny_bind (wpAny_frameOf_fun hfr hl hf fun h₁ hs₁=> ?_)
 refine wpAny_bind (wpAny_entryPlaceOf fun pl hpl=> ?_)
 unfold EntryCells.newEntry newFields
 refine wpAny_bind (wpAny_newObj_type ?_ (hpl.sizeOk5 _ _ _ _ _))
 have he₁:h₁.get? e=some {cls:= .ref C,dict:=dx,data:= .fields vs}:=(hs₁.2.1 e hene).trans he
 have he₂:=Heap.get?_push_of_some (h:=h₁) {cls:= .type "traceback",dict:=none,data:= .fields ([head,.ref L,.none,rawInt L,.none]++(if pl.isEmpty then List.replicate 6 Value.none else pl)).toArray} he₁
 refine wpAny_setField he₂ rfl hsz (h _ h₁.objs.size (by rw[hs₁.1];exact Nat.le_refl _) ?_ ?_)
 ·refine⟨⟨?_,fun b o q=> ?_⟩,fun b o n1 n2 n3 q=> ?_,fun b o n1 n2 q=> ?_⟩
  ·rw[Heap.size_after_update,Heap.size_push,hs₁.1];omega
  ·by_cases n1:b=e
   ·subst n1
    exact⟨_,Heap.get?_update_self _ he₂ (Obj.isFreed_of_fields (Obj.data_mapFields rfl _))⟩
   ·obtain⟨sl,q1⟩:=hs₁.2.2 b o q
    exact⟨_,(Heap.get?_update_other _ _ (Ne.symm n1)).trans (Heap.get?_push_of_some _ q1)⟩
  ·rw[Heap.get?_update_other _ _ (Ne.symm n1)]
   exact Heap.get?_push_of_some _ ((hs₁.2.1 b n3).trans q)
  ·obtain⟨sl,q1⟩:=hs₁.2.2 b o q
   refine⟨sl,?_⟩
   rw[Heap.get?_update_other _ _ (Ne.symm n1)]
   exact Heap.get?_push_of_some _ q1
 ·have hTe:h₁.objs.size≠e:=Nat.ne_of_gt (Heap.lt_size he₁)
  have hd₃:=Obj.data_mapFields (o:={cls:= .ref C,dict:=dx,data:= .fields vs}) rfl (·.setIfInBounds 1 (Value.ref h₁.objs.size))
  have he₃:=Heap.get?_update_self (Obj.mapFields (·.setIfInBounds 1 (Value.ref h₁.objs.size))) he₂ (Obj.isFreed_of_fields hd₃)
  have hT₃:=(Heap.get?_update_other (h₁.push {cls:= .type "traceback",dict:=none,data:= .fields ([head,.ref L,.none,rawInt L,.none]++(if pl.isEmpty then List.replicate 6 Value.none else pl)).toArray})
   (Obj.mapFields (·.setIfInBounds 1 (Value.ref h₁.objs.size))) (Ne.symm hTe)).trans (Heap.get?_push_size h₁ rfl)
  refine⟨⟨_,he₃,by simp[hsz],hTe,_,_,hT₃,rfl,by first | (simp;done) | (rcases hpl with rfl | ⟨_,_,_,_,_,_,_,rfl⟩<;>simp)⟩⟩
theorem pA.upd{fs:List Addr}{e T:Addr}{h:Heap}{f:Obj→Obj}{oT:Obj}(ho:h.get? T=some oT)(hfr:(f oT).isFreed=false):pA fs e (some T) h (h.update T f):=by
 have k:∀b o,some b≠some T→h.get? b=some o→(h.update T f).get? b=some o:=fun b o n q=>by
  rw[Heap.get?_update_other _ _ (fun z=>n (by rw[z]))];exact q
 refine⟨⟨by rw[Heap.size_after_update];exact Nat.le_refl _,fun b o q=> ?_⟩,fun b o _ n2 _ q=>k b o n2 q,fun b o _ n2 q=>⟨o.slots,k b o n2 q⟩⟩
 by_cases z:b=T
 ·subst z;exact⟨_,Heap.get?_update_self _ ho hfr⟩
 ·exact⟨o,k b o (fun y=>z (Option.some.inj y)) q⟩
theorem Nh{e C:Addr}{dx T:Option Addr}{fl:Value}{fr:Option Addr}{Q:Unit→Shared→Prop}(x:Exc s.heap e C dx T fl)
  (h:∀h',pA [] e T s.heap h'→Exc h' e C dx T (fr.elim .none fun f=>rawInt f)→Q () {s with heap:=h'}):wpAny M A (setFlight (.ref e) fr) Q E s:=by
 obtain⟨vs,he,hT⟩:=x.at_
 unfold setFlight
 cases T with
 | none=>
  refine wpAny_bind (wpAny_field he rfl hT ?_)
  rw[if_neg (by decide)]
  exact wpAny_pure (h s.heap .refl ⟨vs,he,hT⟩)
 | some T=>
  obtain⟨h1,hne,oT,ts,hoT,hd,h3⟩:=hT
  refine wpAny_bind (wpAny_field he rfl h1 ?_)
  rw[if_pos (show(Value.ref T != Value.none)=true from by simp)]
  have hsz3:3<ts.size:=(Array.getElem?_eq_some_iff.mp h3).1
  refine wpAny_setField hoT hd hsz3 (h _ (.upd hoT (Obj.isFreed_of_fields (Obj.data_mapFields hd _))) ⟨vs,?_,h1,hne,_,_,Heap.get?_update_self _ hoT (Obj.isFreed_of_fields (Obj.data_mapFields hd _)),Obj.data_mapFields hd _,by simp[hsz3]⟩)
  rw[Heap.get?_update_other _ _ hne];exact he
theorem WK{base:Heap}{env:Env}{outer:List Env}{L e C:Addr}{dx T:Option Addr}{fl:Value}{Q:Unit→Shared→Prop}
  (hfr:A.frames=some (env::outer)) (hl:s.heap.FunFrames base (env::outer)) (hf:env.frame=some L) (x:Exc s.heap e C dx T fl) (hfl:fl=fl∨fl=rawInt L)
  (h:∀h' T',(T=some T'∨s.heap.objs.size≤T')→pA ((env::outer).filterMap (·.frame)) e T s.heap h'→Exc h' e C dx (some T') (rawInt L)→Q () {s with heap:=h'}):wpAny M A (noteFrame (.ref e) env) Q E s:=by
 obtain⟨vs,he,hT⟩:=x.at_
 unfold noteFrame
 simp only[hf]
 cases T with
 | none=>
  refine wpAny_bind (wpAny_field he rfl hT ?_)
  rw[if_neg (by decide)]
  refine SJ hfr hl hf he (Array.getElem?_eq_some_iff.mp hT).1 fun h' T hs k x'=>h h' T (.inr hs) ?_ x'
  exact⟨k.1,fun b o n1 _ n3 q=>k.2.1 b o n1 (fun z=>by cases z;exact absurd (Nat.lt_of_lt_of_le (Heap.lt_size q) hs) (Nat.lt_irrefl _)) n3 q,fun b o n1 _ q=>k.2.2 b o n1 (fun z=>by cases z;exact absurd (Nat.lt_of_lt_of_le (Heap.lt_size q) hs) (Nat.lt_irrefl _)) q⟩
 | some T=>
  obtain⟨h1,hne,oT,ts,hoT,hd,h3⟩:=hT
  refine wpAny_bind (wpAny_field he rfl h1 ?_)
  rw[if_pos (show(Value.ref T != Value.none)=true from by simp)]
  refine wpAny_bind (wpAny_field hoT hd h3 ?_)
  by_cases hq:fl=rawInt L
  ·subst hq
   rw[if_pos (show(rawInt L==rawInt L)=true from by simp)]
   exact wpAny_pure (h s.heap T (.inl rfl) .refl x)
  ·rw[if_neg (show ¬((fl==rawInt L)=true)from by simpa using hq)]
   have hsz3:3<ts.size:=(Array.getElem?_eq_some_iff.mp h3).1
   refine wpAny_bind (wpAny_setField hoT hd hsz3 ?_)
   have other:∀b,b≠T→(s.heap.update T (Obj.mapFields (·.setIfInBounds 3 Value.none))).get? b=s.heap.get? b:=fun b hb=>Heap.get?_update_other _ _ (Ne.symm hb)
   have noRecord:∀b o,s.heap.get? b=some o→(∀vs,o.data≠ .fields vs)→b≠T:=fun b o hb hnf q=>by
    rw[q,hoT]at hb;injection hb with hb;subst hb;exact hnf ts hd
   refine SJ hfr (hl.of_keeps fun b o hb hnf=>⟨o,(other b (noRecord b o hb hnf)).trans hb,rfl⟩) hf ((other e (Ne.symm hne)).trans he) (Array.getElem?_eq_some_iff.mp h1).1 fun h' T' hs k x'=> ?_
   rw[Heap.size_after_update]at hs
   exact h h' T' (.inr hs) ((pA.upd hoT (Obj.isFreed_of_fields (Obj.data_mapFields hd _))).trans k (.inr ⟨T',rfl,hs⟩)) x'
theorem Zd{base:Heap}{env:Env}{outer:List Env}{L e C:Addr}{dx T:Option Addr}{fl:Value}{Q:Unit→Shared→Prop}
  (hfr:A.frames=some (env::outer)) (hl:s.heap.FunFrames base (env::outer)) (hf:env.frame=some L) (x:Exc s.heap e C dx T fl) (hfl:fl=fl∨fl=rawInt L)
  (h:∀h' T',(T=some T'∨s.heap.objs.size≤T')→pA ((env::outer).filterMap (·.frame)) e T s.heap h'→Exc h' e C dx (some T') .none→Q () {s with heap:=h'}):wpAny M A (leaving env (.ref e)) Q E s:=by
 unfold leaving
 refine wpAny_bind (WK hfr hl hf x hfl fun h' T' hT k x'=> ?_)
 refine Nh (fr:=none) (s:={s with heap:=h'}) x' fun h2 k2 x2=>h h2 T' hT (k.trans (T':=some T') ⟨k2.1,fun b o n1 n2 _ q=>k2.2.1 b o n1 n2 (by simp) q,k2.2.2⟩ ?_) x2
 rcases hT with r | r
 ·exact .inl r.symm
 ·exact .inr ⟨T',rfl,r⟩
end
end L2
namespace L2
open PySem PySem.Spec PyProof.Rows
section
variable{X:Cx}{pins:List (Addr×Obj)}{σ:St}{H:Hp}{s:Shared}{a C:Addr}{f:Str}{A:Around}{E:Value→Shared→Prop}
end
end L2
namespace L2
open PySem PySem.Spec PyProof.Rows
section
variable{X:Cx}{o value:Expr}{ta tv:TE}{f:Str}{pos pos':Pos}
end
section
variable{P:Program}{w:World}{K:PySem.W.Frag}{mg:Str→Option Value}{base:Heap}
end
section
variable{X:Cx}{k:Nat}{f C:Addr}{fd:FuncData}{ps:List Str}{g:Str}
end
end L2
namespace L2
open PySem PySem.Spec PyProof.Rows
section
variable{X:Cx}{pins:List (Addr×Obj)}{σ:St}{H:Hp}{s:Shared}{a:Addr}{φ:Heap→Prop}
end
def fG(P:Program)(w:World):Sy:=fun outer H s E ev s'=>∃e C dx T H',ev=Value.ref e∧s'.os=s.os∧AllBare s'.gens∧Un (frs outer) [] H H' s.heap s'.heap∧uN P w H' s'.heap∧Exc s'.heap e C (some dx) (some T) .none∧
 s.heap.objs.size≤e∧s.heap.objs.size≤T∧H' e=none∧H' T=none∧E (.ref C) (some dx) H'
abbrev bG:=Addr→Addr→St→Hp→Prop
structure Qn(X:Cx)(pins:List (Addr×Obj))(H:Hp)(a:Addr):Prop where
 no:H a=none
 new:X.s₀.heap.objs.size≤a
 pin:∀p∈X.pn++pins,p.1≠a
def mU(X:Cx)(W:bG):Value→Shared→Prop:=fun ev s=>∃e C dx T fl pins σ H,ev=Value.ref e∧Inv X pins σ H s∧Exc s.heap e C (some dx) T fl∧(fl=fl∨fl=rawInt X.env.locals)∧Qn X pins H e∧(∀t,T=some t→Qn X pins H t)∧W C dx σ H
section
variable{X:Cx}{pins:List (Addr×Obj)}{σ:St}{H:Hp}{s:Shared}
theorem mU.TV{W:bG}{E:XK}{ev:Value}{s':Shared}(I:Inv X pins σ H s)(h:fG X.prog X.w X.stack H s E ev s')(hE:∀C dx H',E (.ref C) (some dx) H'→W C dx σ H'):mU X W ev s':=by
 obtain⟨e,C,dx,T,H',rfl,os,bare,un,hok,x,ne,nT,fe,fT,hq⟩:=h
 have old:∀a,s.heap.objs.size≤a→∀p∈X.pn++pins,p.1≠a:=fun a ha p hp z=>by
  have:=Heap.lt_size (I.pin p hp).1
  rw[z]at this
  exact absurd (Nat.lt_of_lt_of_le this ha) (Nat.lt_irrefl _)
 exact⟨e,C,dx,some T,.none,pins,σ,H',rfl,I.call' os un hok bare (fun b z=>absurd z (by simp)),x,.inl rfl,⟨fe,Nat.le_trans I.sz ne,old e ne⟩,fun t z=>by cases z;exact⟨fT,Nat.le_trans I.sz nT,old T nT⟩,hE C dx H' hq⟩
theorem J3{P:Program}{w:World}{fs:List Addr}{e:Addr}{T:Option Addr}{h h':Heap}(ok:uN P w H h)(k:pA fs e T h h')(he:H e=none)(hT:∀t,T=some t→H t=none)(hf:∀b∈fs,H b=none):uN P w H h':=by
 have kp:∀b u o,H b=some o→h.get? b=some u→h'.get? b=some u:=fun b u o q z=>
  k.2.1 b u (fun y=>by subst y;rw[he]at q;cases q) (fun y=>by rw[hT b y.symm]at q;cases q) (fun y=>by rw[hf b y]at q;cases q) z
 intro b o q
 refine(ok b o q).stay (fun b' u hb z=> ?_) (fun _ z=>z) fun _ _ z=>z
 rcases hb with rfl | hb
 ·exact kp _ u o q z
 ·exact kp _ u _ hb z
end
theorem mU.leave{P:Program}{w:World}{K:PySem.W.Frag}{mg:Str→Option Value}{base:Heap}{N:List Str}{qual:Str}{scope:Scope}{f:Addr}{cd:Value}{A:Around}{outer:List Env}{s:Shared}{H:Hp}{E:XK}{W:bG}{ev:Value}{s':Shared}
  (h:mU (Bh (fG P w) P w K mg base N qual scope f cd A outer s H E) W ev s') (hE:∀C dx σ H',W C dx σ H'→E (.ref C) (some dx) H'):
  (Bh (fG P w) P w K mg base N qual scope f cd A outer s H E).xe ev s':=by
 obtain⟨e,C,dx,T,fl,pins,σ,H',rfl,I,x,hfl,fe,fT,hW⟩:=h
 show wpAny _ _ (leaving _ (.ref e)) _ _ s'
 refine Zd I.ok.frames I.stack rfl x hfl fun h2 T' hT k x'=> ?_
 have hTn:∀t,T=some t→H' t=none:=fun t z=>(fT t z).no
 have nT:s.heap.objs.size≤T':=by
  rcases hT with r | r
  ·exact(fT T' r).new
  ·exact Nat.le_trans I.sz r
 have fT':H' T'=none:=by
  rcases hT with r | r
  ·exact hTn T' r
  ·exact I.hok.fresh r
 have ok2:=J3 I.hok k fe.no hTn I.BL
 have ne:∀b o,s.heap.get? b=some o→b≠e∧some b≠T:=fun b o q=>⟨fun z=>absurd (Nat.lt_of_lt_of_le (Heap.lt_size q) (z▸fe.new)) (Nat.lt_irrefl _),fun z=>absurd (Nat.lt_of_lt_of_le (Heap.lt_size q) (fT b z.symm).new) (Nat.lt_irrefl _)⟩
 have nL:∀b o,s.heap.get? b=some o→b≠s.heap.objs.size:=fun b o q=>Nat.ne_of_lt (Heap.lt_size q)
 refine⟨e,C,dx,T',H',rfl,I.os,I.bare,⟨fun b o q n hb _=> ?_,fun b o q n hb _=> ?_,fun b o q n _=>I.base.free b o q n (by simp[Bh]),fun b o q _=> ?_,I.base.tups,I.base.Be,I.base.BK⟩,ok2,x',fe.new,nT,fe.no,fT',hE C dx σ H' hW⟩
 ·obtain⟨n1,n2⟩:=ne b o q
  refine k.2.1 b o n1 n2 (fun z=> ?_) (I.base.keep b o q n hb (by simp[Bh]))
  rcases List.mem_cons.mp (I.GR b z)with y | y
  ·exact nL b o q y
  ·exact hb y
 ·obtain⟨n1,n2⟩:=ne b o q
  obtain⟨sl,q1⟩:=I.base.slot b o q n hb (by simp[Bh])
  obtain⟨sl2,q2⟩:=k.2.2 b _ n1 n2 q1
  exact⟨sl2,q2⟩
 ·obtain⟨n1,n2⟩:=ne b o q
  obtain⟨o1,q1⟩:=I.base.there b o q (by simp[Bh])
  obtain⟨sl2,q2⟩:=k.2.2 b _ n1 n2 q1
  exact⟨_,q2⟩
end L2
namespace L2
section
open PySem
variable{M:Model}{A:Around}{E:Value→Shared→Prop}{env:Env}
variable{nm q:Str}{C N:Addr}{bs bm:List Value}{hdct:Bool}{sn:List Str}{sub:List Value}{ab:Bool}{col:Option Bool}{dd:Option Addr}{k0 k1 k2 k3 k5:Option Value}{newId:String}
end
section
open PySem PySem.Spec PyProof.Rows
variable{X:Cx}{k:Nat}{f C:Addr}{fd:FuncData}{ps:List Str}{g:Str}{x:Str}{np cpos pos:Pos}{arg:Expr}{ta:TA}{W:bG}
end
end L2
namespace L2
open PySem PySem.Spec PyProof.Rows
section
variable{X:Cx}{pins:List (Addr×Obj)}{σ:St}{H:Hp}{s:Shared}{e C:Addr}{dx T:Option Addr}{fl:Value}{h':Heap}{W:bG}
theorem Inv.K7{a:Addr}{o:Obj}{vs:Array Value}(I:Inv X pins σ H s)(h:s.heap.get? a=some o)(d:o.data= .fields vs):a≠X.env.locals∧∀x c,X.env.cells.lookup x=some c→c≠a:=by
 refine⟨fun z=> ?_,fun x c hc z=> ?_⟩
 ·obtain⟨m,⟨o',es,ep,ho,hd,_⟩,_⟩:=I.loc
  subst z
  rw[ho]at h;cases h;rw[hd]at d;cases d
 ·obtain⟨v,o',ho,hd⟩:=I.cell x c hc
  subst z
  rw[ho]at h;cases h;rw[hd]at d;cases d
theorem Inv.abj(I:Inv X pins σ H s)(x:Exc s.heap e C dx T fl)(fe:Qn X pins H e)(fT:∀t,T=some t→Qn X pins H t)(k:pA (frs X.stack) e T s.heap h')(hE:∃o,h'.get? e=some o)(hTt:∀t,T=some t→∃o,h'.get? t=some o):
  Inv X pins σ H {s with heap:=h'}:=by
 obtain⟨vs,he,hT⟩:=x.at_
 have ok2:=J3 I.hok k fe.no (fun t z=>(fT t z).no) I.BL
 refine I.call (t':=s.toks) (g':=s.gens) (d':=s.drawn) (ch:=e::T.toList) ⟨fun b o q n hb hc=> ?_,fun b o q n hb hc=> ?_,fun b o q n _=>n,fun b o q hc=> ?_,fun _ _ q=>q,fun _ _ _ q=>q,fun b ps q=>⟨#[],by rw[q];simp⟩⟩ ok2 I.bare fun b hb=> ?_
 ·simp at hc
  exact k.2.1 b o hc.1 (fun z=>hc.2 z.symm) hb q
 ·simp at hc
  exact k.2.2 b o hc.1 (fun z=>hc.2 z.symm) q
 ·simp at hc
  obtain⟨sl,z⟩:=k.2.2 b o hc.1 (fun z=>hc.2 z.symm) q
  exact⟨_,z⟩
 ·simp at hb
  rcases hb with rfl | hb
  ·exact⟨.inr fe.new,(I.K7 he rfl).1,(I.K7 he rfl).2,fe.pin⟩
  ·subst hb
   obtain⟨_,_,oT,ts,hoT,hd,_⟩:=hT
   exact⟨.inr (fT b rfl).new,(I.K7 hoT hd).1,(I.K7 hoT hd).2,(fT b rfl).pin⟩
theorem pA.mono{fs fs':List Addr}{h:Heap}(k:pA fs e T h h')(hs:∀b∈fs,b∈fs'):pA fs' e T h h':=⟨k.1,fun b o n1 n2 n3 q=>k.2.1 b o n1 n2 (fun z=>n3 (hs b z)) q,k.2.2⟩
theorem Exc.here(x:Exc h' e C dx T fl):(∃o,h'.get? e=some o)∧∀t,T=some t→∃o,h'.get? t=some o:=by
 obtain⟨vs,he,hT⟩:=x.at_
 refine⟨⟨_,he⟩,fun t z=> ?_⟩
 subst z
 obtain⟨_,_,oT,_,hoT,_⟩:=hT
 exact⟨oT,hoT⟩
theorem mU.Vr(hst:X.stack=X.env::X.outer)(hf:X.env.frame=some X.env.locals){A:Around}(hA:A.frames=some X.stack):∀ev s',mU X W ev s'→wpAny (model X.prog X.w) A (noteFrame ev X.env) (fun _ s2=>cameBackBy (model X.prog X.w) X.A X.env (mU X W) ev s2) (cameBackBy (model X.prog X.w) X.A X.env (mU X W)) s':=by
 rintro ev s' ⟨e,C,dx,T,fl,pins,σ,H,rfl,I,x,hfl,fe,fT,hW⟩
 have aia:=I.stack
 rw[hst]at aia
 refine WK (by rw[hA,hst]) aia hf x hfl fun h1 T1 hT1 k1 x1=> ?_
 have fT1:Qn X pins H T1:=by
  rcases hT1 with r | r
  ·exact fT T1 r
  ·refine⟨I.hok.fresh r,Nat.le_trans I.sz r,fun p hp z=> ?_⟩
   have:=Heap.lt_size (I.pin p hp).1
   rw[z]at this
   exact absurd (Nat.lt_of_lt_of_le this r) (Nat.lt_irrefl _)
 have hTt:∀t,T=some t→∃o,h1.get? t=some o:=fun t z=>by
  obtain⟨o,q⟩:=x.here.2 t z
  exact k1.1.2 t o q
 have I1:=I.abj x fe fT (k1.mono (by rw[hst];exact fun b z=>z)) x1.here.1 hTt
 unfold cameBackBy
 obtain⟨vs,he,h2,_⟩:=x1.at_
 refine wpAny_bind (wpAny_field he rfl h2 ?_)
 rw[if_neg (by simp)]
 refine Nh (s:={s' with heap:=h1}) x1 fun h2 k2 x2=>⟨e,C,dx,some T1,_,pins,σ,H,rfl,I1.abj x1 fe (fun t z=>by cases z;exact fT1) (k2.mono (by simp)) x2.here.1 x2.here.2,x2,.inr (by rw[hf];rfl),fe,fun t z=>by cases z;exact fT1,hW⟩
end
end L2
namespace L2
open PySem PySem.Spec PyProof.Rows
def Tk(X:Cx)(W:bG):Prop:=∀ev s,mU X W ev s→X.xe ev s
def EW(W:bG)(σ:St):XK:=fun cv dxo H'=>∃C dx,cv=Value.ref C∧dxo=some dx∧W C dx σ H'
theorem mU.tu{X:Cx}{W W':bG}{ev:Value}{s:Shared}(h:mU (X.wish (mU X W)) W' ev s):mU X W' ev s:=by
 obtain⟨e,C,dx,T,fl,pins,σ,H,ee,I,x,hfl,fe,fT,hW⟩:=h
 exact⟨e,C,dx,T,fl,pins,σ,H,ee,I.tu,x,hfl,⟨fe.no,fe.new,fe.pin⟩,fun t z=>⟨(fT t z).no,(fT t z).new,(fT t z).pin⟩,hW⟩
theorem Tk.wish{X:Cx}{W:bG}:Tk (X.wish (mU X W)) W:=fun _ _ h=>h.tu
section
variable{X:Cx}{k:Nat}{f C:Addr}{fd:FuncData}{ps:List Str}{sp:Sp}{zU:List V}{ds:List Value}{W:bG}{x m:Str}{p pos apos:Pos}{e o:Expr}{es:List Expr}{ta:TE}{t:TA}
theorem K3{pins:List (Addr×Obj)}{σ:St}{H:Hp}{s:Shared}{Q:VK}{us:List Value}{vs:List V}(F:aX X.prog X.w X.K X.mg X.base (fG X.prog X.w) k f fd ps sp)(hr:lQ k X.A)(hb:Binds X.K fd ps ds)(hd:Vals zU ds)(hx:Tk X W)
  (I:Inv X pins σ H s) (r:Vals vs us) (h:sp (vs++zU) H Q (EW W σ)):wpAny (model X.prog X.w) X.A (call (.ref f) us) (EP X pins σ Q) X.xe s:=by
 have r2:=r.append hd
 have hl:(us++ds).length=ps.length:=by rw[←r2.length];exact F.len _ _ _ _ h
 refine wpAny_call (codeAny_mono (F.run X.A X.stack s H ⟨us,[]⟩ (us++ds) (vs++zU) Q _ hr I.env0 (hb s us I.Bt hl) r2 h) fun r s' hq=> ?_)
 match r,hq with
 | .error e,hq=>exact hx _ _ (mU.TV I hq fun C dx H' ⟨C',dx',e1,e2,w⟩=>by cases e1;cases e2;exact w)
 | .ok (.ret u),hq=>exact I.after hq
def W_(sp:Sp)(zU:List V)(W:bG)(t:TA):TE:=fun σ H Q=>t σ H fun vs H1=>sp (vs++zU) H1 Q (EW W σ)
theorem XM(F:aX X.prog X.w X.K X.mg X.base (fG X.prog X.w) k f fd ps sp)(hr:lQ k X.A)(hg:Gl X x)(hm:X.mg x=some (.ref f))(hk:PySem.W.keepIn X.K (.ref f)=true)(hb:Binds X.K fd ps ds)(hd:Vals zU ds)(hx:Tk X W)
  (ha:PA X (e::es) t) (hdb:(x==("__debug__" : Str))=false:=by decide) (he:starEach (e::es) X.env=(false,eval e X.env)::starEach es X.env:=by rfl) (hpl:(backTo pos (starEach es X.env)).any (·.1)=false:=by rfl):
  PE X (.Call (.Name x p) (e::es) [] pos) (W_ sp zU W t):=by
 intro pins s σ H Q I h
 exact wpAny_Call_Name_kw (Lz I hg hm (PySem.W.callWith_K (h₀:=X.base) I.ok.mod.kin hk (gU (ha pos pins s σ H _ I h) fun us s1 ⟨vs,H1,I1,r,q⟩=>⟨I1.Bt,K3 F hr hb hd hx I1 r q⟩) he hpl) hdb)
def QT(C:Addr)(m:Str)(sp:Sp)(zU:List V)(W:bG)(ta:TE)(t:TA):TE:=fun σ H Q=>ta σ H fun x H1=>∃a dx fs,x= .ref a∧H1 a=some (.ins C dx fs)∧fs.lookup m=none∧t σ H1 fun vs H2=>sp (x::(vs++zU)) H2 Q (EW W σ)
theorem Xz{pl:Sem Bool}(he:PE X o ta)(c:Qv X.K C)(hm:Meth X.K C m f)(F:aX X.prog X.w X.K X.mg X.base (fG X.prog X.w) k f fd ps sp)(hr:lQ k X.A)(hb:Binds X.K fd ps ds)(hd:Vals zU ds)(hx:Tk X W)(ha:PA X (e::es) t)
  (hst:starEach (e::es) X.env=(false,eval e X.env)::starEach es X.env:=by rfl) (hpl:(backTo pos (starEach es X.env)).any (·.1)=false:=by rfl)
  (ht:eval (.Call (.Attribute o m apos) (e::es) [] pos) X.env=(do
   let ov ←eval o X.env
   standAt apos.atName
   let(f,first) ←holding [ov] (getMethod ov m pl)
   callWith pos f first (backTo pos (starEach (e::es) X.env)) (backToKw pos (keywordEach [] X.env))):=by rfl):
  PE X (.Call (.Attribute o m apos) (e::es) [] pos) (QT C m sp zU W ta t):=by
 intro pins s σ H Q I h
 refine PySem.W.methodCall_KW (pl:=pl) (gU (he pins s σ H _ I h) fun u s1 ⟨x,H1,I1,rx,a,dx,fs,ex,ea,l,q⟩=> ?_) ht
 subst ex
 obtain rfl:u=Value.ref a:=rx
 refine Il I1 ea c hm l ?_
 exact PySem.W.callWith_K (h₀:=X.base) (first:=[.ref a]) I1.ok.mod.kin hm.kp (gU (ha pos pins s1 σ H1 _ I1 q) fun us s2 ⟨vs,H2,I2,r,q2⟩=>⟨I2.Bt,K3 (us:= .ref a::us) (vs:= .ref a::vs) F hr hb hd hx I2 (.cons rfl r) q2⟩) hst hpl
theorem Vp{pl:Sem Bool}(he:PE X o ta)(c:Qv X.K C)(hm:Meth X.K C m f)(F:aX X.prog X.w X.K X.mg X.base (fG X.prog X.w) k f fd ps sp)(hr:lQ k X.A)(hb:Binds X.K fd ps ds)(hd:Vals zU ds)(hx:Tk X W)
  (ht:eval (.Call (.Attribute o m apos) [] [] pos) X.env=(do
   let ov ←eval o X.env
   standAt apos.atName
   let(f,first) ←holding [ov] (getMethod ov m pl)
   callWith pos f first (backTo pos (starEach [] X.env)) (backToKw pos (keywordEach [] X.env))):=by rfl):
  PE X (.Call (.Attribute o m apos) [] [] pos) (QT C m sp zU W ta afx):=by
 intro pins s σ H Q I h
 refine PySem.W.methodCall_KW (pl:=pl) (gU (he pins s σ H _ I h) fun u s1 ⟨x,H1,I1,rx,a,dx,fs,ex,ea,l,q⟩=> ?_) ht
 subst ex
 obtain rfl:u=Value.ref a:=rx
 exact Il I1 ea c hm l (PySem.W.callWith_K0 (first:=[.ref a]) I1.Bt hm.kp (K3 (us:=[.ref a]) (vs:=[.ref a]) F hr hb hd hx I1 (.cons rfl .nil) q))
end
theorem bx.okX{P:Program}{w:World}{K:PySem.W.Frag}{mg:Str→Option Value}{base:Heap}{x qual:Str}{st:Stmt}{dV:Value}{f:Addr}{fd:FuncData}{N ps:List Str}{k:Nat}{sp:Sp}(F:bx K x qual st dV f fd)(S:aU N ps (au st))(len:∀vs H Q E,sp vs H Q E→vs.length=ps.length)
  (hbody:∀(cdv:Value) (A:Around) (outer:List Env) (s:Shared) (H:Hp) (vs:List V) (Q:VK) (E:XK),lQ k (A.deeper (envOfC qual (au st) s.heap.objs.size f cdv))→sp vs H Q E→
   ∃t W,(∀C dx σ H',W C dx σ H'→E (.ref C) (some dx) H')∧Qp ((Bh (fG P w) P w K mg base N qual (au st) f cdv A outer s H E).wish (mU (Bh (fG P w) P w K mg base N qual (au st) f cdv A outer s H E) W)) (aG st) t∧t {nx:=fun _ H'=>gcK H Q .non H',rt:=gcK H Q} (start N vs) H):
  aX P w K mg base (fG P w) (k+1) f fd ps sp:=by
 obtain⟨oc,od,kV,doc,pm,an,cdv,ct,osl,rfl,lk,hcd⟩:=F.ex
 refine aX.gc (sp:=fun vs H Q' E=>∃Q,sp vs H Q E∧Q'=gcK H Q) (aio lk hcd S (fun vs H Q E ⟨Q0,q,_⟩=>len vs H Q0 E q) fun A outer s H vs Q' E hr hsp=> ?_) fun vs H Q E q=>⟨Q,q,rfl⟩
 obtain⟨Q,hsp,rfl⟩:=hsp
 obtain⟨t,W,hE,h,q⟩:=hbody cdv A outer s H vs Q E hr hsp
 refine⟨t,fun pins s1 σ H1 D I h1=> ?_,q⟩
 exact wpAny_mono (h pins s1 σ H1 D (I.wish _) h1) (fun _ _ z=>z.tu) fun _ _ z=>z.leave hE
end L2
namespace L2
open PySem PySem.Spec PyProof.Rows
abbrev Cx.pp(X:Cx)(pins:List (Addr×Obj)):Cx:={X with pn:=X.pn++pins}
section
variable{X:Cx}{pins Ad:List (Addr×Obj)}{σ:St}{H:Hp}{s:Shared}{e:Addr}
theorem Inv.pp(I:Inv X (pins++Ad) σ H s):Inv (X.pp pins) Ad σ H s:=
 ⟨⟨I.ok.mod,I.ok.kind,I.ok.glob,I.ok.blt,I.ok.above,I.ok.inj,I.ok.has,I.ok.cab,I.ok.hd,I.ok.frames,I.ok.stk,I.ok.exf,I.ok.bs,I.ok.Ut,I.ok.Rk,I.ok.RP,I.ok.CG,I.ok.frf⟩,I.os,I.bare,I.base,I.loc,I.cell,I.free,I.rK,fun p hp=>I.pin p (by rw[←List.append_assoc];exact hp),I.hok,I.len⟩
theorem SP.map{X':Cx}{Ad:List (Addr×Obj)}{D:Ends}{f:Flow}{s':Shared}(g:∀σ H,Inv X' Ad σ H s'→Inv X pins σ H s')(h:SP X' Ad D f s'):SP X pins D f s':=by
 cases f with
 | next=>obtain⟨σ',H',I,q⟩:=h;exact⟨σ',H',g _ _ I,q⟩
 | brk=>obtain⟨σ',H',I,q⟩:=h;exact⟨σ',H',g _ _ I,q⟩
 | cont=>obtain⟨σ',H',I,q⟩:=h;exact⟨σ',H',g _ _ I,q⟩
 | ret u=>obtain⟨v,σ',H',I,r,q⟩:=h;exact⟨v,σ',H',g _ _ I,r,q⟩
end
section
variable{X:Cx}{W:bG}{c:Str}{cp hpos pos:Pos}{b₀:Stmt}{suite body:List Stmt}{tb:bG→TS}{ts:TS}{cv:Value}{v:V}
end
end L2
namespace L2
open PySem PySem.Spec PyProof.Rows
abbrev xC(a C dx:Addr):HO:= .ext fun h=>∃vs,h.get? a=some {cls:= .ref C,dict:=some dx,data:= .fields vs}
section
variable{X:Cx}{pins:List (Addr×Obj)}{σ:St}{H:Hp}{s:Shared}{h':Heap}{t':Nat}
theorem Inv.locals(I:Inv X pins σ H s)(hsb:Heap.SameBut X.env.locals s.heap h')(loc:∃m,h'.Ns X.env.locals m∧∀(i:Nat) (x:Str) (v:V),X.N[i]? = some x→σ[i]? = some (some v)→Vis X.env.scope x→∃u,RelV v u∧Look X.env h' m x u):
  Inv X pins σ H {s with heap:=h',toks:=t'}:=by
 have nL:∀b o,X.s₀.heap.get? b=some o→b≠X.env.locals:=fun b o q=>Nat.ne_of_lt (Nat.lt_of_lt_of_le (Heap.lt_size q) I.ok.above)
 refine⟨I.ok,I.os,I.bare,⟨fun b o q n hb hx=>(hsb.2 b (nL b o q)).trans (I.base.keep b o q n hb hx),fun b o q n hb hx=> ?_,I.base.free,fun b o q hx=> ?_,I.base.tups,I.base.Be,I.base.BK⟩,loc,fun x c q=> ?_,I.free,I.rK,fun p hp=> ?_,fun b o q=> ?_,I.len⟩
 ·obtain⟨sl,z⟩:=I.base.slot b o q n hb hx
  exact⟨sl,(hsb.2 b (nL b o q)).trans z⟩
 ·obtain⟨o',z⟩:=I.base.there b o q hx
  exact⟨o',(hsb.2 b (nL b o q)).trans z⟩
 ·obtain⟨v,o,ho,hd⟩:=I.cell x c q
  exact⟨v,o,(hsb.2 c (I.cne x c q)).trans ho,hd⟩
 ·obtain⟨z1,z2,z3,z4⟩:=I.pin p hp
  exact⟨(hsb.2 p.1 z3).trans z1,z2,z3,z4⟩
 ·have nl:∀b u,H b=some u→b≠X.env.locals:=fun b u z y=>by rw[y,I.free]at z;cases z
  refine(I.hok b o q).stay (fun b' u hb z=> ?_) (fun _ z=>z) fun _ _ z=>z
  rcases hb with rfl | hb
  ·exact(hsb.2 _ (nl _ _ q)).trans z
  ·exact(hsb.2 _ (nl _ _ hb)).trans z
end
section
variable{X:Cx}{W:bG}{c n:Str}{cp hpos pos:Pos}{b₀:Stmt}{suite body:List Stmt}{tb:bG→TS}{ts:TS}{cv:Value}{v:V}{i:Nat}
end
end L2
namespace L2
open PySem PySem.Spec PyProof.Rows
section
variable{X:Cx}{e:Expr}{ta:TE}{f:Str}{pos:Pos}
end
end L2
namespace L2
open PySem PySem.Spec PyProof.Rows
section
variable{prog:Program}{w:World}{A:Around}{E:Value→Shared→Prop}{s:Shared}{K:PySem.W.Frag}{x C:Addr}{name:Str}{ox od:Obj}
end
end L2
namespace L2
open PySem PySem.Spec PyProof.Rows
section
variable{X:Cx}{k:Nat}{f C:Addr}{fd:FuncData}{ps:List Str}{sp:Sp}{zU:List V}{ds:List Value}{W:bG}{x:Str}{p pos:Pos}{e:Expr}{es:List Expr}{t:TA}
def W6(C:Addr)(sp:Sp)(zU:List V)(W:bG)(t:TA):TE:=fun σ H Q=>t σ H fun vs H1=>∀x dx,H1 x=none→H1 dx=none→dx≠x→
 sp (.ref x::(vs++zU)) (upd (upd H1 dx (.own x)) x (.ins C dx [])) (fun v H2=>v= .non∧Q (.ref x) H2) (EW W σ)
theorem Vj{pins:List (Addr×Obj)}{σ:St}{H:Hp}{s:Shared}{Q:VK}{us:List Value}{vs:List V}(M:Mk X.K C f)(F:aX X.prog X.w X.K X.mg X.base (fG X.prog X.w) k f fd ps sp)(hr:lQ (k+1) X.A)(hb:Binds X.K fd ps ds)(hd:Vals zU ds)
  (hx:Tk X W) (I:Inv X pins σ H s) (r:Vals vs us)
  (h:∀x dx,H x=none→H dx=none→dx≠x→sp (.ref x::(vs++zU)) (upd (upd H dx (.own x)) x (.ins C dx [])) (fun v H2=>v= .non∧Q (.ref x) H2) (EW W σ)):
  wpAny (model X.prog X.w) X.A (call (.ref C) us) (EP X pins σ Q) X.xe s:=by
 have hq:=h (s.heap.objs.size+1) s.heap.objs.size (I.hok.fresh (Nat.le_succ _)) (I.hok.fresh (Nat.le_refl _)) (Nat.ne_of_lt (Nat.lt_succ_self _))
 have I2:=Inv.made (C:=C) I
 have r2:Vals (V.ref (s.heap.objs.size+1)::(vs++zU)) (Value.ref (s.heap.objs.size+1)::(us++ds)):= .cons rfl (r.append hd)
 have hl:(Value.ref (s.heap.objs.size+1)::us++ds).length=ps.length:=by
  have e:=r2.length
  rw[F.len _ _ _ _ hq]at e
  exact e.symm
 refine wpAny_call (Yc (f:=f) I.Bt M.makes M.init (beq_iff_eq.mp M.fn) (codeAny_mono (F.run _ X.stack _ _ ⟨Value.ref (s.heap.objs.size+1)::us,[]⟩ (Value.ref (s.heap.objs.size+1)::(us++ds)) _ _ _ (hr.make C us [])
  (I2.env0.make C us []) (hb _ (Value.ref (s.heap.objs.size+1)::us) I2.Bt hl) r2 hq) fun r s' hq'=> ?_))
 match r,hq' with
 | .error e,hq'=>exact hx _ _ (mU.TV I2 hq' fun C dx H' ⟨C',dx',e1,e2,w⟩=>by cases e1;cases e2;exact w)
 | .ok (.ret u),hq'=>
  obtain⟨v,H',I3,rv,ev,q3⟩:=I2.after hq'
  subst ev
  exact⟨rv,⟨V.ref (s.heap.objs.size+1),H',I3,rfl,q3⟩⟩
theorem XC(M:Mk X.K C f)(F:aX X.prog X.w X.K X.mg X.base (fG X.prog X.w) k f fd ps sp)(hr:lQ (k+1) X.A)(hg:Gl X x)(hm:X.mg x=some (.ref C))(hb:Binds X.K fd ps ds)(hd:Vals zU ds)(hx:Tk X W)
  (ha:PA X (e::es) t) (hdb:(x==("__debug__" : Str))=false:=by decide) (he:starEach (e::es) X.env=(false,eval e X.env)::starEach es X.env:=by rfl) (hpl:(backTo pos (starEach es X.env)).any (·.1)=false:=by rfl):
  PE X (.Call (.Name x p) (e::es) [] pos) (W6 C sp zU W t):=fun pins s σ H Q I h=>
 wpAny_Call_Name_kw (Lz I hg hm (PySem.W.callWith_K (h₀:=X.base) I.ok.mod.kin M.kp (gU (ha pos pins s σ H _ I h) fun us s1 ⟨vs,H1,I1,r,q⟩=>⟨I1.Bt,Vj M F hr hb hd hx I1 r q⟩) he hpl) hdb)
end
end L2
namespace L2
open PySem PySem.Spec PyProof.Rows
section
variable{X:Cx}{k:Nat}{f C:Addr}{fd:FuncData}{ps:List Str}{g:Str}{x:Str}{np cpos:Pos}{arg:Expr}{ta:TA}
end
section
variable{K:PySem.W.Frag}{nm q:Str}{C N:Addr}{bs bm:List Value}{sn:List Str}{sub:List Value}{ab:Bool}{col:Option Bool}{dd:Option Addr}{k0 k1 k2 k3 k5:Option Value}{newId:String}{name:Str}
theorem sub_self(lo:K.lookup C=some (excClassObj nm q C N bs bm true sn sub ab col dd k0 k1 k2 k3 k5 newId)):PySem.W.subIn K (.ref C) (.ref C)=some true:=by
 show PySem.W.mroIn K C (.ref C)=some true
 unfold PySem.W.mroIn PySem.W.clsIn
 rw[lo]
 simp
end
end L2
namespace L2
open PySem
end L2
namespace L2
open PySem PySem.Spec PyProof.Rows
section
variable{prog:Program}{w:World}{A:Around}{R:Result→Shared→Prop}
end
section
variable{X:Cx}{scope:Scope}{cl:List (Str×Addr)}{C:Addr}{N:List Str}{fp:List Addr}{s2:Shared}{H2:Hp}{W:bG}{ev:Value}{s:Shared}
end
section
variable{X:Cx}{x:Str}{px:Pos}{elt iter:Expr}{ifs:List Expr}{scope:Scope}{cs:List Str}{js:List Nat}{tt:TT}{te:TE}{pos:Pos}
end
section
variable{X:Cx}{x:Str}{px:Pos}{elt iter:Expr}{ifs:List Expr}{scope:Scope}{cs:List Str}{js:List Nat}{pos:Pos}
end
end L2
namespace L2
open PySem PySem.Spec PyProof.Rows
def aod:V→Option Int→Option Int→Hp→VK→Prop:=fun x lo hi H Q=>∃u,x= .str u∧u.length≤sizeLine∧Q (.str (Txt.slice u lo hi)) H
theorem ace{X:Cx}:SlR X aod:=by
 intro pins s σ H x v vl vu lo hi sl Q I rx hs pl pu h
 obtain⟨u,rfl,hz,q⟩:=h
 obtain⟨t,rfl⟩:=rx
 have fin:∀(t':Tok) (k:Nat),EP X pins σ Q (.str (Txt.slice u lo hi) t') {s with toks:=k}:=fun t' k=>⟨.str _,H,I.tok k,⟨t',rfl⟩,q⟩
 refine⟨"str",_,F.slot_str_getitem.lookup,typeIs_str _ _ _,?_⟩
 cases pl with
 | none=>
  cases pu with
  | none=>exact wpAny_getItem_str_slice (l:=none) (u:=none) (st:=none) hs rfl (post_val_or_str ⟨Nat.le_trans (Txt.slice_le u _ _) hz,fin⟩)
  | int j uj=>exact wpAny_getItem_str_slice (l:=none) (u:=some (j,uj)) (st:=none) hs rfl (post_val_or_str ⟨Nat.le_trans (Txt.slice_le u _ _) hz,fin⟩)
 | int i ui=>
  cases pu with
  | none=>exact wpAny_getItem_str_slice (l:=some (i,ui)) (u:=none) (st:=none) hs rfl (post_val_or_str ⟨Nat.le_trans (Txt.slice_le u _ _) hz,fin⟩)
  | int j uj=>exact wpAny_getItem_str_slice (l:=some (i,ui)) (u:=some (j,uj)) (st:=none) hs rfl (post_val_or_str ⟨Nat.le_trans (Txt.slice_le u _ _) hz,fin⟩)
theorem QM{n:Nat}(h:n≤1000000):Builtin.Str.tooLong n=false:=by
 unfold Builtin.Str.tooLong
 exact decide_eq_false (by have:(1000000:Nat)≤sizeLine:=by decide
                           omega)
theorem mulOk_of{x:Str}{n:Int}(hx:x.length≤1000)(h0: -(2 ^ 62)<n)(h1:n≤1000):MulOk x n:=by
 refine⟨?_,?_,?_⟩
 ·rw[decide_eq_false (by omega),decide_eq_false (by omega)];rfl
 ·intro a b
  have:(1000:Int)≤(2 ^ 63 - 1) / n:=by
   rw[Int.le_ediv_iff_mul_le (by omega)]
   omega
  omega
 ·intro a b
  refine QM ?_
  have:n.toNat≤1000:=by omega
  calc x.length*n.toNat≤1000*1000:=Nat.mul_le_mul hx this
   _≤1000000:=by decide
theorem Rb{X:Cx}:yu X (binaryOp .Mult) (fun x y H Q=>∃i j,x= .str i∧y= .int j∧MulOk i j∧Q (.str (PySem.Txt.mul i j)) H):=by
 intro pins s σ H x y v u Q I rx ry h
 obtain⟨i,j,rfl,rfl,hz,q⟩:=h
 obtain⟨t,rfl⟩:=rx
 obtain⟨t',rfl⟩:=ry
 exact SB.mul hz (fun t' tk=>⟨.str (PySem.Txt.mul i j),H,I.tok _,⟨_,rfl⟩,q⟩)
end L2
namespace L2
open PySem PySem.Spec PyProof.Rows
section
variable{X:Cx}
theorem abH{pins:List (Addr×Obj)}{σ:St}{H:Hp}{s:Shared}{a:Addr}(I:Inv X pins σ H s)(e:H a=some (.dK [])):Inv X pins σ (upd H a (.dT [])) s:=by
 obtain⟨z,hd,vs,rel,o,es,ep,h1,h2,h3,h4,h5,h6⟩:=abG I.hok e
 have hv:vs=[]:=by cases rel;rfl
 subst hv
 have he:es.toList=[]:=by
  have:=h5.length
  exact List.length_eq_zero_iff.mp (by simpa using this)
 exact Ms (t':=s.toks) (h':=s.heap) I (by rw[e];exact True.intro) ⟨rfl,fun _ _=>rfl⟩ ⟨o,h1⟩ ⟨Nat.zero_le _,hd,[],.nil,o,es,ep,h1,h2,h3,by rw[he];rfl,List.nodup_nil⟩
def Y_(H:Hp)(a:Addr)(y:V)(o:Option V)(H':Hp):Prop:=(FN H a y o∧H'=H)∨(H a=some (.dK [])∧(∃(k:List Key) (b:Addr),y= .ref b∧H b=some (.tup (k.map kV)))∧o=none∧H'=upd H a (.dT []))
theorem Y_.inv{pins:List (Addr×Obj)}{σ:St}{H H':Hp}{s:Shared}{a:Addr}{y:V}{o:Option V}(g:Y_ H a y o H')(I:Inv X pins σ H s):Inv X pins σ H' s∧FN H' a y o:=by
 rcases g with⟨g,rfl⟩ | ⟨e,⟨k,b,rfl,eb⟩,rfl,rfl⟩
 ·exact⟨I,g⟩
 ·refine⟨abH I e,.inr ⟨[],k,b,.inl dh,rfl,?_,rfl⟩⟩
  rw[bh (fun z=>by subst z;rw[e]at eb;cases eb)]
  exact eb
def af8:R2:=fun x y H Q=>∃a v,x= .ref a∧FN H a y (some v)∧Q v H
theorem aaG(hu:X.A.units+1<cLine):IxR X af8:=by
 intro value slice pins s σ H x y v u Q I rx ry h hs
 obtain⟨a,d,rfl,g,q⟩:=h
 obtain rfl:v=Value.ref a:=rx
 exact tail_any (P_ I g) PySem.F.slot_dict_getitem.lookup (V8 hu I g ry fun w' s' I' rw'=>⟨d,H,I',rw',q⟩) hs
section
variable{o e f i value:Expr}{apos cpos pos pos':Pos}{td ty tx tv:TE}
def ab2(td ty tx:TE):TE:=fun σ H Q=>td σ H fun x H1=>∃a,x= .ref a∧IsD H1 a∧ty σ H1 fun y H2=>tx σ H2 fun z H3=>∃o H4,Y_ H3 a y o H4∧Q (o.getD z) H4
theorem XF(hu:X.A.units+1<cLine)(ho:PE X o td)(he:PE X e ty)(hf:PE X f tx)(m:M2 X o "get" apos e f cpos):PE X (.Call (.Attribute o "get" apos) [e,f] [] cpos) (ab2 td ty tx):=by
 intro pins s σ H Q I h
 refine wpAny_Call_method m.base m.few m.line PySem.F.plainAttrs_dict PySem.F.slot_dict_get PySem.F.type_dict_get (gU (ho pins s σ H _ I h) fun u t ⟨x,H1,I1,rx,a,ex,d,q1⟩=> ?_)
 subst ex
 obtain rfl:u=Value.ref a:=rx
 have ty:=Yq I1 d
 refine⟨ty.1,ty.2.1,?_⟩
 rw[m.trees]
 refine Calls.callWith_builtin rfl (Calls.evalArgs_plain (Calls.spliced_cons (gU (he pins t σ H1 _ I1 q1) fun iv t2 ⟨y,H2,I2,ry,q2⟩=>Calls.spliced_cons (gU (hf pins t2 σ H2 _ I2 q2) fun fv t3 ⟨z,H3,I3,rz,ov,H4,g,q3⟩=>Calls.spliced_nil ?_))))
 obtain⟨I4,g4⟩:=g.inv I3
 exact ad1 hu I4 g4 ry rz fun w' t4 I5 rw'=>⟨_,H4,I5,rw',q3⟩
def akA(H:Hp)(a:Addr)(y v:V)(H':Hp):Prop:=Ng H a y v H'∨∃(k:List Key) (b:Addr),H a=some (.dK [])∧y= .ref b∧H b=some (.tup (k.map kV))∧H'=upd H a (.dT [(k,v)])
def af1(td ty tv:TE):TS:=fun D σ H=>tv σ H fun v H1=>td σ H1 fun x H2=>ty σ H2 fun y H3=>∃a H4,x= .ref a∧akA H3 a y v H4∧D.nx σ H4
theorem Z9(hu:X.A.units+1<cLine)(ho:PE X o td)(hi:PE X i ty)(hv:PE X value tv)(hs:swapsWith value (some (.Subscript o i pos')) pos.line X.env=pure false):PS X (.Assign [.Subscript o i pos'] value pos) (af1 td ty tv):=by
 intro pins s σ H D I h
 refine wpAny_Assign_Subscript (gU (hv pins s σ H _ I h) fun r t1 ⟨v,H1,I1,rv,q1⟩=>gU (ho pins t1 σ H1 _ I1 q1) fun u t2 ⟨x,H2,I2,rx,q2⟩=>gU (hi pins t2 σ H2 _ I2 q2) fun iv t3 ⟨y,H3,I3,ry,a,H4,ex,g,q3⟩=> ?_) hs
 subst ex
 obtain rfl:u=Value.ref a:=rx
 rcases g with g | ⟨k,b,e,rfl,eb,rfl⟩
 ·exact J9 hu I3 g ry rv fun t4 I4=>⟨σ,H4,I4,q3⟩
 ·have eb':upd H3 a (.dT []) b=some (.tup (k.map kV)):=by
   rw[bh (fun z=>by subst z;rw[e]at eb;cases eb)]
   exact eb
  refine J9 hu (abH I3 e) (Ng.t dh eb' (by rw[sizeLine_eq];decide)) ry rv fun t4 I4=>⟨σ,_,I4,?_⟩
  rw[Zj]
  exact q3
end
end
section
variable{prog:Program}{w:World}{A:Around}{E:Value→Shared→Prop}{s:Shared}{κ:Type}[DecidableEq κ]{knd:HeapKind prog w κ}{a:Addr}{xs:List (κ×Addr×Value)}
theorem Ru(hd:(a==sysModules)=false):MeetsIn prog w (Builtin.«dict.__len__» ⟨[.ref a],[]⟩) (fun _ R t=>∃ys:List (κ×Addr×Value),t.heap.DictOfH knd a ys∧R (.ok (.ret (.int ys.length t.toks))) {t with toks:=t.toks+1}):=
 .of_wp fun A R t ⟨ys,hm,q⟩=>by
  obtain⟨o,es,ep,e1,_,e2,e3,_⟩:=hm
  show wpAny _ _ (dictSize a >>= _) _ _ t
  unfold dictSize
  refine wpAny_bind (wpAny_bind (wpAny_dictEntries e1 e2 (wpAny_pure ?_)))
  show wpAny _ _ (Builtin.Dict.pendingCount a >>= _) _ _ t
  refine wpAny_bind (wpAny_pendingCount_other hd (wpAny_ret_mkInt ?_))
  have sz:es.size=ys.length:=by rw[←Array.length_toList,e3,List.length_map]
  rw[Nat.add_zero,sz]
  exact q
theorem apB{Q:Value→Shared→Prop}(hd:(a==sysModules)=false)(hm:s.heap.DictOfH knd a xs)(hz:(xs.length:Int)<2 ^ 63)(q:Q (.int xs.length (s.toks+1)) {s with toks:=s.toks+1+1}):wpAny (model prog w) A (call (.builtin "len") [.ref a]) Q E s:=by
 refine Calls.call_function_entry kind_len plain_len entry_len (args_len1 _) ?_
 unfold Builtin.«len»
 refine wpAny_bind (m:=oneArg "len" _) (wpAny_pure (wpAny_bind (m:=callSpecial? (.ref a) (Str.ofString "__len__")) ?_))
 refine wpAny_callSpecial?_slot (name:=Str.ofString "__len__") hm.typeIs F.slot_dict_len (call_meetsIn F.slot_dict_len hm.typeIs F.entry_dict_len (F.args_dict_len_1 _) (Ru (knd:=knd) hd) ⟨xs,hm,?_⟩)
 show wpAny (model prog w) _ _ _ _ {s with toks:=s.toks+1}
 refine wpAny_bind (wpAny_holding (wpAny_pure (wpAny_bind (wpAny_letGo ?_))))
 show wpAny (model prog w) _ (if((xs.length:Nat):Int)<0 then _ else _) _ _ _
 rw[if_neg (by omega)]
 show wpAny (model prog w) _ (if((xs.length:Nat):Int)≥2 ^ 63 then _ else _) _ _ _
 rw[if_neg (by omega)]
 exact wpAny_bind (wpAny_mkInt (wpAny_pure ⟨_,rfl,q⟩))
end
theorem V_{X:Cx}:mV X (.builtin "len") (fun xs H Q=>∃a kvs,xs=[V.ref a]∧H a=some (.dT kvs)∧Q (.int kvs.length) H):=by
 intro pins s σ H xs us Q I r h
 obtain⟨a,kvs,rfl,ha,q⟩:=h
 obtain⟨u,rfl,ru⟩:=vals1 r
 cases ru
 obtain⟨z,hd,ys,rel,dd⟩:=abF I.hok ha
 have hl:=Paired.length rel
 refine apB hd dd (by rw[←hl];rw[sizeLine_eq]at z;omega) ⟨.int kvs.length,H,I.tok _,⟨_,by rw[hl]⟩,q⟩
end L2
namespace L2
open PySem PySem.W PyProof.Rows
def Way(n:Nat)(lt:Nat→Nat→Bool){α:Type}:KasT α→(α→Prop)→Prop
 | .ret a,Q=>Q a
 | .ask i j k,Q=>i<n∧j<n∧Way n lt (k (lt i j)) Q
theorem Way.bind{n:Nat}{lt:Nat→Nat→Bool}{α β:Type}{f:α→KasT β}{Q:β→Prop}:∀{t:KasT α},Way n lt t (fun a=>Way n lt (f a) Q)→Way n lt (t.bind f) Q
 | .ret _,h=>h
 | .ask _ _ _,h=>⟨h.1,h.2.1,Way.bind h.2.2⟩
theorem Way.mono{n:Nat}{lt:Nat→Nat→Bool}{α:Type}{Q Q':α→Prop}(hq:∀a,Q a→Q' a):∀{t:KasT α},Way n lt t Q→Way n lt t Q'
 | .ret _,h=>hq _ h
 | .ask _ _ _,h=>⟨h.1,h.2.1,Way.mono hq h.2.2⟩
theorem Way.wp{n:Nat}{lt:Nat→Nat→Bool}{G:Shared→Prop}{cmp:Nat→Nat→(Bool→Shared→Prop)→Shared→Prop}
  (hc:∀i j,i<n→j<n→∀(C:Bool→Shared→Prop) s,G s→(∀s',G s'→C (lt i j) s')→cmp i j C s) {α:Type} {R:α→Shared→Prop} {Q:α→Prop} (hR:∀a s,Q a→G s→R a s):
  ∀{t:KasT α} {s:Shared},Way n lt t Q→G s→t.kasWp cmp R s
 | .ret _,_,h,g=>hR _ _ h g
 | .ask i j k,s,h,g=>hc i j h.1 h.2.1 _ s g fun _ g'=>Way.wp hc hR h.2.2 g'
structure Pm(n:Nat)(p:Array Nat):Prop where
 sz:p.size=n
 pm:p.Perm (List.range n).toArray
section
variable{n:Nat}{O:KeyOrd}{k:Nat→O.α}
theorem Pm.lt{p:Array Nat}(h:Pm n p){i:Nat}(hi:i<n):p.getD i 0<n:=by
 have hs:i<p.size:=by rw[h.sz];exact hi
 have e:p.getD i 0=p[i]:=by simp[Array.getD,hs]
 rw[e]
 have:=(Array.perm_iff_toList_perm.mp h.pm).mem_iff (a:=p[i])
 simpa using this.mp (by simp)
theorem Pm.of{p q:Array Nat}(h:Pm n p)(hp:q.Perm p):Pm n q:=⟨by rw[hp.size_eq,h.sz],hp.trans h.pm⟩
def kk(k:Nat→O.α)(p:Array Nat)(i:Nat):O.α:=k (p.getD i 0)
theorem O_{p q:Array Nat}{i j:Nat}(h:p[i]? = q[j]?):kk (O:=O) k p i=kk k q j:=by
 unfold kk
 rw[Array.getD_eq_getD_getElem?,Array.getD_eq_getD_getElem?,h]
theorem T9{p:Array Nat}{a d:Nat}(hs:a<p.size)(hd:d≤a)(i:Nat):kk (O:=O) k (bubble p a d) i=if i=a - d then kk k p a else if a - d<i∧i≤a then kk k p (i - 1)else kk k p i:=by
 have g:=getElem?_bubble hs d hd i
 split
 ·rename_i h1;rw[if_pos h1]at g;exact O_ g
 ·rename_i h1
  rw[if_neg h1]at g
  split
  ·rename_i h2;rw[if_pos h2]at g;exact O_ g
  ·rename_i h2;rw[if_neg h2]at g;exact O_ g
theorem LK{p:Array Nat}{a b:Nat}(hb:b≤p.size)(i:Nat):kk (O:=O) k (kas_rev p a b) i=if a≤i∧i<b then kk k p (a+b - 1 - i)else kk k p i:=by
 have g:=getElem?_mirror_all (i:=a) hb i
 unfold kas_rev
 split
 ·rename_i h1;rw[if_pos h1]at g;exact O_ g
 ·rename_i h1;rw[if_neg h1]at g;exact O_ g
def Up(k:Nat→O.α)(p:Array Nat)(m:Nat):Prop:=∀i j,i≤j→j<m→O.kle (kk k p i) (kk k p j)
def Dn(k:Nat→O.α)(p:Array Nat)(m:Nat):Prop:=∀i j,i≤j→j<m→O.kle (kk k p j) (kk k p i)
theorem Up.one{p:Array Nat}:Up (O:=O) k p 1:=fun i j a b=>by
 obtain rfl:i=j:=by omega
 exact O.irrefl _
theorem Up.more{p:Array Nat}{m:Nat}(h:Up (O:=O) k p m)(h1:1≤m)(e:O.kle (kk k p (m - 1)) (kk k p m)):Up k p (m+1):=fun i j a b=>by
 rcases Nat.lt_or_ge j m with q | q
 ·exact h i j a q
 ·obtain rfl:j=m:=by omega
  rcases Nat.lt_or_ge i j with z | z
  ·exact KeyOrd.kle_trans (h i (j - 1) (by omega) (by omega)) e
  ·obtain rfl:i=j:=by omega
   exact O.irrefl _
theorem Dn.more{p:Array Nat}{m:Nat}(h:Dn (O:=O) k p m)(h1:1≤m)(e:O.kle (kk k p m) (kk k p (m - 1))):Dn k p (m+1):=fun i j a b=>by
 rcases Nat.lt_or_ge j m with q | q
 ·exact h i j a q
 ·obtain rfl:j=m:=by omega
  rcases Nat.lt_or_ge i j with z | z
  ·exact KeyOrd.kle_trans e (h i (j - 1) (by omega) (by omega))
  ·obtain rfl:i=j:=by omega
   exact O.irrefl _
theorem Dn.like{p q:Array Nat}{m:Nat}(h:Dn (O:=O) k p m)(e:∀i,kk (O:=O) k q i=kk k p i):Dn k q m:=fun i j a b=>by rw[e,e];exact h i j a b
abbrev Rr(O:KeyOrd)(k:Nat→O.α):Nat→Nat→Bool:=fun i j=>O.blt (k i) (k j)
theorem Ks{p:Array Nat}(hp:Pm n p):∀(f m:Nat),1≤m→m+f≤n→Up (O:=O) k p m→
  Way n (Rr O k) (kas_asc p f m) fun r=>m≤r∧r≤m+f∧Up k p r∧(r=m+f∨O.klt (kk k p r) (kk k p (r - 1)))
 | 0,m,_,_,h=>⟨Nat.le_refl _,Nat.le_refl _,h,.inl rfl⟩
 | f+1,m,h1,h2,h=>by
  refine⟨hp.lt (by omega),hp.lt (by omega),?_⟩
  cases c:Rr O k (p.getD m 0) (p.getD (m - 1) 0)with
  | true=>dsimp only;rw[if_pos rfl];exact⟨Nat.le_refl _,by omega,h,.inr c⟩
  | false=>
   dsimp only;rw[if_neg Bool.false_ne_true]
   refine Way.mono ?_ (Ks hp f (m+1) (by omega) (by omega) (h.more h1 c))
   rintro r ⟨a,b,c,d⟩
   exact⟨by omega,by omega,c,d.imp (fun e=>by omega) id⟩
def Eqs(k:Nat→O.α)(p:Array Nat)(m q:Nat):Prop:=q+1≤m∧∀i,m - (q+1)≤i→i<m→kk (O:=O) k p i=kk k p (m - 1)
theorem GC{p:Array Nat}{m q:Nat}(hm:m≤p.size)(h:Eqs (O:=O) k p m q)(i:Nat):kk (O:=O) k (kas_rev p (m - (q+1)) m) i=kk k p i:=by
 rw[LK hm]
 split
 ·rw[h.2 _ (by omega) (by omega),h.2 i (by omega) (by omega)]
 ·rfl
theorem Bu:∀(f:Nat) {p:Array Nat} {m q:Nat},Pm n p→m+f≤n→Dn (O:=O) k p m→Eqs (O:=O) k p m q→
  Way n (Rr O k) (kas_desc f p m q) fun r=>Pm n r.1∧m≤r.2.1∧r.2.1≤n∧Dn k r.1 r.2.1∧Eqs (O:=O) k r.1 r.2.1 r.2.2
 | 0,p,m,q,hp,h2,h,he=>⟨hp,Nat.le_refl _,by omega,h,he⟩
 | f+1,p,m,q,hp,h2,h,he=>by
  have h1:1≤m:=by have:=he.1;omega
  refine⟨hp.lt (by omega),hp.lt (by omega),?_⟩
  have up:∀{t:KasT (Array Nat×Nat×Nat)},Way n (Rr O k) t (fun r=>Pm n r.1∧m+1≤r.2.1∧r.2.1≤n∧Dn k r.1 r.2.1∧Eqs (O:=O) k r.1 r.2.1 r.2.2)→Way n (Rr O k) t (fun r=>Pm n r.1∧m≤r.2.1∧r.2.1≤n∧Dn k r.1 r.2.1∧Eqs (O:=O) k r.1 r.2.1 r.2.2):=
   Way.mono fun r ⟨a,b,c,d,e⟩=>⟨a,by omega,c,d,e⟩
  have one:∀{p':Array Nat},Eqs (O:=O) k p' (m+1) 0:=⟨by omega,fun i a b=>by congr 1;omega⟩
  cases c:Rr O k (p.getD m 0) (p.getD (m - 1) 0)with
  | true=>
   dsimp only;rw[if_pos rfl]
   have d1:=h.more h1 (KeyOrd.kle_of_klt c)
   split
   ·have e:=GC (by rw[hp.sz];omega) he
    exact up (Bu f (hp.of (mirror_perm _ _ _ _)) (by omega) (d1.like e) one)
   ·exact up (Bu f hp (by omega) d1 one)
  | false=>
   dsimp only;rw[if_neg Bool.false_ne_true]
   refine⟨hp.lt (by omega),hp.lt (by omega),?_⟩
   cases c':Rr O k (p.getD (m - 1) 0) (p.getD m 0)with
   | true=>dsimp only;rw[if_pos rfl];exact⟨hp,Nat.le_refl _,show m≤n by omega,h,he⟩
   | false=>
    dsimp only;rw[if_neg Bool.false_ne_true]
    have eq:kk (O:=O) k p m=kk k p (m - 1):=O.total _ _ c c'
    refine up (Bu f hp (by omega) (h.more h1 c') ⟨by have:=he.1;omega,fun i a b=> ?_⟩)
    rw[show m+1 - 1=m by omega]
    rcases Nat.lt_or_ge i m with z | z
    ·rw[eq];exact he.2 i (by omega) z
    ·congr 1;omega
abbrev Cnt(n:Nat)(k:Nat→O.α):Nat×Array Nat→Prop:=fun r=>Pm n r.2∧1≤r.1∧r.1≤n∧Up (O:=O) k r.2 r.1
theorem Nj{p:Array Nat}{m:Nat}(hp:Pm n p)(h1:1≤m)(h2:m≤n)(h:Dn (O:=O) k p m):Way n (Rr O k) (kas_tail3 m n p) (Cnt (O:=O) n k):=by
 have hq:Pm n (kas_rev p 0 m):=hp.of (mirror_perm _ _ _ _)
 have u:Up (O:=O) k (kas_rev p 0 m) m:=fun i j a b=>by
  have hz:m≤p.size:=by rw[hp.sz];exact h2
  rw[LK hz,LK hz,if_pos ⟨by omega,by omega⟩,if_pos ⟨by omega,b⟩]
  exact h _ _ (by omega) (by omega)
 exact Way.bind (Way.mono (fun r ⟨a,b,c,_⟩=>⟨hq,by omega,by omega,c⟩) (Ks hq (n - m) m h1 (by omega) u))
theorem Nk{p:Array Nat}{m:Nat}(hp:Pm n p)(h2:m+1≤n)(h:Dn (O:=O) k p (m+1)):Way n (Rr O k) (kas_descPart m n p) (Cnt (O:=O) n k):=by
 refine Way.bind (Way.mono ?_ (Bu (n - (m+1)) (q:=0) hp (by omega) h ⟨by omega,fun i a b=>by congr 1;omega⟩))
 rintro⟨p',m',q'⟩ ⟨a,b,c,d,e⟩
 dsimp only at a b c d e ⊢
 split
 ·exact Nj (a.of (mirror_perm _ _ _ _)) (by omega) c (d.like (GC (by rw[a.sz];exact c) e))
 ·exact Nj a (by omega) c d
theorem U0{p:Array Nat}(hp:Pm n p)(h1:1≤n):Way n (Rr O k) (kas_count n p) (Cnt (O:=O) n k):=by
 refine Way.bind (Way.mono ?_ (Ks hp (n - 1) 1 (Nat.le_refl _) (by omega) Up.one))
 rintro m ⟨a,b,u,l⟩
 split
 ·exact⟨hp,a,by omega,u⟩
 ·rename_i ne
  have ne':m≠n:=fun z=>ne (by simp[z])
  have lt:O.klt (kk k p m) (kk k p (m - 1)):=l.resolve_left (by omega)
  split
  ·refine⟨hp.lt (by omega),hp.lt (by omega),?_⟩
   cases c:Rr O k (p.getD 0 0) (p.getD (m - 1) 0)with
   | true=>dsimp only;rw[if_pos rfl];exact⟨hp,a,by omega,u⟩
   | false=>
    dsimp only;rw[if_neg Bool.false_ne_true]
    have al:∀i,i<m→kk (O:=O) k p i=kk k p (m - 1):=fun i hi=>O.total _ _ (KeyOrd.kle_trans (show O.kle (kk k p (m - 1)) (kk k p 0)from c) (u 0 i (by omega) hi)) (u i (m - 1) (by omega) (by omega))
    have eqs:Eqs (O:=O) k p m (m - 1):=⟨by omega,fun i _ hi=>al i hi⟩
    have tn:=GC (by rw[hp.sz];omega) eqs
    rw[show m - (m - 1+1)=0 by omega]at tn
    have dn:Dn (O:=O) k p m:=fun i j x y=>by rw[al i (by omega),al j y];exact O.irrefl _
    exact Nk (hp.of (mirror_perm _ _ _ _)) (by omega) ((dn.more a (KeyOrd.kle_of_klt lt)).like tn)
  ·obtain rfl:m=1:=by omega
   exact Nk hp (by omega) (Dn.more (m:=1) (fun i j x y=>Up.one j i (by omega) (by omega)) (Nat.le_refl _) (KeyOrd.kle_of_klt lt))
theorem Di{p:Array Nat}{a:Nat}(hp:Pm n p)(ha:a<n)(u:Up (O:=O) k p a):∀(f l r:Nat),l≤r→r≤a→r - l≤f→(∀i,i<l→O.kle (kk k p i) (kk k p a))→(∀i,r≤i→i<a→O.klt (kk k p a) (kk k p i))→
  Way n (Rr O k) (kas_place p a f l r) fun z=>z≤a∧(∀i,i<z→O.kle (kk k p i) (kk k p a))∧∀i,z≤i→i<a→O.klt (kk k p a) (kk k p i)
 | 0,l,r,h1,h2,h3,lo,hi=>⟨by omega,lo,fun i x y=>hi i (by omega) y⟩
 | f+1,l,r,h1,h2,h3,lo,hi=>by
  unfold kas_place
  split
  ·exact⟨by omega,lo,fun i x y=>hi i (by omega) y⟩
  ·refine⟨hp.lt ha,hp.lt (by omega),?_⟩
   cases c:Rr O k (p.getD a 0) (p.getD ((l+r) / 2) 0)with
   | true=>
    dsimp only;rw[if_pos rfl]
    exact Di hp ha u f l _ (by omega) (by omega) (by omega) lo fun i x y=>KeyOrd.klt_of_klt_of_kle c (u _ i x y)
   | false=>
    dsimp only;rw[if_neg Bool.false_ne_true]
    exact Di hp ha u f _ r (by omega) h2 (by omega) (fun i x=>KeyOrd.kle_trans (u i ((l+r) / 2) (by omega) (by omega)) c) hi
theorem SM:∀(f:Nat) {p:Array Nat} {a:Nat},Pm n p→a+f=n→Up (O:=O) k p a→Way n (Rr O k) (kas_bin f p a) fun q=>Pm n q∧Up k q n
 | 0,p,a,hp,h,u=>⟨hp,by rw[←h];exact u⟩
 | f+1,p,a,hp,h,u=>by
  refine Way.bind (Way.mono ?_ (Di hp (by omega) u a 0 a (by omega) (by omega) (by omega) (fun i x=>by omega) (fun i x y=>by omega)))
  rintro z ⟨hz,lo,hi⟩
  refine SM f (hp.of (bubble_perm _ _ _)) (by omega) fun i j x y=> ?_
  have hs:a<p.size:=by rw[hp.sz];omega
  rw[T9 hs (by omega),T9 hs (by omega),show a - (a - z)=z by omega]
  repeat' split
  all_goals first
   | exact O.irrefl _
   | exact lo _ (by omega)
   | exact KeyOrd.kle_of_klt (hi _ (by omega) (by omega))
   | exact u _ _ (by omega) (by omega)
   | (exfalso;omega)
theorem WM(h1:1≤n):Way n (Rr O k) (kas_sort n) fun q=>Pm n q∧Up (O:=O) k q n:=by
 refine Way.bind (Way.mono ?_ (U0 (p:=(List.range n).toArray) ⟨by simp,Array.Perm.refl _⟩ h1))
 rintro⟨m,p⟩ ⟨a,b,c,u⟩
 dsimp only at a b c u ⊢
 split
 ·have e:max m 1=m:=by omega
  rw[e]
  exact SM _ a (by omega) u
 ·exact⟨a,by rw[show n=m by omega];exact u⟩
end
end L2
namespace L2
open PySem PySem.Spec PySem.W PyProof.Rows
theorem Bc:∀a:List Int,HT.lexLt a a=false
 | []=>rfl
 | x::xs=>by rw[HT.bw,if_pos rfl];exact Bc xs
theorem u5:∀a b:List Int,HT.lexLt a b=false→HT.lexLt b a=false→a=b
 | [],[],_,_=>rfl
 | [],_::_,h,_=>by cases h
 | _::_,[],_,h=>by cases h
 | x::xs,y::ys,h,h'=>by
  rw[HT.bw]at h h'
  by_cases e:x=y
  ·subst e
   rw[if_pos rfl]at h h'
   rw[u5 xs ys h h']
  ·rw[if_neg e]at h
   rw[if_neg (Ne.symm e)]at h'
   have:=of_decide_eq_false h
   have:=of_decide_eq_false h'
   omega
theorem zO:∀a b c:List Int,HT.lexLt a c=true→HT.lexLt a b=true∨HT.lexLt b c=true
 | _,_,[],h=>by rename_i a b;cases a<;>cases h
 | [],[],_::_,_=> .inr rfl
 | [],_::_,_::_,_=> .inl rfl
 | _::_,[],_::_,_=> .inr rfl
 | x::xs,y::ys,z::zs,h=>by
  rw[HT.bw]at h
  rw[HT.bw,HT.bw]
  by_cases e:x=z
  ·subst e
   rw[if_pos rfl]at h
   by_cases f:x=y
   ·subst f
    rw[if_pos rfl,if_pos rfl]
    exact zO xs ys zs h
   ·rw[if_neg f,if_neg (Ne.symm f)]
    rcases Int.lt_or_gt_of_ne f with q | q
    ·exact .inl (decide_eq_true q)
    ·exact .inr (decide_eq_true q)
  ·rw[if_neg e]at h
   have hz:=of_decide_eq_true h
   by_cases f:x=y
   ·subst f
    right
    rw[if_neg e];exact h
   ·rw[if_neg f]
    rcases Int.lt_or_gt_of_ne f with q | q
    ·exact .inl (decide_eq_true q)
    ·right
     rw[if_neg (by omega)]
     exact decide_eq_true (by omega)
theorem O7(a b c:List Int)(h:HT.lexLt a b=true)(h':HT.lexLt b c=true):HT.lexLt a c=true:=by
 rcases zO a c b h with q | q
 ·exact q
 ·rcases zO b a c h' with r | r
  ·have e:∀x y:List Int,HT.lexLt x y=true→HT.lexLt y x=true→False:=by
    intro x
    induction x with
    | nil=>intro y h1 h2;cases y<;>cases h2
    | cons u us ih=>
     intro y h1 h2
     cases y with
     | nil=>cases h1
     | cons v vs=>
      rw[HT.bw]at h1 h2
      by_cases z:u=v
      ·subst z
       rw[if_pos rfl]at h1 h2
       exact ih vs h1 h2
      ·rw[if_neg z]at h1
       rw[if_neg (Ne.symm z)]at h2
       have:=of_decide_eq_true h1
       have:=of_decide_eq_true h2
       omega
   exact(e a b h r).elim
  ·exact r
def Yi:KeyOrd:=⟨List Int,HT.lexLt,Bc,O7,zO,u5⟩
def Kv(s:Str):List Int:=s.cps.toList.map Int.ofNat++[-1]
def Kin(c d:List Int):Prop:=∀r r':List Int,HT.lexLt (c++r) (d++r')=if c=d then HT.lexLt r r' else HT.lexLt c d
theorem Gj:∀{c d:List Int},c.length=d.length→Kin c d
 | [],[],_=>fun r r'=>by rw[if_pos rfl];rfl
 | [],_::_,h=>by cases h
 | _::_,[],h=>by cases h
 | x::c,y::d,h=>fun r r'=>by
  have ih:=Gj (c:=c) (d:=d) (by simpa using h) r r'
  rw[List.cons_append,List.cons_append,HT.bw,HT.bw]
  by_cases e:x=y
  ·subst e
   rw[if_pos rfl,if_pos rfl,ih]
   by_cases q:c=d
   ·rw[if_pos q,if_pos (by rw[q])]
   ·rw[if_neg q,if_neg (fun z=>q (by injection z))]
  ·rw[if_neg e,if_neg e,if_neg (fun z=>e (by injection z))]
theorem zP:∀(a b:List Nat),Kin (a.map Int.ofNat++[-1]) (b.map Int.ofNat++[-1])∧HT.lexLt (a.map Int.ofNat++[-1]) (b.map Int.ofNat++[-1])=decide (a<b)∧(a.map Int.ofNat++[-1]=b.map Int.ofNat++[-1]→a=b)
 | [],[]=>⟨Gj rfl,by simp[HT.lexLt],fun _=>rfl⟩
 | [],y::b=>by
  have e:(-1:Int)≠Int.ofNat y:=by simp
  have l:(-1:Int)<Int.ofNat y:=by simp;omega
  refine⟨fun r r'=> ?_,?_,fun h=> ?_⟩
  ·simp only[List.map_nil,List.nil_append,List.map_cons,List.cons_append]
   rw[HT.bw,HT.bw,if_neg e,if_neg e,if_neg (fun z=>e (by injection z))]
  ·simp only[List.map_nil,List.nil_append,List.map_cons,List.cons_append]
   rw[HT.bw,if_neg e,decide_eq_true l]
   simp
  ·simp only[List.map_nil,List.nil_append,List.map_cons,List.cons_append]at h
   exact absurd (by injection h) e
 | x::a,[]=>by
  have e:Int.ofNat x≠(-1:Int):=by simp
  have l:¬Int.ofNat x<(-1:Int):=by simp
  refine⟨fun r r'=> ?_,?_,fun h=> ?_⟩
  ·simp only[List.map_nil,List.nil_append,List.map_cons,List.cons_append]
   rw[HT.bw,HT.bw,if_neg e,if_neg e,if_neg (fun z=>e (by injection z))]
  ·simp only[List.map_nil,List.nil_append,List.map_cons,List.cons_append]
   rw[HT.bw,if_neg e,decide_eq_false l]
   simp
  ·simp only[List.map_nil,List.nil_append,List.map_cons,List.cons_append]at h
   exact absurd (by injection h) e
 | x::a,y::b=>by
  obtain⟨k,l,i⟩:=zP a b
  by_cases e:x=y
  ·subst e
   refine⟨fun r r'=> ?_,?_,fun h=> ?_⟩
   ·simp only[List.map_cons,List.cons_append]
    rw[HT.bw,HT.bw,if_pos rfl,if_pos rfl,k]
    by_cases q:a.map Int.ofNat++[-1]=b.map Int.ofNat++[-1]
    ·rw[if_pos q,if_pos (by rw[q])]
    ·rw[if_neg q,if_neg (fun z=>q (by injection z))]
   ·simp only[List.map_cons,List.cons_append]
    rw[HT.bw,if_pos rfl,l]
    simp
   ·simp only[List.map_cons,List.cons_append]at h
    rw[i (by injection h)]
  ·have e':Int.ofNat x≠Int.ofNat y:=fun z=>e (Int.ofNat.inj z)
   refine⟨fun r r'=> ?_,?_,fun h=> ?_⟩
   ·simp only[List.map_cons,List.cons_append]
    rw[HT.bw,HT.bw,if_neg e',if_neg e',if_neg (fun z=>e' (by injection z))]
   ·simp only[List.map_cons,List.cons_append]
    rw[HT.bw,if_neg e']
    have:(Int.ofNat x<Int.ofNat y)↔x<y:=by simp
    simp[List.cons_lt_cons_iff,e]
   ·simp only[List.map_cons,List.cons_append]at h
    exact absurd (by injection h) e'
inductive Part (K:PySem.W.Frag) (H:Hp):V→List Int→Nat→Prop
 | int (i:Int):Part K H (.int i) [i] 0
 | str (x:Str):Part K H (.str x) (Kv x) 1
 | tup {a:Addr} {ns:List Int}:H a=some (.tup (ns.map V.int))→Part K H (.ref a) ns (ns.length+2)
theorem Part.kin{K:PySem.W.Frag}{H:Hp}{x y:V}{c d:List Int}{k:Nat}(h:Part K H x c k)(h':Part K H y d k):Kin c d:=by
 cases h with
 | int i=>cases h' with
  | int j=>exact Gj rfl
 | str a=>cases h' with
  | str b=>exact(zP _ _).1
 | tup e=>
  generalize hk:_+2=k' at h'
  cases h' with
  | int j=>omega
  | str b=>omega
  | tup e'=>exact Gj (by omega)
theorem Px:∀{a b:List Int},a.map (Sum.inl:Int→Key)=b.map Sum.inl→a=b
 | [],[],_=>rfl
 | [],_::_,h=>by cases h
 | _::_,[],h=>by cases h
 | x::a,y::b,h=>by
  rw[List.map_cons,List.map_cons]at h
  injection h with h1 h2
  rw[Sum.inl.inj h1,Px h2]
section
variable{X:Cx}{pins:List (Addr×Obj)}{σ:St}{H:Hp}{s:Shared}{A:Around}{E:Value→Shared→Prop}
theorem Pb{P:Program}{w:World}{h:Heap}{a:Addr}{ns:List Int}(ok:uN P w H h)(e:H a=some (.tup (ns.map V.int))):(tupleKind (fX P w)).is h (ns.map Sum.inl) a:=by
 refine Ih ok ?_
 rw[e,List.map_map];rfl
theorem aag{x y:V}{u v:Value}{c d:List Int}{k:Nat}{Q:Bool→Shared→Prop}(I:Inv X pins σ H s)(hu:A.units<cLine)(h:Part X.K H x c k)(h':Part X.K H y d k)(r:RelV x u)(r':RelV y v)(q:Q (decide (c=d)) s):
  wpAny (model X.prog X.w) A (eqBool u v) Q E s:=by
 cases h with
 | int i=>cases h' with
  | int j=>
   obtain⟨t,rfl⟩:=r
   obtain⟨t',rfl⟩:=r'
   refine wpAny_eqBool_int ?_
   have e:(i==j)=decide ([i]=[j]):=by
    by_cases z:i=j<;>simp[z]
   rw[e];exact q
 | str a=>cases h' with
  | str b=>
   obtain⟨t,rfl⟩:=r
   obtain⟨t',rfl⟩:=r'
   refine wpAny_eqBool_str ?_
   have e:decide (a=b)=decide (Kv a=Kv b):=by
    by_cases z:a=b
    ·simp[z]
    ·have:Kv a≠Kv b:=fun q=>z (by
      have:=(zP _ _).2.2 q
      cases a;cases b;simp at this;rw[this])
     simp[z,this]
   rw[e];exact q
 | @tup a _ e=>
  generalize hk:_+2=k' at h'
  cases h' with
  | int j=>omega
  | str b=>omega
  | @tup b _ e'=>
   obtain rfl:u= .ref a:=r
   obtain rfl:v= .ref b:=r'
   refine wpAny_eqBool_tuple hu (Pb I.hok e) (Pb I.hok e') ?_
   have:(c.map (Sum.inl:Int→Key)=d.map Sum.inl)↔c=d:=⟨Px,fun z=>by rw[z]⟩
   simp only[this];exact q
theorem Tw{x y:V}{u v:Value}{c d:List Int}{k:Nat}{b:Bool}{Q:Bool→Shared→Prop}(I:Inv X pins σ H s)(hu:A.units<cLine)(h:Part X.K H x c k)(h':Part X.K H y d k)(r:RelV x u)(r':RelV y v)(hb:b=true→k<2)(q:Q (HT.lexLt c d) s):
  wpAny (model X.prog X.w) A (oneLt' b u v) Q E s:=by
 cases h with
 | int i=>cases h' with
  | int j=>
   obtain⟨t,rfl⟩:=r
   obtain⟨t',rfl⟩:=r'
   have e:HT.lexLt [i] [j]=decide (i<j):=by
    rw[HT.bw]
    by_cases z:i=j
    ·subst z;simp[HT.lexLt]
    ·rw[if_neg z]
   rw[e]at q
   cases b with
   | true=>exact oneLt_int q
   | false=>exact kat_one _ _ (lt_int q)
 | str a=>cases h' with
  | str z=>
   obtain⟨t,rfl⟩:=r
   obtain⟨t',rfl⟩:=r'
   have e:HT.lexLt (Kv a) (Kv z)=decide (a.cps.toList<z.cps.toList):=(zP _ _).2.1
   rw[e]at q
   cases b with
   | true=>exact oneLt_str q
   | false=>exact kat_one _ _ (lt_str q)
 | @tup a _ e=>
  generalize hk:_+2=k' at h' hb
  cases h' with
  | int j=>omega
  | str z=>omega
  | @tup z _ e'=>
   obtain rfl:u= .ref a:=r
   obtain rfl:v= .ref z:=r'
   cases b with
   | true=>have:=hb rfl;omega
   | false=>
    obtain⟨_,its,r1,p1⟩:=(show dg X.prog X.w H s.heap a (.tup (c.map V.int))from I.hok a _ e)
    obtain⟨_,its2,r2,p2⟩:=(show dg X.prog X.w H s.heap z (.tup (d.map V.int))from I.hok z _ e')
    exact kat_one _ _ (HT.H_ p1 p2 (intsAre_of r1) (intsAre_of r2) hu q)
inductive Parts (K:PySem.W.Frag) (H:Hp):List V→List Int→List Nat→Prop
 | nil:Parts K H [] [] []
 | cons {x:V} {xs:List V} {c cs:List Int} {k:Nat} {ks:List Nat}:Part K H x c k→Parts K H xs cs ks→Parts K H (x::xs) (c++cs) (k::ks)
theorem T7{b:Bool}:∀{xs ys:List V} {us vs:List Value} {c d:List Int} {ks:List Nat} {i:Nat} {Q:Bool→Shared→Prop} {s:Shared},Inv X pins σ H s→A.units<cLine→Parts X.K H xs c ks→Parts X.K H ys d ks→Vals xs us→Vals ys vs→
  (b=true→i=0→∀k,ks[0]? = some k→k<2)→Q (HT.lexLt c d) s→KatLex X.prog X.w A b false Q (us.zip vs) i s
 | [],ys,us,vs,c,d,ks,i,Q,s,I,hu,h,h',r,r',hb,q=>by
  cases h
  cases h'
  cases r
  exact kat_nil q
 | x::xs,ys,us,vs,c,d,ks,i,Q,s,I,hu,h,h',r,r',hb,q=>by
  cases h with
  | @cons _ _ c1 c2 k1 k2 p ps=>
  cases h' with
  | @cons _ _ d1 d2 _ _ p' ps'=>
  cases r with
  | cons r0 rs=>
  cases r' with
  | cons r0' rs'=>
  rw[List.zip_cons_cons]
  refine kat_cons (aag I hu p p' r0 r0' ?_)
  have e:=p.kin p'
  cases z:decide (c1=d1)with
  | true=>
   have z':=of_decide_eq_true z
   rw[e,if_pos z']at q
   exact kat_yes (T7 I hu ps ps' rs rs' (fun _ h=>by omega) q)
  | false=>
   have z':=of_decide_eq_false z
   rw[e,if_neg z']at q
   refine kat_no (Tw I hu p p' r0 r0' ?_ q)
   intro hb'
   have:=Bool.and_eq_true_iff.mp hb'
   exact hb this.1 (by simpa using this.2) _ rfl
end
end L2
namespace L2
open PySem PySem.Spec PySem.W PyProof.Rows
inductive Sg (K:PySem.W.Frag) (H:Hp):List V→List (List Int)→Prop
 | flat {ys:List V} {cs:List (List Int)} (k:Nat) (hk:k<2) (hl:cs.length=ys.length) (h:∀(i:Nat) (y:V) (c:List Int),ys[i]? = some y→cs[i]? = some c→Part K H y c k):Sg K H ys cs
 | rows {ys:List V} {cs:List (List Int)} (k:Nat) (ks:List Nat) (hl:cs.length=ys.length) (h:∀(i:Nat) (y:V) (c:List Int),ys[i]? = some y→cs[i]? = some c→∃a xs,y=V.ref a∧H a=some (.tup xs)∧Parts K H xs c (k::ks)):Sg K H ys cs
section
variable{X:Cx}{pins:List (Addr×Obj)}{σ:St}{H:Hp}{s:Shared}{A:Around}{E:Value→Shared→Prop}
theorem Inv.track{a:Addr}{o:HO}(I:Inv X pins σ H s)(fp:Ek X pins H a)(h0:X.s₀.heap.get? a=none)(new:dg X.prog X.w (upd H a o) s.heap a o):Inv X pins σ (upd H a o) s where
 ok:=I.ok
 os:=I.os
 bare:=I.bare
 base:={
  keep:=I.base.keep
  slot:=I.base.slot
  free:=fun b ob e n hx=>by rw[bh (by rintro rfl;rw[h0]at e;cases e)];exact I.base.free b ob e n hx
  there:=I.base.there
  tups:=fun b xs e=>by
   have:=I.base.tups b xs e
   rw[bh (cC this fp.1)];exact this
  Be:=fun b ob xs e=>by
   have:=I.base.Be b ob xs e
   rw[bh (cC this fp.1)];exact this
  BK:=fun b ps e=>by
   obtain⟨ps',this⟩:=I.base.BK b ps e
   exact⟨ps',by rw[bh (cC this fp.1)];exact this⟩}
 loc:=I.loc
 cell:=I.cell
 free:=by rw[bh (Ne.symm fp.2.1)];exact I.free
 rK:=fun x c e=>by rw[bh (fp.2.2.2.2.1 x c e)];exact I.rK x c e
 pin:=fun p hp=>by
  obtain⟨a1,a2,a3⟩:=I.pin p hp
  exact⟨a1,by rw[bh (fp.2.2.2.2.2 p hp)];exact a2,a3⟩
 hok:=uN.track I.hok fp.1 new
 len:=I.len
theorem Gz{ys:List V}{vs:List Value}{i:Nat}(r:Vals ys vs)(hi:i<ys.length):∃y,ys[i]? = some y∧RelV y (vs.getD i Value.none):=by
 have e:ys[i]? = some ys[i]:=List.getElem?_eq_getElem hi
 obtain⟨u,h1,h2⟩:=r.get e
 refine⟨_,e,?_⟩
 rw[List.getD_eq_getElem?_getD,h1]
 exact h2
def Zk(k:Nat):Value:=if k=0 then .type "int" else if k=1 then .type "str" else .type "tuple"
theorem Hu{M:Model}{y:V}{c:List Int}{k:Nat}{u:Value}(I:Inv X pins σ H s)(h:Part X.K H y c k)(r:RelV y u):Looks M s.heap (typeOf u) (Zk k):=by
 cases h with
 | int i=>obtain⟨t,rfl⟩:=r;exact Looks.now
 | str x=>obtain⟨t,rfl⟩:=r;exact Looks.now
 | @tup a _ e=>
  obtain rfl:u= .ref a:=r
  obtain⟨_,its,r1,o,ho,hc,n,hd⟩:=(show dg X.prog X.w H s.heap a (.tup (c.map V.int))from I.hok a _ e)
  have:Zk (c.length+2)= .type "tuple" := by unfold Zk;rw[if_neg (by omega),if_neg (by omega)]
  rw[this,←hc]
  exact show Looks M s.heap (typeOf (.ref a)) o.cls from(Looks.ld ho).andThen .now
theorem SQ:∀{ys:List V} {vs:List Value} {s:Shared},Inv X pins σ H s→Vals ys vs→(k:Nat)→(∀y∈ys,∃a xs c ks,y=V.ref a∧H a=some (.tup xs)∧Parts X.K H xs c (k::ks))→
  ∃fs,KatTups s.heap vs fs∧fs.length=ys.length∧∀M,∀v∈fs,Looks M s.heap (typeOf v) (Zk k)
 | [],_,s,I,.nil,k,_=>⟨[],KatTups.nil,rfl,fun _ v h=>by cases h⟩
 | y::ys,_,s,I,.cons r rs,k,h=>by
  obtain⟨fs,t,hl,hf⟩:=SQ I rs k fun y hy=>h y (List.mem_cons_of_mem _ hy)
  obtain⟨a,xs,c,ks,rfl,ha,p⟩:=h y List.mem_cons_self
  obtain⟨_,its,r1,o,ho,hc,n,hd⟩:=(show dg X.prog X.w H s.heap a (.tup xs)from I.hok a _ ha)
  cases p with
  | @cons x xs' c1 c2 _ _ p ps=>
   cases r1 with
   | @cons _ u _ us r0 r0s=>
    cases(show _=Value.ref a from r)
    refine⟨u::fs,KatTups.cons ho hc hd (by simp) t,by simp[hl],fun M v hv=> ?_⟩
    rcases List.mem_cons.mp hv with rfl | q
    ·exact Hu I p r0
    ·exact hf M v q
theorem Vl{ys:List V}{cs:List (List Int)}{vs:List Value}(h:Sg X.K H ys cs)(r:Vals ys vs)(h2:2≤ys.length):∃κ:SortKind,
  (∀{σ:St} {pins:List (Addr×Obj)} {s:Shared} {A:Around} {E:Value→Shared→Prop} {Q:SortKind→Shared→Prop},Inv X pins σ H s→Q κ s→wpAny (model X.prog X.w) A (keyKind' vs.toArray) Q E s)∧
  ∀{σ:St} {pins:List (Addr×Obj)} {s:Shared} {A:Around} {E:Value→Shared→Prop} {Q:Bool→Shared→Prop} (i j:Nat),A.units<cLine→i<ys.length→j<ys.length→Inv X pins σ H s→Q (HT.lexLt (cs.getD i []) (cs.getD j [])) s→
   wpAny (model X.prog X.w) A (keyLt' κ (vs.getD i Value.none) (vs.getD j Value.none)) Q E s:=by
 have el:=r.length
 cases h with
 | flat k hk hl h=>
  have hp:∀i,i<ys.length→∃y,ys[i]? = some y∧RelV y (vs.getD i Value.none)∧Part X.K H y (cs.getD i []) k:=fun i hi=>by
   obtain⟨y,e,ry⟩:=Gz r hi
   have ec:cs[i]? = some (cs.getD i []):=by simp[hl,hi]
   exact⟨y,e,ry,h i y _ e ec⟩
  refine⟨oneType',fun{σ pins s A E Q} I q=> ?_,fun{σ pins s A E Q} i j hu hi hj I q=> ?_⟩
  ·refine kas_kind (T:=Zk k) (by omega) (fun v hv=> ?_) ?_ ?_ q
   ·obtain⟨i,hi,rfl⟩:=List.mem_iff_getElem.mp hv
    obtain⟨y,e,ry,p⟩:=hp i (by omega)
    have:vs.getD i Value.none=vs[i]:=by simp[hi]
    rw[this]at ry
    exact Hu I p ry
   ·have:k=0∨k=1:=by omega
    rcases this with rfl | rfl<;>decide
   ·have:k=0∨k=1:=by omega
    rcases this with rfl | rfl<;>decide
  ·obtain⟨y,e,ry,p⟩:=hp i hi
   obtain⟨y',e',ry',p'⟩:=hp j hj
   rw[keyLt'_oneType]
   exact Tw I hu p p' ry ry' (fun _=>hk) q
 | rows k ks hl h=>
  have hp:∀i,i<ys.length→∃a xs,ys[i]? = some (.ref a)∧vs.getD i Value.none= .ref a∧H a=some (.tup xs)∧Parts X.K H xs (cs.getD i []) (k::ks):=fun i hi=>by
   obtain⟨y,e,ry⟩:=Gz r hi
   have ec:cs[i]? = some (cs.getD i []):=by simp[hl,hi]
   obtain⟨a,xs,rfl,ha,p⟩:=h i y _ e ec
   exact⟨a,xs,e,ry,ha,p⟩
  refine⟨tuples' (Zk k != Value.type "tuple"),fun{σ pins s A E Q} I q=> ?_,fun{σ pins s A E Q} i j hu hi hj I q=> ?_⟩
  ·obtain⟨fs,t,hf,lk⟩:=SQ I r k fun y hy=>by
    obtain⟨i,hi,rfl⟩:=List.mem_iff_getElem.mp hy
    obtain⟨a,xs,e,_,ha,p⟩:=hp i hi
    rw[List.getElem?_eq_getElem hi]at e
    exact⟨a,xs,_,ks,Option.some.inj e,ha,p⟩
   refine kat_kind t (by omega) (fun v hv=>lk _ v hv) ?_ q
   unfold Zk
   split
   ·decide
   ·split<;>decide
  ·obtain⟨a,xs,e,ev,ha,p⟩:=hp i hi
   obtain⟨a',xs',e',ev',ha',p'⟩:=hp j hj
   obtain⟨_,its,r1,o,ho,hc,n,hd⟩:=(show dg X.prog X.w H s.heap a (.tup xs)from I.hok a _ ha)
   obtain⟨_,its',r1',o',ho',hc',n',hd'⟩:=(show dg X.prog X.w H s.heap a' (.tup xs')from I.hok a' _ ha')
   rw[ev,ev']
   have lp:∀{xs:List V} {c:List Int} {ks:List Nat},Parts X.K H xs c ks→xs.length=ks.length:=fun{xs c ks} p=>by
    induction p with
    | nil=>rfl
    | cons _ _ ih=>simp[ih]
   have sz:decide (its.toArray.size<its'.toArray.size)=false:=by
    have:=r1.length
    have:=r1'.length
    have:=lp p
    have:=lp p'
    refine decide_eq_false ?_
    simp only[List.size_toArray]
    omega
   refine kat_lt ho hd ho' hd' ?_
   rw[sz]
   refine T7 I hu p p' (by simpa using r1) (by simpa using r1') (fun hb _ k' hk'=> ?_) q
   have:k'=k:=by simpa using hk'.symm
   subst this
   by_cases z:k'<2
   ·exact z
   ·exfalso
    have:Zk k'= .type "tuple" := by unfold Zk;rw[if_neg (by omega),if_neg (by omega)]
    rw[this]at hb
    exact absurd hb (by decide)
structure Order(n:Nat)(cs:List (List Int))(q:List Nat):Prop where
 pm:q.Perm (List.range n)
 up:∀i j,i≤j→j<n→HT.lexLt (cs.getD (q.getD j 0) []) (cs.getD (q.getD i 0) [])=false
theorem Vd{l:Addr}{n:Nat}{vs:List Value}{ys:List V}{cs:List (List Int)}{P:PySem.Fin→Shared→Prop}(I:Inv X pins σ H s)(hu:A.units<cLine)(fp:Ek X pins H l)(ho:s.heap.get? l=some (seqObj "list" vs.toArray n))(r:Vals ys vs)(h64:ys.length<64)(rk:Sg X.K H ys cs)
  (h:∀(q:List Nat) (c:Nat) (s':Shared),Order ys.length cs q→s'.heap.get? l=some (seqObj "list" (q.map fun i=>vs.getD i Value.none).toArray c)→Inv X pins σ H s'→P (.done (.ret .none)) s'):
  wpAny (model X.prog X.w) A (Builtin.«list.sort» ⟨[.ref l],[]⟩) P E s:=by
 have el:=r.length
 have hl:l<s.heap.objs.size:=Heap.lt_size ho
 have line:(64:Nat)≤sizeLine:=by decide
 obtain⟨e1,ho1⟩:∃e1,(s.heap.update l (Obj.mapSeq fun _=>(#[]:Array Value))).get? l=some (seqObj "list" #[] e1):=⟨_,get?_update_seq ho fun _=> #[]⟩
 have sb:=Heap.SameBut.update s.heap l (Obj.mapSeq fun _=>(#[]:Array Value))
 generalize hh:((s.heap.update l (Obj.mapSeq fun _=>(#[]:Array Value))).push (seqObj "tuple" vs.toArray 0)).push (seqObj "list" #[] 0)=h3
 have k3:∀b o,(s.heap.update l (Obj.mapSeq fun _=>(#[]:Array Value))).get? b=some o→h3.get? b=some o:=fun b o e=>by
  rw[←hh];exact Heap.get?_push_of_some _ (Heap.get?_push_of_some _ e)
 have ho3:h3.get? l=some (seqObj "list" #[] e1):=k3 _ _ ho1
 have I3:Inv X pins σ H {s with heap:=h3}:=I.turned (t':=s.toks) (it:=l) (fun b o hb e=>k3 b o ((sb.2 b hb).trans e)) fp.1 fp.2.1 fp.2.2.2.1 fp.2.2.2.2.1 fp.2.2.2.2.2
 have fin:∀(s':Shared) (q:List Nat),Inv X pins σ H s'→s'.heap.get? l=some (seqObj "list" #[] e1)→Order ys.length cs q→q.length=ys.length→
   wpAny (model X.prog X.w) A (seqEpoch l) (fun after s''=>wpAny (model X.prog X.w) A (Builtin.List.listUpdate (.ref l) fun _=>(q.map fun i=>vs.getD i Value.none).toArray) (fun _ s3=>after=e1∧P (.done (.ret .none)) s3) E s'') E s':=fun s' q I' ho' od lq=>by
  refine seqEpoch_at ho' rfl ?_
  refine listUpdate_at ho' rfl ⟨rfl,?_⟩ (Nat.zero_le _) (by simp only[List.size_toArray,List.length_map,lq];omega)
  obtain⟨c2,hc2⟩:∃c2,(s'.heap.update l (Obj.mapSeq fun _=>(q.map fun i=>vs.getD i Value.none).toArray)).get? l=some (seqObj "list" (q.map fun i=>vs.getD i Value.none).toArray c2):=⟨_,get?_update_seq ho' fun _=>_⟩
  have sb':=Heap.SameBut.update s'.heap l (Obj.mapSeq fun _=>(q.map fun i=>vs.getD i Value.none).toArray)
  exact h q c2 _ od hc2 (I'.turned (t':=s'.toks) (it:=l) (fun b o hb e=>(sb'.2 b hb).trans e) fp.1 fp.2.1 fp.2.2.2.1 fp.2.2.2.2.1 fp.2.2.2.2.2)
 rw[list_sort_plain]
 refine wpAny_bind (listItems_at ho rfl (wpAny_bind (listUpdate_at ho rfl (wpAny_bind (seqEpoch_at ho1 rfl (wpAny_bind (wpAny_newTuple (wpAny_bind (wpAny_newList (wpAny_holding ?_) (Nat.zero_le _))) (by show vs.length≤_;omega))))) (by simp only[List.size_toArray];omega) (Nat.zero_le _))))
 show wpAny _ A _ P E {s with heap:=((s.heap.update l (Obj.mapSeq fun _=>(#[]:Array Value))).push (seqObj "tuple" vs.toArray 0)).push (seqObj "list" #[] 0)}
 rw[hh]
 dsimp only
 by_cases h2:vs.toArray.size<2
 ·rw[if_pos h2,if_pos h2]
  refine wpAny_bind (wpAny_pure ?_)
  rw[StateT.run_pure]
  refine wpAny_bind (wpAny_pure ?_)
  dsimp only
  have hs:vs.length<2:=by simpa using h2
  have od:Order ys.length cs (List.range ys.length):=⟨List.Perm.refl _,fun i j a b=>by
   obtain rfl:i=j:=by omega
   exact Bc _⟩
  have out:(arrOf (SortSt.mk' general' (vs.toArray.zip vs.toArray) #[] 7 none)).map (·.2)=((List.range ys.length).map fun i=>vs.getD i Value.none).toArray:=by
   have ea:arrOf (SortSt.mk' general' (vs.toArray.zip vs.toArray) #[] 7 none)=vs.toArray.zip vs.toArray:=rfl
   rw[ea,el]
   match vs,hs with
   | [],_=>simp
   | [v],_=>simp
  rw[out]
  refine wpAny_bind (wpAny_mono (fin _ _ I3 ho3 od (by simp)) (fun after s'' hq=> ?_) fun _ _ z=>z)
  refine wpAny_bind (wpAny_mono hq (fun _ s3 hz=> ?_) fun _ _ z=>z)
  obtain⟨rfl,hz⟩:=hz
  simp only[bne_self_eq_false,Bool.false_eq_true,if_false]
  exact wpAny_pure hz
 ·rw[if_neg h2,if_neg h2]
  have hs:2≤vs.length:=by simpa using h2
  obtain⟨κ,kind,ask⟩:=Vl rk r (by omega)
  have I4:Inv X ((l,seqObj "list" #[] e1)::pins) σ H {s with heap:=h3}:=I3.uX fun p hp=>by
   rcases List.mem_cons.mp hp with rfl | hp
   ·exact⟨ho3,fp.1,fp.2.1,fp.2.2.1,fun v z=>by cases z⟩
   ·exact I3.pin p (List.mem_append_right _ hp)
  refine wpAny_bind (kind I3 ?_)
  have way:=WM (n:=vs.length) (O:=Yi) (k:=fun i=>cs.getD i []) (by omega)
  have wp:=Way.wp (G:=fun s'=>Inv X ((l,seqObj "list" #[] e1)::pins) σ H s') (cmp:=kas_ask X.prog X.w A κ vs)
   (R:=fun p s'=>(Pm vs.length p∧Up (O:=Yi) (fun i=>cs.getD i []) p vs.length)∧Inv X ((l,seqObj "list" #[] e1)::pins) σ H s')
   (fun i j hi hj C s' g hc=>ask i j hu (by omega) (by omega) g (hc s' g)) (fun a s' h1 h2=>⟨h1,h2⟩) way I4
  refine wpAny_bind (wpAny_mono (kat_run (Q:=fun st' s'=>∃p:Array Nat,arrOf st'=p.map (kas_item (vs.toArray.zip vs.toArray))∧failedOf st'=none∧(Pm vs.length p∧Up (O:=Yi) (fun i=>cs.getD i []) p vs.length)∧Inv X ((l,seqObj "list" #[] e1)::pins) σ H s')
   rfl hs (by omega) (fun p st' s' _ a2 a3 a4=>⟨p,a2,a3,a4⟩) wp) ?_ fun _ _ e=>e)
  rintro⟨⟨⟩,st'⟩ s' ⟨p,har,hf,⟨pm,up⟩,I5⟩
  dsimp only
  rw[kat_snds rfl har]
  have ho5:=(I5.pin (l,seqObj "list" #[] e1) (List.mem_append_right _ List.mem_cons_self)).1
  have I6:Inv X pins σ H s':=I5.uX fun p hp=>I5.pin p (List.mem_append_right _ (List.mem_cons_of_mem _ hp))
  have od:Order ys.length cs p.toList:=by
   refine⟨?_,fun i j a b=> ?_⟩
   ·have:=Array.perm_iff_toList_perm.mp pm.pm
    rw[el]
    simpa using this
   ·have:=up i j a (by omega)
    have g:∀i,p.toList.getD i 0=p.getD i 0:=fun i=>by
     rw[Array.getD_eq_getD_getElem?,List.getD_eq_getElem?_getD,Array.getElem?_toList]
    rw[g,g]
    exact this
  refine wpAny_bind (wpAny_mono (fin s' p.toList I6 ho5 od (by rw[Array.length_toList,pm.sz,el])) (fun after s'' hq=> ?_) fun _ _ z=>z)
  refine wpAny_bind (wpAny_mono hq (fun _ s3 hz=> ?_) fun _ _ z=>z)
  obtain⟨rfl,hz⟩:=hz
  rw[hf]
  simp only[bne_self_eq_false,Bool.false_eq_true,if_false]
  exact wpAny_pure hz
end
end L2
namespace L2
open PySem PySem.Spec PySem.W PySem.Calls PyProof.Rows
theorem Oj(d:Addr):¬((Value.ref d==Value.none)=true):=fun z=>Bool.false_ne_true z
def FJ(h:Heap)(d:Addr)(es:Array DictEntry)(ep:Nat):Prop:=∃o,h.get? d=some o∧o.ExactDict∧o.data= .dict es ep
theorem FJ.keep{h h':Heap}{d:Addr}{es:Array DictEntry}{ep:Nat}(x:FJ h d es ep)(k:∀o,h.get? d=some o→h'.get? d=some o):FJ h' d es ep:=
 let⟨o,a,b⟩:=x;⟨o,k o a,b⟩
def itO(f0 f1:Value)(d:Addr)(i n ep:Nat)(ok ov:Value):Obj:=
 {cls:= .type "dict_itemiterator",dict:=none,data:= .fields #[f0,f1,.ref d,.int i 0,.int n 0,.int ep 0,ok,ov],slots:= #[]}
def Sq(h:Heap)(it d S:Addr)(i n ep:Nat):Prop:=∃f0 f1 ok ov,h.get? it=some (itO f0 f1 d i n ep ok ov)∧(f0= .none∨∃(a:Addr) (b:Bool) (oa:Obj),f0=rawInt a∧f1= .bool b∧h.get? a=some oa∧a≠it∧a≠S)
theorem Sq.keep{h h':Heap}{it d S:Addr}{i n ep:Nat}(x:Sq h it d S i n ep)(k:∀b o,b≠S→h.get? b=some o→h'.get? b=some o)(hS:it≠S):Sq h' it d S i n ep:=by
 obtain⟨f0,f1,ok,ov,e,z⟩:=x
 exact⟨f0,f1,ok,ov,k _ _ hS e,z.imp id fun⟨a,b,oa,q1,q2,q3,q4,q5⟩=>⟨a,b,oa,q1,q2,k _ _ q5 q3,q4,q5⟩⟩
section
variable{prog:Program}{w:World}{A:Around}{E:Value→Shared→Prop}{s:Shared}
theorem RG{d:Addr}{es:Array DictEntry}{ep:Nat}{Q:Value→Shared→Prop}(hd:(d==sysModules)=false)(x:FJ s.heap d es ep)
  (h:Q (.ref s.heap.objs.size) {s with heap:=s.heap.push {cls:= .type "dict_items",data:= .fields #[.ref d]}}):wpAny (model prog w) A (call (.builtin "dict.items") [.ref d]) Q E s:=by
 obtain⟨o,ho,ex,_⟩:=x
 have ty:s.TypeIs (.ref d) "dict" := ⟨o,ho,ex.1⟩
 refine wpAny_call_entry PySem.F.slot_dict_items ty PySem.F.entry_dict_items ?_ (PySem.F.args_dict_items_1 _)
 unfold Builtin.«dict.items» Builtin.Dict.noArgs
 refine wpAny_bind (wpAny_bind (wpAny_notOrdered_dict ty (show wpAny _ _ (pure d) _ _ s from wpAny_pure ?_)))
 show wpAny _ _ (Builtin.Dict.showsAll d >>= _) _ _ s
 unfold Builtin.Dict.showsAll
 rw[if_neg (by rw[hd];decide)]
 exact wpAny_bind (wpAny_pure (wpAny_bind (wpAny_newObj_type (wpAny_pure ⟨_,rfl,h⟩))))
theorem RD{v d:Addr}{es:Array DictEntry}{ep:Nat}{Q:Value→Shared→Prop}(hv:s.heap.IsItemsView v d)(x:FJ s.heap d es ep)
  (h:Q (.ref s.heap.objs.size) {s with heap:=s.heap.push (itO .none (.bool false) d 0 es.size ep .none .none)}):wpAny (model prog w) A (pyIter (.ref v)) Q E s:=by
 obtain⟨o1,g1,c1,d1⟩:=id hv
 obtain⟨o,ho,ex,hdat⟩:=x
 refine wpAny_pyIter_slot hv.typeIs PySem.F.slot_dict_items_iter (wpAny_call_entry PySem.F.slot_dict_items_iter hv.typeIs PySem.F.entry_dict_items_iter ?_ (PySem.F.args_dict_items_iter_1 _))
 unfold Builtin.«dict_items.__iter__» Builtin.Dict_items.dictOf Builtin.Dict_items.newIterator
 refine wpAny_bind (wpAny_pure (wpAny_bind (wpAny_bind (wpAny_field g1 d1 (x:= .ref d) rfl (wpAny_pure (wpAny_bind (wpAny_bind (wpAny_dictEntries ho hdat (wpAny_bind (wpAny_dictEpoch ho hdat ?_))))))))))
 simp only[show Builtin.Dict_items.ownsTuple "dict_itemiterator" = true from by decide,if_true]
 refine wpAny_newObj_type (wpAny_pure ⟨_,rfl,"dict_itemiterator",_,⟨_,Heap.get?_push_size _ rfl,rfl⟩,PySem.F.slot_dict_itemiterator_next.lookup,?_⟩)
  (by simp only[sizeOk,Builtin.Dict_items.ownedTupleFields,List.size_toArray,List.length_append,List.length_cons,List.length_nil,sizeLine_eq];omega)
 simpa[rawInt,itO,Builtin.Dict_items.ownedTupleFields]using h
theorem RC{it d S:Addr}{i ep:Nat}{es:Array DictEntry}{Q:Option Value→Shared→Prop}(g:Sq s.heap it d S i es.size ep)(x:FJ s.heap d es ep)(hS:S<s.heap.objs.size)(hi:i<es.size)
  (h:∀h':Heap,Sq h' it d S (i+1) es.size ep→h'.get? s.heap.objs.size=some {cls:= .type "tuple",data:= .seq #[es[i].key,es[i].val]}→h'.objs.size=s.heap.objs.size+1→
   (∀b o,b≠it→s.heap.get? b=some o→h'.get? b=some o)→Q (some (.ref s.heap.objs.size)) {s with heap:=h'}):wpAny (model prog w) A (pyNext (.ref it)) Q E s:=by
 obtain⟨f0,f1,ok,ov,e0,ff⟩:=g
 obtain⟨o,ho,ex,hdat⟩:=x
 obtain⟨hp,gs,dr,tk,os⟩:=s
 have ty:Shared.TypeIs ⟨hp,gs,dr,tk,os⟩ (.ref it) "dict_itemiterator" := ⟨_,e0,rfl⟩
 have own:Builtin.Dict_items.ownsTuple "dict_itemiterator" = true:=by decide
 have lt:it<hp.objs.size:=Heap.lt_size e0
 unfold pyNext
 refine wpAny_bind (wpAny_attempt (wpAny_callSpecial?_slot (name:=Str.ofString "__next__") ty PySem.F.slot_dict_itemiterator_next (wpAny_call_entry PySem.F.slot_dict_itemiterator_next ty PySem.F.entry_dict_itemiterator_next ?_ (PySem.F.args_dict_itemiterator_next_1 _))))
 refine wpAny_bind (wpAny_pure (wpAny_bind (wpAny_bind (wpAny_bind (wpAny_typeNameOfWhole_itemiter ty (wpAny_pure (wpAny_bind (wpAny_fieldsOf e0 rfl ?_))))))))
 simp only[own,if_true]
 show wpAny _ _ (if(Value.ref d==Value.none)=true then _ else _) _ _ _
 rw[if_neg (Oj d)]
 refine wpAny_bind (wpAny_pure (wpAny_bind (wpAny_dictEntries ho hdat ?_)))
 rw[if_neg (by simp)]
 refine wpAny_bind (wpAny_pure (wpAny_bind (wpAny_dictEpoch ho hdat ?_)))
 rw[if_neg (by simp)]
 refine wpAny_pure ?_
 simp only[show ¬((i:Int)<0) by omega,if_false,Int.toNat_natCast,Array.getElem?_eq_getElem hi]
 refine wpAny_bind (wpAny_bind (wpAny_typeNameOfWhole_itemiter ty (wpAny_pure (wpAny_bind (wpAny_isOneOf_itemiter ty ?_)))))
 show wpAny _ _ (setField (.ref it) 3 (rawInt ((i:Int)+1)) >>= _) _ _ ⟨hp,gs,dr,tk,os⟩
 refine wpAny_bind (wpAny_setField_rec e0 (by simp) fun h1 e1 b1=> ?_)
 have e1':h1.get? it=some (itO f0 f1 d (i+1) es.size ep ok ov):=by
  have z:((i+1:Nat):Int)=(i:Int)+1:=by omega
  unfold itO
  rw[z]
  simpa[rawInt]using e1
 replace b1:Heap.SameBut it hp h1:=b1
 have ty1:Shared.TypeIs ⟨h1,gs,dr,tk,os⟩ (.ref it) "dict_itemiterator" := ⟨_,e1',rfl⟩
 refine wpAny_bind (wpAny_holding (wpAny_bind (wpAny_isOneOf_itemiter ty1 (wpAny_bind (wpAny_isOneOf_itemiter ty1 ?_)))))
 show wpAny _ _ (Builtin.Dict_items.pairFromOwner (.ref it) 6 es[i].key es[i].val) _ _ ⟨h1,gs,dr,tk,os⟩
 have z1:h1.objs.size=hp.objs.size:=b1.1
 unfold Builtin.Dict_items.pairFromOwner
 refine wpAny_bind (wpAny_newTuple ?_)
 generalize eh2:h1.push {cls:= .type "tuple",data:= .seq [es[i].key,es[i].val].toArray}=h2
 have e2:h2.get? it=some (itO f0 f1 d (i+1) es.size ep ok ov):=by rw[←eh2];exact Heap.get?_push_of_some _ e1'
 have t2:h2.get? hp.objs.size=some {cls:= .type "tuple",data:= .seq #[es[i].key,es[i].val]}:=by rw[←eh2,←z1];exact Heap.get?_push_size _ rfl
 have z2:h2.objs.size=hp.objs.size+1:=by rw[←eh2,Heap.size_push,z1]
 have k2:∀b o,b≠it→hp.get? b=some o→h2.get? b=some o:=fun b o hb q=>by rw[←eh2];exact Heap.get?_push_of_some _ (b1.extBut b o hb q)
 have done:∀h3:Heap,(∃f0 f1 ok ov,h3.get? it=some (itO f0 f1 d (i+1) es.size ep ok ov)∧(f0= .none∨∃(a:Addr) (b:Bool) (oa:Obj),f0=rawInt a∧f1= .bool b∧h3.get? a=some oa∧a≠it∧a≠S))→Heap.SameBut it h2 h3→Q (some (.ref hp.objs.size)) ⟨h3,gs,dr,tk,os⟩:=fun h3 q1 q2=>
  h h3 q1 (q2.extBut _ _ (Nat.ne_of_gt lt) t2) (by show h3.objs.size=hp.objs.size+1;rw[q2.1,z2]) fun b o hb q=>q2.extBut b o hb (k2 b o hb q)
 show wpAny _ _ (Builtin.Dict_items.ownedTupleIsFree (.ref it) >>= _) _ _ ⟨h2,gs,dr,tk,os⟩
 rw[z1]
 unfold Builtin.Dict_items.ownedTupleIsFree
 rcases ff with rfl | ⟨a,b,oa,rfl,rfl,ha,hai,haS⟩
 ·refine wpAny_bind (wpAny_bind (wpAny_field e2 rfl (x:= .none) rfl (wpAny_pure ?_)))
  simp only[if_true]
  refine wpAny_bind (wpAny_field e2 rfl (x:=ok) rfl (wpAny_bind (wpAny_field e2 rfl (x:=ov) rfl (wpAny_bind (wpAny_setField_rec e2 (by simp) fun h3 e3 b3=> ?_)))))
  replace b3:Heap.SameBut it h2 h3:=b3
  refine wpAny_bind (wpAny_setField_rec e3 (by simp) fun h4 e4 b4=>wpAny_bind (wpAny_setField_rec e4 (by simp) fun h5 e5 b5=>wpAny_bind (wpAny_setField_rec e5 (by simp) fun h6 e6 b6=> ?_)))
  replace b4:Heap.SameBut it h3 h4:=b4
  replace b5:Heap.SameBut it h4 h5:=b5
  replace b6:Heap.SameBut it h5 h6:=b6
  have sb:Heap.SameBut it h2 h6:=⟨by rw[b6.1,b5.1,b4.1,b3.1],fun c hc=>(b6.2 c hc).trans ((b5.2 c hc).trans ((b4.2 c hc).trans (b3.2 c hc)))⟩
  refine wpAny_bind (wpAny_letGo (wpAny_pure (wpAny_pure ⟨_,rfl,wpAny_pure (done h6 ⟨_,_,_,_,e6,.inr ⟨hp.objs.size,false,_,rfl,rfl,sb.extBut _ _ (Nat.ne_of_gt lt) t2,Nat.ne_of_gt lt,Nat.ne_of_gt hS⟩⟩ sb)⟩)))
 ·refine wpAny_bind (wpAny_bind (wpAny_field e2 rfl (x:=rawInt a) rfl ?_))
  show wpAny _ _ (loadIfAlive ((a:Int).toNat) >>= _) _ _ _
  rw[Int.toNat_natCast]
  have ha2:=k2 a oa hai ha
  refine wpAny_bind (kdx_alive ha2 ?_)
  simp only[Option.isNone_some,Bool.false_eq_true,if_false]
  refine wpAny_bind (wpAny_field e2 rfl (x:= .bool b) rfl ?_)
  cases b with
  | true=>
   rw[if_neg (by decide)]
   refine wpAny_pure ?_
   simp only[Bool.false_eq_true,if_false]
   exact wpAny_pure (wpAny_pure ⟨_,rfl,wpAny_pure (done h2 ⟨_,_,_,_,e2,.inr ⟨a,true,oa,rfl,rfl,ha2,hai,haS⟩⟩ (Heap.SameBut.refl _ _))⟩)
  | false=>
   rw[if_pos (by decide)]
   refine wpAny_bind (wpAny_setField_rec e2 (by simp) fun h3 e3 b3=>wpAny_pure ?_)
   replace b3:Heap.SameBut it h2 h3:=b3
   simp only[Bool.false_eq_true,if_false]
   exact wpAny_pure (wpAny_pure ⟨_,rfl,wpAny_pure (done h3 ⟨_,_,_,_,e3,.inr ⟨a,true,oa,rfl,rfl,b3.extBut _ _ hai ha2,hai,haS⟩⟩ b3)⟩)
theorem RB{it d S:Addr}{i ep:Nat}{es:Array DictEntry}{Q:Option Value→Shared→Prop}(hh:A.handled=none)(g:Sq s.heap it d S i es.size ep)(x:FJ s.heap d es ep)(hi:es.size≤i)
  (h:∀h':Heap,Heap.ExtBut it s.heap h'→Q none {s with heap:=h'}):wpAny (model prog w) A (pyNext (.ref it)) Q E s:=by
 obtain⟨f0,f1,ok,ov,e0,_⟩:=g
 obtain⟨o,ho,ex,hdat⟩:=x
 have ty:s.TypeIs (.ref it) "dict_itemiterator" := ⟨_,e0,rfl⟩
 have own:Builtin.Dict_items.ownsTuple "dict_itemiterator" = true:=by decide
 unfold pyNext
 refine wpAny_bind (wpAny_attempt (wpAny_callSpecial?_slot (name:=Str.ofString "__next__") ty PySem.F.slot_dict_itemiterator_next (wpAny_call_entry PySem.F.slot_dict_itemiterator_next ty PySem.F.entry_dict_itemiterator_next ?_ (PySem.F.args_dict_itemiterator_next_1 _))))
 refine wpAny_bind (wpAny_pure (wpAny_bind (wpAny_bind (wpAny_bind (wpAny_typeNameOfWhole_itemiter ty (wpAny_pure (wpAny_bind (wpAny_fieldsOf e0 rfl ?_))))))))
 simp only[own,if_true]
 show wpAny _ _ (if(Value.ref d==Value.none)=true then _ else _) _ _ s
 rw[if_neg (Oj d)]
 refine wpAny_bind (wpAny_pure (wpAny_bind (wpAny_dictEntries ho hdat ?_)))
 rw[if_neg (by simp)]
 refine wpAny_bind (wpAny_pure (wpAny_bind (wpAny_dictEpoch ho hdat ?_)))
 rw[if_neg (by simp)]
 refine wpAny_pure ?_
 simp only[show ¬((i:Int)<0) by omega,if_false,Int.toNat_natCast,Array.getElem?_eq_none hi]
 refine wpAny_bind (wpAny_bind (wpAny_typeNameOfWhole_itemiter ty (wpAny_pure ?_)))
 show wpAny _ _ (setField (.ref it) 2 .none >>= _) _ _ s
 refine wpAny_bind (wpAny_setField e0 rfl (by simp) ?_)
 show wpAny _ _ (newExc (.type "StopIteration") [] >>= _) _ _ _
 simp only[newExc,newTuple]
 refine wpAny_bind (wpAny_bind (wpAny_newObj_type (wpAny_bind (m:=firstArgMember _ _) (wpAny_of_eq (a:=Value.none) (by first | rfl | (simp only[firstArgMember];rfl)) (wpAny_newObj_type ?_ (by size_fits)))) (by size_fits)))
 simp only[raiseNew]
 refine wpAny_bind (wpAny_handled ?_)
 rw[show A.in1.handled=none from hh]
 refine wpAny_bind (wpAny_pure (wpAny_throw ?_))
 refine wpAny_bind (wpAny_isInstance (T:= "StopIteration") (b:=true) ⟨_,Heap.get?_push_size _ rfl,rfl⟩ isSubtype_stop (wpAny_pure ?_))
 exact h _ (((Heap.SameBut.update ..).extBut.push _).push _)
structure Prs(es:Array DictEntry)(lo:Addr)(h:Heap)(as:List Addr):Prop where
 lt:∀a∈as,lo<a∧a<h.objs.size
 up:as.Pairwise (· < ·)
 ix:∀(j:Nat) (a:Addr),as[j]? = some a→∃e,es[j]? = some e∧h.get? a=some {cls:= .type "tuple",data:= .seq #[e.key,e.val]}
theorem Ij{S I d:Addr}{es:Array DictEntry}{ep:Nat}{R:Result→Shared→Prop}(hh:A.handled=none)(hSI:S<I)(hSd:d≠S)(hId:d≠I)(hn:es.size≤sizeLine)(res:Value){h0:Heap}
  (hR:∀h' tk (acc:Array Value) c as,(∀b o,b≠S→b≠I→h0.get? b=some o→h'.get? b=some o)→h'.get? S=some {cls:= .type "list",data:= .seq acc c}→as.length=es.size→Prs es I h' as→acc.toList=as.map Value.ref→R (.ok (.ret res)) {s with heap:=h',toks:=tk}):
  ∀(k i:Nat) (h:Heap) (tk c:Nat) (acc:Array Value) (as:List Addr),es.size=i+k→Sq h I d S i es.size ep→FJ h d es ep→(∀b o,b≠S→b≠I→h0.get? b=some o→h.get? b=some o)→h.get? S=some {cls:= .type "list",data:= .seq acc c}→
   acc.toList=as.map Value.ref→as.length=i→Prs es I h as→codeAny (model prog w) A (.builtin "list.extend.loop" ⟨[.ref S,.ref I,res],[]⟩) R {s with heap:=h,toks:=tk}
 | 0,i,h,tk,c,acc,as,hk,g,x,kp,hS,ha,hl,pr=>by
  refine codeAny_builtin PySem.F.entry_extend_loop ?_
  rw[Around.under_plainId PySem.F.plain_extend_loop _]
  show wpAny _ A.in1 (pyNext (.ref I) >>= _) _ _ _
  refine wpAny_bind (RB (s:={s with heap:=h,toks:=tk}) (A:=A.in1) hh g x (by omega) fun h' he=>wpAny_pure ?_)
  refine hR h' tk acc c as (fun b o q1 q2 e=>he b o q2 (kp b o q1 q2 e)) (he S _ (Nat.ne_of_lt hSI) hS) (by omega) ⟨fun a m=>⟨(pr.lt a m).1,?_⟩,pr.up,fun j a m=> ?_⟩ ha
  ·obtain⟨j,m'⟩:=List.mem_iff_getElem?.mp m
   obtain⟨e,_,q⟩:=pr.ix j a m'
   exact Heap.lt_size (he a _ (Nat.ne_of_gt (pr.lt a m).1) q)
  ·obtain⟨e,q1,q2⟩:=pr.ix j a m
   exact⟨e,q1,he a _ (Nat.ne_of_gt (pr.lt a (List.mem_of_getElem? m)).1) q2⟩
 | k+1,i,h,tk,c,acc,as,hk,g,x,kp,hS,ha,hl,pr=>by
  have hi:i<es.size:=by omega
  have ne:S≠I:=Nat.ne_of_lt hSI
  have sl:S<h.objs.size:=Heap.lt_size hS
  have il:I<h.objs.size:=let⟨_,_,_,_,e,_⟩:=g;Heap.lt_size e
  have za:acc.size=i:=by rw[←Array.length_toList,ha,List.length_map,hl]
  refine codeAny_builtin PySem.F.entry_extend_loop ?_
  rw[Around.under_plainId PySem.F.plain_extend_loop _]
  show wpAny _ A.in1 (pyNext (.ref I) >>= _) _ _ _
  refine wpAny_bind (RC (s:={s with heap:=h,toks:=tk}) g x sl hi fun h' g' ht hz kp'=> ?_)
  dsimp only at ht hz kp' ⊢
  have hS':=kp' S _ ne hS
  generalize eu:h'.update S (Obj.mapSeq (·.push (Value.ref h.objs.size)))=h2
  have up:∀b o,b≠S→h'.get? b=some o→h2.get? b=some o:=fun b o hb e=>by rw[←eu];exact(Heap.get?_update_other _ _ (Ne.symm hb)).trans e
  have ht2:=up _ _ (Nat.ne_of_gt sl) ht
  show wpAny _ A.in1 (updateSeq S (·.push (Value.ref h.objs.size)) >>= _) _ _ _
  refine wpAny_bind (wpAny_updateSeq hS' rfl (wpAny_pure ⟨plainId_quiet PySem.F.plain_extend_loop _,?_⟩) (by rw[za];omega) (by show(acc.push _).size≤_;rw[Array.size_push,za];omega))
  rw[eu]
  refine Ij hh hSI hSd hId hn res hR k (i+1) h2 tk _ (acc.push (.ref h.objs.size)) (as++[h.objs.size]) (by omega) (g'.keep up (Ne.symm ne)) (x.keep fun o e=>up d o hSd (kp' d o hId e))
   (fun b o q1 q2 e=>up b o q1 (kp' b o q2 (kp b o q1 q2 e))) (by rw[←eu];exact Heap.get?_update_self _ hS' rfl) (by rw[Array.toList_push,ha,List.map_append];rfl) (by rw[List.length_append,hl];rfl) ⟨fun a m=> ?_,?_,fun j a m=> ?_⟩
  ·rcases List.mem_append.mp m with m | m
   ·have:=pr.lt a m
    have l2:=Heap.lt_size ht2
    exact⟨this.1,Nat.lt_trans this.2 l2⟩
   ·rw[List.mem_singleton.mp m]
    exact⟨il,Heap.lt_size ht2⟩
  ·refine List.pairwise_append.mpr ⟨pr.up,List.pairwise_singleton _ _,fun a m b m'=> ?_⟩
   rw[List.mem_singleton.mp m']
   exact(pr.lt a m).2
  ·rcases Nat.lt_or_ge j as.length with q | q
   ·rw[List.getElem?_append_left q]at m
    obtain⟨e,q1,q2⟩:=pr.ix j a m
    have:=(pr.lt a (List.mem_of_getElem? m)).1
    exact⟨e,q1,up a _ (Nat.ne_of_gt (Nat.lt_trans hSI this)) (kp' a _ (Nat.ne_of_gt this) q2)⟩
   ·rw[List.getElem?_append_right q]at m
    have j0:j=i:=by
     have:=(List.getElem?_eq_some_iff.mp m).1
     simp at this
     omega
    subst j0
    have:h.objs.size=a:=by rw[hl]at m;simpa using m
    subst this
    exact⟨es[j],Array.getElem?_eq_getElem hi,ht2⟩
theorem LR{r d S:Addr}{es:Array DictEntry}{ep:Nat}{R:Result→Shared→Prop}(hh:A.handled=none)(hv:s.heap.IsItemsView r d)(x:FJ s.heap d es ep)(hSr:S≠r)(hSd:d≠S)(res:Value)(c0:Nat)(hS:s.heap.get? S=some {cls:= .type "list",data:= .seq #[] c0})(hn:es.size≤sizeLine)
  (hR:∀h' tk (acc:Array Value) c as,(∀b o,b≠S→s.heap.get? b=some o→h'.get? b=some o)→h'.get? S=some {cls:= .type "list",data:= .seq acc c}→as.length=es.size→Prs es s.heap.objs.size h' as→acc.toList=as.map Value.ref→R (.ok (.ret res)) {s with heap:=h',toks:=tk}):
  wpAny (model prog w) A.in1 (Builtin.List.listExtendWith (.ref S) (.ref r) res) (fun fin s'=>match fin with | .done f=>R (.ok f) s' | .again c'=>c'.quiet=true∧codeAny (model prog w) A c' R s') (fun e s'=>R (.error e) s') s:=by
 have sl:S<s.heap.objs.size:=Heap.lt_size hS
 have dl:d<s.heap.objs.size:=let⟨_,e,_⟩:=x;Heap.lt_size e
 have go:∀(h:Heap) (c1 tk:Nat),(∀b o,b≠S→(s.heap.push (itO .none (.bool false) d 0 es.size ep .none .none)).get? b=some o→h.get? b=some o)→h.get? S=some {cls:= .type "list",data:= .seq #[] c1}→
   codeAny (model prog w) A (.builtin "list.extend.loop" ⟨[.ref S,.ref s.heap.objs.size,res],[]⟩) R {s with heap:=h,toks:=tk}:=fun h c1 tk kp h1=>
  Ij (s:=s) (h0:=s.heap) hh sl hSd (Nat.ne_of_lt dl) hn res (fun h' tk' acc c as k'=>hR h' tk' acc c as fun b o hb e=>k' b o hb (Nat.ne_of_lt (Heap.lt_size e)) e) es.size 0 h tk c1 #[] [] (by omega)
   ⟨_,_,_,_,kp _ _ (Nat.ne_of_gt sl) (Heap.get?_push_size _ rfl),.inl rfl⟩ (x.keep fun o e=>kp d o hSd (Heap.get?_push_of_some _ e)) (fun b o hb _ e=>kp b o hb (Heap.get?_push_of_some _ e)) h1 rfl rfl ⟨(fun a m=>nomatch m),List.Pairwise.nil,(fun j a m=>by simp at m)⟩
 unfold Builtin.List.listExtendWith
 refine wpAny_bind (wpAny_typeOf (T:= "dict_items") hv.typeIs ?_)
 simp only[show Builtin.List.listSameRef (.ref S) (.ref r)=false by simp[Builtin.List.listSameRef,hSr],show(Value.type "dict_items" == Value.type "list")=false by decide,show(Value.type "dict_items" == Value.type "tuple")=false by decide,Bool.or_false,Bool.false_eq_true,if_false]
 refine wpAny_bind (RD hv x (wpAny_bind (wpAny_holding (kdx_hint (let⟨o,ho,hc,_⟩:=hv;⟨o,Heap.get?_push_of_some _ ho,hc⟩) ?_))))
 have h1:=Heap.get?_push_of_some (itO .none (.bool false) d 0 es.size ep .none .none) hS
 refine wpAny_ite_split (fun _=> ?_) (fun _=>wpAny_pure ⟨plainId_quiet PySem.F.plain_extend_loop _,go _ c0 _ (fun b o _ e=>e) h1⟩)
 refine wpAny_bind (wpAny_rule (wpAny_bind ?_))
 show wpAny _ _ (updateSeq S (·.push .none) >>= fun _=>updateSeq S (·.pop)) _ _ _
 have h2:=Heap.get?_update_self (Obj.mapSeq (·.push Value.none)) h1 rfl
 have h3:=Heap.get?_update_self (Obj.mapSeq (·.pop)) h2 rfl
 refine wpAny_bind (wpAny_updateSeq h1 rfl (wpAny_updateSeq (hz:=by seq_fits) h2 rfl (wpAny_pure ⟨plainId_quiet PySem.F.plain_extend_loop _,go _ _ _ (fun b o hb e=> ?_) h3⟩)))
 exact(Heap.get?_update_other _ _ (Ne.symm hb)).trans ((Heap.get?_update_other _ _ (Ne.symm hb)).trans e)
theorem Ju{r d:Addr}{es:Array DictEntry}{ep:Nat}{R:List Value→Shared→Prop}(hh:A.handled=none)(hv:s.heap.IsItemsView r d)(x:FJ s.heap d es ep)(hn:es.size≤sizeLine)
  (h:∀(h':Heap) (tk:Nat) (as:List Addr),(∀b o,s.heap.get? b=some o→h'.get? b=some o)→as.length=es.size→Prs es s.heap.objs.size h' as→R (as.map Value.ref) {s with heap:=h',toks:=tk}):
  wpAny (model prog w) A (collect (.ref r)) R E s:=by
 have rl:r<s.heap.objs.size:=let⟨_,e,_⟩:=hv;Heap.lt_size e
 have dl:d<s.heap.objs.size:=let⟨_,e,_⟩:=x;Heap.lt_size e
 have hS:(s.heap.push {cls:= .type "list",data:= .seq ([]:List Value).toArray}).get? s.heap.objs.size=some {cls:= .type "list",data:= .seq #[]}:=Heap.get?_push_size _ rfl
 unfold collect
 refine wpAny_bind (wpAny_runValue (codeAny_builtin entry_proto_collect' ?_))
 rw[Around.under_plainId PySem.F.plain_proto_collect _]
 show wpAny _ A.in1 (newList [] >>= fun l=>again (.builtin "list.__iadd__" ⟨[l,.ref r],[]⟩)) _ _ s
 refine wpAny_bind (wpAny_newObj_type (wpAny_pure ⟨plainId_quiet PySem.F.plain_list_iadd _,codeAny_builtin entry_list_iadd' ?_⟩))
 rw[Around.under_plainId PySem.F.plain_list_iadd _]
 show wpAny _ A.in1 (Builtin.List.listExtendWith (.ref s.heap.objs.size) (.ref r) (.ref s.heap.objs.size)) _ _ _
 have key:=LR (prog:=prog) (w:=w) (A:=A) (s:={s with heap:=s.heap.push {cls:= .type "list",data:= .seq ([]:List Value).toArray}}) (es:=es) (ep:=ep) (S:=s.heap.objs.size)
  (R:=fun q s'=>∃(h':Heap) (tk:Nat) (acc:Array Value) (c:Nat) (as:List Addr),q= .ok (.ret (.ref s.heap.objs.size))∧s'={s with heap:=h',toks:=tk}∧(∀b o,s.heap.get? b=some o→h'.get? b=some o)∧
   h'.get? s.heap.objs.size=some {cls:= .type "list",data:= .seq acc c}∧as.length=es.size∧Prs es s.heap.objs.size h' as∧acc.toList=as.map Value.ref)
  hh (let⟨o,ho,y⟩:=hv;⟨o,Heap.get?_push_of_some _ ho,y⟩) (x.keep fun o e=>Heap.get?_push_of_some _ e) (Nat.ne_of_gt rl) (Nat.ne_of_lt dl) (.ref s.heap.objs.size) 0 hS hn
  fun h' tk acc c as k1 k2 k3 k4 k5=>⟨h',tk,acc,c,as,rfl,rfl,fun b o e=>k1 b o (Nat.ne_of_lt (Heap.lt_size e)) (Heap.get?_push_of_some _ e),k2,k3,
   ⟨fun a m=>⟨by have:=(k4.lt a m).1;rw[Heap.size_push]at this;exact Nat.lt_of_succ_lt this,(k4.lt a m).2⟩,k4.up,k4.ix⟩,k5⟩
 have out:∀{s':Shared} {q:Result},(∃(h':Heap) (tk:Nat) (acc:Array Value) (c:Nat) (as:List Addr),q= .ok (.ret (.ref s.heap.objs.size))∧s'={s with heap:=h',toks:=tk}∧(∀b o,s.heap.get? b=some o→h'.get? b=some o)∧
   h'.get? s.heap.objs.size=some {cls:= .type "list",data:= .seq acc c}∧as.length=es.size∧Prs es s.heap.objs.size h' as∧acc.toList=as.map Value.ref)→∃as:List Addr,q= .ok (.ret (.ref s.heap.objs.size))∧(∃o acc c,s'.heap.get? s.heap.objs.size=some o∧o.data= .seq acc c∧acc.toList=as.map Value.ref)∧R (as.map Value.ref) s':=by
  rintro s' q ⟨h',tk,acc,c,as,rfl,rfl,k1,k2,k3,k4,k5⟩
  exact⟨as,rfl,⟨_,acc,c,k2,rfl,k5⟩,h h' tk as k1 k3 k4⟩
 refine wpAny_mono key (fun fin s' y=> ?_) fun e s' y=> ?_
 ·cases fin with
  | done f=>
   obtain⟨as,e,⟨o,acc,c,ho,hd,ha⟩,q⟩:=out y
   cases e
   show wpAny _ A (load s.heap.objs.size >>= _) _ _ _
   refine wpAny_bind (wpAny_load ho ?_)
   rw[hd]
   refine wpAny_pure ?_
   show R acc.toList _
   rw[ha];exact q
  | again c1=>
   refine⟨y.1,codeAny_mono y.2 fun q s2 z=> ?_⟩
   obtain⟨as,rfl,⟨o,acc,c,ho,hd,ha⟩,q⟩:=out z
   show wpAny _ A (load s.heap.objs.size >>= _) _ _ _
   refine wpAny_bind (wpAny_load ho ?_)
   rw[hd]
   refine wpAny_pure ?_
   show R acc.toList _
   rw[ha];exact q
 ·obtain⟨as,e,_⟩:=out y
  cases e
end
end L2
namespace L2
open PySem PySem.Spec PySem.W PySem.Calls PyProof.Rows
section
variable{X:Cx}{pins:List (Addr×Obj)}{σ:St}{H:Hp}{s:Shared}{A:Around}{E:Value→Shared→Prop}
def Ra(ys:List V)(q:List Nat):List V:=q.map fun i=>ys.getD i .non
theorem WN{ys:List V}{vs:List Value}{q:List Nat}(r:Vals ys vs)(hq:∀i∈q,i<ys.length):Vals (Ra ys q) (q.map fun i=>vs.getD i Value.none):=by
 induction q with
 | nil=>exact .nil
 | cons i q ih=>
  refine .cons ?_ (ih fun j hj=>hq j (List.mem_cons_of_mem _ hj))
  obtain⟨y,e,ry⟩:=Gz r (hq i List.mem_cons_self)
  show RelV (ys.getD i .non) _
  rw[List.getD_eq_getElem?_getD,e]
  exact ry
theorem Order.lt{n:Nat}{cs:List (List Int)}{q:List Nat}(h:Order n cs q):∀i∈q,i<n:=fun i hi=>by
 have:=(h.pm.mem_iff (a:=i)).mp hi
 simpa using this
theorem Em{u:Value}{Q:VK}(hu:A.units+2<cLine)
  (col:wpAny (model X.prog X.w) A.in1 (collect u) (fun vs s1=>∃ys cs H1,Inv X pins σ H1 s1∧Vals ys vs∧ys.length<64∧Sg X.K H1 ys cs∧∀q l,Order ys.length cs q→H1 l=none→Q (.ref l) (upd H1 l (.lst (Ra ys q)))) E s):
  wpAny (model X.prog X.w) A (call (.builtin "sorted") [u]) (EP X pins σ Q) E s:=by
 refine Calls.call_function_entry kind_sorted plain_sorted entry_sorted (args_sorted1 _) ?_
 unfold Builtin.«sorted»
 refine wpAny_bind (m:=checkCount "sorted" 1 1 _) (wpAny_pure (wpAny_bind (wpAny_mono col (fun vs s1 hq=> ?_) fun _ _ z=>z)))
 obtain⟨ys,cs,H1,I1,r,h64,rk,q1⟩:=hq
 have line:(64:Nat)≤sizeLine:=by decide
 have el:=r.length
 refine wpAny_bind (wpAny_newList ?_ (by omega))
 have ho:(s1.heap.push {cls:= .type "list",data:= .seq vs.toArray}).get? s1.heap.objs.size=some (seqObj "list" vs.toArray 0):=Heap.get?_push_size _ rfl
 have I2:Inv X pins σ H1 {s1 with heap:=s1.heap.push {cls:= .type "list",data:= .seq vs.toArray}}:=I1.kept (t':=s1.toks) fun b o e=>Heap.get?_push_of_some _ e
 have fp:=I1.V6 (Nat.le_refl _) (I1.hok.fresh (Nat.le_refl _))
 refine wpAny_bind (wpAny_holding (wpAny_call_entry slot_list_sort ⟨_,ho,rfl⟩ entry_list_sort (Vd I2 ?_ fp ho r h64 rk fun q c s' od e I3=> ?_) (args_list_sort _)))
 ·have e:A.in1.in1.units≤A.units+2:=by first | exact Nat.le_refl _ | (simp only[Around.in1];omega)
  exact Nat.lt_of_le_of_lt e hu
 ·refine⟨_,rfl,wpAny_pure ⟨_,rfl,.ref s1.heap.objs.size,_,I3.track (o:= .lst (Ra ys q)) fp (Heap.get?_none_of_le I1.sz) ⟨?_,_,c,WN r od.lt,e⟩,rfl,q1 q _ od fp.1⟩⟩
  have:=od.pm.length_eq
  simp only[Ra,List.length_map]
  simp at this
  omega
def ZV(K:PySem.W.Frag):List V→Hp→VK→Prop:=fun xs H Q=>∃p ys cs,xs=[.ref p]∧yt K H p ys∧ys.length<64∧Sg K H ys cs∧∀q l,Order ys.length cs q→H l=none→Q (.ref l) (upd H l (.lst (Ra ys q)))
theorem Qj(hu:X.A.units+2<cLine):mV X (.builtin "sorted") (ZV X.K):=by
 intro pins s σ H xs us Q I r h
 obtain⟨p,ys,cs,rfl,hl,h64,rk,q⟩:=h
 obtain⟨u,rfl,rx⟩:=vals1 r
 cases rx
 obtain⟨its,r',pl,hz⟩:=I.list hl
 refine Em hu (collect_list pl.isList ⟨ys,cs,H,?_,r',h64,rk,q⟩ (by have:=r'.length;omega))
 refine I.kept (t':=s.toks) fun b o e=> ?_
 have lt:b<s.heap.objs.size:=Heap.lt_size e
 exact(Heap.get?_update_other _ _ (Nat.ne_of_gt lt)).trans (Heap.get?_push_of_some _ e)
def El(v d:Addr):HO:= .ext fun h=>h.IsItemsView v d
def acB:V→List V→Hp→VK→Prop:=fun x us H Q=>∃d,x= .ref d∧us=[]∧IsD H d∧∀v,H v=none→Q (.ref v) (upd H v (El v d))
def aeS(H:Hp)(d:Addr)(ps:List (V×V)):Prop:=(∃kvs,H d=some (.dK kvs)∧ps=kvs.map fun p=>(kV p.1,p.2))∨
 ∃kvs:List (List Key×V),H d=some (.dT kvs)∧Paired (fun(p:List Key×V) (q:V×V)=>∃b,q.1= .ref b∧H b=some (.tup (p.1.map kV))∧q.2=p.2) kvs ps
theorem ahm{P:Program}{w:World}{k:Key}{u:Value}(h:(fX P w).is k u=true):RelV (kV k) u:=by
 rcases gh (show Ii k u=true from h)with⟨i,t,rfl,rfl⟩ | ⟨x,t,rfl,rfl⟩
 ·exact⟨t,rfl⟩
 ·exact⟨t,rfl⟩
theorem aaV(I:Inv X pins σ H s){d:Addr}(h:(∃kvs,H d=some (.dK kvs))∨∃kvs,H d=some (.dT kvs)):∃es ep ps,FJ s.heap d es ep∧aeS H d ps∧es.size≤sizeLine∧Paired (fun(p:V×V) (e:DictEntry)=>RelV p.1 e.key∧RelV p.2 e.val) ps es.toList:=by
 rcases h with⟨kvs,e⟩ | ⟨kvs,e⟩
 ·obtain⟨z,_,vs,r,o,es,ep,ho,ex,hd,_,pr,_⟩:=(show dg X.prog X.w H s.heap d (.dK kvs)from I.hok d _ e)
  have pz:∀{es:List DictEntry} {vs:List (Key×Value)} {kvs:List (Key×V)},Pairs (fX X.prog X.w) es vs→KV kvs vs→Paired (fun(p:V×V) (e:DictEntry)=>RelV p.1 e.key∧RelV p.2 e.val) (kvs.map fun p=>(kV p.1,p.2)) es:=by
   intro es vs kvs a b
   induction a generalizing kvs with
   | nil=>cases b;exact .nil
   | cons h1 h2 _ ih=>
    cases b with
    | cons q qs=>
     refine .cons ⟨?_,?_⟩ (ih qs)
     ·have:=ahm h1;rw[←q.1]at this;exact this
     ·rw[h2];exact q.2
  have pp:=pz pr r
  refine⟨es,ep,_,⟨o,ho,ex,hd⟩,.inl ⟨kvs,e,rfl⟩,?_,pp⟩
  have h1:=pp.length
  have h2:es.toList.length=es.size:=Array.length_toList
  rw[List.length_map]at h1
  omega
 ·obtain⟨z,_,xs,r,o,es,ep,ho,ex,hd,he,_⟩:=(show dg X.prog X.w H s.heap d (.dT kvs)from I.hok d _ e)
  have pz:∀{kvs:List (List Key×V)} {xs:List (List Key×Addr×Value)},Paired (fun(p:List Key×V) (q:List Key×Addr×Value)=>p.1=q.1∧H q.2.1=some (.tup (p.1.map kV))∧RelV p.2 q.2.2) kvs xs→
    ∃ps:List (V×V),Paired (fun(p:List Key×V) (q:V×V)=>∃b,q.1= .ref b∧H b=some (.tup (p.1.map kV))∧q.2=p.2) kvs ps∧Paired (fun(p:V×V) (e:DictEntry)=>RelV p.1 e.key∧RelV p.2 e.val) ps (xs.map (entryOfKey (tupleKind (fX X.prog X.w)))):=by
   intro kvs xs a
   induction a with
   | nil=>exact⟨[],.nil,.nil⟩
   | @cons p q _ _ h _ ih=>
    obtain⟨ps,i1,i2⟩:=ih
    exact⟨(.ref q.2.1,p.2)::ps,.cons ⟨q.2.1,rfl,h.2.1,rfl⟩ i1,.cons ⟨rfl,h.2.2⟩ i2⟩
  obtain⟨ps,p1,p2⟩:=pz r
  rw[←he]at p2
  refine⟨es,ep,ps,⟨o,ho,ex,hd⟩,.inr ⟨kvs,e,p1⟩,?_,p2⟩
  have h0:=p1.length
  have h1:=p2.length
  have h2:es.toList.length=es.size:=Array.length_toList
  omega
theorem X7:MtR X "dict.items" acB:=by
 intro pins s σ H x xs v us Q I rx rs h
 obtain⟨d,rfl,rfl,dd,q⟩:=h
 cases rs
 obtain rfl:v= .ref d:=rx
 have ty:=Yq I dd
 have dd':(∃kvs,Rd H d (.dK kvs))∨∃kvs,Rd H d (.dT kvs):=dd
 have ents:∃es ep,FJ s.heap d es ep:=by
  rcases dd' with⟨kvs,e⟩ | ⟨kvs,e⟩
  ·obtain⟨_,_,_,_,o,es,ep,ho,ex,hd,_⟩:=e.ok I.hok
   exact⟨es,ep,o,ho,ex,hd⟩
  ·obtain⟨_,_,_,_,o,es,ep,ho,ex,hd,_⟩:=e.ok I.hok
   exact⟨es,ep,o,ho,ex,hd⟩
 obtain⟨es,ep,en⟩:=ents
 refine RG ty.2.2 en ?_
 have g:(s.heap.push {cls:= .type "dict_items",data:= .fields #[.ref d]}).IsItemsView s.heap.objs.size d:=⟨_,Heap.get?_push_size _ rfl,rfl,rfl⟩
 refine⟨.ref s.heap.objs.size,_,I.laid (t':=s.toks) (o:=El s.heap.objs.size d) (fun b o e=>Heap.get?_push_of_some _ e) (Nat.le_refl _) ⟨g,⟨_,Heap.get?_push_size _ rfl⟩,fun h1 h2 a b=> ?_⟩,rfl,q _ (I.hok.fresh (Nat.le_refl _))⟩
 obtain⟨o,e1,e2,e3⟩:=a
 exact⟨o,b o e1,e2,e3⟩
def Bx(H:Hp):List (Addr×HO)→Hp
 | []=>H
 | p::r=>Bx (upd H p.1 p.2) r
theorem Dj{a:Addr}{o:HO}:∀{l:List (Addr×HO)} {H:Hp},H a=some o→(∀p∈l,p.1≠a)→Bx H l a=some o
 | [],_,h,_=>h
 | p::l,H,h,n=>Dj (l:=l) (by rw[bh (Ne.symm (n p List.mem_cons_self))];exact h) fun q hq=>n q (List.mem_cons_of_mem _ hq)
theorem Ku:∀{l:List (Addr×HO)} {H:Hp} {i:Nat} {p:Addr×HO},(l.map (·.1)).Nodup→l[i]? = some p→Bx H l p.1=some p.2
 | q::l,H,0,p,nd,e=>by
  simp at e
  subst e
  rw[List.map_cons,List.nodup_cons]at nd
  show Bx (upd H q.1 q.2) l q.1=some q.2
  exact Dj dh fun r hr z=>nd.1 (by rw[←z];exact List.mem_map_of_mem hr)
 | q::l,H,i+1,p,nd,e=>by
  rw[List.map_cons,List.nodup_cons]at nd
  show Bx (upd H q.1 q.2) l p.1=some p.2
  exact Ku (i:=i) nd.2 (by simpa using e)
 | [],_,_,_,_,e=>by simp at e
def prs(as:List Addr)(ps:List (V×V)):List (Addr×HO):=(as.zip ps).map fun p=>(p.1,.tup [p.2.1,p.2.2])
theorem U9{as:List Addr}{ps:List (V×V)}(qs:Paired (fun(a:Addr) (p:V×V)=>∃u v,RelV p.1 u∧RelV p.2 v∧s.heap.get? a=some {cls:= .type "tuple",data:= .seq #[u,v]}) as ps):
  ∀{H:Hp},Inv X pins σ H s→as.Pairwise (· < ·)→(∀a∈as,Ek X pins H a∧X.s₀.heap.get? a=none)→Inv X pins σ (Bx H (prs as ps)) s:=by
 induction qs with
 | nil=>intro H I _ _;exact I
 | @cons a p as ps q _ ih=>
  intro H I nd h
  obtain⟨f,z⟩:=h a List.mem_cons_self
  obtain⟨u,v,r1,r2,e⟩:=q
  rw[List.pairwise_cons]at nd
  have new:dg X.prog X.w (upd H a (.tup [p.1,p.2])) s.heap a (.tup [p.1,p.2]):=⟨by show 2≤sizeLine;decide,[u,v],.cons r1 (.cons r2 .nil),_,e,rfl,0,rfl⟩
  have I1:Inv X pins σ (upd H a (.tup [p.1,p.2])) s:=I.track f z new
  show Inv X pins σ (Bx (upd H a (.tup [p.1,p.2])) (prs as ps)) s
  refine ih I1 nd.2 fun b hb=> ?_
  obtain⟨f',z'⟩:=h b (List.mem_cons_of_mem _ hb)
  exact⟨⟨by rw[bh (Nat.ne_of_gt (nd.1 b hb))];exact f'.1,f'.2⟩,z'⟩
def Xo(K:PySem.W.Frag):List V→Hp→VK→Prop:=fun xs H Q=>∃v d,xs=[.ref v]∧H v=some (El v d)∧((∃kvs,H d=some (.dK kvs))∨∃kvs,H d=some (.dT kvs))∧∀ps,aeS H d ps→ps.length<64∧∃cs k ks,
 Paired (fun(p:V×V) (c:List Int)=>Parts K H [p.1,p.2] c (k::ks)) ps cs∧∀as q l,as.length=ps.length→as.Nodup→(∀a∈as,H a=none)→Order ps.length cs q→Bx H (prs as ps) l=none→
  Q (.ref l) (upd (Bx H (prs as ps)) l (.lst (Ra (as.map V.ref) q)))
theorem Parts.keep{K:PySem.W.Frag}{H H':Hp}(k:∀a xs,H a=some (.tup xs)→H' a=some (.tup xs)):∀{xs:List V} {c:List Int} {ks:List Nat},Parts K H xs c ks→Parts K H' xs c ks
 | _,_,_,.nil=> .nil
 | _,_,_,.cons p ps=> .cons (by
   cases p with
   | int i=>exact .int i
   | str x=>exact .str x
   | tup e=>exact .tup (k _ _ e)) (ps.keep k)
theorem Mv(hc:X.calm=true)(hu:X.A.units+2<cLine):mV X (.builtin "sorted") (Xo X.K):=by
 intro pins s σ H xs us Q I r h
 obtain⟨v,d,rfl,hv,hd,h⟩:=h
 obtain⟨u,rfl,rx⟩:=vals1 r
 cases rx
 obtain⟨es,ep,ps,en,hp,hz,pe⟩:=aaV I hd
 obtain⟨h64,cs,k,ks,pc,q⟩:=h ps hp
 have view:s.heap.IsItemsView v d:=(show dg X.prog X.w H s.heap v (El v d)from I.hok v _ hv).1
 have lp0:=pe.length
 have lp1:es.toList.length=es.size:=Array.length_toList
 have lp:ps.length=es.size:=lp0.trans lp1
 have lc:=pc.length
 refine Em hu (Ju (A:=X.A.in1) (I.ok.hd hc) view en hz fun h' tk as kp la pr=> ?_)
 have I1:Inv X pins σ H {s with heap:=h',toks:=tk}:=I.kept kp
 have fr:∀a∈as,s.heap.objs.size≤a:=fun a ha=>Nat.le_of_lt (pr.lt a ha).1
 have fresh:∀a∈as,H a=none:=fun a ha=>I.hok.fresh (fr a ha)
 have aib:Paired (fun(a:Addr) (p:V×V)=>∃u v,RelV p.1 u∧RelV p.2 v∧h'.get? a=some {cls:= .type "tuple",data:= .seq #[u,v]}) as ps:=by
  have go:∀{as:List Addr} {ps:List (V×V)} {es:List DictEntry},as.length=es.length→Paired (fun(p:V×V) (e:DictEntry)=>RelV p.1 e.key∧RelV p.2 e.val) ps es→(∀(j:Nat) (a:Addr),as[j]? = some a→∃e,es[j]? = some e∧h'.get? a=some {cls:= .type "tuple",data:= .seq #[e.key,e.val]})→
    Paired (fun(a:Addr) (p:V×V)=>∃u v,RelV p.1 u∧RelV p.2 v∧h'.get? a=some {cls:= .type "tuple",data:= .seq #[u,v]}) as ps:=by
   intro as
   induction as with
   | nil=>intro ps es l a _;cases a with
    | nil=>exact .nil
    | cons _ _=>simp at l
   | cons a as ih=>
    intro ps es l b h
    cases b with
    | nil=>simp at l
    | @cons p e _ _ r rs=>
     refine .cons ?_ (ih (by simpa using l) rs fun j a ha=> ?_)
     ·obtain⟨e',q1,q2⟩:=h 0 a rfl
      simp at q1
      subst q1
      exact⟨_,_,r.1,r.2,q2⟩
     ·obtain⟨e',q1,q2⟩:=h (j+1) a (by simpa using ha)
      exact⟨e',by simpa using q1,q2⟩
  exact go (by rw[la,Array.length_toList]) pe fun j a ha=>by
   obtain⟨e,q1,q2⟩:=pr.ix j a ha
   exact⟨e,by rw[Array.getElem?_toList];exact q1,q2⟩
 have I2:=U9 (s:={s with heap:=h',toks:=tk}) aib I1 pr.up (fun a ha=>⟨I.V6 (fr a ha) (fresh a ha),Heap.get?_none_of_le (Nat.le_trans I.sz (fr a ha))⟩)
 have nd:as.Nodup:=pr.up.imp fun h=>Nat.ne_of_lt h
 have ndz:((prs as ps).map (·.1)).Nodup:=by
  have:(prs as ps).map (·.1)=as:=by
   unfold prs
   rw[List.map_map]
   have e:((fun x=>x.fst)∘fun(p:Addr×V×V)=>(p.1,HO.tup [p.2.1,p.2.2]))=Prod.fst:=rfl
   rw[e,List.map_fst_zip]
   omega
  rw[this];exact nd
 have ahl:∀a xs,H a=some (.tup xs)→Bx H (prs as ps) a=some (.tup xs):=fun a xs e=>Dj e fun p hp z=>by
  obtain⟨x,hx,rfl⟩:=List.mem_map.mp hp
  have:=fresh _ (List.of_mem_zip hx).1
  rw[show a=x.1 from z.symm,this]at e
  cases e
 refine⟨as.map V.ref,cs,Bx H (prs as ps),I2,?_,by simp;omega,.rows k ks (by simp;omega) fun i y c hy hc=> ?_,fun q' l od hl=> ?_⟩
 ·have:∀as:List Addr,Vals (as.map V.ref) (as.map Value.ref):=fun as=>by
   induction as with
   | nil=>exact .nil
   | cons a as ih=>exact .cons rfl ih
  exact this as
 ·rw[List.getElem?_map]at hy
  obtain⟨a,ha,rfl⟩:=Option.map_eq_some_iff.mp hy
  have hi:i<ps.length:=by
   have:=(List.getElem?_eq_some_iff.mp ha).1
   omega
  have hpi:ps[i]? = some ps[i]:=List.getElem?_eq_getElem hi
  have hpart:Parts X.K H [ps[i].1,ps[i].2] c (k::ks):=by
   have go:∀{ps:List (V×V)} {cs:List (List Int)} {i:Nat} {p:V×V} {c:List Int},Paired (fun(p:V×V) (c:List Int)=>Parts X.K H [p.1,p.2] c (k::ks)) ps cs→ps[i]? = some p→cs[i]? = some c→Parts X.K H [p.1,p.2] c (k::ks):=by
    intro ps cs i p c a
    induction a generalizing i with
    | nil=>intro e;simp at e
    | cons r _ ih=>
     intro e1 e2
     cases i with
     | zero=>simp at e1 e2;subst e1 e2;exact r
     | succ i=>exact ih (by simpa using e1) (by simpa using e2)
   exact go pc hpi hc
  refine⟨a,[ps[i].1,ps[i].2],rfl,?_,hpart.keep ahl⟩
  have:(prs as ps)[i]? = some (a,.tup [ps[i].1,ps[i].2]):=by
   unfold prs
   rw[List.getElem?_map,show(as.zip ps)[i]? = some (a,ps[i])from List.getElem?_zip_eq_some.mpr ⟨ha,hpi⟩]
   rfl
  exact Ku ndz this
 ·rw[List.length_map]at od
  have e:as.length=ps.length:=by omega
  rw[e]at od
  exact q as q' l e nd fresh od hl
end
end L2
namespace L2
open PySem PySem.Spec PyProof.Rows
def Es(xs:List Str):St:=xs.map fun _=>none
def abi(xs:List Str)(js:List Nat)(g:TG)(tt:TT)(te:TE)(σ:St)(Q:VK)(J:It)(H1:Hp):Prop:=
 ∃W:Nat→Nat→List V→Hp→Prop,(∃m,W 0 m [] H1)∧∀i m ys H,W i m ys H→
  (J.stop i H∧ys.length≤sizeLine∧∀p,H p=none→Q (.ref p) (upd H p (.lst ys)))∨
  (J.go i H∧∃N:List V→Hp→Prop,(∀ys' H',N ys' H'→ys'.length≤sizeLine∧∃m',m'<m∧W (i+1) m' ys' H')∧∀x H',J.WD i H x H'→g x (Es xs++caps js σ) H' fun σ1 H1=>(σ1.length=(Es xs++caps js σ).length∧σ1.drop xs.length=caps js σ)∧tt σ1 H1 fun b H2=>
   if b=true then te σ1 H2 fun y H3=>N (ys++[y]) H3 else N ys H2)
def W7(xs:List Str)(js:List Nat)(wi:TI)(g:TG)(tt:TT)(te:TE):TE:=fun σ H Q=>wi σ H fun J H1=>abi xs js g tt te σ Q J H1
section
variable{X:Cx}{tg elt iter:Expr}{ifs:List Expr}{scope:Scope}{xs cs:List Str}{js:List Nat}{tt:TT}{te:TE}{pos:Pos}
theorem Qh{g:TG}{cl:List (Str×Addr)}{pins:List (Addr×Obj)}{σ:St}{H2:Hp}{s2:Shared}{it:Addr}{fp:List Addr}{tn:Nat→Heap→Prop}{J:It}{Q:VK}{RR:Value→Addr→Result→Shared→Prop}
  (hc:X.calm=true) (hcap:uP X scope cs js) (ht:∀cl C fp s H,PTs (bz X scope cl C (xs++cs) fp s H) ifs tt) (he:∀cl C fp s H,PE (bz X scope cl C (xs++cs) fp s H) elt te)
  (hcell:∀y∈scope.names,y.2≠ .cell) (hkind:scope.kind= .function) (hg:∀cl C fp s H,PG (bz X scope cl C (xs++cs) fp s H) tg g)
  (vD:∀n c,cl.lookup n=some c→X.env.cells.lookup n=some c) (Ik:∀n,(n,NameKind.free)∈scope.names→∃c,cl.lookup n=some c)
  (I2:Inv X pins σ H2 s2) (T:Turn X.prog X.w X.K (tg) J fp it tn) (st2:tn 0 s2.heap) (f2:∀b∈fp,Ek X pins H2 b)
  (W:Nat→Nat→List V→Hp→Prop) (w0:∃m,W 0 m [] H2)
  (step:∀i m ys H,W i m ys H→
   (J.stop i H∧ys.length≤sizeLine∧∀p,H p=none→Q (.ref p) (upd H p (.lst ys)))∨
   (J.go i H∧∃N:List V→Hp→Prop,(∀ys' H',N ys' H'→ys'.length≤sizeLine∧∃m',m'<m∧W (i+1) m' ys' H')∧∀x H',J.WD i H x H'→g x (Es xs++caps js σ) H' fun σ1 H1=>(σ1.length=(Es xs++caps js σ).length∧σ1.drop xs.length=caps js σ)∧tt σ1 H1 fun b H2=>
    if b=true then te σ1 H2 fun y H3=>N (ys++[y]) H3 else N ys H2))
  (fin:∀(D C:Addr) (H3:Hp) (s4:Shared) (m':Str→Option Value),Inv X pins σ H3 s4→s4.heap.Ns C m'→s2.heap.objs.size≤C→H3 C=none→Q (.ref D) H3→RR (.ref D) C (.ok .next) s4):
  wpAny (model X.prog X.w) X.A (newList []) (fun acc s3=>wpAny (model X.prog X.w) X.A (newFunctionEnv scope X.env.globals cl [] X.env.qual none .none (some X.env)) (fun cenv s4=>
   codeAny (model X.prog X.w) X.A (.compStart (.ListComp elt [⟨tg,iter,ifs,0⟩] scope pos) 0 (.ref it) acc {cenv with scope:=relabel scope X.env}) (RR acc cenv.locals) s4) X.xe s3) X.xe s2:=by
 refine wpAny_newObj_type (wpAny_newFunctionEnv hcell (by intro y hy;simp at hy) (fun h1 hns hsb=> ?_) hkind)
 dsimp only at hns hsb ⊢
 generalize hP:s2.heap.push {cls:= .type "list",dict:=none,data:= .seq ([]:List Value).toArray}=hq at hns hsb ⊢
 have eC:hq.objs.size=s2.heap.objs.size+1:=by rw[←hP,Heap.size_push]
 generalize eD:s2.heap.objs.size=D at eC ⊢
 generalize eCC:hq.objs.size=C at hns hsb eC ⊢
 have DC:D≠C:=by omega
 have old:∀b o,s2.heap.get? b=some o→h1.get? b=some o:=fun b o e=>by
  have lt: @LT.lt Nat _ b s2.heap.objs.size:=Heap.lt_size e
  exact hsb.extBut b o (fun z=>by subst z;omega) (Heap.get?_push_of_some _ (hP▸Heap.get?_push_of_some _ e))
 have aeN:h1.get? D=some {cls:= .type "list",dict:=none,data:= .seq ([]:List Value).toArray}:=hsb.extBut _ _ DC (Heap.get?_push_of_some _ (hP▸eD▸Heap.get?_push_size _ rfl))
 have noD:s2.heap.get? D=none:=Heap.get?_none_of_le (by omega)
 have HD:H2 D=none:=I2.hok.fresh (by omega)
 have HC:H2 C=none:=I2.hok.fresh (by omega)
 have Yv:∀b∈fp,@LT.lt Nat _ b D:=fun b hb=>by
  obtain⟨o,e,_⟩:=T.obj _ _ st2 b hb
  have q: @LT.lt Nat _ b s2.heap.objs.size:=Heap.lt_size e
  omega
 have Dfp:D∉fp:=fun z=>Nat.lt_irrefl _ (Yv D z)
 have adO:∀b∈frs X.stack,@LT.lt Nat _ b D:=fun b hb=>by
  obtain⟨_,o,ho,_⟩:=I2.stack.mem hb
  have q: @LT.lt Nat _ b s2.heap.objs.size:=Heap.lt_size ho
  omega
 have ad4:∀y c,cl.lookup y=some c→ @LT.lt Nat _ c D:=fun y c e=>by
  obtain⟨v,z⟩:=I2.cell y c (vD y c e)
  have q: @LT.lt Nat _ c s2.heap.objs.size:=z.lt
  omega
 have ok:(bz X scope cl C (xs++cs) fp s2 H2).Ok:=by
  refine⟨I2.ok.mod,hkind,I2.ok.glob,I2.ok.blt,(by show s2.heap.objs.size≤C;omega),fun y z c e1 e2=>I2.ok.inj y z c (vD y c e1) (vD z c e2),fun y hy=>Ik y (La hcell hy),fun y c e=>(by cases e),I2.ok.hd,I2.ok.frames,.inl rfl,
   fun b hb=>⟨?_,fun y c e=>(f2 b hb).2.2.2.2.1 y c (vD y c e)⟩,I2.bs,Nat.le_trans I2.ok.Ut I2.sz,fun b o e hb=> ?_,fun b hb z=> ?_,I2.stack,I2.BL⟩
  ·have q:=Yv b hb
   show b≠C
   intro z
   subst z
   omega
  ·rcases(f2 b hb).2.2.2.1 with z | z
   ·exact I2.ok.Rk b o e z
   ·have l: @LT.lt Nat _ b X.base.objs.size:=Heap.lt_size e
    have l2:=I2.ok.Ut
    have l3: @LE.le Nat _ X.s₀.heap.objs.size b:=z
    omega
  ·rcases List.mem_cons.mp (I2.GR b z)with e | e
   ·exact(f2 b hb).2.1 e
   ·exact(f2 b hb).2.2.1 e
 have I0:Inv (bz X scope cl C (xs++cs) fp s2 H2) [(D,{cls:= .type "list",dict:=none,data:= .seq ([]:List Value).toArray})] (Es xs++caps js σ) H2 {s2 with heap:=h1,toks:=s2.toks+([]:List (Str×Value)).length}:=by
  refine⟨ok,rfl,I2.bare,Un.kept old,⟨_,hns,fun i y v e1 e2 e3=> ?_⟩,fun y c e=> ?_,HC,fun y c e=>I2.rK y c (vD y c e),fun p hp=> ?_,I2.hok.kept old,?_⟩
  ·have hi:xs.length≤i:=by
    rcases Nat.lt_or_ge i xs.length with q | q
    ·rw[List.getElem?_append_left (by simpa[Es]using q)]at e2
     simp[Es]at e2
    ·exact q
   obtain⟨j,rfl⟩:∃j,i=xs.length+j:=⟨i - xs.length,by omega⟩
   ·have e1':cs[j]? = some y:=by
     have:(xs++cs)[xs.length+j]? = some y:=e1
     rw[List.getElem?_append_right (by omega)]at this
     simpa using this
    obtain⟨i0,q1,q2,q3,q4⟩:=hcap.get e1'
    have e2':σ[i0]? = some (some v):=by
     have z:(caps js σ)[j]? = some (some v):=by
      rw[List.getElem?_append_right (by simp[Es])]at e2
      simpa[Es]using e2
     unfold caps at z
     rw[List.getElem?_map,q1]at z
     have z':(σ[i0]?).join=some v:=by simpa using z
     cases r:σ[i0]? with
     | none=>rw[r]at z';cases z'
     | some r'=>rw[r]at z';exact congrArg some z'
    obtain⟨m,_,hl⟩:=I2.loc
    obtain⟨u,r,l⟩:=hl i0 y v q2 e2' (by rcases q4 with q | q;exact .inr (.inl q);exact .inr (.inr q))
    obtain⟨c,hcy⟩:=Ik y (PySem.mem_of_lookup q3)
    refine⟨u,r,.inr ⟨Q7 q3,c,hcy,?_⟩⟩
    rcases l with⟨k,_⟩ | ⟨_,c',ec,o,ho,hd⟩
    ·rcases q4 with q | q<;>rw[q]at k<;>cases k
    ·rw[vD y c hcy]at ec
     cases ec
     exact⟨o,old _ _ ho,hd⟩
  ·obtain⟨v,o,ho,hd⟩:=I2.cell y c (vD y c e)
   exact⟨v,o,old _ _ ho,hd⟩
  ·have ep:p=(D,{cls:= .type "list",dict:=none,data:= .seq ([]:List Value).toArray}):=by simpa[bz]using hp
   subst ep
   exact⟨aeN,HD,(by show D≠C;omega),(fun z=>Nat.lt_irrefl _ (adO D z)),fun v z=>by cases z⟩
  ·show(Es xs++caps js σ).length=(xs++cs).length
   unfold caps Es
   rw[List.length_append,List.length_append,List.length_map,List.length_map,hcap.len]
 have stat:∀{pn:List (Addr×Obj)} {H':Hp},(∀b∈fp,H' b=none)→(∀p∈pn,p.1∉fp)→∀b∈fp,Ek (bz X scope cl C (xs++cs) fp s2 H2) pn H' b:=fun hn hpn b hb=>
  ⟨hn b hb,(ok.exf b hb).1,ok.RP b hb,.inl hb,fun y c e=>(ok.exf b hb).2 y c e,fun p hp z=>hpn p (by simpa[bz]using hp) (z▸hb)⟩
 have loop:∀s3:Shared,s3={s2 with heap:=h1,toks:=s2.toks+([]:List (Str×Value)).length}→
   codeAny (model X.prog X.w) X.A (.compLoop (.ListComp elt [⟨tg,iter,ifs,0⟩] scope pos) 0 (.ref it) (.ref D) (compEnvC scope cl C X.env)) (RR (.ref D) C) s3:=by
  rintro s3 rfl
  obtain⟨m0,w0⟩:=w0
  refine Nr (fun n s=>∃(i:Nat) (ys:List V) (its:List Value) (c:Nat) (H:Hp),Inv (bz X scope cl C (xs++cs) fp s2 H2) [(D,{cls:= .type "list",data:= .seq its.toArray c})] (Es xs++caps js σ) H s∧
   tn i s.heap∧(∀b∈fp,H b=none)∧Vals ys its∧W i n ys H) ?_ m0 ⟨0,[],[],0,H2,I0,T.keep _ _ _ st2 fun b _ o e=>old b o e,fun b hb=>(f2 b hb).1,.nil,w0⟩
  rintro n s3 ⟨i,ys,its,c,H3,I3,st3,fr3,rv,w3⟩
  have pD:∀p∈[((D,{cls:= .type "list",data:= .seq its.toArray c}):Addr×Obj)],p.1∉fp:=fun p hp=>by
   have:p=(D,{cls:= .type "list",data:= .seq its.toArray c}):=by simpa using hp
   subst this
   exact Dfp
  rcases step i n ys H3 w3 with⟨stop,hlen,qn⟩ | ⟨go,N,hN,step⟩
  ·refine gU (T.done (bz X scope cl C (xs++cs) fp s2 H2) rfl rfl rfl hc i _ s3 _ H3 (fun _ _=>False) I3 (stat fr3 pD) st3 stop) fun r s4 ⟨hr,I4⟩=> ?_
   subst hr
   obtain⟨gD,nD,_⟩:=I4.pin _ (List.mem_append_right _ List.mem_cons_self)
   obtain⟨m',hn',_⟩:=id I4.loc
   have u4:Un (frs X.stack) fp H2 H3 s2.heap s4.heap:=I4.base
   have k4:uN X.prog X.w (upd H3 D (.lst ys)) s4.heap:=uN.track I4.hok nD ⟨hlen,its,c,rv,gD⟩
   have I5:Inv X pins σ (upd H3 D (.lst ys)) s4:=I2.call' (ch:=fp) I4.os (u4.track noD HD) k4 I4.bare fun b hb=>⟨(f2 b hb).2.2.2.1,(f2 b hb).2.1,(f2 b hb).2.2.2.2.1,(f2 b hb).2.2.2.2.2⟩
   exact fin D C _ s4 m' I5 hn' (by omega) (by rw[bh (Ne.symm DC)];exact I4.free) (qn D nD)
  ·refine gU (T.item (bz X scope cl C (xs++cs) fp s2 H2) rfl rfl rfl hc i _ s3 _ H3 (fun _ _=>False) I3 (stat fr3 pD) st3 go) fun r s4 ⟨u,hr,h4⟩=> ?_
   subst hr
   refine gU h4 fun _ s5 ⟨v,H5,I5,r5,y5,Vb,fr5⟩=> ?_
   have I5':=I5.pinned (stat fr5 pD) (T.obj _ _ Vb)
   refine gU (hg cl C fp s2 H2 _ s5 (Es xs++caps js σ) H5 v u _ I5' r5 (step v H5 y5)) fun _ s6 ⟨σ6,H6,I6,⟨apC,aiH⟩,q6⟩=> ?_
   have weak:∀{pn:List (Addr×Obj)} {H':Hp} {s':Shared},Inv (bz X scope cl C (xs++cs) fp s2 H2) pn σ6 H' s'→Inv (bz X scope cl C (xs++cs) fp s2 H2) pn (Es xs++caps js σ) H' s':=fun I'=>
    I'.weak apC.symm fun j z e=>by
     have hj:xs.length≤j:=by
      rcases Nat.lt_or_ge j xs.length with q | q
      ·rw[List.getElem?_append_left (by simpa[Es]using q)]at e
       simp[Es]at e
      ·exact q
     rw[List.getElem?_append_right (by simpa[Es]using hj),←aiH]at e
     rw[List.getElem?_drop]at e
     rw[←e]
     congr 1
     simp[Es]
     omega
   have Zq:∀{σ':St} {H':Hp} {s':Shared},Inv (bz X scope cl C (xs++cs) fp s2 H2) ([(D,{cls:= .type "list",data:= .seq its.toArray c})]++DG fp s5.heap) σ' H' s'→(∀b∈fp,∀o,s5.heap.get? b=some o→s'.heap.get? b=some o)∧∀b∈fp,H' b=none:=fun I'=>
    ⟨fun b hb o e=>(I'.pin (b,o) (List.mem_append_right _ (List.mem_append_right _ (pJ hb e)))).1,fun b hb=>by
     obtain⟨o,e,_⟩:=T.obj _ _ Vb b hb
     exact(I'.pin (b,o) (List.mem_append_right _ (List.mem_append_right _ (pJ hb e)))).2.1⟩
   refine gU (ht cl C fp s2 H2 _ s6 σ6 H6 _ I6 q6) fun b s7 ⟨H7,I7,q7⟩=> ?_
   cases b with
   | false=>
    rw[if_neg Bool.false_ne_true]at q7 ⊢
    obtain⟨_,m',hm,w7⟩:=hN _ _ q7
    exact⟨m',hm,i+1,ys,its,c,H7,weak I7.yz,T.keep _ _ _ Vb (Zq I7).1,(Zq I7).2,rv,w7⟩
   | true=>
    rw[if_pos rfl]at q7 ⊢
    refine gU (he cl C fp s2 H2 _ s7 σ6 H7 _ I7 q7) fun yv s8 ⟨y,H8,I8,r8,q8⟩=> ?_
    obtain⟨hl8,m',hm,w8⟩:=hN _ _ q8
    rw[List.length_append,List.length_singleton]at hl8
    obtain⟨gD,nD,dC,dF,_⟩:=I8.pin (D,{cls:= .type "list",data:= .seq its.toArray c}) (List.mem_append_right _ (List.mem_append_left _ List.mem_cons_self))
    have el:=rv.length
    refine wpAny_list_append_plain (hsz:=by rw[List.size_toArray];omega) ⟨c,gD⟩ fun h9 p9 sb9=> ?_
    obtain⟨c9,g9⟩:=p9
    have g9':h9.get? D=some {cls:= .type "list",data:= .seq (its++[yv]).toArray c9}:=by simpa using g9
    have I9:Inv (bz X scope cl C (xs++cs) fp s2 H2) [] (Es xs++caps js σ) H8 {s8 with heap:=h9}:=
     (weak (I8.uX (Ad:=[]) (fun p hp=>nomatch hp))).turned (t':=s8.toks) (it:=D) (fun b o hb e=>(sb9.2 b hb).trans e) nD dC (.inr (by show s2.heap.objs.size≤D;omega)) (fun y c e z=>by have q:=ad4 y c e;subst z;omega) (fun p hp=>nomatch hp)
    refine⟨m',hm,i+1,ys++[y],its++[yv],c9,H8,I9.uX fun p hp=> ?_,?_,(Zq I8).2,rv.append (.cons r8 .nil),w8⟩
    ·have:p=(D,{cls:= .type "list",data:= .seq (its++[yv]).toArray c9}):=by simpa using hp
     subst this
     exact⟨g9',nD,dC,dF,fun v z=>by cases z⟩
    ·exact T.keep _ _ _ Vb fun b hb o e=>(sb9.2 b (fun z=>Dfp (z▸hb))).trans ((Zq I8).1 b hb o e)
 exact codeAny_compStart_list (loop _ rfl) (T.self _ 0 _ _ _ (T.keep _ _ _ st2 fun b _ o e=>old b o e) (loop _ rfl))
theorem XJ{g:TG}{wi:TI}(hc:X.calm=true)(xs cs:List Str)(js:List Nat)(hi:PI X (tg) iter wi)(hcap:uP X scope cs js)(ht:∀cl C fp s H,PTs (bz X scope cl C (xs++cs) fp s H) ifs tt)(he:∀cl C fp s H,PE (bz X scope cl C (xs++cs) fp s H) elt te)
  (hall:∀y∈scope.names,y.2= .free→y.1∈cs) (hcell:∀y∈scope.names,y.2≠ .cell) (hnames:∀y∈scope.names,y.2= .local→scope.names.lookup y.1=some .local) (hg:∀cl C fp s H,PG (bz X scope cl C (xs++cs) fp s H) tg g)
  (hkind:scope.kind= .function:=by rfl) (hs:∀v,foldedSetIterable iter X.env v=pure v:=by intro _;rfl):
  PE X (.ListComp elt [⟨tg,iter,ifs,0⟩] scope pos) (W7 xs js wi g tt te):=by
 intro pins s σ H Q I h
 obtain⟨cl,Yt,vD,Ik⟩:=Bl (env:=X.env) (scope:=scope) fun n hn=>by
  obtain⟨j,hj⟩:=List.getElem?_of_mem (hall _ hn rfl)
  obtain⟨_,_,_,_,k⟩:=hcap.get hj
  exact I.ok.has n k
 rw[eval_ListComp]
 refine wpAny_comprehension_free (use:=none) rfl hs Yt hkind hnames (gU (hi pins s σ H _ I h) fun v s1 h1=>gU h1 fun itv s2 h2=> ?_)
 obtain⟨it,fp,tn,J,H2,e,I2,T,st2,f2,W,w0,step⟩:=h2
 subst e
 refine Qh (Q:=Q) (RR:=fun acc C=>compPost (model X.prog X.w) X.A X.xe none (EP X pins σ Q) acc C) hc hcap ht he hcell hkind hg vD Ik I2 T st2 f2 W w0 step fun D C H3 s4 m' I4 hn hC hH q=> ?_
 exact⟨m',hn,fun h' sb=>⟨.ref D,H3,I2.letGo I4 hC hH sb,rfl,q⟩⟩
end
end L2
namespace L2
open PySem PySem.Spec PySem.W PySem.Calls PyProof.Rows
section
variable{X:Cx}{pins:List (Addr×Obj)}{σ:St}{H:Hp}{s:Shared}
end
end L2
namespace S
open PySem PySem.Spec PyProof.Rows L2
inductive D where
 | non | bl (b:Bool) | int (i:Int) | str (x:Str) | tup (ds:List D) | ref (n:Nat) | cl (ds:List D) | ty (n:String) | cls (c:Nat) | exc (c:Nat) (d:D)
inductive MO where
 | lst (ds:List D) | ins (c:Nat) (fs:List (Str×D)) | dk (kvs:List (Key×D)) | dt (kvs:List (List Key×D))
abbrev St:=L2.St
abbrev Mem:=List MO
abbrev Sl:=List (Option D)
inductive Out (α:Type) where
 | ok (a:α) (M:Mem)
 | exc (c:Nat) (d:D) (M:Mem)
 | bad
def Out.bind{α β:Type}(o:Out α)(f:α→Mem→Out β):Out β:=match o with
 | .ok a M=>f a M
 | .exc c d M=> .exc c d M
 | .bad=> .bad
@[simp] theorem Out.mR{α β:Type}(c:Nat)(d:D)(M:Mem)(f:α→Mem→Out β):(Out.exc c d M:Out α).bind f= .exc c d M:=id rfl
@[simp] theorem Out.eZ{α β:Type}(a:α)(M:Mem)(f:α→Mem→Out β):(Out.ok a M).bind f=f a M:=id rfl
@[simp] theorem Out.fD{α β:Type}(f:α→Mem→Out β):(Out.bad:Out α).bind f= .bad:=id rfl
def FrL(K:PySem.W.Frag)(H:Hp)(a:Addr)(xs:List V):Prop:=(∃o,H a=some (.zR o (.lst xs)))∨
 ∃(o:Obj) (its:Array Value) (n:Nat),K.lookup a=some o∧o.cls= .type "list" ∧ o.dict=none∧o.data= .seq its n∧its.size≤sizeLine∧Vals xs its.toList
theorem FrL.sq{K:PySem.W.Frag}{H:Hp}{a:Addr}{xs:List V}(h:FrL K H a xs):yt K H a xs:=h.elim (fun z=> .inl (.inr z)) .inr
mutual
inductive DV (K:PySem.W.Frag) (ct ι:Nat→Addr) (n:Nat) (H:Hp):D→V→Prop
 | non:DV K ct ι n H .non .non
 | bl (b:Bool):DV K ct ι n H (.bl b) (.bl b)
 | int (i:Int):DV K ct ι n H (.int i) (.int i)
 | str (x:Str):DV K ct ι n H (.str x) (.str x)
 | tup {a:Addr} {xs:List V} {ds:List D}:H a=some (.tup xs)→lB K ct ι n H ds xs→DV K ct ι n H (.tup ds) (.ref a)
 | ref {i:Nat}:i<n→DV K ct ι n H (.ref i) (.ref (ι i))
 | cl {a:Addr} {xs:List V} {ds:List D}:FrL K H a xs→lB K ct ι n H ds xs→DV K ct ι n H (.cl ds) (.ref a)
 | ty (s:String):DV K ct ι n H (.ty s) (.ty s)
 | cls (c:Nat):DV K ct ι n H (.cls c) (.ref (ct c))
 | exc {a dx:Addr} {c:Nat} {d:D} {v:V}:H a=some (xC a (ct c) dx)→H dx=some (.xd [("at",v)])→DV K ct ι n H d v→DV K ct ι n H (.exc c d) (.ref a)
inductive lB (K:PySem.W.Frag) (ct ι:Nat→Addr) (n:Nat) (H:Hp):List D→List V→Prop
 | nil:lB K ct ι n H [] []
 | cons {d:D} {x:V} {ds:List D} {xs:List V}:DV K ct ι n H d x→lB K ct ι n H ds xs→lB K ct ι n H (d::ds) (x::xs)
end
structure Ext(K:PySem.W.Frag)(ι:Nat→Addr)(n:Nat)(H:Hp)(ι':Nat→Addr)(n':Nat)(H':Hp):Prop where
 tup:∀a xs,H a=some (.tup xs)→H' a=some (.tup xs)
 zR:∀a xs,FrL K H a xs→FrL K H' a xs
 ex:∀a φ,H a=some (.ext φ)→H' a=some (.ext φ)
 xd:∀a fs,H a=some (.xd fs)→H' a=some (.xd fs)
 le:n≤n'
 same:∀i,i<n→ι' i=ι i
theorem Ext.refl{K:PySem.W.Frag}{ι:Nat→Addr}{n:Nat}{H:Hp}:Ext K ι n H ι n H:=⟨fun _ _ h=>h,fun _ _ h=>h,fun _ _ h=>h,fun _ _ h=>h,Nat.le_refl _,fun _ _=>rfl⟩
theorem Ext.trans{K:PySem.W.Frag}{ι dz jO:Nat→Addr}{n n1 n2:Nat}{H H1 H2:Hp}(a:Ext K ι n H dz n1 H1)(b:Ext K dz n1 H1 jO n2 H2):Ext K ι n H jO n2 H2:=
 ⟨fun x xs h=>b.tup x xs (a.tup x xs h),fun x xs h=>b.zR x xs (a.zR x xs h),fun x xs h=>b.ex x xs (a.ex x xs h),fun x xs h=>b.xd x xs (a.xd x xs h),Nat.le_trans a.le b.le,fun i hi=>(b.same i (Nat.lt_of_lt_of_le hi a.le)).trans (a.same i hi)⟩
mutual
theorem DV.mono{K:PySem.W.Frag}{ct ι ι':Nat→Addr}{n n':Nat}{H H':Hp}(e:Ext K ι n H ι' n' H'):∀{d:D} {v:V},DV K ct ι n H d v→DV K ct ι' n' H' d v
 | _,_,.non=> .non
 | _,_,.bl b=> .bl b
 | _,_,.int i=> .int i
 | _,_,.str x=> .str x
 | _,_,.tup h hs=> .tup (e.tup _ _ h) (lB.mono e hs)
 | _,_,.ref (i:=i) h=>by rw[←e.same i h];exact .ref (Nat.lt_of_lt_of_le h e.le)
 | _,_,.cl h hs=> .cl (e.zR _ _ h) (lB.mono e hs)
 | _,_,.ty s=> .ty s
 | _,_,.cls c=> .cls c
 | _,_,.exc h1 h2 h3=> .exc (e.ex _ _ h1) (e.xd _ _ h2) (DV.mono e h3)
theorem lB.mono{K:PySem.W.Frag}{ct ι ι':Nat→Addr}{n n':Nat}{H H':Hp}(e:Ext K ι n H ι' n' H'):∀{ds:List D} {vs:List V},lB K ct ι n H ds vs→lB K ct ι' n' H' ds vs
 | _,_,.nil=> .nil
 | _,_,.cons h hs=> .cons (DV.mono e h) (lB.mono e hs)
end
section
variable{K:PySem.W.Frag}{ct ι:Nat→Addr}{n:Nat}{H:Hp}
theorem lB.length:∀{ds:List D} {vs:List V},lB K ct ι n H ds vs→vs.length=ds.length
 | _,_,.nil=>rfl
 | _,_,.cons _ h=>congrArg (· + 1) h.length
theorem lB.at:∀{ds:List D} {vs:List V} {i:Nat} {d:D},lB K ct ι n H ds vs→ds[i]? = some d→∃v,vs[i]? = some v∧DV K ct ι n H d v
 | _,_,_,_,.nil,e=>by simp at e
 | _,_,0,_,.cons h _,e=>by simp at e;subst e;exact⟨_,rfl,h⟩
 | _,_,i+1,_,.cons _ hs,e=>by simpa using hs.at (i:=i) (by simpa using e)
theorem lB.append:∀{ds es:List D} {vs ws:List V},lB K ct ι n H ds vs→lB K ct ι n H es ws→lB K ct ι n H (ds++es) (vs++ws)
 | _,_,_,_,.nil,h=>h
 | _,_,_,_,.cons h hs,h'=> .cons h (hs.append h')
theorem lB.take:∀{ds:List D} {vs:List V} (k:Nat),lB K ct ι n H ds vs→lB K ct ι n H (ds.take k) (vs.take k)
 | _,_,0,_=>by simp;exact .nil
 | _,_,_+1,.nil=>by simp;exact .nil
 | _,_,k+1,.cons h hs=>by simp;exact .cons h (hs.take k)
theorem lB.drop:∀{ds:List D} {vs:List V} (k:Nat),lB K ct ι n H ds vs→lB K ct ι n H (ds.drop k) (vs.drop k)
 | _,_,0,h=>by simpa using h
 | _,_,_+1,.nil=>by simp;exact .nil
 | _,_,k+1,.cons _ hs=>by simp;exact hs.drop k
theorem lB.set:∀{ds:List D} {vs:List V} {d:D} {v:V} (i:Nat),lB K ct ι n H ds vs→DV K ct ι n H d v→lB K ct ι n H (ds.set i d) (vs.set i v)
 | _,_,_,_,_,.nil,_=>by simp;exact .nil
 | _,_,_,_,0,.cons _ hs,h=>by simp;exact .cons h hs
 | _,_,_,_,i+1,.cons h' hs,h=>by simp;exact .cons h' (hs.set i h)
end
inductive QC (K:PySem.W.Frag) (ct ι:Nat→Addr) (n:Nat) (H:Hp):List (Str×D)→List (Str×V)→Prop
 | nil:QC K ct ι n H [] []
 | cons {x:Str} {d:D} {v:V} {fs:List (Str×D)} {vs:List (Str×V)}:DV K ct ι n H d v→QC K ct ι n H fs vs→QC K ct ι n H ((x,d)::fs) ((x,v)::vs)
theorem QC.mono{K:PySem.W.Frag}{ct ι ι':Nat→Addr}{n n':Nat}{H H':Hp}(e:Ext K ι n H ι' n' H'):∀{fs:List (Str×D)} {vs:List (Str×V)},QC K ct ι n H fs vs→QC K ct ι' n' H' fs vs
 | _,_,.nil=> .nil
 | _,_,.cons h hs=> .cons (h.mono e) (hs.mono e)
def putD(f:Str)(d:D):List (Str×D)→List (Str×D)
 | []=>[(f,d)]
 | (x,e)::r=>if x=f then(x,d)::r else(x,e)::putD f d r
section
variable{K:PySem.W.Frag}{ct ι:Nat→Addr}{n:Nat}{H:Hp}
theorem QC.length:∀{fs:List (Str×D)} {vs:List (Str×V)},QC K ct ι n H fs vs→vs.length=fs.length
 | _,_,.nil=>rfl
 | _,_,.cons _ h=>congrArg (· + 1) h.length
theorem QC.look{x:Str}:∀{fs:List (Str×D)} {vs:List (Str×V)} {d:D},QC K ct ι n H fs vs→fs.lookup x=some d→∃v,vs.lookup x=some v∧DV K ct ι n H d v
 | _,_,_,.nil,e=>by simp at e
 | _,_,d,.cons (x:=y) h hs,e=>by
  rw[List.lookup_cons]at e ⊢
  cases z:x==y with
  | true=>rw[z]at e;exact⟨_,rfl,by cases e;exact h⟩
  | false=>rw[z]at e;exact hs.look e
theorem QC.abx{x:Str}:∀{fs:List (Str×D)} {vs:List (Str×V)},QC K ct ι n H fs vs→fs.lookup x=none→vs.lookup x=none
 | _,_,.nil,_=>rfl
 | _,_,.cons (x:=y) h hs,e=>by
  rw[List.lookup_cons]at e ⊢
  cases z:x==y with
  | true=>rw[z]at e;cases e
  | false=>rw[z]at e;exact hs.abx e
end
inductive Jb (K:PySem.W.Frag) (ct ι:Nat→Addr) (n:Nat) (H:Hp) {κ:Type}:List (κ×D)→List (κ×V)→Prop
 | nil:Jb K ct ι n H [] []
 | cons {x:κ} {d:D} {v:V} {fs:List (κ×D)} {vs:List (κ×V)}:DV K ct ι n H d v→Jb K ct ι n H fs vs→Jb K ct ι n H ((x,d)::fs) ((x,v)::vs)
theorem Jb.mono{K:PySem.W.Frag}{ct ι ι':Nat→Addr}{n n':Nat}{H H':Hp}(e:Ext K ι n H ι' n' H'){κ:Type}:∀{fs:List (κ×D)} {vs:List (κ×V)},Jb K ct ι n H fs vs→Jb K ct ι' n' H' fs vs
 | _,_,.nil=> .nil
 | _,_,.cons h hs=> .cons (h.mono e) (hs.mono e)
theorem Jb.length{K:PySem.W.Frag}{ct ι:Nat→Addr}{n:Nat}{H:Hp}{κ:Type}:∀{fs:List (κ×D)} {vs:List (κ×V)},Jb K ct ι n H fs vs→vs.length=fs.length
 | _,_,.nil=>rfl
 | _,_,.cons _ h=>congrArg (· + 1) h.length
def OR(K:PySem.W.Frag)(ct ι:Nat→Addr)(n:Nat)(H:Hp)(a:Addr):MO→Prop
 | .lst ds=>∃vs,H a=some (.lst vs)∧lB K ct ι n H ds vs
 | .ins c fs=>∃dx vs,H a=some (.ins (ct c) dx vs)∧QC K ct ι n H fs vs
 | .dk kvs=>∃vs,H a=some (.dK vs)∧Jb K ct ι n H kvs vs
 | .dt kvs=>∃vs,H a=some (.dT vs)∧Jb K ct ι n H kvs vs
structure Rl(K:PySem.W.Frag)(ct ι:Nat→Addr)(M:Mem)(H:Hp):Prop where
 inj:∀i j,i<M.length→j<M.length→ι i=ι j→i=j
 obj:∀(i:Nat) (o:MO),M[i]? = some o→OR K ct ι M.length H (ι i) o
structure Ws(K:PySem.W.Frag)(ct ι:Nat→Addr)(e:Sl)(M:Mem)(σ:St)(H:Hp):Prop where
 rl:Rl K ct ι M H
 len:σ.length=e.length
 env:∀(i:Nat) (d:D),e[i]? = some (some d)→∃v,σ[i]? = some (some v)∧DV K ct ι M.length H d v
section
variable{K:PySem.W.Frag}{ct ι:Nat→Addr}{M:Mem}{H:Hp}
theorem OR.some{a:Addr}{n:Nat}{o:MO}(h:OR K ct ι n H a o):∃u,H a=some u:=by
 cases o with
 | lst ds=>obtain⟨vs,e,_⟩:=h;exact⟨_,e⟩
 | ins c fs=>obtain⟨dx,vs,e,_⟩:=h;exact⟨_,e⟩
 | dk kvs=>obtain⟨vs,e,_⟩:=h;exact⟨_,e⟩
 | dt kvs=>obtain⟨vs,e,_⟩:=h;exact⟨_,e⟩
theorem Ml{p:Addr}{o:HO}(hp:∀b u,H p≠some (.zR b u)){a:Addr}{xs:List V}(h:FrL K H a xs):FrL K (upd H p o) a xs:=by
 rcases h with⟨b,h⟩ | h
 ·have ne:a≠p:=fun e=>by subst e;exact hp _ _ h
  exact .inl ⟨b,by rw[bh ne];exact h⟩
 ·exact .inr h
theorem X5{p:Addr}(hp:H p=none):∀b u,H p≠some (.zR b u):=fun b u h=>by rw[hp]at h;cases h
theorem OR.keep{ι':Nat→Addr}{n n':Nat}{H':Hp}{a a':Addr}{o:MO}(e:Ext K ι n H ι' n' H')(ea:a'=a)(hh:H' a=H a)(h:OR K ct ι n H a o):OR K ct ι' n' H' a' o:=by
 subst ea
 cases o with
 | lst ds=>obtain⟨vs,q,r⟩:=h;exact⟨vs,by rw[hh];exact q,r.mono e⟩
 | ins c fs=>obtain⟨dx,vs,q,r⟩:=h;exact⟨dx,vs,by rw[hh];exact q,r.mono e⟩
 | dk kvs=>obtain⟨vs,q,r⟩:=h;exact⟨vs,by rw[hh];exact q,r.mono e⟩
 | dt kvs=>obtain⟨vs,q,r⟩:=h;exact⟨vs,by rw[hh];exact q,r.mono e⟩
def pN(ι:Nat→Addr)(n:Nat)(p:Addr):Nat→Addr:=fun i=>if i=n then p else ι i
theorem vZ{p a:Addr}{o u:HO}(hp:H p=none)(h:H a=some u):upd H p o a=some u:=by rw[bh (cC h hp)];exact h
theorem Ext.fresh{n:Nat}{p:Addr}{o:HO}(hp:H p=none):Ext K ι n H ι n (upd H p o):=⟨fun _ _ h=>vZ hp h,fun _ _ h=>Ml (X5 hp) h,fun _ _ h=>vZ hp h,fun _ _ h=>vZ hp h,Nat.le_refl _,fun _ _=>rfl⟩
theorem Rl.lt(R:Rl K ct ι M H){i:Nat}{o:MO}(h:M[i]? = some o):∃u,H (ι i)=some u:=(R.obj i o h).some
theorem Rl.fresh(R:Rl K ct ι M H){p:Addr}{o:HO}(hp:H p=none):Rl K ct ι M (upd H p o):=by
 refine⟨R.inj,fun i x h=> ?_⟩
 obtain⟨u,hu⟩:=R.lt h
 exact(R.obj i x h).keep (Ext.fresh hp) rfl (bh (cC hu hp))
theorem Ext.new{p:Addr}{o:HO}(hp:H p=none):Ext K ι M.length H (pN ι M.length p) (M.length+1) (upd H p o):=
 ⟨fun _ _ h=>vZ hp h,fun _ _ h=>Ml (X5 hp) h,fun _ _ h=>vZ hp h,fun _ _ h=>vZ hp h,Nat.le_succ _,fun i hi=>by unfold pN;rw[if_neg (Nat.ne_of_lt hi)]⟩
theorem Rl.new(R:Rl K ct ι M H){p:Addr}{o:HO}{x:MO}(hp:H p=none)(h:OR K ct (pN ι M.length p) (M.length+1) (upd H p o) p x):Rl K ct (pN ι M.length p) (M++[x]) (upd H p o):=by
 have ne:∀i,i<M.length→ι i≠p:=fun i hi=>by
  obtain⟨u,hu⟩:=R.lt (List.getElem?_eq_getElem hi)
  exact cC hu hp
 have el:(M++[x]).length=M.length+1:=by simp
 refine⟨fun i j hi hj e=> ?_,fun i y hy=> ?_⟩
 ·rw[el]at hi hj
  unfold pN at e
  by_cases a:i=M.length
  ·by_cases b:j=M.length
   ·rw[a,b]
   ·rw[if_pos a,if_neg b]at e
    exact absurd e.symm (ne j (by omega))
  ·by_cases b:j=M.length
   ·rw[if_neg a,if_pos b]at e
    exact absurd e (ne i (by omega))
   ·rw[if_neg a,if_neg b]at e
    exact R.inj i j (by omega) (by omega) e
 ·rw[el]
  by_cases a:i<M.length
  ·rw[List.getElem?_append_left a]at hy
   obtain⟨u,hu⟩:=R.lt hy
   refine(R.obj i y hy).keep (Ext.new hp) ?_ (bh (cC hu hp))
   unfold pN
   rw[if_neg (Nat.ne_of_lt a)]
  ·have hi:i<(M++[x]).length:=(List.getElem?_eq_some_iff.mp hy).1
   have e:i=M.length:=by rw[el]at hi;omega
   subst e
   rw[List.getElem?_append_right (Nat.le_refl _)]at hy
   simp at hy
   subst hy
   have:pN ι M.length p M.length=p:=by unfold pN;rw[if_pos rfl]
   rw[this]
   exact h
theorem Ext.chg{n:Nat}{a:Addr}{o u:HO}(h:H a=some u)(hu:∀xs,u≠ .tup xs)(hz:∀b x,u≠ .zR b x)(hx:∀φ,u≠ .ext φ:=by exact fun _ z=>nomatch z)(hd:∀fs,u≠ .xd fs:=by exact fun _ z=>nomatch z):Ext K ι n H ι n (upd H a o):=
 ⟨fun b xs q=>by
  rw[bh (fun e=>by subst e;rw[h]at q;exact hu xs (Option.some.inj q))];exact q,fun _ _ q=>Ml (fun b x r=>by rw[h]at r;exact hz b x (Option.some.inj r)) q,fun b φ q=>by
  rw[bh (fun e=>by subst e;rw[h]at q;exact hx φ (Option.some.inj q))];exact q,fun b fs q=>by
  rw[bh (fun e=>by subst e;rw[h]at q;exact hd fs (Option.some.inj q))];exact q,Nat.le_refl _,fun _ _=>rfl⟩
theorem Rl.chg(R:Rl K ct ι M H){i:Nat}{o u:HO}{x:MO}(hi:i<M.length)(h:H (ι i)=some u)(hu:∀xs,u≠ .tup xs)(hz:∀b x,u≠ .zR b x)(hx:OR K ct ι M.length (upd H (ι i) o) (ι i) x)(hex:∀φ,u≠ .ext φ:=by exact fun _ z=>nomatch z)(hxd:∀fs,u≠ .xd fs:=by exact fun _ z=>nomatch z):Rl K ct ι (M.set i x) (upd H (ι i) o):=by
 refine⟨fun j k hj hk e=>R.inj j k (by simpa using hj) (by simpa using hk) e,fun j y hy=> ?_⟩
 rw[List.length_set]
 by_cases e:i=j
 ·subst e
  rw[List.getElem?_set_self hi]at hy
  cases hy
  exact hx
 ·rw[List.getElem?_set_ne e]at hy
  have hj:j<M.length:=(List.getElem?_eq_some_iff.mp hy).1
  exact(R.obj j y hy).keep (Ext.chg h hu hz hex hxd) rfl (bh fun z=>e (R.inj i j hi hj z.symm))
theorem Ws.ext{ι':Nat→Addr}{e:Sl}{M':Mem}{σ:St}{H':Hp}(w:Ws K ct ι e M σ H)(x:Ext K ι M.length H ι' M'.length H')(r:Rl K ct ι' M' H'):Ws K ct ι' e M' σ H':=
 ⟨r,w.len,fun i d h=>let⟨v,a,b⟩:=w.env i d h;⟨v,a,b.mono x⟩⟩
theorem Ws.set{e:Sl}{σ:St}{d:D}{v:V}(w:Ws K ct ι e M σ H)(i:Nat)(h:DV K ct ι M.length H d v):Ws K ct ι (e.set i (some d)) M (σ.set i (some v)) H:=by
 refine⟨w.rl,by simp[w.len],fun j d' hj=> ?_⟩
 by_cases z:i=j
 ·subst z
  have hi:i<e.length:=by have:=(List.getElem?_eq_some_iff.mp hj).1;simpa using this
  rw[List.getElem?_set_self hi]at hj
  cases hj
  exact⟨v,List.getElem?_set_self (by rw[w.len];exact hi),h⟩
 ·rw[List.getElem?_set_ne z]at hj
  obtain⟨v',a,b⟩:=w.env j d' hj
  exact⟨v',by rw[List.getElem?_set_ne z];exact a,b⟩
end
theorem Ws.clear{K:PySem.W.Frag}{ct ι:Nat→Addr}{M:Mem}{H:Hp}{e:Sl}{σ:St}(w:Ws K ct ι e M σ H)(i:Nat):Ws K ct ι (e.set i none) M (σ.set i none) H:=by
 refine⟨w.rl,by simp[w.len],fun j d' hj=> ?_⟩
 by_cases z:i=j
 ·subst z
  have hi:i<e.length:=by have:=(List.getElem?_eq_some_iff.mp hj).1;simpa using this
  rw[List.getElem?_set_self hi]at hj
  cases hj
 ·rw[List.getElem?_set_ne z]at hj
  obtain⟨v',a,b⟩:=w.env j d' hj
  exact⟨v',by rw[List.getElem?_set_ne z];exact a,b⟩
abbrev XW:=Addr→Addr→Hp→Prop
def wAt(W:bG)(σ:St):XW:=fun C dx H=>W C dx σ H
def W0:bG:=fun _ _ _ _=>False
def jh{α β:Type}(rel:(Nat→Addr)→Mem→Hp→α→β→Prop)(K:PySem.W.Frag)(ct:Nat→Addr)(w:XW)(ι:Nat→Addr)(n:Nat)(H:Hp)(o:Out α)(Q:β→Hp→Prop):Prop:=match o with
 | .ok a M'=>∀ι' b H',Ext K ι n H ι' M'.length H'→Rl K ct ι' M' H'→rel ι' M' H' a b→Q b H'
 | .exc c d M'=>∀ι' dx v H',Ext K ι n H ι' M'.length H'→Rl K ct ι' M' H'→H' dx=some (.xd [("at",v)])→DV K ct ι' M'.length H' d v→w (ct c) dx H'
 | .bad=>False
def tG{α β:Type}(rel:(Nat→Addr)→Mem→Hp→α→β→Prop)(K:PySem.W.Frag)(ct:Nat→Addr)(W:bG)(m:Sl→Mem→Out α)(σ:St)(H:Hp)(Q:β→Hp→Prop):Prop:=
 ∃ι e M,Ws K ct ι e M σ H∧jh rel K ct (wAt W σ) ι M.length H (m e M) Q
abbrev d8(K:PySem.W.Frag)(ct:Nat→Addr):(Nat→Addr)→Mem→Hp→D→V→Prop:=fun ι M H d v=>DV K ct ι M.length H d v
abbrev Hq(K:PySem.W.Frag)(ct:Nat→Addr):(Nat→Addr)→Mem→Hp→List D→List V→Prop:=fun ι M H d v=>lB K ct ι M.length H d v
abbrev Cg:(Nat→Addr)→Mem→Hp→Bool→Bool→Prop:=fun _ _ _ a b=>a=b
abbrev ME:=Sl→Mem→Out D
abbrev MT:=Sl→Mem→Out Bool
abbrev MA:=Sl→Mem→Out (List D)
def SE(X:Cx)(ct:Nat→Addr)(W:bG)(e:Expr)(m:ME):Prop:=PE X e (tG (d8 X.K ct) X.K ct W m)
def Wm(X:Cx)(ct:Nat→Addr)(W:bG)(e:Expr)(m:MT):Prop:=PT X e (tG Cg X.K ct W m)
def SW(X:Cx)(ct:Nat→Addr)(W:bG)(e:Expr)(m:MT):Prop:=PW X e (tG Cg X.K ct W m)
def SA(X:Cx)(ct:Nat→Addr)(W:bG)(es:List Expr)(m:MA):Prop:=PA X es (tG (Hq X.K ct) X.K ct W m)
theorem SW.pt{X:Cx}{ct:Nat→Addr}{W:bG}{e:Expr}{m:MT}(h:SW X ct W e m):Wm X ct W e m:=PW.pt h
section
variable{X:Cx}{ct:Nat→Addr}
theorem PE.imp{e:Expr}{t t':TE}(h:PE X e t)(hi:∀σ H Q,t' σ H Q→t σ H Q):PE X e t':=fun pins s σ H Q I q=>h pins s σ H Q I (hi σ H Q q)
theorem PT.imp{e:Expr}{t t':TT}(h:PT X e t)(hi:∀σ H Q,t' σ H Q→t σ H Q):PT X e t':=fun pins s σ H Q I q=>h pins s σ H Q I (hi σ H Q q)
theorem PW.imp{e:Expr}{t t':TT}(h:PW X e t)(hi:∀σ H Q,t' σ H Q→t σ H Q):PW X e t':=fun wh pins s σ H Q I q=>h wh pins s σ H Q I (hi σ H Q q)
theorem PA.imp{es:List Expr}{t t':TA}(h:PA X es t)(hi:∀σ H Q,t' σ H Q→t σ H Q):PA X es t':=fun pos pins s σ H Q I q=>h pos pins s σ H Q I (hi σ H Q q)
end
theorem jh.ext{α β:Type}{rel:(Nat→Addr)→Mem→Hp→α→β→Prop}{K:PySem.W.Frag}{ct ι ι':Nat→Addr}{w:XW}{n n':Nat}{H H':Hp}{o:Out α}{Q:β→Hp→Prop}(h:jh rel K ct w ι n H o Q)(x:Ext K ι n H ι' n' H'):jh rel K ct w ι' n' H' o Q:=by
 cases o with
 | ok a M=>exact fun jO b H2 x2 r q=>h jO b H2 (x.trans x2) r q
 | exc c d M=>exact fun jO dx v H2 x2 r q1 q2=>h jO dx v H2 (x.trans x2) r q1 q2
 | bad=>exact h
theorem jh.mono{α β:Type}{rel:(Nat→Addr)→Mem→Hp→α→β→Prop}{K:PySem.W.Frag}{ct ι:Nat→Addr}{w:XW}{n:Nat}{H:Hp}{o:Out α}{Q Q':β→Hp→Prop}(h:jh rel K ct w ι n H o Q)(x:∀b H,Q b H→Q' b H):jh rel K ct w ι n H o Q':=by
 cases o with
 | ok a M=>exact fun jO b H2 x2 r q=>x b H2 (h jO b H2 x2 r q)
 | exc c d M=>exact h
 | bad=>exact h
def aqy{α β γ δ:Type}(fQ:(Nat→Addr)→Mem→Hp→α→β→Prop)(Tp:(Nat→Addr)→Mem→Hp→γ→δ→Prop)(K:PySem.W.Frag)(ct:Nat→Addr)(W:bG)(f:α→Sl→Mem→Out γ)(σ:St)(Q:δ→Hp→Prop)(b:β)(H1:Hp):Prop:=
 ∃ι e M a,Ws K ct ι e M σ H1∧fQ ι M H1 a b∧jh Tp K ct (wAt W σ) ι M.length H1 (f a e M) Q
theorem b_{α β γ δ:Type}{fQ:(Nat→Addr)→Mem→Hp→α→β→Prop}{Tp:(Nat→Addr)→Mem→Hp→γ→δ→Prop}{K:PySem.W.Frag}{ct:Nat→Addr}{W:bG}{ma:Sl→Mem→Out α}{f:α→Sl→Mem→Out γ}{σ:St}{H:Hp}{Q:δ→Hp→Prop}
  (h:tG Tp K ct W (fun e M=>(ma e M).bind fun a M1=>f a e M1) σ H Q):tG fQ K ct W ma σ H (aqy fQ Tp K ct W f σ Q):=by
 obtain⟨ι,e,M,w,p⟩:=h
 refine⟨ι,e,M,w,?_⟩
 cases z:ma e M with
 | bad=>simp only[z,Out.fD]at p;exact p
 | exc xc xd xM=>simp only[z,Out.mR]at p;exact p
 | ok a M1=>
  simp only[z,Out.eZ]at p
  exact fun dz b H1 x r q=>⟨dz,e,M1,a,w.ext x r,q,p.ext x⟩
end S
namespace S
open PySem PySem.Spec PyProof.Rows L2
section
variable{X:Cx}{ct:Nat→Addr}{W:bG}{a b c:Expr}{ma mb mc:ME}{pos:Pos}
@[irreducible] def aA(i:Nat):ME:=fun e M=>match e[i]? with
 | some (some d)=> .ok d M
 | _=> .bad
theorem aau{i:Nat}{e:Sl}{M:Mem}{d:D}(h:e[i]? = some (some d)):aA i e M= .ok d M:=by unfold aA;rw[h]
def mC(d:D):ME:=fun _ M=> .ok d M
theorem fP{e:Expr}{t:TE}{m:ME}(h:PE X e t)(hi:∀σ H Q,tG (d8 X.K ct) X.K ct W m σ H Q→t σ H Q):SE X ct W e m:=PE.imp h hi
theorem ak(i:Nat){x:Str}{pos:Pos}(hN:X.N[i]? = some x:=by rfl)(hv:Vis X.env.scope x:=by first | exact Or.inl rfl | exact Or.inr (Or.inl rfl) | exact Or.inr (Or.inr rfl))(hd:(x==("__debug__" : Str))=false:=by decide)
  (hcd:(x==("__classdict__" : Str))=false:=by decide):SE X ct W (.Name x pos) (aA i):=fP (Xx hN hv hd hcd) fun σ H Q ⟨ι,e,M,w,p⟩=>by
 unfold aA at p
 cases z:e[i]? with
 | none=>rw[z]at p;exact p.elim
 | some o=>
  cases o with
  | none=>rw[z]at p;exact p.elim
  | some d=>
   rw[z]at p
   obtain⟨v,hv,dv⟩:=w.env i d z
   exact⟨v,hv,p ι v H .refl w.rl dv⟩
theorem GF{d:D}{v:V}{σ:St}{H:Hp}{Q:VK}(dv:∀ι n,DV X.K ct ι n H d v)(h:tG (d8 X.K ct) X.K ct W (mC d) σ H Q):tC v σ H Q:=by
 obtain⟨ι,e,M,w,p⟩:=h
 exact p ι v H .refl w.rl (dv _ _)
theorem aB{i j pos}:SE X ct W (.Constant (.int i) j pos) (mC (.int i)):=fP acU fun _ _ _ h=>GF (fun _ _=> .int i) h
theorem NQ{b j pos}:SE X ct W (.Constant (.bool b) j pos) (mC (.bl b)):=fP agN fun _ _ _ h=>GF (fun _ _=> .bl b) h
theorem KC{j pos}:SE X ct W (.Constant .none j pos) (mC .non):=fP acS fun _ _ _ h=>GF (fun _ _=> .non) h
theorem aY{x j pos}:SE X ct W (.Constant (.str x) j pos) (mC (.str x)):=fP acP fun _ _ _ h=>GF (fun _ _=> .str x) h
theorem Xd{x:Str}{n:String}{pos:Pos}(hg:Gl X x)(hm:X.mg x=none)(hv:bootBuiltins x=some (.type n))(hn:x≠ "__name__" := by decide)(hd:(x==("__debug__" : Str))=false:=by decide):SE X ct W (.Name x pos) (mC (.ty n)):=
 fP (aaf (v:= .ty n) hg hm hv rfl hn hd) fun _ _ _ h=>GF (fun _ _=> .ty n) h
abbrev uM:=D→D→Mem→Out D
def aD(op:uM)(ma mb:ME):ME:=fun e M=>(ma e M).bind fun d M1=>(mb e M1).bind fun d' M2=>op d d' M2
def Qy(K:PySem.W.Frag)(ct:Nat→Addr)(op:uM)(r:R2):Prop:=
 ∀{w:XW} ι M H d d' v v' Q,Rl K ct ι M H→DV K ct ι M.length H d v→DV K ct ι M.length H d' v'→jh (d8 K ct) K ct w ι M.length H (op d d' M) Q→r v v' H Q
def jZ(X:Cx)(ct:Nat→Addr)(f:Value→Value→Sem Value)(op:uM):Prop:=∃r,yu X f r∧Qy X.K ct op r
theorem Kw{r:R2}{op:uM}(hs:Qy X.K ct op r){σ:St}{H:Hp}{Q:VK}(h:tG (d8 X.K ct) X.K ct W (aD op ma mb) σ H Q):
  tOp r (tG (d8 X.K ct) X.K ct W ma) (tG (d8 X.K ct) X.K ct W mb) σ H Q:=by
 obtain⟨ι,e,M,w,p⟩:=b_ (fQ:=d8 X.K ct) h
 refine⟨ι,e,M,w,p.mono fun x H1 ⟨dz,e1,M1,d1,w1,q1,p1⟩=> ?_⟩
 refine⟨dz,e1,M1,w1,?_⟩
 cases z:mb e1 M1 with
 | bad=>simp only[z,Out.fD]at p1;exact p1
 | exc xc xd xM=>simp only[z,Out.mR]at p1;exact p1
 | ok d2 M2=>
  simp only[z,Out.eZ]at p1
  exact fun jO y H2 x2 r2 q2=>hs jO M2 H2 d1 d2 x y Q r2 (q1.mono x2) q2 (p1.ext x2)
theorem aL{op:Operator}{Wr:uM}(h:jZ X ct (binaryOp op) Wr)(ha:SE X ct W a ma)(hb:SE X ct W b mb):SE X ct W (.BinOp a op b pos) (aD Wr ma mb):=by
 obtain⟨r,ho,hs⟩:=h
 exact fP (agK ho ha hb) fun σ H Q q=>Kw hs q
theorem Av{op:CmpOp}{Wr:uM}(h:jZ X ct (compareOp op) Wr)(ha:SE X ct W a ma)(hb:SE X ct W b mb)(hm:behindInMarks op b=false):SE X ct W (.Compare a [op] [b] pos) (aD Wr ma mb):=by
 obtain⟨r,ho,hs⟩:=h
 exact fP (aae ho ha hb hm) fun σ H Q q=>Kw hs q
def RZ(d:D)(M:Mem):Out Bool:=match d with
 | .bl b=> .ok b M
 | _=> .bad
def bW(m:ME):MT:=fun e M=>(m e M).bind RZ
theorem Nx{t:TE}{m:ME}{σ:St}{H:Hp}{Q:Bool→Hp→Prop}(hi:∀Q,tG (d8 X.K ct) X.K ct W m σ H Q→t σ H Q)(h:tG Cg X.K ct W (bW m) σ H Q):abl t σ H Q:=by
 refine hi _ ?_
 obtain⟨ι,e,M,w,p⟩:=b_ (fQ:=d8 X.K ct) (f:=fun d _ M=>RZ d M) h
 refine⟨ι,e,M,w,p.mono fun x H1 ⟨dz,e1,M1,d1,w1,q1,p1⟩=> ?_⟩
 cases q1 with
 | bl b=>exact⟨b,rfl,p1 dz b H1 .refl w1.rl rfl⟩
 | _=>exact False.elim p1
theorem cJ{op:CmpOp}{Wr:uM}(h:jZ X ct (compareOp op) Wr)(ha:SE X ct W a ma)(hb:SE X ct W b mb)(hm:behindInMarks op b=false):Wm X ct W (.Compare a [op] [b] pos) (bW (aD Wr ma mb)):=by
 obtain⟨r,ho,hs⟩:=h
 exact PT.imp (Z3 ho ha hb hm) fun σ H Q q=>Nx (fun Q q=>Kw hs q) q
theorem tE{m:ME}(h:SE X ct W a m)(he:∀whole,isTrue a X.env whole=(do let v ←whole;standAt a.pos;holding [v] (truthy v)):=by intro _;rfl):Wm X ct W a (bW m):=
 PT.imp (acG h he) fun σ H Q q=>Nx (fun Q q=>q) q
def mUn(op:D→Mem→Out D)(ma:ME):ME:=fun e M=>(ma e M).bind op
def UnS(X:Cx)(ct:Nat→Addr)(f:Value→Sem Value)(op:D→Mem→Out D):Prop:=∃r,UnR X f r∧∀{w:XW} ι M H d v Q,Rl X.K ct ι M H→DV X.K ct ι M.length H d v→jh (d8 X.K ct) X.K ct w ι M.length H (op d M) Q→r v H Q
theorem abn{op:UnaryOp}{Wr:D→Mem→Out D}(h:UnS X ct (unaryOp op) Wr)(ha:SE X ct W a ma):SE X ct W (.UnaryOp op a pos) (mUn Wr ma):=by
 obtain⟨r,ho,hs⟩:=h
 refine fP (agI ho ha) fun σ H Q q=> ?_
 obtain⟨ι,e,M,w,p⟩:=b_ (fQ:=d8 X.K ct) (f:=fun d _ M=>Wr d M) q
 exact⟨ι,e,M,w,p.mono fun x H1 ⟨dz,e1,M1,d1,w1,q1,p1⟩=>hs dz M1 H1 d1 x Q w1.rl q1 p1⟩
variable{t u:MT}{rest:List Expr}
def VF(t u:MT):MT:=fun e M=>(t e M).bind fun k M1=>if k=true then u e M1 else .ok false M1
def mOr(t u:MT):MT:=fun e M=>(t e M).bind fun k M1=>if k=true then .ok true M1 else u e M1
def O4(t:MT):MT:=fun e M=>(t e M).bind fun k M1=> .ok (!k) M1
theorem FQ(ha:Wm X ct W a t):SW X ct W (.BoolOp .And [a] pos) t:=ZZ ha
theorem GJ(ha:Wm X ct W a t):SW X ct W (.BoolOp .Or [a] pos) t:=acD ha
theorem Ky(ha:Wm X ct W a t)(hb:SW X ct W (.BoolOp .And (b::rest) pos) u):SW X ct W (.BoolOp .And (a::b::rest) pos) (VF t u):=PW.imp (acE ha hb) fun σ H Q q=>by
 obtain⟨ι,e,M,w,p⟩:=b_ (fQ:=Cg) (f:=fun k e M1=>if k=true then u e M1 else .ok false M1) q
 refine⟨ι,e,M,w,p.mono fun k H1 ⟨dz,e1,M1,d1,w1,q1,p1⟩=> ?_⟩
 have Mj:d1=k:=q1;subst Mj
 cases d1 with
 | true=>exact⟨dz,e1,M1,w1,p1⟩
 | false=>exact p1 dz false H1 .refl w1.rl rfl
theorem GK(ha:Wm X ct W a t)(hb:SW X ct W (.BoolOp .Or (b::rest) pos) u):SW X ct W (.BoolOp .Or (a::b::rest) pos) (mOr t u):=PW.imp (af_ ha hb) fun σ H Q q=>by
 obtain⟨ι,e,M,w,p⟩:=b_ (fQ:=Cg) (f:=fun k e M1=>if k=true then .ok true M1 else u e M1) q
 refine⟨ι,e,M,w,p.mono fun k H1 ⟨dz,e1,M1,d1,w1,q1,p1⟩=> ?_⟩
 have Mj:d1=k:=q1;subst Mj
 cases d1 with
 | false=>exact⟨dz,e1,M1,w1,p1⟩
 | true=>exact p1 dz true H1 .refl w1.rl rfl
theorem Dl(ha:Wm X ct W a t):Wm X ct W (.UnaryOp .Not a pos) (O4 t):=PT.imp (acH ha) fun σ H Q q=>by
 obtain⟨ι,e,M,w,p⟩:=b_ (fQ:=Cg) (f:=fun k e M1=> .ok (!k) M1) q
 refine⟨ι,e,M,w,p.mono fun k H1 ⟨dz,e1,M1,d1,w1,q1,p1⟩=> ?_⟩
 have Mj:d1=k:=q1;subst Mj
 exact p1 dz _ H1 .refl w1.rl rfl
def JX(ma mb:ME):ME:=fun e M=>(ma e M).bind fun d M1=>(RZ d M1).bind fun k M2=>if k=true then mb e M2 else .ok (.bl false) M2
def adk(ma mb:ME):ME:=fun e M=>(ma e M).bind fun d M1=>(RZ d M1).bind fun k M2=>if k=true then .ok (.bl true) M2 else mb e M2
def Yg(ma:ME):ME:=fun e M=>(ma e M).bind fun d M1=>(RZ d M1).bind fun k M2=> .ok (.bl (!k)) M2
theorem QW{op}{m:ME}(h:SE X ct W a m):SE X ct W (.BoolOp op [a] pos) m:=acQ h
theorem KD(ha:SE X ct W a ma)(hb:SE X ct W (.BoolOp .And (b::rest) pos) mb):SE X ct W (.BoolOp .And (a::b::rest) pos) (JX ma mb):=fP (acX ha hb) fun σ H Q q=>by
 obtain⟨ι,e,M,w,p⟩:=b_ (fQ:=d8 X.K ct) (f:=fun d e M1=>(RZ d M1).bind fun k M2=>if k=true then mb e M2 else .ok (.bl false) M2) q
 refine⟨ι,e,M,w,p.mono fun x H1 ⟨dz,e1,M1,d1,w1,q1,p1⟩=> ?_⟩
 cases q1 with
 | bl k=>
  refine⟨k,rfl,?_⟩
  simp only[RZ,Out.eZ]at p1
  cases k with
  | true=>exact⟨dz,e1,M1,w1,p1⟩
  | false=>exact p1 dz _ H1 .refl w1.rl (.bl false)
 | _=>exact False.elim p1
theorem afJ(ha:SE X ct W a ma)(hb:SE X ct W (.BoolOp .Or (b::rest) pos) mb):SE X ct W (.BoolOp .Or (a::b::rest) pos) (adk ma mb):=fP (agJ ha hb) fun σ H Q q=>by
 obtain⟨ι,e,M,w,p⟩:=b_ (fQ:=d8 X.K ct) (f:=fun d e M1=>(RZ d M1).bind fun k M2=>if k=true then .ok (.bl true) M2 else mb e M2) q
 refine⟨ι,e,M,w,p.mono fun x H1 ⟨dz,e1,M1,d1,w1,q1,p1⟩=> ?_⟩
 cases q1 with
 | bl k=>
  refine⟨k,rfl,?_⟩
  simp only[RZ,Out.eZ]at p1
  cases k with
  | false=>exact⟨dz,e1,M1,w1,p1⟩
  | true=>exact p1 dz _ H1 .refl w1.rl (.bl true)
 | _=>exact False.elim p1
theorem ach(ha:SE X ct W a ma):SE X ct W (.UnaryOp .Not a pos) (Yg ma):=fP (acR ha) fun σ H Q q=>by
 obtain⟨ι,e,M,w,p⟩:=b_ (fQ:=d8 X.K ct) (f:=fun d _ M1=>(RZ d M1).bind fun k M2=>(Out.ok (D.bl (!k)) M2:Out D)) q
 refine⟨ι,e,M,w,p.mono fun x H1 ⟨dz,e1,M1,d1,w1,q1,p1⟩=> ?_⟩
 cases q1 with
 | bl k=>exact⟨k,rfl,p1 dz _ H1 .refl w1.rl (.bl _)⟩
 | _=>exact False.elim p1
def mIf(t:MT)(ma mb:ME):ME:=fun e M=>(t e M).bind fun k M1=>if k=true then ma e M1 else mb e M1
theorem afK(hc:Wm X ct W c t)(ha:SE X ct W a ma)(hb:SE X ct W b mb):SE X ct W (.IfExp c a b pos) (mIf t ma mb):=fP (XD hc ha hb) fun σ H Q q=>by
 obtain⟨ι,e,M,w,p⟩:=b_ (fQ:=Cg) (f:=fun k e M1=>if k=true then ma e M1 else mb e M1) q
 refine⟨ι,e,M,w,p.mono fun k H1 ⟨dz,e1,M1,d1,w1,q1,p1⟩=> ?_⟩
 have Mj:d1=k:=q1;subst Mj
 cases d1 with
 | true=>exact⟨dz,e1,M1,w1,p1⟩
 | false=>exact⟨dz,e1,M1,w1,p1⟩
variable{es:List Expr}{ms:MA}
def aF:MA:=fun _ M=> .ok [] M
def aq(m:ME)(ms:MA):MA:=fun e M=>(m e M).bind fun d M1=>(ms e M1).bind fun ds M2=> .ok (d::ds) M2
theorem az:SA X ct W [] aF:=PA.imp XR fun σ H Q ⟨ι,e,M,w,p⟩=>p ι [] H .refl w.rl .nil
theorem aj(ha:SE X ct W a ma)(hr:SA X ct W es ms)(hs:starEach (a::es) X.env=(false,eval a X.env)::starEach es X.env:=by rfl):SA X ct W (a::es) (aq ma ms):=PA.imp (TF ha hr hs) fun σ H Q q=>by
 obtain⟨ι,e,M,w,p⟩:=b_ (fQ:=d8 X.K ct) (f:=fun d e M1=>(ms e M1).bind fun ds M2=> .ok (d::ds) M2) q
 refine⟨ι,e,M,w,p.mono fun x H1 ⟨dz,e1,M1,d1,w1,q1,p1⟩=>⟨dz,e1,M1,w1,?_⟩⟩
 cases z:ms e1 M1 with
 | bad=>simp only[z,Out.fD]at p1;exact p1
 | exc xc xd xM=>simp only[z,Out.mR]at p1;exact p1
 | ok ds M2=>
  simp only[z,Out.eZ]at p1
  exact fun jO xs H2 x2 r2 q2=>p1 jO (x::xs) H2 x2 r2 (.cons (q1.mono x2) q2)
def gQ(ms:MA):ME:=fun e M=>(ms e M).bind fun ds M1=>if ds.length≤sizeLine then .ok (.tup ds) M1 else .bad
def qC(ms:MA):ME:=fun e M=>(ms e M).bind fun ds M1=>if ds.length≤sizeLine then .ok (.ref M1.length) (M1++[.lst ds])else .bad
theorem Cj{w:XW}{K:PySem.W.Frag}{ι:Nat→Addr}{M:Mem}{H:Hp}{ds:List D}{xs:List V}{Q:VK}{p:Addr}(R:Rl K ct ι M H)(h:lB K ct ι M.length H ds xs)(hp:H p=none)(q:jh (d8 K ct) K ct w ι M.length H (.ok (.tup ds) M) Q):Q (.ref p) (upd H p (.tup xs)):=
 q ι (.ref p) _ (Ext.fresh hp) (R.fresh hp) (.tup dh (h.mono (Ext.fresh hp)))
theorem oH{w:XW}{K:PySem.W.Frag}{ι:Nat→Addr}{M:Mem}{H:Hp}{ds:List D}{xs:List V}{Q:VK}{p:Addr}(R:Rl K ct ι M H)(h:lB K ct ι M.length H ds xs)(hp:H p=none)(q:jh (d8 K ct) K ct w ι M.length H (.ok (.ref M.length) (M++[.lst ds])) Q):Q (.ref p) (upd H p (.lst xs)):=by
 have el:(M++[MO.lst ds]).length=M.length+1:=by simp
 have x:Ext K ι M.length H (pN ι M.length p) (M.length+1) (upd H p (.lst xs)):=Ext.new hp
 have e:(pN ι M.length p) M.length=p:=by unfold pN;rw[if_pos rfl]
 have dv:DV K ct (pN ι M.length p) (M++[MO.lst ds]).length (upd H p (.lst xs)) (.ref M.length) (.ref p):=by
  have:=DV.ref (K:=K) (ct:=ct) (ι:=pN ι M.length p) (n:=(M++[MO.lst ds]).length) (H:=upd H p (.lst xs)) (i:=M.length) (by rw[el];omega)
  rw[e]at this
  exact this
 exact q (pN ι M.length p) (.ref p) _ (by rw[el];exact x) (R.new hp ⟨xs,dh,h.mono x⟩) dv
theorem bZ{x1}(h:SA X ct W es ms):SE X ct W (.Tuple es x1 pos) (gQ ms):=fP (acO h) fun σ H Q q=>by
 obtain⟨ι,e,M,w,p⟩:=b_ (fQ:=Hq X.K ct) (f:=fun ds _ M1=>if ds.length≤sizeLine then .ok (D.tup ds) M1 else .bad) q
 refine⟨ι,e,M,w,p.mono fun xs H1 ⟨dz,e1,M1,ds,w1,q1,p1⟩=> ?_⟩
 by_cases z:ds.length≤sizeLine
 ·simp only[z,if_true]at p1
  exact⟨by rw[q1.length];exact z,fun pp hp=>Cj w1.rl q1 hp p1⟩
 ·simp only[z,if_false]at p1
  exact p1.elim
theorem gw(h:SA X ct W es ms):SE X ct W (.List es pos) (qC ms):=fP (acT h) fun σ H Q q=>by
 obtain⟨ι,e,M,w,p⟩:=b_ (fQ:=Hq X.K ct) (f:=fun ds _ M1=>if ds.length≤sizeLine then .ok (D.ref M1.length) (M1++[.lst ds])else .bad) q
 refine⟨ι,e,M,w,p.mono fun xs H1 ⟨dz,e1,M1,ds,w1,q1,p1⟩=> ?_⟩
 by_cases z:ds.length≤sizeLine
 ·simp only[z,if_true]at p1
  exact⟨by rw[q1.length];exact z,fun pp hp=>oH w1.rl q1 hp p1⟩
 ·simp only[z,if_false]at p1
  exact p1.elim
def z6(cs:List Nat)(f:Str)(d:D)(M:Mem):Out D:=match d with
 | .ref n=>match M[n]? with
  | some (.ins c fs)=>if c∈cs then(match fs.lookup f with
   | some v=> .ok v M
   | none=> .bad)else .bad
  | _=> .bad
 | _=> .bad
def jR(cs:List Nat)(m:ME)(f:Str):ME:=fun e M=>(m e M).bind (z6 cs f)
def Jf(K:PySem.W.Frag)(ct:Nat→Addr)(f:Str):List Nat→Prop
 | []=>True
 | c::cs=>(Qv K (ct c)∧jT K (ct c) f)∧Jf K ct f cs
theorem Jf.get{K:PySem.W.Frag}{ct:Nat→Addr}{f:Str}:∀{cs:List Nat} {c:Nat},Jf K ct f cs→c∈cs→Qv K (ct c)∧jT K (ct c) f
 | [],_,_,h=>by simp at h
 | c::cs,d,⟨a,r⟩,h=>by
  rcases List.mem_cons.mp h with e | e
  ·subst e;exact a
  ·exact r.get e
theorem nA{K:PySem.W.Frag}{ι:Nat→Addr}{n:Nat}{H:Hp}{i:Nat}{v:V}(h:DV K ct ι n H (.ref i) v):i<n∧v= .ref (ι i):=by cases h with | ref h=>exact⟨h,rfl⟩
theorem cB{cs:List Nat}{f:Str}(hc:Jf X.K ct f cs)(he:SE X ct W a ma)(hb:attributeBase a f X.env (eval a X.env)=eval a X.env:=by rfl):SE X ct W (.Attribute a f pos) (jR cs ma f):=fP (acV he hb) fun σ H Q q=>by
 obtain⟨ι,e,M,w,p⟩:=b_ (fQ:=d8 X.K ct) (f:=fun d _ M1=>z6 cs f d M1) q
 refine⟨ι,e,M,w,p.mono fun x H1 ⟨dz,e1,M1,d1,w1,q1,p1⟩=> ?_⟩
 cases d1 with
 | ref n=>
  obtain⟨hn,rfl⟩:=nA q1
  simp only[z6]at p1
  cases z:M1[n]? with
  | none=>simp only[z]at p1;exact p1.elim
  | some o=>
   cases o with
   | ins c fs=>
    simp only[z]at p1
    by_cases hcs:c∈cs
    ·simp only[hcs,if_true]at p1
     cases z2:fs.lookup f with
     | none=>simp only[z2]at p1;exact p1.elim
     | some d=>
      simp only[z2]at p1
      obtain⟨dx,vs,hH,fv⟩:=w1.rl.obj n _ z
      obtain⟨v,hv,dv⟩:=fv.look z2
      exact⟨_,_,dx,vs,v,rfl,hH,(hc.get hcs).1,(hc.get hcs).2,hv,p1 dz v H1 .refl w1.rl dv⟩
    ·simp only[hcs,if_false]at p1
     exact p1.elim
   | _=>simp only[z]at p1;exact p1.elim
 | _=>exact p1.elim
abbrev Fn:=List D→Mem→Out D
def wE(E:XK):XW:=fun C dx H=>E (.ref C) (some dx) H
theorem jh.wish{α β:Type}{rel:(Nat→Addr)→Mem→Hp→α→β→Prop}{K:PySem.W.Frag}{ct ι:Nat→Addr}{w w':XW}{n:Nat}{H:Hp}{o:Out α}{Q:β→Hp→Prop}(h:jh rel K ct w ι n H o Q)(x:∀C dx H,w C dx H→w' C dx H):jh rel K ct w' ι n H o Q:=by
 cases o with
 | ok a M=>exact h
 | exc c d M=>exact fun jO dx v H2 x2 r q1 q2=>x _ _ _ (h jO dx v H2 x2 r q1 q2)
 | bad=>exact h
theorem jh.toE{α β:Type}{rel:(Nat→Addr)→Mem→Hp→α→β→Prop}{K:PySem.W.Frag}{ct ι:Nat→Addr}{W:bG}{σ:St}{n:Nat}{H:Hp}{o:Out α}{Q:β→Hp→Prop}(h:jh rel K ct (wAt W σ) ι n H o Q):jh rel K ct (wE (EW W σ)) ι n H o Q:=
 h.wish fun C dx _ q=>⟨C,dx,rfl,rfl,q⟩
def spS(K:PySem.W.Frag)(ct:Nat→Addr)(fn:Fn)(ar:Nat):Sp:=fun vs H Q E=>∃ι ds M,ds.length=ar∧Rl K ct ι M H∧lB K ct ι M.length H ds vs∧jh (d8 K ct) K ct (wE E) ι M.length H (fn ds M) Q
inductive Cst:D→V→Value→Prop
 | bl (b:Bool):Cst (.bl b) (.bl b) (.bool b)
 | non:Cst .non .non .none
inductive Dg:List D→List V→List Value→Prop
 | nil:Dg [] [] []
 | cons {d:D} {v:V} {u:Value} {ds:List D} {vs:List V} {us:List Value}:Cst d v u→Dg ds vs us→Dg (d::ds) (v::vs) (u::us)
theorem Cst.dv{K:PySem.W.Frag}{ι:Nat→Addr}{n:Nat}{H:Hp}{d:D}{v:V}{u:Value}(h:Cst d v u):DV K ct ι n H d v:=by
 cases h with
 | bl b=>exact .bl b
 | non=>exact .non
theorem Cst.val{d:D}{v:V}{u:Value}(h:Cst d v u):RelV v u:=by
 cases h with
 | bl b=>exact rfl
 | non=>exact rfl
theorem Dg.dv{K:PySem.W.Frag}{ι:Nat→Addr}{n:Nat}{H:Hp}{ds:List D}{vs:List V}{us:List Value}(h:Dg ds vs us):lB K ct ι n H ds vs:=by
 induction h with
 | nil=>exact .nil
 | cons c _ ih=>exact .cons c.dv ih
theorem Dg.vals{ds:List D}{vs:List V}{us:List Value}(h:Dg ds vs us):Vals vs us:=by
 induction h with
 | nil=>exact .nil
 | cons c _ ih=>exact .cons c.val ih
def aZ(fn:Fn)(ar:Nat)(dv:List D)(ms:MA):ME:=fun e M=>(ms e M).bind fun ds M1=>if(ds++dv).length=ar then fn (ds++dv) M1 else .bad
variable{k:Nat}{f:Addr}{fd:FuncData}{ps:List Str}{fn:Fn}{dv:List D}{zU:List V}{YG:List Value}{x:Str}{p:Pos}
theorem W9{σ:St}{H:Hp}{Q:VK}(hd:Dg dv zU YG)(h:tG (d8 X.K ct) X.K ct W (aZ fn ps.length dv ms) σ H Q):W_ (spS X.K ct fn ps.length) zU W (tG (Hq X.K ct) X.K ct W ms) σ H Q:=by
 obtain⟨ι,e,M,w,p⟩:=b_ (fQ:=Hq X.K ct) (f:=fun ds _ M1=>if(ds++dv).length=ps.length then fn (ds++dv) M1 else .bad) h
 refine⟨ι,e,M,w,p.mono fun vs H1 ⟨dz,e1,M1,ds,w1,q1,p1⟩=> ?_⟩
 by_cases z:(ds++dv).length=ps.length
 ·simp only[z,if_true]at p1
  exact⟨dz,ds++dv,M1,z,w1.rl,q1.append hd.dv,p1.toE⟩
 ·simp only[z,if_false]at p1
  exact p1.elim
theorem aQ{ar:Nat}(F:aX X.prog X.w X.K X.mg X.base (fG X.prog X.w) k f fd ps (spS X.K ct fn ar))(hx:Tk X W)(hr:lQ k X.A)(hg:Gl X x)(hm:X.mg x=some (.ref f))(hk:PySem.W.keepIn X.K (.ref f)=true)(hb:Binds X.K fd ps YG)(hd:Dg dv zU YG)
  (ha:SA X ct W (a::es) ms) (hdb:(x==("__debug__" : Str))=false:=by decide) (he:starEach (a::es) X.env=(false,eval a X.env)::starEach es X.env:=by rfl) (hpl:(backTo pos (starEach es X.env)).any (·.1)=false:=by rfl) (har:ps.length=ar:=by rfl):SE X ct W (.Call (.Name x p) (a::es) [] pos) (aZ fn ar dv ms):=by
 subst har
 exact fP (XM F hr hg hm hk hb hd.vals hx ha hdb he hpl) fun σ H Q q=>W9 hd q
def Ah(k:Nat)(m:Str)(d:D)(M:Mem):Bool:=match d with
 | .ref n=>match M[n]? with
  | some (.ins c fs)=>c==k&&(fs.lookup m).isNone
  | _=>false
 | _=>false
def cu(k:Nat)(m:Str)(fn:Fn)(ar:Nat)(dv:List D)(mo:ME)(ms:MA):ME:=fun e M=>(mo e M).bind fun d M1=>if Ah k m d M1=true then(ms e M1).bind fun ds M2=>if(d::(ds++dv)).length=ar then fn (d::(ds++dv)) M2 else .bad else .bad
theorem Yo{K:PySem.W.Frag}{ι:Nat→Addr}{M:Mem}{H:Hp}{k:Nat}{m:Str}{d:D}{v:V}(R:Rl K ct ι M H)(h:Ah k m d M=true)(q:DV K ct ι M.length H d v):∃a dx fs,v= .ref a∧H a=some (.ins (ct k) dx fs)∧fs.lookup m=none:=by
 cases d with
 | ref n=>
  obtain⟨hn,rfl⟩:=nA q
  unfold Ah at h
  cases z:M[n]? with
  | none=>simp only[z]at h;cases h
  | some o=>
   cases o with
   | ins c fs=>
    simp only[z,Bool.and_eq_true,beq_iff_eq,Option.isNone_iff_eq_none]at h
    obtain⟨rfl,hl⟩:=h
    obtain⟨dx,vs,hH,fv⟩:=R.obj n _ z
    exact⟨_,dx,vs,rfl,hH,fv.abx hl⟩
   | _=>simp only[z]at h;cases h
 | _=>exact absurd h Bool.false_ne_true
theorem Ny{kc:Nat}{m:Str}{mo:ME}{σ:St}{H:Hp}{Q:VK}(hd:Dg dv zU YG)(h:tG (d8 X.K ct) X.K ct W (cu kc m fn ps.length dv mo ms) σ H Q):
  QT (ct kc) m (spS X.K ct fn ps.length) zU W (tG (d8 X.K ct) X.K ct W mo) (tG (Hq X.K ct) X.K ct W ms) σ H Q:=by
 obtain⟨ι,e,M,w,p⟩:=b_ (fQ:=d8 X.K ct) (f:=fun d e M1=>if Ah kc m d M1=true then(ms e M1).bind fun ds M2=>if(d::(ds++dv)).length=ps.length then fn (d::(ds++dv)) M2 else .bad else .bad) h
 refine⟨ι,e,M,w,p.mono fun v H1 ⟨dz,e1,M1,d,w1,q1,p1⟩=> ?_⟩
 cases z:Ah kc m d M1 with
 | false=>simp only[z,Bool.false_eq_true,if_false]at p1;exact p1.elim
 | true=>
  simp only[z,if_true]at p1
  obtain⟨a,dx,fs,rfl,hH,hl⟩:=Yo w1.rl z q1
  refine⟨a,dx,fs,rfl,hH,hl,dz,e1,M1,w1,?_⟩
  cases z2:ms e1 M1 with
  | bad=>simp only[z2,Out.fD]at p1;exact p1
  | exc xc xd xM=>simp only[z2,Out.mR]at p1;exact p1
  | ok ds M2=>
   simp only[z2,Out.eZ]at p1
   intro jO vs H2 x2 r2 q2
   by_cases z3:(d::(ds++dv)).length=ps.length
   ·rw[if_pos z3]at p1
    exact⟨jO,_,M2,z3,r2,.cons (q1.mono x2) (q2.append hd.dv),(p1.ext x2).toE⟩
   ·rw[if_neg z3]at p1
    exact p1.elim
variable{o:Expr}{mo:ME}{kc:Nat}{m:Str}{apos:Pos}
theorem bR{ar:Nat}{pl:Sem Bool}(he:SE X ct W o mo)(c:Qv X.K (ct kc))(hm:Meth X.K (ct kc) m f)(F:aX X.prog X.w X.K X.mg X.base (fG X.prog X.w) k f fd ps (spS X.K ct fn ar))(hx:Tk X W)(hr:lQ k X.A)(hb:Binds X.K fd ps YG)(hd:Dg dv zU YG)(ha:SA X ct W (a::es) ms)
  (hst:starEach (a::es) X.env=(false,eval a X.env)::starEach es X.env:=by rfl) (hpl:(backTo pos (starEach es X.env)).any (·.1)=false:=by rfl)
  (ht:eval (.Call (.Attribute o m apos) (a::es) [] pos) X.env=(do
   let ov ←eval o X.env
   standAt apos.atName
   let(f,first) ←holding [ov] (getMethod ov m pl)
   callWith pos f first (backTo pos (starEach (a::es) X.env)) (backToKw pos (keywordEach [] X.env))):=by rfl) (har:ps.length=ar:=by rfl):SE X ct W (.Call (.Attribute o m apos) (a::es) [] pos) (cu kc m fn ar dv mo ms):=by
 subst har
 exact fP (Xz he c hm F hr hb hd.vals hx ha hst hpl ht) fun σ H Q q=>Ny hd q
theorem jc{ar:Nat}{pl:Sem Bool}(he:SE X ct W o mo)(c:Qv X.K (ct kc))(hm:Meth X.K (ct kc) m f)(F:aX X.prog X.w X.K X.mg X.base (fG X.prog X.w) k f fd ps (spS X.K ct fn ar))(hx:Tk X W)(hr:lQ k X.A)(hb:Binds X.K fd ps YG)(hd:Dg dv zU YG)
  (ht:eval (.Call (.Attribute o m apos) [] [] pos) X.env=(do
   let ov ←eval o X.env
   standAt apos.atName
   let(f,first) ←holding [ov] (getMethod ov m pl)
   callWith pos f first (backTo pos (starEach [] X.env)) (backToKw pos (keywordEach [] X.env))):=by rfl) (har:ps.length=ar:=by rfl):SE X ct W (.Call (.Attribute o m apos) [] [] pos) (cu kc m fn ar dv mo aF):=by
 subst har
 exact fP (Vp he c hm F hr hb hd.vals hx ht) fun σ H Q q=>by
  obtain⟨ι,e,M,w,p⟩:=Ny hd q
  refine⟨ι,e,M,w,p.mono fun v H1 ⟨a,dx,fs,e1,e2,e3,dz,e4,M1,w1,p1⟩=>⟨a,dx,fs,e1,e2,e3,p1 dz [] H1 .refl w1.rl .nil⟩⟩
def Pq(d:D):Bool:=match d with
 | .non=>true
 | _=>false
def Cy(kc:Nat)(fn:Fn)(ar:Nat)(dv:List D)(ms:MA):ME:=fun e M=>(ms e M).bind fun ds M1=>if(D.ref M1.length::(ds++dv)).length=ar then(fn (.ref M1.length::(ds++dv)) (M1++[.ins kc []])).bind fun r M2=>if Pq r=true then .ok (.ref M1.length) M2 else .bad else .bad
theorem W5{σ:St}{H:Hp}{Q:VK}(hd:Dg dv zU YG)(h:tG (d8 X.K ct) X.K ct W (Cy kc fn ps.length dv ms) σ H Q):W6 (ct kc) (spS X.K ct fn ps.length) zU W (tG (Hq X.K ct) X.K ct W ms) σ H Q:=by
 obtain⟨ι,e,M,w,p⟩:=b_ (fQ:=Hq X.K ct) (f:=fun ds _ M1=>if(D.ref M1.length::(ds++dv)).length=ps.length then(fn (D.ref M1.length::(ds++dv)) (M1++[.ins kc []])).bind fun r M2=>if Pq r=true then .ok (D.ref M1.length) M2 else .bad else .bad) h
 refine⟨ι,e,M,w,p.mono fun vs H1 ⟨dz,e1,M1,ds,w1,q1,p1⟩=> ?_⟩
 intro a dx ha hdx ne
 dsimp only at p1
 by_cases z:(D.ref M1.length::(ds++dv)).length=ps.length
 ·rw[if_pos z]at p1
  have ha':upd H1 dx (.own a) a=none:=by rw[bh (Ne.symm ne)];exact ha
  have el:(M1++[MO.ins kc []]).length=M1.length+1:=by simp
  have x1:Ext X.K dz M1.length H1 dz M1.length (upd H1 dx (.own a)):=Ext.fresh hdx
  have r1:Rl X.K ct dz M1 (upd H1 dx (.own a)):=w1.rl.fresh hdx
  have x2:Ext X.K dz M1.length (upd H1 dx (.own a)) (pN dz M1.length a) (M1.length+1) (upd (upd H1 dx (.own a)) a (.ins (ct kc) dx [])):=Ext.new ha'
  have r2:Rl X.K ct (pN dz M1.length a) (M1++[MO.ins kc []]) (upd (upd H1 dx (.own a)) a (.ins (ct kc) dx [])):=r1.new ha' ⟨dx,[],dh,.nil⟩
  have e0:(pN dz M1.length a) M1.length=a:=by unfold pN;rw[if_pos rfl]
  have dv0:DV X.K ct (pN dz M1.length a) (M1++[MO.ins kc []]).length (upd (upd H1 dx (.own a)) a (.ins (ct kc) dx [])) (.ref M1.length) (.ref a):=by
   have:=DV.ref (K:=X.K) (ct:=ct) (ι:=pN dz M1.length a) (n:=(M1++[MO.ins kc []]).length) (H:=upd (upd H1 dx (.own a)) a (.ins (ct kc) dx [])) (i:=M1.length) (by rw[el];omega)
   rw[e0]at this
   exact this
  refine⟨pN dz M1.length a,_,M1++[.ins kc []],z,r2,.cons dv0 ?_,?_⟩
  ·rw[el];exact(q1.append hd.dv).mono (x1.trans x2)
  ·cases z2:fn (.ref M1.length::(ds++dv)) (M1++[.ins kc []])with
   | bad=>rw[z2]at p1;exact p1
   | exc xc xd xM=>
    rw[z2]at p1
    simp only[Out.mR]at p1
    have p2:=(p1.ext (x1.trans x2)).toE
    rw[el]
    exact fun An dx3 v3 H3 x3 r3 q3 q4=>p2 An dx3 v3 H3 x3 r3 q3 q4
   | ok r M2=>
    rw[z2]at p1
    simp only[Out.eZ]at p1
    intro An v3 H3 x3 r3 q3
    cases q3 with
    | non=>
     refine⟨rfl,?_⟩
     simp only[Pq,if_true]at p1
     refine p1 An (.ref a) H3 ((x1.trans x2).trans (by rw[el]at x3;exact x3)) r3 (dv0.mono x3)
    | _=>exact False.elim p1
 ·rw[if_neg z]at p1
  exact p1.elim
theorem zK{ar:Nat}(Mk0:Mk X.K (ct kc) f)(F:aX X.prog X.w X.K X.mg X.base (fG X.prog X.w) k f fd ps (spS X.K ct fn ar))(hx:Tk X W)(hr:lQ (k+1) X.A)(hg:Gl X x)(hm:X.mg x=some (.ref (ct kc)))(hb:Binds X.K fd ps YG)(hd:Dg dv zU YG)
  (ha:SA X ct W (a::es) ms) (hdb:(x==("__debug__" : Str))=false:=by decide) (he:starEach (a::es) X.env=(false,eval a X.env)::starEach es X.env:=by rfl) (hpl:(backTo pos (starEach es X.env)).any (·.1)=false:=by rfl) (har:ps.length=ar:=by rfl):SE X ct W (.Call (.Name x p) (a::es) [] pos) (Cy kc fn ar dv ms):=by
 subst har
 exact fP (XC Mk0 F hr hg hm hb hd.vals hx ha hdb he hpl) fun σ H Q q=>W5 hd q
abbrev Kg:=List D→Mem→Out D
def yq(op:Kg)(ms:MA):ME:=fun e M=>(ms e M).bind op
def qZ(X:Cx)(ct:Nat→Addr)(f:Value)(op:Kg):Prop:=∃r,mV X f r∧∀{w:XW} ι M H ds vs Q,Rl X.K ct ι M H→lB X.K ct ι M.length H ds vs→jh (d8 X.K ct) X.K ct w ι M.length H (op ds M) Q→r vs H Q
variable{id T:String}{op:Kg}
theorem Xa{r:List V→Hp→VK→Prop}{σ:St}{H:Hp}{Q:VK}(hs:∀{w:XW} ι M H ds vs Q,Rl X.K ct ι M H→lB X.K ct ι M.length H ds vs→jh (d8 X.K ct) X.K ct w ι M.length H (op ds M) Q→r vs H Q)
  (h:tG (d8 X.K ct) X.K ct W (yq op ms) σ H Q):tCB r (tG (Hq X.K ct) X.K ct W ms) σ H Q:=by
 obtain⟨ι,e,M,w,p⟩:=b_ (fQ:=Hq X.K ct) (f:=fun ds _ M1=>op ds M1) h
 exact⟨ι,e,M,w,p.mono fun vs H1 ⟨dz,e1,M1,ds,w1,q1,p1⟩=>hs dz M1 H1 ds vs Q w1.rl q1 p1⟩
theorem d7(h:qZ X ct (.builtin id) op)(hg:Gl X x)(hm:X.mg x=none)(hv:bootBuiltins x=some (.builtin id))(ha:SA X ct W (a::es) ms)(hn:x≠ "__name__" := by decide)(hdb:(x==("__debug__" : Str))=false:=by decide)
  (he:starEach (a::es) X.env=(false,eval a X.env)::starEach es X.env:=by rfl) (hpl:(backTo pos (starEach es X.env)).any (·.1)=false:=by rfl):SE X ct W (.Call (.Name x p) (a::es) [] pos) (yq op ms):=by
 obtain⟨r,hr,hs⟩:=h
 exact fP (Om hr hg hm hv ha hn hdb he hpl) fun σ H Q q=>Xa hs q
theorem jd(h:qZ X ct (.type T) op)(hg:Gl X x)(hm:X.mg x=none)(hv:bootBuiltins x=some (.type T))(ha:SA X ct W (a::es) ms)(hn:x≠ "__name__" := by decide)(hdb:(x==("__debug__" : Str))=false:=by decide)
  (he:starEach (a::es) X.env=(false,eval a X.env)::starEach es X.env:=by rfl) (hpl:(backTo pos (starEach es X.env)).any (·.1)=false:=by rfl):SE X ct W (.Call (.Name x p) (a::es) [] pos) (yq op ms):=by
 obtain⟨r,hr,hs⟩:=h
 exact fP (Vq hr hg hm hv ha hn hdb he hpl) fun σ H Q q=>Xa hs q
end
end S
namespace S
open PySem PySem.Spec PyProof.Rows L2
section
variable{X:Cx}{ct:Nat→Addr}{W:bG}
theorem vI{K:PySem.W.Frag}{ι:Nat→Addr}{n:Nat}{H:Hp}{i:Int}{v:V}(h:DV K ct ι n H (.int i) v):v= .int i:=by cases h;rfl
theorem jA{K:PySem.W.Frag}{ι:Nat→Addr}{n:Nat}{H:Hp}{i:Str}{v:V}(h:DV K ct ι n H (.str i) v):v= .str i:=by cases h;rfl
theorem RT{K:PySem.W.Frag}{ι:Nat→Addr}{n:Nat}{H:Hp}{ds:List D}{v:V}(h:DV K ct ι n H (.tup ds) v):∃a xs,v= .ref a∧vK K H a xs∧lB K ct ι n H ds xs:=by cases h with | tup a b=>exact⟨_,_,rfl,vK.of a,b⟩
theorem oX{K:PySem.W.Frag}{ι:Nat→Addr}{n:Nat}{H:Hp}{ds:List D}{v:V}(h:DV K ct ι n H (.tup ds) v):∃a xs,v= .ref a∧H a=some (.tup xs)∧lB K ct ι n H ds xs:=by cases h with | tup a b=>exact⟨_,_,rfl,a,b⟩
def qD(M:Mem)(n:Nat):Option (List D):=match M[n]? with
 | some (.lst ds)=>some ds
 | _=>none
theorem cN{M:Mem}{n:Nat}{ds:List D}(h:M[n]? = some (.lst ds)):qD M n=some ds:=by unfold qD;rw[h]
theorem pM{M:Mem}{n:Nat}{ds:List D}:qD M n=some ds↔M[n]? = some (.lst ds):=by
 refine⟨fun h=> ?_,cN⟩
 unfold qD at h
 split at h
 ·rename_i e;cases h;exact e
 ·cases h
def Ar(M:Mem)(d:D):Option (List D):=match d with
 | .ref n=>qD M n
 | .cl ds=>some ds
 | _=>none
theorem Rl.seq{K:PySem.W.Frag}{ι:Nat→Addr}{M:Mem}{H:Hp}(R:Rl K ct ι M H){d:D}{v:V}{ds:List D}(h:Ar M d=some ds)(q:DV K ct ι M.length H d v):∃a xs,v= .ref a∧yt K H a xs∧lB K ct ι M.length H ds xs:=by
 cases q with
 | @ref i hi=>obtain⟨vs,q,r⟩:=R.obj i _ (pM.mp h);exact⟨_,vs,rfl,yt.of q,r⟩
 | cl h1 h2=>cases h;exact⟨_,_,rfl,h1.sq,h2⟩
 | _=>cases h
def Qw(C:Int→Int→Bool)(g:Int→Int→D):uM:=fun d e M=>match d,e with
 | .int i,.int j=>if C i j=true then .ok (g i j) M else .bad
 | _,_=> .bad
theorem TQ{C:Int→Int→Bool}{P:Int→Int→Prop}{g:Int→Int→D}{gv:Int→Int→V}(hP:∀i j,C i j=true→P i j)(hg:∀(K:PySem.W.Frag) ι n H i j,DV K ct ι n H (g i j) (gv i j)):Qy X.K ct (Qw C g) (rI P gv):=by
 intro w ι M H d d' v v' Q R h h' p
 cases d with
 | int i=>
  cases d' with
  | int j=>
   cases vI h
   cases vI h'
   simp only[Qw]at p
   cases z:C i j with
   | false=>simp only[z,Bool.false_eq_true,if_false]at p;exact p.elim
   | true=>
    simp only[z,if_true]at p
    exact⟨i,j,rfl,rfl,hP i j z,p ι _ H .refl R (hg _ _ _ _ _ _)⟩
  | _=>exact p.elim
 | _=>cases d'<;>exact p.elim
def C1:Int→Int→Bool:=fun _ _=>true
theorem acC{g:Int→Int→V}{x y:V}{H:Hp}{Q:VK}(h:rI (fun _ _=>True) g x y H Q):Za g x y H Q:=let⟨i,j,a,b,_,q⟩:=h;⟨i,j,a,b,q⟩
theorem Qy.imp{K:PySem.W.Frag}{op:uM}{r r':R2}(h:Qy K ct op r)(i:∀x y H Q,r x y H Q→r' x y H Q):Qy K ct op r':=fun ι M H d d' v v' Q R a b p=>i _ _ _ _ (h ι M H d d' v v' Q R a b p)
theorem wM{f:Value→Value→Sem Value}{g:Int→Int→D}{gv:Int→Int→V}(h:yu X f (Za gv))(hg:∀(K:PySem.W.Frag) ι n H i j,DV K ct ι n H (g i j) (gv i j)):jZ X ct f (Qw C1 g):=
 ⟨_,h,Qy.imp (TQ (P:=fun _ _=>True) (fun _ _ _=>trivial) hg) fun _ _ _ _ q=>acC q⟩
theorem De{f:Value→Value→Sem Value}{C:Int→Int→Bool}{P:Int→Int→Prop}{g:Int→Int→D}{gv:Int→Int→V}(h:yu X f (rI P gv))(hP:∀i j,C i j=true→P i j)(hg:∀(K:PySem.W.Frag) ι n H i j,DV K ct ι n H (g i j) (gv i j)):jZ X ct f (Qw C g):=
 ⟨_,h,TQ hP hg⟩
def ym(a b:uM):uM:=fun d e M=>match a d e M with
 | .bad=>b d e M
 | o=>o
theorem Qy.or{K:PySem.W.Frag}{a b:uM}{r r':R2}(ha:Qy K ct a r)(hb:Qy K ct b r'):Qy K ct (ym a b) (fun x y H Q=>r x y H Q∨r' x y H Q):=by
 intro w ι M H d d' v v' Q R q q' p
 unfold ym at p
 cases z:a d d' M with
 | ok x M1=>rw[z]at p;exact .inl (ha ι M H d d' v v' Q R q q' (by rw[z];exact p))
 | exc xc xd xM=>rw[z]at p;exact .inl (ha ι M H d d' v v' Q R q q' (by rw[z];exact p))
 | bad=>rw[z]at p;exact .inr (hb ι M H d d' v v' Q R q q' p)
theorem mZ{a b:uM}{d e x:D}{M M':Mem}(h:a d e M= .ok x M'):ym a b d e M= .ok x M':=by unfold ym;rw[h]
theorem oK{a b:uM}{d e:D}{M:Mem}(h:a d e M= .bad):ym a b d e M=b d e M:=by unfold ym;rw[h]
theorem jZ.or{f:Value→Value→Sem Value}{a b:uM}(ha:jZ X ct f a)(hb:jZ X ct f b):jZ X ct f (ym a b):=by
 obtain⟨r,h,hs⟩:=ha
 obtain⟨r',h',hs'⟩:=hb
 refine⟨_,h.or h',fun ι M H d d' v v' Q R q q' p=> ?_⟩
 unfold ym at p
 cases z:a d d' M with
 | ok x M1=>rw[z]at p;exact .inl (hs ι M H d d' v v' Q R q q' (by rw[z];exact p))
 | exc xc xd xM=>rw[z]at p;exact .inl (hs ι M H d d' v v' Q R q q' (by rw[z];exact p))
 | bad=>rw[z]at p;exact .inr (hs' ι M H d d' v v' Q R q q' p)
def aeL(i j:Int):Bool:=decide ((-(2 ^ 64)<i∧i<2 ^ 64)∨(-(2 ^ 64)<j∧j<2 ^ 64))
def aeM(_ j:Int):Bool:=decide (0<j∧j<1073741824)
def ajT(_ j:Int):Bool:=decide (0<j)
def YX(i j:Int):Bool:=decide (0≤j∧j≤1000000∧i.natAbs<2 ^ 64)
def abo:uM:=Qw C1 fun i j=> .int (i+j)
def KQ:uM:=Qw C1 fun i j=> .int (i - j)
def Xf:uM:=Qw aeL fun i j=> .int (i*j)
def Dw:uM:=Qw aeM fun i j=> .int (i / j)
def iQ:uM:=Qw ajT fun i j=> .int (i % j)
def BZ:uM:=Qw YX fun i j=> .int (i ^ j.toNat)
def ZG:uM:=Qw YX fun i j=> .int (i*2 ^ j.toNat)
def afP:uM:=Qw C1 fun i j=> .bl (decide (i<j))
def Xh:uM:=Qw C1 fun i j=> .bl (decide (i≤j))
def Vi:uM:=Qw C1 fun i j=> .bl (decide (j<i))
def acw:uM:=Qw C1 fun i j=> .bl (decide (j≤i))
theorem aba:jZ X ct (binaryOp .Add) abo:=wM ade fun _ _ _ _ _ _=> .int _
theorem Bm:jZ X ct (binaryOp .Sub) KQ:=wM ac2 fun _ _ _ _ _ _=> .int _
theorem aa8:jZ X ct (binaryOp .Mult) Xf:=De ac6 (fun i j h=>by unfold aeL at h;exact(decide_eq_true_eq.mp h :)) fun _ _ _ _ _ _=> .int _
theorem zz:jZ X ct (binaryOp .FloorDiv) Dw:=De aai (fun i j h=>by unfold aeM at h;exact(decide_eq_true_eq.mp h :)) fun _ _ _ _ _ _=> .int _
theorem cR:jZ X ct (binaryOp .Mod) iQ:=De ac7 (fun _ _ h=>of_decide_eq_true h) fun _ _ _ _ _ _=> .int _
theorem Eh:jZ X ct (binaryOp .Pow) BZ:=De ac4 (fun i j h=>by unfold YX at h;exact(decide_eq_true_eq.mp h :)) fun _ _ _ _ _ _=> .int _
theorem YQ:jZ X ct (binaryOp .LShift) ZG:=De ac3 (fun i j h=>by unfold YX at h;exact(decide_eq_true_eq.mp h :)) fun _ _ _ _ _ _=> .int _
theorem ajR:jZ X ct (compareOp .Lt) afP:=wM agO fun _ _ _ _ _ _=> .bl _
theorem YT:jZ X ct (compareOp .LtE) Xh:=wM agP fun _ _ _ _ _ _=> .bl _
theorem Uu:jZ X ct (compareOp .Gt) Vi:=wM agQ fun _ _ _ _ _ _=> .bl _
theorem ajS:jZ X ct (compareOp .GtE) acw:=wM agR fun _ _ _ _ _ _=> .bl _
def ZP:uM:=fun d e M=>match d,e with
 | .ref n,.ref m=>match M[n]?,M[m]? with
  | some (.lst xs),some (.lst ys)=>if xs.length+ys.length≤sizeLine then .ok (.ref M.length) (M++[.lst (xs++ys)])else .bad
  | _,_=> .bad
 | _,_=> .bad
theorem aeJ:jZ X ct (binaryOp .Add) ZP:=by
 refine⟨_,adb,fun ι M H d d' v v' Q R h h' p=> ?_⟩
 cases d with
 | ref n=>
  cases d' with
  | ref m=>
   obtain⟨_,rfl⟩:=nA h
   obtain⟨_,rfl⟩:=nA h'
   simp only[ZP]at p
   split at p
   ·rename_i xs ys e1 e2
    split at p
    ·rename_i hz
     obtain⟨vs,q,r⟩:=R.obj n _ e1
     obtain⟨vs',q',r'⟩:=R.obj m _ e2
     exact⟨_,_,vs,vs',rfl,rfl,q,q',by rw[r.length,r'.length];exact hz,fun pp hp=>oH R (r.append r') hp p⟩
    ·exact p.elim
   ·exact p.elim
  | _=>exact p.elim
 | _=>cases d'<;>exact p.elim
def Tj:uM:=fun d e M=>match d,e with
 | .str a,.str b=>if a.length+b.length≤sizeLine then .ok (.str (a++b)) M else .bad
 | _,_=> .bad
theorem aa_:jZ X ct (binaryOp .Add) Tj:=by
 refine⟨_,Rc,fun ι M H d d' v v' Q R h h' p=> ?_⟩
 unfold Tj at p
 split at p
 ·cases jA h
  cases jA h'
  split at p
  ·rename_i hz
   exact⟨_,_,rfl,rfl,hz,p ι _ H .refl R (.str _)⟩
  ·exact p.elim
 ·exact p.elim
def Te:uM:=fun d e M=>match d,e with
 | .str a,.int n=>if a.length≤1000∧ -(2 ^ 62)<n∧n≤1000 then .ok (.str (PySem.Txt.mul a n)) M else .bad
 | _,_=> .bad
theorem aa7:jZ X ct (binaryOp .Mult) Te:=by
 refine⟨_,Rb,fun ι M H d d' v v' Q R h h' p=> ?_⟩
 unfold Te at p
 split at p
 ·cases jA h
  cases vI h'
  split at p
  ·rename_i hz
   exact⟨_,_,rfl,rfl,mulOk_of hz.1 hz.2.1 hz.2.2,p ι _ H .refl R (.str _)⟩
  ·exact p.elim
 ·exact p.elim
def Hf:uM:=ym Xf Te
theorem MF:jZ X ct (binaryOp .Mult) Hf:=aa8.or aa7
def Ti:uM:=fun d e M=>match d,e with
 | .tup xs,.tup ys=>if xs.isEmpty=false∧xs.length+ys.length≤sizeLine then .ok (.tup (xs++ys)) M else .bad
 | _,_=> .bad
theorem aa9:jZ X ct (binaryOp .Add) Ti:=by
 refine⟨_,aaj,fun ι M H d d' v v' Q R h h' p=> ?_⟩
 unfold Ti at p
 split at p
 ·rename_i xs ys
  obtain⟨a,vs,rfl,ha,hd⟩:=oX h
  obtain⟨b,us,rfl,hb,hd'⟩:=oX h'
  split at p
  ·rename_i hz
   have l1:=hd.length
   have l2:=hd'.length
   refine⟨a,b,vs,us,rfl,rfl,vK.of ha,vK.of hb,fun z=> ?_,by omega,fun z=> ?_,fun _ pp hp=>Cj R (hd.append hd') hp p⟩
   ·rw[z]at l1
    have:=hz.1
    cases xs with
    | nil=>cases this
    | cons _ _=>simp at l1
   ·subst z
    have e:ys=[]:=List.length_eq_zero_iff.mp l2.symm
    subst e
    rw[List.append_nil]at p
    exact p ι _ H .refl R (.tup ha hd)
  ·exact p.elim
 ·exact p.elim
def dj:uM:=ym (ym abo ZP) (ym Tj Ti)
theorem cF:jZ X ct (binaryOp .Add) dj:=(aba.or aeJ).or (aa_.or aa9)
def aco:uM:=fun d e M=>match d,e with
 | .str a,.str b=> .ok (.bl (decide (a.cps.toList<b.cps.toList))) M
 | _,_=> .bad
theorem aeF:jZ X ct (compareOp .Lt) aco:=by
 refine⟨_,Vs,fun ι M H d d' v v' Q R h h' p=> ?_⟩
 unfold aco at p
 split at p
 ·cases jA h
  cases jA h'
  exact⟨_,_,rfl,rfl,p ι _ H .refl R (.bl _)⟩
 ·exact p.elim
def m9:List D→Option (List Int)
 | []=>some []
 | .int i::r=>(m9 r).map (i:: ·)
 | _=>none
theorem sV{K:PySem.W.Frag}{ι:Nat→Addr}{n:Nat}{H:Hp}:∀{ds:List D} {is:List Int} {vs:List V},m9 ds=some is→lB K ct ι n H ds vs→vs=is.map V.int
 | [],_,_,h,.nil=>by cases h;rfl
 | d::r,is,_,h,.cons q qs=>by
  cases q with
  | int i=>
   simp only[m9]at h
   obtain⟨js,h1,rfl⟩:=Option.map_eq_some_iff.mp h
   rw[sV h1 qs]
   rfl
  | _=>simp only[m9]at h;cases h
def acn:uM:=fun d e M=>match d,e with
 | .tup xs,.tup ys=>match m9 xs,m9 ys with
  | some is,some js=> .ok (.bl (HT.lexLt is js)) M
  | _,_=> .bad
 | _,_=> .bad
theorem aeE(hu:X.A.units+64<cLine):jZ X ct (compareOp .Lt) acn:=by
 refine⟨_,ac8 (by omega),fun ι M H d d' v v' Q R h h' p=> ?_⟩
 unfold acn at p
 split at p
 ·obtain⟨a,vs,rfl,ha,hd⟩:=oX h
  obtain⟨b,us,rfl,hb,hd'⟩:=oX h'
  split at p
  ·rename_i is js e1 e2
   have x1:=sV e1 hd
   have x2:=sV e2 hd'
   subst x1 x2
   exact⟨a,b,is,js,rfl,rfl,vK.of ha,vK.of hb,p ι _ H .refl R (.bl _)⟩
  ·exact p.elim
 ·exact p.elim
def sLt:uM:=ym (ym afP aco) acn
theorem RX(hu:X.A.units+64<cLine):jZ X ct (compareOp .Lt) sLt:=(ajR.or aeF).or (aeE hu)
def ZJ:D→Mem→Out D:=fun d M=>match d with
 | .int i=> .ok (.int (-i)) M
 | _=> .bad
theorem WR:UnS X ct (unaryOp .USub) ZJ:=⟨_,abW,fun ι M H d v Q R h p=>by
 cases d with
 | int i=>cases vI h;exact⟨i,rfl,p ι _ H .refl R (.int _)⟩
 | _=>exact p.elim⟩
def vV(f:D→Option Dt):List D→Option (List Dt)
 | []=>some []
 | d::ds=>match f d,vV f ds with
  | some t,some ts=>some (t::ts)
  | _,_=>none
def jY(M:Mem):Nat→D→Option Dt
 | 0,_=>none
 | k+1,d=>match d with
  | .non=>some .non
  | .bl b=>some (.bl b)
  | .int i=>some (.int i)
  | .str x=>some (.str x)
  | .tup ds=>(vV (jY M k) ds).map .tup
  | .ref n=>match qD M n with
   | some ds=>(vV (jY M k) ds).map .lst
   | none=>none
  | .cl ds=>(vV (jY M k) ds).map .lst
  | .ty _=>none
  | .cls _=>none
  | .exc _ _=>none
theorem Gg{K:PySem.W.Frag}{ι:Nat→Addr}{n:Nat}{H:Hp}{k:Nat}{f:D→Option Dt}(hf:∀d t v,f d=some t→DV K ct ι n H d v→Is K H v t∧dep t≤k):
  ∀{ds:List D} {ts:List Dt} {vs:List V},vV f ds=some ts→lB K ct ι n H ds vs→QB K H vs ts∧deps ts≤k
 | [],ts,_,h,.nil=>by cases h;exact⟨.nil,by unfold deps;exact Nat.zero_le _⟩
 | d::ds,ts,_,h,.cons q qs=>by
  simp only[vV]at h
  cases z:f d with
  | none=>rw[z]at h;cases h
  | some t=>
   cases z2:vV f ds with
   | none=>rw[z,z2]at h;cases h
   | some ts'=>
    rw[z,z2]at h
    cases h
    obtain⟨a,b⟩:=hf d t _ z q
    obtain⟨a',b'⟩:=Gg hf z2 qs
    exact⟨.cons a a',by unfold deps;exact Nat.max_le.mpr ⟨b,b'⟩⟩
theorem BJ{K:PySem.W.Frag}{ι:Nat→Addr}{M:Mem}{H:Hp}(R:Rl K ct ι M H):∀(k:Nat) (d:D) (t:Dt) (v:V),jY M k d=some t→DV K ct ι M.length H d v→Is K H v t∧dep t≤k
 | 0,d,t,v,h,_=>by simp only[jY]at h;cases h
 | k+1,d,t,v,h,q=>by
  cases q with
  | non=>simp only[jY]at h;cases h;exact⟨.non,by unfold dep;exact Nat.zero_le _⟩
  | bl b=>simp only[jY]at h;cases h;exact⟨.bl b,by unfold dep;exact Nat.zero_le _⟩
  | int b=>simp only[jY]at h;cases h;exact⟨.int b,by unfold dep;exact Nat.zero_le _⟩
  | str b=>simp only[jY]at h;cases h;exact⟨.str b,by unfold dep;exact Nat.zero_le _⟩
  | ty b=>simp only[jY]at h;cases h
  | cls b=>simp only[jY]at h;cases h
  | exc _ _ _=>simp only[jY]at h;cases h
  | @tup a xs ds hs hd=>
   simp only[jY]at h
   cases z:vV (jY M k) ds with
   | none=>rw[z]at h;cases h
   | some ts=>
    rw[z]at h
    cases h
    obtain⟨a,b⟩:=Gg (fun d t v=>BJ R k d t v) z hd
    exact⟨.tup (vK.of hs) a,by unfold dep;omega⟩
  | @ref i hi=>
   simp only[jY]at h
   cases z0:qD M i with
   | none=>rw[z0]at h;cases h
   | some ds=>
    rw[z0]at h
    obtain⟨xs,hs,hd⟩:=R.obj i _ (pM.mp z0)
    cases z:vV (jY M k) ds with
    | none=>simp only[z]at h;cases h
    | some ts=>
     simp only[z]at h
     cases h
     obtain⟨a,b⟩:=Gg (fun d t v=>BJ R k d t v) z hd
     exact⟨.lst (yt.of hs) a,by unfold dep;omega⟩
  | @cl a xs ds hs hd=>
   simp only[jY]at h
   cases z:vV (jY M k) ds with
   | none=>rw[z]at h;cases h
   | some ts=>
    rw[z]at h
    cases h
    obtain⟨a,b⟩:=Gg (fun d t v=>BJ R k d t v) z hd
    exact⟨.lst hs.sq a,by unfold dep;omega⟩
def Qx(M:Mem)(d e:D):Option Bool:=match jY M 12 d,jY M 12 e with
 | some a,some b=>some (cz a b)
 | _,_=>none
def sEq:uM:=fun d e M=>match Qx M d e with
 | some b=> .ok (.bl b) M
 | none=> .bad
def sNe:uM:=fun d e M=>match Qx M d e with
 | some b=> .ok (.bl (!b)) M
 | none=> .bad
theorem YB{K:PySem.W.Frag}{ι:Nat→Addr}{M:Mem}{H:Hp}{d e:D}{v u:V}{b:Bool}(R:Rl K ct ι M H)(h:Qx M d e=some b)(q:DV K ct ι M.length H d v)(q':DV K ct ι M.length H e u):∃x y,Is K H v x∧Is K H u y∧dep x≤20∧b=cz x y:=by
 unfold Qx at h
 cases z:jY M 12 d with
 | none=>rw[z]at h;cases h
 | some x=>
  cases z2:jY M 12 e with
  | none=>rw[z,z2]at h;cases h
  | some y=>
   rw[z,z2]at h
   cases h
   obtain⟨a,c⟩:=BJ R 12 d x v z q
   obtain⟨a',_⟩:=BJ R 12 e y u z2 q'
   exact⟨x,y,a,a',by omega,rfl⟩
theorem uK(hu:X.A.units+64<cLine):jZ X ct (compareOp .Eq) sEq:=by
 refine⟨_,ada hu,fun ι M H d d' v v' Q R h h' p=> ?_⟩
 unfold sEq at p
 cases z:Qx M d d' with
 | none=>rw[z]at p;exact p.elim
 | some b=>
  rw[z]at p
  obtain⟨x,y,a,a',hd,rfl⟩:=YB R z h h'
  exact⟨x,y,a,a',hd,p ι _ H .refl R (.bl _)⟩
theorem zy(hu:X.A.units+64<cLine):jZ X ct (compareOp .NotEq) sNe:=by
 refine⟨_,ac5 hu,fun ι M H d d' v v' Q R h h' p=> ?_⟩
 unfold sNe at p
 cases z:Qx M d d' with
 | none=>rw[z]at p;exact p.elim
 | some b=>
  rw[z]at p
  obtain⟨x,y,a,a',hd,rfl⟩:=YB R z h h'
  exact⟨x,y,a,a',hd,p ι _ H .refl R (.bl _)⟩
def isN(d:D):Bool:=match d with
 | .non=>true
 | _=>false
theorem adC{K:PySem.W.Frag}{ι:Nat→Addr}{n:Nat}{H:Hp}{d:D}{v:V}(q:DV K ct ι n H d v):decide (v= .non)=isN d:=by
 cases q<;>simp[isN]
def sIs:uM:=fun d e M=>match e with
 | .non=> .ok (.bl (isN d)) M
 | _=> .bad
theorem abL:jZ X ct (compareOp .Is) sIs:=by
 refine⟨_,ac_,fun ι M H d d' v v' Q R h h' p=> ?_⟩
 cases h' with
 | non=>exact⟨rfl,p ι _ H .refl R (by rw[adC h];exact .bl _)⟩
 | _=>exact p.elim
theorem lB.Jw{K:PySem.W.Frag}{ι:Nat→Addr}{n:Nat}{H:Hp}{ds:List D}{vs:List V}{i:Int}{d:D}(h:lB K ct ι n H ds vs)(e:L2.Jw ds i=some d):∃v,L2.Jw vs i=some v∧DV K ct ι n H d v:=by
 unfold L2.Jw at*
 rw[h.length]
 cases z:ixN ds.length i with
 | none=>rw[z]at e;cases e
 | some j=>rw[z]at e;exact h.at e
variable{a b:Expr}{ma mb:ME}{pos:Pos}
section
variable{κ:Type}[DecidableEq κ]
def Ji(kvs:List (κ×D))(k:κ):Option D:=(kvs.find? fun kv=>decide (kv.1=k)).map (·.2)
def Vm(kvs:List (κ×D))(k:κ)(d:D):List (κ×D):=if(kvs.any fun kv=>decide (kv.1=k))=true then kvs.map (fun kv=>if kv.1=k then(kv.1,d)else kv)else kvs++[(k,d)]
variable{K:PySem.W.Frag}{ι:Nat→Addr}{n:Nat}{H:Hp}
theorem Jb.val:∀{kvs:List (κ×D)} {vs:List (κ×V)},Jb K ct ι n H kvs vs→∀k,(∀d,Ji kvs k=some d→∃v,zY vs k=some v∧DV K ct ι n H d v)∧(Ji kvs k=none→zY vs k=none)
 | _,_,.nil,k=>⟨fun d h=>by simp[Ji]at h,fun _=>rfl⟩
 | _,_,.cons (x:=x) (d:=d) (v:=v) (fs:=fs) h hs,k=>by
  by_cases e:x=k
  ·have e1:Ji ((x,d)::fs) k=some d:=by simp[Ji,e]
   rw[e1,Bv (p:=(x,v)) e]
   exact⟨fun d' q=>by cases q;exact⟨_,rfl,h⟩,fun q=>by cases q⟩
  ·have e1:Ji ((x,d)::fs) k=Ji fs k:=by simp[Ji,e]
   rw[e1,Bw (p:=(x,v)) e]
   exact hs.val k
theorem Jb.any:∀{kvs:List (κ×D)} {vs:List (κ×V)},Jb K ct ι n H kvs vs→∀k,(vs.any fun kv=>decide (kv.1=k))=(kvs.any fun kv=>decide (kv.1=k))
 | _,_,.nil,_=>rfl
 | _,_,.cons _ hs,k=>by simp only[List.any_cons,hs.any k]
theorem Jb.repl{d:D}{v:V}(hd:DV K ct ι n H d v)(k:κ):∀{kvs:List (κ×D)} {vs:List (κ×V)},Jb K ct ι n H kvs vs→Jb K ct ι n H (kvs.map fun kv=>if kv.1=k then(kv.1,d)else kv) (vs.map fun kv=>if kv.1=k then(kv.1,v)else kv)
 | _,_,.nil=> .nil
 | _,_,.cons (x:=x) h hs=>by
  simp only[List.map_cons]
  by_cases e:x=k
  ·rw[if_pos e,if_pos e];exact .cons hd (hs.repl hd k)
  ·rw[if_neg e,if_neg e];exact .cons h (hs.repl hd k)
theorem Jb.snoc{d:D}{v:V}(hd:DV K ct ι n H d v)(k:κ):∀{kvs:List (κ×D)} {vs:List (κ×V)},Jb K ct ι n H kvs vs→Jb K ct ι n H (kvs++[(k,d)]) (vs++[(k,v)])
 | _,_,.nil=> .cons hd .nil
 | _,_,.cons h hs=> .cons h (hs.snoc hd k)
theorem Jb.put{d:D}{v:V}{kvs:List (κ×D)}{vs:List (κ×V)}(h:Jb K ct ι n H kvs vs)(hd:DV K ct ι n H d v)(k:κ):Jb K ct ι n H (Vm kvs k d) (putK vs k v):=by
 unfold Vm putK
 rw[h.any k]
 split
 ·exact h.repl hd k
 ·exact h.snoc hd k
end
def toKey:D→Option Key
 | .int i=>some (.inl i)
 | .str s=>some (.inr s)
 | _=>none
def toKeys:List D→Option (List Key)
 | []=>some []
 | d::r=>match toKey d,toKeys r with
  | some k,some ks=>some (k::ks)
  | _,_=>none
section
variable{K:PySem.W.Frag}{ι:Nat→Addr}{n:Nat}{H:Hp}
theorem GD{d:D}{k:Key}{v:V}(h:toKey d=some k)(q:DV K ct ι n H d v):v=kV k:=by
 cases q<;>simp only[toKey]at h<;>cases h<;>rfl
theorem vQ:∀{ds:List D} {ks:List Key} {vs:List V},toKeys ds=some ks→lB K ct ι n H ds vs→vs=ks.map kV
 | [],ks,_,h,.nil=>by cases h;rfl
 | d::r,ks,_,h,.cons q qs=>by
  simp only[toKeys]at h
  cases z:toKey d with
  | none=>rw[z]at h;cases h
  | some k=>
   cases z2:toKeys r with
   | none=>rw[z,z2]at h;cases h
   | some kr=>
    rw[z,z2]at h
    cases h
    rw[GD z q,vQ z2 qs]
    rfl
end
def aaX(M:Mem)(n:Nat)(y:D):Option (Option D×Mem):=match M[n]? with
 | some (.dk kvs)=>match toKey y with
  | some k=>some (Ji kvs k,M)
  | none=>match y with
   | .tup ds=>match toKeys ds with
    | some _=>if kvs.isEmpty=true then some (none,M.set n (.dt []))else none
    | none=>none
   | _=>none
 | some (.dt kvs)=>match y with
  | .tup ds=>match toKeys ds with
   | some k=>some (Ji kvs k,M)
   | none=>none
  | _=>none
 | _=>none
theorem Mt{K:PySem.W.Frag}{ι:Nat→Addr}{M M':Mem}{H:Hp}{n:Nat}{y:D}{vy:V}{o:Option D}(R:Rl K ct ι M H)(h:aaX M n y=some (o,M'))(hn:n<M.length)(q:DV K ct ι M.length H y vy):
  ∃ov H',Y_ H (ι n) vy ov H'∧Ext K ι M.length H ι M'.length H'∧Rl K ct ι M' H'∧(∀d,o=some d→∃v,ov=some v∧DV K ct ι M'.length H' d v∧H'=H∧M'=M)∧(o=none→ov=none):=by
 unfold aaX at h
 split at h
 ·rename_i kvs e
  obtain⟨vs,hH,pv⟩:=R.obj n _ e
  split at h
  ·rename_i k ek
   cases h
   have ey:=GD ek q
   subst ey
   refine⟨zY vs k,H,.inl ⟨FN.k hH,rfl⟩,.refl,R,fun d hd=> ?_,fun hd=>(pv.val k).2 hd⟩
   obtain⟨v,h1,h2⟩:=(pv.val k).1 d hd
   exact⟨v,h1,h2,rfl,rfl⟩
  ·split at h
   ·rename_i ds
    split at h
    ·rename_i ks eks
     split at h
     ·rename_i hem
      cases h
      have ek:kvs=[]:=List.isEmpty_iff.mp hem
      subst ek
      cases pv
      obtain⟨b,xs,rfl,hb,hd⟩:=oX q
      have ex:=vQ eks hd
      subst ex
      have x2:Ext K ι M.length H ι M.length (upd H (ι n) (.dT [])):=Ext.chg hH (fun _ z=>nomatch z) (fun _ _ z=>nomatch z)
      refine⟨none,upd H (ι n) (.dT []),.inr ⟨hH,⟨ks,b,rfl,hb⟩,rfl,rfl⟩,by rw[List.length_set];exact x2,R.chg hn hH (fun _ z=>nomatch z) (fun _ _ z=>nomatch z) ⟨[],dh,.nil⟩,(fun d hd=>nomatch hd),fun _=>rfl⟩
     ·cases h
    ·cases h
   ·cases h
 ·rename_i kvs e
  obtain⟨vs,hH,pv⟩:=R.obj n _ e
  split at h
  ·rename_i ds
   split at h
   ·rename_i ks eks
    cases h
    obtain⟨b,xs,rfl,hb,hd⟩:=oX q
    have ex:=vQ eks hd
    subst ex
    refine⟨zY vs ks,H,.inl ⟨FN.t hH hb,rfl⟩,.refl,R,fun d hd=> ?_,fun hd=>(pv.val ks).2 hd⟩
    obtain⟨v,h1,h2⟩:=(pv.val ks).1 d hd
    exact⟨v,h1,h2,rfl,rfl⟩
   ·cases h
  ·cases h
 ·cases h
def acu:uM:=fun d y M=>match d with
 | .ref n=>match aaX M n y with
  | some (some v,_)=> .ok v M
  | _=> .bad
 | _=> .bad
theorem ac1{K:PySem.W.Frag}:Qy K ct acu af8:=by
 intro w ι M H d d' v v' Q R h h' p
 cases d with
 | ref n=>
  obtain⟨hn,rfl⟩:=nA h
  simp only[acu]at p
  split at p
  ·rename_i x M' e
   obtain⟨ov,H',g,_,_,h1,_⟩:=Mt R e hn h'
   obtain⟨vx,rfl,dv,rfl,rfl⟩:=h1 x rfl
   rcases g with⟨g,_⟩ | ⟨_,_,z,_⟩
   ·exact⟨_,vx,rfl,g,p ι vx _ .refl R dv⟩
   ·cases z
  ·exact p.elim
 | _=>exact p.elim
def Oc:uM:=fun d e M=>match e with
 | .int i=>match d with
  | .tup ds=>match L2.Jw ds i with
   | some x=> .ok x M
   | none=> .bad
  | d=>match Ar M d with
   | some ds=>match L2.Jw ds i with
    | some x=> .ok x M
    | none=> .bad
   | none=> .bad
 | _=> .bad
theorem ac0:Qy X.K ct Oc (fun x y H Q=>af7 X.K x y H Q∨af5 X.K x y H Q):=by
 intro w ι M H d d' v v' Q R h h' p
 cases d' with
 | int i=>
  cases vI h'
  cases d with
  | tup ds=>
   obtain⟨aa,xs,rfl,hs,hd⟩:=RT h
   simp only[Oc]at p
   cases z:L2.Jw ds i with
   | none=>rw[z]at p;exact p.elim
   | some x=>
    rw[z]at p
    obtain⟨v,e,dv⟩:=hd.Jw z
    exact .inr ⟨_,_,_,_,rfl,rfl,hs,e,p ι v H .refl R dv⟩
  | _=>
   simp only[Oc]at p
   split at p
   ·rename_i ds z0
    obtain⟨aa,xs,rfl,hs,hd⟩:=R.seq z0 h
    cases z:L2.Jw ds i with
    | none=>rw[z]at p;exact p.elim
    | some x=>
     rw[z]at p
     obtain⟨v,e,dv⟩:=hd.Jw z
     exact .inl ⟨_,_,_,_,rfl,rfl,hs,e,p ι v H .refl R dv⟩
   ·exact p.elim
 | _=>exact p.elim
def ZM:uM:=fun d e M=>match d,e with
 | .str z,.int i=>match L2.Jw z.cps.toList i with
  | some c=>if z.length≤sizeLine then .ok (.str ⟨#[c]⟩) M else .bad
  | none=> .bad
 | _,_=> .bad
theorem acZ{K:PySem.W.Frag}:Qy K ct ZM af6:=by
 intro w ι M H d d' v v' Q R h h' p
 unfold ZM at p
 split at p
 ·rename_i z i
  cases jA h
  cases vI h'
  cases e:L2.Jw z.cps.toList i with
  | none=>rw[e]at p;exact p.elim
  | some c=>
   rw[e]at p
   dsimp only at p
   split at p
   ·rename_i hz
    exact⟨z,i,c,rfl,rfl,hz,e,p ι _ H .refl R (.str _)⟩
   ·exact p.elim
 ·exact p.elim
def aR:uM:=ym (ym Oc acu) ZM
theorem aP(hu:X.A.units+64<cLine)(ha:SE X ct W a ma)(hb:SE X ct W b mb)(hs:UJ b:=by exact fun _ _=>rfl):SE X ct W (.Subscript a b pos) (aD aR ma mb):=
 fP (agL (((aaF.or adz).or (aaG (by omega))).or adA) ha hb hs) fun σ H Q q=>Kw (Qy.or (Qy.or ac0 ac1) acZ) q
def cut{α:Type}(xs:List α)(lo hi:Option Int):List α:=(xs.drop (HT.aR xs.length 0 lo)).take (HT.aR xs.length xs.length hi - HT.aR xs.length 0 lo)
theorem lB.cut{K:PySem.W.Frag}{ι:Nat→Addr}{n:Nat}{H:Hp}{ds:List D}{vs:List V}(h:lB K ct ι n H ds vs)(lo hi:Option Int):lB K ct ι n H (S.cut ds lo hi) (Qa vs lo hi):=by
 unfold S.cut Qa
 rw[h.length]
 exact(h.drop _).take _
abbrev MO':=Sl→Mem→Out (Option Int)
def aob:(Nat→Addr)→Mem→Hp→Option Int→Option Int→Prop:=fun _ _ _ a b=>a=b
def SO(X:Cx)(ct:Nat→Addr)(W:bG)(e:Option Expr)(m:MO'):Prop:=PO X e (tG aob X.K ct W m)
def asI(d:D)(M:Mem):Out (Option Int):=match d with
 | .int i=> .ok (some i) M
 | _=> .bad
def sy:MO':=fun _ M=> .ok none M
def yR(m:ME):MO':=fun e M=>(m e M).bind asI
theorem wR:SO X ct W none sy:=fun pins s σ H Q I ⟨ι,e,M,w,p⟩=>aab pins s σ H Q I (p ι none H .refl w.rl rfl)
theorem rT(h:SE X ct W a ma):SO X ct W (some a) (yR ma):=fun pins s σ H Q I q=>aaa h pins s σ H Q I (by
 obtain⟨ι,e,M,w,p⟩:=b_ (fQ:=d8 X.K ct) (f:=fun d _ M1=>asI d M1) q
 refine⟨ι,e,M,w,p.mono fun v H1 ⟨dz,e1,M1,d,w1,q1,p1⟩=> ?_⟩
 cases q1 with
 | int i=>exact⟨i,rfl,p1 dz _ H1 .refl w1.rl rfl⟩
 | _=>exact p1.elim)
def N6(d:D)(lo hi:Option Int)(M:Mem):Out D:=match d with
 | .tup ds=>if HT.aR ds.length 0 lo=0∧HT.aR ds.length ds.length hi=ds.length then .bad else .ok (.tup (cut ds lo hi)) M
 | .str u=>if u.length≤sizeLine then .ok (.str (Txt.slice u lo hi)) M else .bad
 | d=>match Ar M d with
  | some ds=> .ok (.ref M.length) (M++[.lst (cut ds lo hi)])
  | none=> .bad
def Zb(m:ME)(lo hi:MO'):ME:=fun e M=>(m e M).bind fun d M1=>(lo e M1).bind fun l M2=>(hi e M2).bind fun h M3=>N6 d l h M3
theorem En{lo hi:Option Expr}{ml mh:MO'}{p2:Pos}(ha:SE X ct W a ma)(hl:SO X ct W lo ml)(hh:SO X ct W hi mh):SE X ct W (.Subscript a (.Slice lo hi none p2) pos) (Zb ma ml mh):=by
 refine fP (Xy ((Zz.or acd).or ace) ha hl hh) fun σ H Q q=> ?_
 obtain⟨ι,e,M,w,p⟩:=b_ (fQ:=d8 X.K ct) (f:=fun d e M1=>(ml e M1).bind fun l M2=>(mh e M2).bind fun h M3=>N6 d l h M3) q
 refine⟨ι,e,M,w,p.mono fun v H1 ⟨dz,e1,M1,d,w1,q1,p1⟩=> ?_⟩
 refine⟨dz,e1,M1,w1,?_⟩
 cases z:ml e1 M1 with
 | bad=>simp only[z,Out.fD]at p1;exact p1
 | exc xc xd xM=>simp only[z,Out.mR]at p1;exact p1
 | ok l M2=>
  simp only[z,Out.eZ]at p1
  intro jO l' H2 x2 r2 el
  have Mj:l=l':=el;subst Mj
  refine⟨jO,e1,M2,w1.ext x2 r2,?_⟩
  have p2:=p1.ext x2
  cases z2:mh e1 M2 with
  | bad=>simp only[z2,Out.fD]at p2;exact p2
  | exc xc xd xM=>simp only[z2,Out.mR]at p2;exact p2
  | ok h M3=>
   simp only[z2,Out.eZ]at p2
   intro An h' H3 x3 r3 eh
   have Mj:h=h':=eh;subst Mj
   have p3:=p2.ext x3
   have q3:=(q1.mono x2).mono x3
   cases d with
   | tup ds=>
    obtain⟨aa,xs,rfl,hs,hd⟩:=RT q3
    simp only[N6]at p3
    split at p3
    ·exact p3.elim
    ·rename_i hw
     exact .inl (.inr ⟨_,_,rfl,hs,by rw[hd.length];exact hw,fun pp hp=>Cj r3 (hd.cut l h) hp p3⟩)
   | str u=>
    cases jA q3
    simp only[N6]at p3
    split at p3
    ·rename_i hz
     exact .inr ⟨u,rfl,hz,p3 An _ H3 .refl r3 (.str _)⟩
    ·exact p3.elim
   | _=>
    simp only[N6]at p3
    split at p3
    ·rename_i ds z0
     obtain⟨aa,xs,rfl,hs,hd⟩:=r3.seq z0 q3
     exact .inl (.inl ⟨_,_,rfl,hs,fun pp hp=>oH r3 (hd.cut l h) hp p3⟩)
    ·exact p3.elim
theorem wC{K:PySem.W.Frag}{ι:Nat→Addr}{n:Nat}{H:Hp}{d:D}{vs:List V}(h:lB K ct ι n H [d] vs):∃v,vs=[v]∧DV K ct ι n H d v:=by
 cases h with | cons a b=>cases b;exact⟨_,rfl,a⟩
theorem aqj{K:PySem.W.Frag}{ι:Nat→Addr}{n:Nat}{H:Hp}{d d':D}{vs:List V}(h:lB K ct ι n H [d,d'] vs):∃v v',vs=[v,v']∧DV K ct ι n H d v∧DV K ct ι n H d' v':=by
 cases h with | cons a b=>obtain⟨v,rfl,q⟩:=wC b;exact⟨_,_,rfl,a,q⟩
def yD(M:Mem)(d:D):Option (List D):=match d with
 | .tup ds=>some ds
 | d=>Ar M d
theorem Rl.seqs{K:PySem.W.Frag}{ι:Nat→Addr}{M:Mem}{H:Hp}(R:Rl K ct ι M H){d:D}{v:V}{ds:List D}(h:yD M d=some ds)(q:DV K ct ι M.length H d v):∃a xs,v= .ref a∧(yt K H a xs∨vK K H a xs)∧lB K ct ι M.length H ds xs:=by
 cases d with
 | tup es=>cases h;obtain⟨a,xs,e,hs,hd⟩:=RT q;exact⟨a,xs,e,.inr hs,hd⟩
 | _=>simp only[yD]at h;obtain⟨a,xs,e,hs,hd⟩:=R.seq h q;exact⟨a,xs,e,.inl hs,hd⟩
def Th:Kg:=fun ds M=>match ds with
 | [d]=>match yD M d with
  | some es=> .ok (.int es.length) M
  | none=> .bad
 | _=> .bad
theorem aa3:qZ X ct (.builtin "len") Th:=by
 refine⟨_,Mz,fun ι M H ds vs Q R h p=> ?_⟩
 unfold Th at p
 split at p
 ·rename_i d
  obtain⟨v,rfl,q⟩:=wC h
  cases z:yD M d with
  | none=>rw[z]at p;exact p.elim
  | some es=>
   rw[z]at p
   obtain⟨a,xs,rfl,hs,hd⟩:=R.seqs z q
   exact⟨_,xs,rfl,hs,p ι _ H .refl R (by rw[hd.length];exact .int _)⟩
 ·exact p.elim
def orN(a b:Kg):Kg:=fun ds M=>match a ds M with
 | .bad=>b ds M
 | o=>o
theorem qZ.or{f:Value}{a b:Kg}(ha:qZ X ct f a)(hb:qZ X ct f b):qZ X ct f (orN a b):=by
 obtain⟨r,h,hs⟩:=ha
 obtain⟨r',h',hs'⟩:=hb
 refine⟨_,h.or h',fun ι M H ds vs Q R q p=> ?_⟩
 unfold orN at p
 cases z:a ds M with
 | ok x M1=>rw[z]at p;exact .inl (hs ι M H ds vs Q R q (by rw[z];exact p))
 | exc xc xd xM=>rw[z]at p;exact .inl (hs ι M H ds vs Q R q (by rw[z];exact p))
 | bad=>rw[z]at p;exact .inr (hs' ι M H ds vs Q R q p)
theorem XX{a b:Kg}{ds:List D}{x:D}{M M':Mem}(h:a ds M= .ok x M'):orN a b ds M= .ok x M':=by unfold orN;rw[h]
theorem aah{a b:Kg}{ds:List D}{M:Mem}(h:a ds M= .bad):orN a b ds M=b ds M:=by unfold orN;rw[h]
def Xg:Kg:=fun ds M=>match ds with
 | [.ref n]=>match M[n]? with
  | some (.dk kvs)=> .ok (.int kvs.length) M
  | some (.dt kvs)=> .ok (.int kvs.length) M
  | _=> .bad
 | _=> .bad
theorem aa4:qZ X ct (.builtin "len") Xg:=by
 refine⟨_,Wa.or V_,fun ι M H ds vs Q R h p=> ?_⟩
 unfold Xg at p
 split at p
 ·rename_i n
  obtain⟨v,rfl,q⟩:=wC h
  obtain⟨hn,rfl⟩:=nA q
  split at p
  ·rename_i kvs e
   obtain⟨ys,hH,pv⟩:=R.obj n _ e
   exact .inl ⟨_,ys,rfl,hH,by rw[pv.length];exact p ι _ H .refl R (.int _)⟩
  ·rename_i kvs e
   obtain⟨ys,hH,pv⟩:=R.obj n _ e
   exact .inr ⟨_,ys,rfl,hH,by rw[pv.length];exact p ι _ H .refl R (.int _)⟩
  ·exact p.elim
 ·exact p.elim
def Tf:Kg:=fun ds M=>match ds with
 | [.str z]=>if z.length≤sizeLine then .ok (.int z.length) M else .bad
 | _=> .bad
theorem aa2:qZ X ct (.builtin "len") Tf:=by
 refine⟨_,Mx,fun ι M H ds vs Q R h p=> ?_⟩
 unfold Tf at p
 split at p
 ·obtain⟨v,rfl,q⟩:=wC h
  cases jA q
  split at p
  ·rename_i hz
   exact⟨_,rfl,hz,p ι _ H .refl R (.int _)⟩
  ·exact p.elim
 ·exact p.elim
def o9:Kg:=orN (orN Th Xg) Tf
theorem o5:qZ X ct (.builtin "len") o9:=(aa3.or aa4).or aa2
def Ac:Kg:=fun ds M=>match ds with
 | [d]=>match yD M d with
  | some es=> .ok (.ref M.length) (M++[.lst es])
  | none=> .bad
 | _=> .bad
def rm:Kg:=fun ds M=>match ds with
 | [d]=>match yD M d with
  | some es=> .ok (.tup es) M
  | none=> .bad
 | _=> .bad
theorem Gn:qZ X ct (.type "list") Ac:=by
 refine⟨_,Mw,fun ι M H ds vs Q R h p=> ?_⟩
 unfold Ac at p
 split at p
 ·rename_i d
  obtain⟨v,rfl,q⟩:=wC h
  cases z:yD M d with
  | none=>rw[z]at p;exact p.elim
  | some es=>
   rw[z]at p
   obtain⟨a,xs,rfl,hs,hd⟩:=R.seqs z q
   exact⟨_,xs,rfl,hs,fun pp hp=>oH R hd hp p⟩
 ·exact p.elim
theorem wK:qZ X ct (.type "tuple") rm:=by
 refine⟨_,Jv,fun ι M H ds vs Q R h p=> ?_⟩
 unfold rm at p
 split at p
 ·rename_i d
  obtain⟨v,rfl,q⟩:=wC h
  cases d with
  | tup es=>
   obtain⟨aa,xs,rfl,hs,hd⟩:=oX q
   exact⟨_,xs,rfl,.inr ⟨vK.of hs,p ι _ H .refl R (.tup hs hd)⟩⟩
  | _=>
   split at p
   ·rename_i es z
    simp only[yD]at z
    obtain⟨a,xs,rfl,hs,hd⟩:=R.seq z q
    exact⟨_,xs,rfl,.inl ⟨hs,fun pp hp=>Cj R hd hp p⟩⟩
   ·exact p.elim
 ·exact p.elim
def tyN(M:Mem)(d:D):Option String:=match d with
 | .non=>some "NoneType"
 | .bl _=>some "bool"
 | .int _=>some "int"
 | .str _=>some "str"
 | .tup _=>some "tuple"
 | .ref n=>(qD M n).map fun _=> "list"
 | .cl _=>some "list"
 | _=>none
def ab5(a b:String):Bool:=a==b||(a== "bool" && b== "int")
def wQ:List String:=["NoneType","bool","int","str","tuple","list"]
theorem aaA{K:PySem.W.Frag}:∀a∈wQ,∀b∈wQ,PySem.W.kitOne K (.type a) (.type b)=some (ab5 a b):=by
 intro a ha b hb
 simp only[wQ,List.mem_cons,List.not_mem_nil,or_false]at ha hb
 rcases ha with rfl | rfl | rfl | rfl | rfl | rfl<;>rcases hb with rfl | rfl | rfl | rfl | rfl | rfl<;>with_unfolding_all rfl
def Ca:Kg:=fun ds M=>match ds with
 | [d,.ty b]=>match tyN M d with
  | some a=>if b∈wQ then .ok (.bl (ab5 a b)) M else .bad
  | none=> .bad
 | _=> .bad
@[irreducible] def Xp(K:PySem.W.Frag):List V→Hp→VK→Prop:=fun xs H Q=>∃x n b,xs=[x,.ty n]∧Q (.bl b) H∧
 ((∃t,Ej K H x t∧PySem.W.kitOne K t (.type n)=some b)∨(∃a ys,x= .ref a∧vK K H a ys∧PySem.W.kitOne K (.type "tuple") (.type n)=some b)∨(∃a ys,x= .ref a∧yt K H a ys∧PySem.W.kitOne K (.type "list") (.type n)=some b))
theorem Wb:mV X (.builtin "isinstance") (Xp X.K):=by
 intro pins s σ H xs us Q I r h
 unfold Xp at h
 obtain⟨x,n,b,rfl,q,h⟩:=h
 obtain⟨u,v,rfl,rx,rc⟩:=vals2 r
 obtain rfl:v= .type n:=rc
 rcases h with⟨t,ty,e⟩ | ⟨a,ys,rfl,hs,e⟩ | ⟨a,ys,rfl,hs,e⟩
 ·exact VN I rx ty e fun tk=>⟨.bl b,H,I.tok tk,rfl,q⟩
 ·cases(show u=Value.ref a from rx)
  obtain⟨its,_,⟨o,h1,h2,_⟩,_⟩:=I.tuple hs
  exact PySem.W.kia_one PySem.W.kitx_tuple I.Bt ⟨o,h1,h2⟩ e (fun z=>nomatch z) fun tk=>⟨.bl b,H,I.tok tk,rfl,q⟩
 ·cases(show u=Value.ref a from rx)
  obtain⟨its,_,⟨o,n',h1,h2,_⟩,_⟩:=I.list hs
  exact PySem.W.kia_one PySem.W.kitx_list I.Bt ⟨o,h1,h2⟩ e (fun z=>nomatch z) fun tk=>⟨.bl b,H,I.tok tk,rfl,q⟩
theorem RV:qZ X ct (.builtin "isinstance") Ca:=by
 refine⟨_,Wb,fun ι M H ds vs Q R h p=> ?_⟩
 unfold Ca at p
 split at p
 ·rename_i d n
  obtain⟨v,v',rfl,q,q'⟩:=aqj h
  cases q'
  unfold Xp
  cases z:tyN M d with
  | none=>rw[z]at p;exact p.elim
  | some a=>
   rw[z]at p
   by_cases hn:n∈wQ
   ·simp only[hn,if_true]at p
    have ha:a∈wQ:=by
     unfold tyN at z
     cases d with
     | ref m=>
      cases z1:qD M m with
      | none=>simp only[z1]at z;cases z
      | some es=>simp only[z1]at z;cases z;show "list" ∈ wQ;decide
     | ty _=>cases z
     | cls _=>cases z
     | exc _ _=>cases z
     | _=>cases z;decide
    have e:=aaA (K:=X.K) a ha n hn
    refine⟨v,n,ab5 a n,rfl,p ι _ H .refl R (.bl _),?_⟩
    cases q with
    | non=>cases z;exact .inl ⟨_,.non,e⟩
    | bl b=>cases z;exact .inl ⟨_,.bl b,e⟩
    | int b=>cases z;exact .inl ⟨_,.int b,e⟩
    | str b=>cases z;exact .inl ⟨_,.str b,e⟩
    | tup hs hd=>cases z;exact .inr (.inl ⟨_,_,rfl,vK.of hs,e⟩)
    | @ref i hi=>
     simp only[tyN]at z
     cases z1:qD M i with
     | none=>rw[z1]at z;cases z
     | some es=>
      rw[z1]at z
      cases z
      obtain⟨xs,hs,hd⟩:=R.obj i _ (pM.mp z1)
      exact .inr (.inr ⟨_,_,rfl,yt.of hs,e⟩)
    | cl hs hd=>cases z;exact .inr (.inr ⟨_,_,rfl,hs.sq,e⟩)
    | ty b=>cases z
    | cls b=>cases z
    | exc _ _ _=>cases z
   ·simp only[hn,if_false]at p
    exact p.elim
 ·exact p.elim
def MtS(X:Cx)(ct:Nat→Addr)(T id:String)(op:D→List D→Mem→Out D):Prop:=∃r,MtR X id r∧∀{w:XW} ι M H d ds v vs Q,Rl X.K ct ι M H→DV X.K ct ι M.length H d v→lB X.K ct ι M.length H ds vs→jh (d8 X.K ct) X.K ct w ι M.length H (op d ds M) Q→r v vs H Q
def FP(T:String)(d:D)(M:Mem):Bool:=match d with
 | .int _=>T== "int"
 | .str _=>T== "str"
 | .ref n=>T== "list" && (qD M n).isSome
 | _=>false
theorem abX{K:PySem.W.Frag}{ι:Nat→Addr}{M:Mem}{H:Hp}{T:String}{d:D}{v:V}(R:Rl K ct ι M H)(h:FP T d M=true)(q:DV K ct ι M.length H d v):tyV K T v H:=by
 cases q with
 | int i=>exact beq_iff_eq.mp h
 | str i=>exact beq_iff_eq.mp h
 | @ref i hi=>
  simp only[FP,Bool.and_eq_true,beq_iff_eq]at h
  obtain⟨e,h2⟩:=h
  obtain⟨ds,z⟩:=Option.isSome_iff_exists.mp h2
  obtain⟨xs,hs,_⟩:=R.obj i _ (pM.mp z)
  exact .inl ⟨e,xs,yt.of hs⟩
 | _=>exact absurd h Bool.false_ne_true
def Gi(T:String)(op:D→List D→Mem→Out D)(mo:ME)(ms:MA):ME:=fun e M=>(mo e M).bind fun d M1=>if FP T d M1=true then(ms e M1).bind fun ds M2=>op d ds M2 else .bad
variable{o:Expr}{es:List Expr}{mo:ME}{ms:MA}{name:Str}{apos cpos:Pos}{T id:String}{op:D→List D→Mem→Out D}
theorem lM(pa:PlainAttrs T)(slot:Slot T name id)(hty:typeOf (.builtin id)=pure (.type "method_descriptor"))(hm:MtS X ct T id op)(ho:SE X ct W o mo)(ha:SA X ct W (a::es) ms)
  (hbase:attributeBase o name X.env (eval o X.env)=eval o X.env:=by rfl)
  (hfew:((backTo cpos (starEach (a::es) X.env)).all (fun x=> !x.1)&&(backToKw cpos (keywordEach [] X.env)).all (fun x=>x.1.isSome)
   && decide ((a::es).length+([]:List Keyword).length+(if([]:List Keyword).isEmpty then 0 else 1)<30))=true:=by rfl)
  (hline:(apos.endLine==cpos.line)=true:=by rfl) (hs:starEach (a::es) X.env=(false,eval a X.env)::starEach es X.env:=by rfl) (hplain:(backTo cpos (starEach es X.env)).any (·.1)=false:=by rfl):
  SE X ct W (.Call (.Attribute o name apos) (a::es) [] cpos) (Gi T op mo ms):=by
 obtain⟨r,hr,hss⟩:=hm
 refine fP (agM pa slot hty hr ho ha hbase hfew hline hs hplain) fun σ H Q q=> ?_
 obtain⟨ι,e,M,w,p⟩:=b_ (fQ:=d8 X.K ct) (f:=fun d e M1=>if FP T d M1=true then(ms e M1).bind fun ds M2=>op d ds M2 else .bad) q
 refine⟨ι,e,M,w,p.mono fun v H1 ⟨dz,e1,M1,d,w1,q1,p1⟩=> ?_⟩
 cases z:FP T d M1 with
 | false=>simp only[z,Bool.false_eq_true,if_false]at p1;exact p1.elim
 | true=>
  simp only[z,if_true]at p1
  refine⟨abX w1.rl z q1,dz,e1,M1,w1,?_⟩
  cases z2:ms e1 M1 with
  | bad=>simp only[z2,Out.fD]at p1;exact p1
  | exc xc xd xM=>simp only[z2,Out.mR]at p1;exact p1
  | ok ds M2=>
   simp only[z2,Out.eZ]at p1
   exact fun jO vs H2 x2 r2 q2=>hss jO M2 H2 d ds v vs Q r2 (q1.mono x2) q2 (p1.ext x2)
def iC:D→List D→Mem→Out D:=fun d ds M=>match d,ds with
 | .ref n,[x]=>match M[n]? with
  | some (.lst es)=>if es.length<sizeLine then .ok .non (M.set n (.lst (es++[x])))else .bad
  | _=> .bad
 | _,_=> .bad
theorem jf:MtS X ct "list" "list.append" iC:=by
 refine⟨_,VD,fun ι M H d ds v vs Q R q qs p=> ?_⟩
 unfold iC at p
 split at p
 ·rename_i n x
  obtain⟨hn,rfl⟩:=nA q
  obtain⟨y,rfl,qy⟩:=wC qs
  split at p
  ·rename_i es e1
   split at p
   ·rename_i hz
    obtain⟨xs,hH,hd⟩:=R.obj n _ e1
    have x2:Ext X.K ι M.length H ι M.length (upd H (ι n) (.lst (xs++[y]))):=Ext.chg hH (fun _ z=>nomatch z) (fun _ _ z=>nomatch z)
    refine⟨_,xs,y,rfl,rfl,hH,by rw[hd.length];exact hz,?_⟩
    refine p ι .non _ (by rw[List.length_set];exact x2) (R.chg hn hH (fun _ z=>nomatch z) (fun _ _ z=>nomatch z) ⟨_,dh,(hd.append (.cons qy .nil)).mono x2⟩) .non
   ·exact p.elim
  ·exact p.elim
 ·exact p.elim
end
end S
namespace S
open PySem PySem.Spec PyProof.Rows L2
inductive sS where
 | next (e:Sl) (M:Mem) | ret (d:D) (M:Mem) | brk (e:Sl) (M:Mem) | cont (e:Sl) (M:Mem) | exc (c:Nat) (d:D) (e:Sl) (M:Mem) | bad
abbrev MS:=Sl→Mem→sS
def Df(K:PySem.W.Frag)(ct:Nat→Addr)(W:bG)(ι:Nat→Addr)(n:Nat)(H:Hp)(o:sS)(T:Ends):Prop:=match o with
 | .next e M=>∀ι' σ' H',Ext K ι n H ι' M.length H'→Ws K ct ι' e M σ' H'→T.nx σ' H'
 | .ret d M=>∀ι' v H',Ext K ι n H ι' M.length H'→Rl K ct ι' M H'→DV K ct ι' M.length H' d v→T.rt v H'
 | .brk e M=>∀ι' σ' H',Ext K ι n H ι' M.length H'→Ws K ct ι' e M σ' H'→T.bk σ' H'
 | .cont e M=>∀ι' σ' H',Ext K ι n H ι' M.length H'→Ws K ct ι' e M σ' H'→T.ct σ' H'
 | .exc c d e M=>∀ι' σ' dx v H',Ext K ι n H ι' M.length H'→Ws K ct ι' e M σ' H'→H' dx=some (.xd [("at",v)])→DV K ct ι' M.length H' d v→W (ct c) dx σ' H'
 | .bad=>False
def tS(K:PySem.W.Frag)(ct:Nat→Addr)(W:bG)(m:MS):TS:=fun T σ H=>∃ι e M,Ws K ct ι e M σ H∧Df K ct W ι M.length H (m e M) T
def SS(X:Cx)(ct:Nat→Addr)(W:bG)(st:Stmt)(m:MS):Prop:=PS X st (tS X.K ct W m)
def SSs(X:Cx)(ct:Nat→Addr)(W:bG)(st:List Stmt)(m:MS):Prop:=Qp X st (tS X.K ct W m)
theorem Df.ext{K:PySem.W.Frag}{ct ι ι':Nat→Addr}{W:bG}{n n':Nat}{H H':Hp}{o:sS}{T:Ends}(h:Df K ct W ι n H o T)(x:Ext K ι n H ι' n' H'):Df K ct W ι' n' H' o T:=by
 cases o with
 | next e M=>exact fun jO b H2 x2 w=>h jO b H2 (x.trans x2) w
 | ret d M=>exact fun jO b H2 x2 r q=>h jO b H2 (x.trans x2) r q
 | brk e M=>exact fun jO b H2 x2 w=>h jO b H2 (x.trans x2) w
 | cont e M=>exact fun jO b H2 x2 w=>h jO b H2 (x.trans x2) w
 | exc c d e M=>exact fun jO b dx v H2 x2 w q1 q2=>h jO b dx v H2 (x.trans x2) w q1 q2
 | bad=>exact h
def yK{α:Type}(e:Sl)(o:Out α)(f:α→Mem→sS):sS:=match o with
 | .ok a M=>f a M
 | .exc c d M=> .exc c d e M
 | .bad=> .bad
@[simp] theorem DP{α:Type}(e:Sl)(a:α)(M:Mem)(f:α→Mem→sS):yK e (.ok a M) f=f a M:=id rfl
@[simp] theorem zL{α:Type}(e:Sl)(c:Nat)(d:D)(M:Mem)(f:α→Mem→sS):yK e (.exc c d M:Out α) f= .exc c d e M:=id rfl
@[simp] theorem zM{α:Type}(e:Sl)(f:α→Mem→sS):yK e (.bad:Out α) f= .bad:=id rfl
theorem uR{α β:Type}{rel:(Nat→Addr)→Mem→Hp→α→β→Prop}{K:PySem.W.Frag}{ct:Nat→Addr}{W:bG}{m:Sl→Mem→Out α}{f:α→Sl→Mem→sS}{σ:St}{H:Hp}{T:Ends}
  (h:tS K ct W (fun e M=>yK e (m e M) fun a M1=>f a e M1) T σ H):tG rel K ct W m σ H (fun b H1=>∃ι e M a,Ws K ct ι e M σ H1∧rel ι M H1 a b∧Df K ct W ι M.length H1 (f a e M) T):=by
 obtain⟨ι,e,M,w,p⟩:=h
 refine⟨ι,e,M,w,?_⟩
 cases z:m e M with
 | bad=>simp only[z,zM]at p;exact p
 | exc xc xd xM=>simp only[z,zL]at p;exact fun dz dx v H1 x r q1 q2=>p dz σ dx v H1 x (w.ext x r) q1 q2
 | ok a M1=>
  simp only[z,DP]at p
  exact fun dz b H1 x r q=>⟨dz,e,M1,a,w.ext x r,q,p.ext x⟩
section
variable{X:Cx}{ct:Nat→Addr}{W:bG}{st:Stmt}{rest:List Stmt}{s t:MS}{a:Expr}{ma:ME}{pos:Pos}
theorem PS.imp{st:Stmt}{t t':TS}(h:PS X st t)(hi:∀T σ H,t' T σ H→t T σ H):PS X st t':=fun pins s σ H T I q=>h pins s σ H T I (hi T σ H q)
theorem Qp.imp{st:List Stmt}{t t':TS}(h:Qp X st t)(hi:∀T σ H,t' T σ H→t T σ H):Qp X st t':=fun pins s σ H T I q=>h pins s σ H T I (hi T σ H q)
def gA:MS:=fun e M=> .next e M
def aV(s t:MS):MS:=fun e M=>match s e M with
 | .next e' M'=>t e' M'
 | o=>o
theorem W4{T:Ends}{σ:St}{H:Hp}(h:tS X.K ct W gA T σ H):abm T σ H:=let⟨ι,_,_,w,p⟩:=h;p ι σ H .refl w
theorem dY:SSs X ct W [] gA:=Qp.imp Z5 fun T σ H q=>W4 q
theorem aC(h1:SS X ct W st s)(h2:SSs X ct W rest t):SSs X ct W (st::rest) (aV s t):=Qp.imp (Xr h1 h2) fun T σ H ⟨ι,e,M,w,p⟩=>by
 refine⟨ι,e,M,w,?_⟩
 unfold aV at p
 cases z:s e M with
 | next e' M'=>rw[z]at p;exact fun ι' σ' H' x w'=>⟨ι',e',M',w',p.ext x⟩
 | ret d M'=>rw[z]at p;exact p
 | brk d M'=>rw[z]at p;exact p
 | cont d M'=>rw[z]at p;exact p
 | exc c d e M'=>rw[z]at p;exact p
 | bad=>rw[z]at p;exact p
theorem aO(h1:SS X ct W st s):SSs X ct W [st] s:=Z4 h1
def Cd:MS:=fun _ _=> .bad
theorem jb:SS X ct W st Cd:=fun _ _ _ _ _ _ ⟨_,_,_,_,p⟩=>p.elim
def jV(m:ME):MS:=fun e M=>yK e (m e M) fun _ M1=> .next e M1
theorem dZ(he:SE X ct W a ma)(hs:swapsWith a none pos.line X.env=pure false:=by rfl):SS X ct W (.Expr a pos) (jV ma):=PS.imp (Z8 he hs) fun T σ H q=>by
 obtain⟨ι,e,M,w,p⟩:=uR (rel:=d8 X.K ct) (f:=fun _ e M1=> .next e M1) q
 exact⟨ι,e,M,w,p.mono fun v H1 ⟨dz,e1,M1,d,w1,q1,p1⟩=>p1 dz σ H1 .refl w1⟩
def fL(m:ME):MS:=fun e M=>yK e (m e M) fun d M1=> .ret d M1
theorem bu(he:SE X ct W a ma):SS X ct W (.Return (some a) pos) (fL ma):=PS.imp (acJ he) fun T σ H q=>by
 obtain⟨ι,e,M,w,p⟩:=uR (rel:=d8 X.K ct) (f:=fun d e M1=> .ret d M1) q
 exact⟨ι,e,M,w,p.mono fun v H1 ⟨dz,e1,M1,d,w1,q1,p1⟩=>p1 dz v H1 .refl w1.rl q1⟩
def Ay(c:MT)(s t:MS):MS:=fun e M=>yK e (c e M) fun k M1=>if k=true then s e M1 else t e M1
theorem h_{c:Expr}{b b':List Stmt}{mc:MT}(hc:Wm X ct W c mc)(ha:SSs X ct W b s)(hb:SSs X ct W b' t):SS X ct W (.If c b b' pos) (Ay mc s t):=PS.imp (aga hc ha hb) fun T σ H q=>by
 obtain⟨ι,e,M,w,p⟩:=uR (rel:=Cg) (f:=fun k e M1=>if k=true then s e M1 else t e M1) q
 refine⟨ι,e,M,w,p.mono fun k H1 ⟨dz,e1,M1,d,w1,q1,p1⟩=> ?_⟩
 have Mj:d=k:=q1;subst Mj
 cases d with
 | true=>exact⟨dz,e1,M1,w1,p1⟩
 | false=>exact⟨dz,e1,M1,w1,p1⟩
abbrev Tg:=D→Sl→Option Sl
abbrev UG:=List D→Sl→Option Sl
def abN(K:PySem.W.Frag)(ct ι:Nat→Addr)(M:Mem)(H:Hp)(o:Option Sl)(Q:St→Hp→Prop):Prop:=match o with
 | some e'=>∀σ',Ws K ct ι e' M σ' H→Q σ' H
 | none=>False
def tT(K:PySem.W.Frag)(ct:Nat→Addr)(g:Tg):TG:=fun v σ H Q=>∃ι e M d,Ws K ct ι e M σ H∧DV K ct ι M.length H d v∧abN K ct ι M H (g d e) Q
def tTs(K:PySem.W.Frag)(ct:Nat→Addr)(g:UG):Zc:=fun vs σ H Q=>∃ι e M ds,Ws K ct ι e M σ H∧lB K ct ι M.length H ds vs∧abN K ct ι M H (g ds e) Q
def SG(X:Cx)(ct:Nat→Addr)(tg:Expr)(g:Tg):Prop:=PG X tg (tT X.K ct g)
def SGs(X:Cx)(ct:Nat→Addr)(tg:List Expr)(g:UG):Prop:=Wn X tg (tTs X.K ct g)
theorem PG.imp{tg:Expr}{t t':TG}(h:PG X tg t)(hi:∀v σ H Q,t' v σ H Q→t v σ H Q):PG X tg t':=fun pins s σ H v u Q I r q=>h pins s σ H v u Q I r (hi v σ H Q q)
theorem Wn.imp{tg:List Expr}{t t':Zc}(h:Wn X tg t)(hi:∀v σ H Q,t' v σ H Q→t v σ H Q):Wn X tg t':=fun pins s σ H v u Q I r q=>h pins s σ H v u Q I r (hi v σ H Q q)
def gN(i:Nat):Tg:=fun d e=>some (e.set i (some d))
theorem wU{i:Nat}{x:Str}(hN:X.N.Nodup)(hi:X.N[i]? = some x)(hx:Loc X.env.scope x)(hf:X.fn x=true∨X.env.scope.names.lookup x=some .local:=by first | exact .inl rfl | exact .inr rfl | assumption):SG X ct (.Name x pos) (gN i):=
 PG.imp (Tv hN hi hx hf) fun v σ H Q ⟨ι,e,M,d,w,q,p⟩=>p _ (w.set i q)
def yX:UG:=fun ds e=>match ds with
 | []=>some e
 | _=>none
def iR(g:Tg)(gs:UG):UG:=fun ds e=>match ds with
 | d::r=>(g d e).bind fun e'=>gs r e'
 | []=>none
theorem ZC:SGs X ct [] yX:=Wn.imp Tu fun vs σ H Q ⟨ι,e,M,ds,w,q,p⟩=>by
 cases q with
 | nil=>exact⟨rfl,p σ w⟩
 | cons _ _=>exact p.elim
theorem NK{es:List Expr}{g:Tg}{gs:UG}(h1:SG X ct a g)(h2:SGs X ct es gs)
  (hs:(assignEach (a::es) X.env).map (·.2)=assign a X.env::(assignEach es X.env).map (·.2):=by rfl):SGs X ct (a::es) (iR g gs):=Wn.imp (Ol h1 h2 hs) fun vs σ H Q ⟨ι,e,M,ds,w,q,p⟩=>by
 cases q with
 | nil=>exact p.elim
 | @cons d x ds xs h hs=>
  refine⟨x,xs,rfl,ι,e,M,d,w,h,?_⟩
  simp only[iR]at p
  cases z:g d e with
  | none=>rw[z]at p;exact p.elim
  | some e'=>rw[z]at p;exact fun σ' w'=>⟨ι,e',M,ds,w',hs,p⟩
def gT(n:Nat)(gs:UG):Tg:=fun d e=>match d with
 | .tup ds=>if ds.length=n then gs ds e else none
 | _=>none
theorem acg{es:List Expr}{k:Nat}{gs:UG}{n:Nat}(hc:X.calm=true)(h:SGs X ct es gs)
  (hn:(assignEach es X.env).length=n:=by rfl) (hst:(assignEach es X.env).findIdx? (·.1)=none:=by rfl):SG X ct (.Tuple es k pos) (gT n gs):=PG.imp (Xw hc h hn hst) fun v σ H Q ⟨ι,e,M,d,w,q,p⟩=>by
 cases q with
 | @tup a xs ds hs hd=>
  simp only[gT]at p
  split at p
  ·rename_i hl
   exact⟨a,xs,rfl,vK.of hs,by rw[hd.length];exact hl,ι,e,M,ds,w,hd,p⟩
  ·exact p.elim
 | _=>exact p.elim
def cU(m:ME)(g:Tg):MS:=fun e M=>yK e (m e M) fun d M1=>match g d e with
 | some e'=> .next e' M1
 | none=> .bad
theorem S5{te:TE}{tg:TG}{m:ME}{g:Tg}{T:Ends}{σ:St}{H:Hp}(he:∀Q,tG (d8 X.K ct) X.K ct W m σ H Q→te σ H Q)(hg:∀v H Q,tT X.K ct g v σ H Q→tg v σ H Q)(h:tS X.K ct W (cU m g) T σ H):ab4 te tg T σ H:=by
 refine he _ ?_
 obtain⟨ι,e,M,w,p⟩:=uR (rel:=d8 X.K ct) (f:=fun d e M1=>match g d e with
  | some e'=> .next e' M1
  | none=> .bad) h
 refine⟨ι,e,M,w,p.mono fun v H1 ⟨dz,e1,M1,d,w1,q1,p1⟩=>hg _ _ _ ⟨dz,e1,M1,d,w1,q1,?_⟩⟩
 cases z:g d e1 with
 | none=>rw[z]at p1;exact p1
 | some e'=>rw[z]at p1;exact fun σ' w'=>p1 dz σ' H1 .refl w'
theorem aW{i:Nat}{x:Str}{pos':Pos}(hN:X.N.Nodup)(hi:X.N[i]? = some x)(hx:Loc X.env.scope x)(he:SE X ct W a ma)(hs:swapsWith a (some (.Name x pos')) pos.line X.env=pure false:=by rfl)(hf:X.fn x=true∨X.env.scope.names.lookup x=some .local:=by first | exact .inl rfl | exact .inr rfl | assumption):
  SS X ct W (.Assign [.Name x pos'] a pos) (cU ma (gN i)):=PS.imp (acI hN hi hx he hs hf) fun T σ H q=>S5 (fun _ q=>q) (fun v H Q ⟨ι,e,M,d,w,q,p⟩=>p _ (w.set i q)) q
def qm(cs:List Nat)(f:Str)(d:D)(o:D)(M:Mem):Option Mem:=match o with
 | .ref n=>match M[n]? with
  | some (.ins c fs)=>if c∈cs∧fs.length<1000 then some (M.set n (.ins c (putD f d fs)))else none
  | _=>none
 | _=>none
def uW(cs:List Nat)(mo mv:ME)(f:Str):MS:=fun e M=>yK e (mv e M) fun d M1=>yK e (mo e M1) fun o M2=>match qm cs f d o M2 with
 | some M3=> .next e M3
 | none=> .bad
theorem QC.put{K:PySem.W.Frag}{ι:Nat→Addr}{n:Nat}{H:Hp}{f:Str}{d:D}{v:V}(h:DV K ct ι n H d v):∀{fs:List (Str×D)} {vs:List (Str×V)},QC K ct ι n H fs vs→QC K ct ι n H (putD f d fs) (vB f v vs)
 | _,_,.nil=> .cons h .nil
 | _,_,.cons (x:=x) h' hs=>by
  unfold putD vB
  by_cases e:x=f
  ·rw[if_pos e,if_pos e];exact .cons h hs
  ·rw[if_neg e,if_neg e];exact .cons h' (hs.put h)
theorem tH{o:Expr}{mo:ME}{cs:List Nat}{f:Str}{pos':Pos}(hc:Jf X.K ct f cs)(ho:SE X ct W o mo)(hv:SE X ct W a ma)(hs:swapsWith a (some (.Attribute o f pos')) pos.line X.env=pure false:=by rfl):
  SS X ct W (.Assign [.Attribute o f pos'] a pos) (uW cs mo ma f):=PS.imp (acL ho hv hs) fun T σ H q=>by
 obtain⟨ι,e,M,w,p⟩:=uR (rel:=d8 X.K ct) (f:=fun d e M1=>yK e (mo e M1) fun o M2=>match qm cs f d o M2 with
  | some M3=> .next e M3
  | none=> .bad) q
 refine⟨ι,e,M,w,p.mono fun y H1 ⟨dz,e1,M1,d,w1,q1,p1⟩=>⟨dz,e1,M1,w1,?_⟩⟩
 cases z:mo e1 M1 with
 | bad=>simp only[z,zM]at p1;exact p1
 | exc xc xd xM=>simp only[z,zL]at p1;exact fun jO dx v H2 x r q1 q2=>p1 jO σ dx v H2 x (w1.ext x r) q1 q2
 | ok o' M2=>
  simp only[z,DP]at p1
  intro jO x H2 x2 r2 q2
  have p2:=p1.ext x2
  have w2:=w1.ext x2 r2
  have qd:=q1.mono x2
  cases q2 with
  | @ref n hn=>
   simp only[qm]at p2
   cases z0:M2[n]? with
   | none=>rw[z0]at p2;exact p2.elim
   | some ob=>
    cases ob with
    | lst _=>rw[z0]at p2;exact p2.elim
    | dk _=>rw[z0]at p2;exact p2.elim
    | dt _=>rw[z0]at p2;exact p2.elim
    | ins c fs=>
     simp only[z0]at p2
     by_cases hcs:c∈cs∧fs.length<1000
     ·rw[if_pos hcs]at p2
      obtain⟨dx,vs,hH,fv⟩:=r2.obj n _ z0
      have x3:Ext X.K jO M2.length H2 jO M2.length (upd H2 (jO n) (.ins (ct c) dx (vB f y vs))):=Ext.chg hH (fun _ z=>nomatch z) (fun _ _ z=>nomatch z)
      refine⟨_,_,dx,vs,rfl,hH,(hc.get hcs.1).1,(hc.get hcs.1).2,by rw[fv.length];exact hcs.2,?_⟩
      have r3:=r2.chg (o:= .ins (ct c) dx (vB f y vs)) (x:= .ins c (putD f d fs)) hn hH (fun _ z=>nomatch z) (fun _ _ z=>nomatch z) ⟨dx,_,dh,(fv.put qd).mono x3⟩
      have x3':Ext X.K jO M2.length H2 jO (M2.set n (.ins c (putD f d fs))).length (upd H2 (jO n) (.ins (ct c) dx (vB f y vs))):=by rw[List.length_set];exact x3
      exact p2 jO σ _ x3' (w2.ext x3' r3)
     ·rw[if_neg hcs]at p2
      exact p2.elim
  | _=>exact p2.elim
structure Itm where
 src:Option (Nat×List D)
 ds:List D
def jX(s:Option (Nat×List D))(M:Mem):Prop:=match s with
 | none=>True
 | some (n,ds)=>qD M n=some ds
noncomputable instance{s:Option (Nat×List D)}{M:Mem}:Decidable (jX s M):=Classical.propDecidable _
def Vk(K:PySem.W.Frag)(ct:Nat→Addr):(Nat→Addr)→Mem→Hp→Itm→It→Prop:=fun ι M H it J=>jX it.src M∧it.ds.length≤sizeLine∧∀ι' M' H',Ext K ι M.length H ι' M'.length H'→Rl K ct ι' M' H'→jX it.src M'→
 ∀i,(∀d,it.ds[i]? = some d→J.go i H'∧∀x H2,J.WD i H' x H2→Ext K ι' M'.length H' ι' M'.length H2∧Rl K ct ι' M' H2∧DV K ct ι' M'.length H2 d x)∧(it.ds.length≤i→J.stop i H')
abbrev MI:=Sl→Mem→Out Itm
def SI(X:Cx)(ct:Nat→Addr)(W:bG)(tg e:Expr)(m:MI):Prop:=PI X tg e (tG (Vk X.K ct) X.K ct W m)
theorem PI.imp{tg e:Expr}{t t':TI}(h:PI X tg e t)(hi:∀σ H R,t' σ H R→t σ H R):PI X tg e t':=fun pins s σ H R I q=>h pins s σ H R I (hi σ H R q)
def rM(src:Option (Nat×List D))(g:Tg)(b:MS):List D→Sl→Mem→sS
 | [],e,M=>if jX src M then .next e M else .bad
 | d::ds,e,M=>if jX src M then(match g d e with
   | none=> .bad
   | some e1=>match b e1 M with
    | .next e2 M2=>rM src g b ds e2 M2
    | .cont e2 M2=>rM src g b ds e2 M2
    | .brk e2 M2=> .next e2 M2
    | .ret d M2=> .ret d M2
    | .exc c d e2 M2=> .exc c d e2 M2
    | .bad=> .bad)else .bad
def Oe(mi:MI)(g:Tg)(b:MS):MS:=fun e M=>yK e (mi e M) fun it M1=>rM it.src g b it.ds e M1
theorem Dm{tg iter:Expr}{body:List Stmt}{mi:MI}{g:Tg}{b:MS}(hp:X.Ok→PassesOwn (model X.prog X.w) X.A X.env X.xe)(hc:X.calm=true)(hi:SI X ct W tg iter mi)(hg:SG X ct tg g)(hb:SSs X ct W body b)
  (hs:∀x,foldedSetIterable iter X.env x=pure x:=by intro _;rfl):SS X ct W (.For tg iter body [] pos) (Oe mi g b):=PS.imp (fun pins s σ H D I h=>Z7 (hp I.ok) hc hi hg hb hs pins s σ H D I h) fun T σ H q=>by
 obtain⟨ι,e,M,w,p⟩:=uR (rel:=Vk X.K ct) (f:=fun it e M1=>rM it.src g b it.ds e M1) q
 refine⟨ι,e,M,w,p.mono fun J H1 ⟨dz,e1,M1,it,w1,q1,p1⟩=> ?_⟩
 obtain⟨ok1,_,step⟩:=q1
 refine⟨fun i m σ' H'=>m=it.ds.length - i∧i≤it.ds.length∧∃ι' e' M',Ext X.K dz M1.length H1 ι' M'.length H'∧Ws X.K ct ι' e' M' σ' H'∧Df X.K ct W ι' M'.length H' (rM it.src g b (it.ds.drop i) e' M') T,
  ⟨it.ds.length,by simp,Nat.zero_le _,dz,e1,M1,.refl,w1,by simpa using p1⟩,?_⟩
 rintro i m σ' H' ⟨rfl,hi,ι',e',M',x',w',p'⟩
 by_cases hlt:i<it.ds.length
 ·rw[List.drop_eq_getElem_cons hlt]at p'
  unfold rM at p'
  by_cases ok':jX it.src M'
  ·rw[if_pos ok']at p'
   obtain⟨go,yl⟩:=(step ι' M' H' x' w'.rl ok' i).1 _ (List.getElem?_eq_getElem hlt)
   refine .inr ⟨go,fun σ2 H2=>∃jO e2 M2,Ext X.K dz M1.length H1 jO M2.length H2∧Ws X.K ct jO e2 M2 σ2 H2∧Df X.K ct W jO M2.length H2 (rM it.src g b (it.ds.drop (i+1)) e2 M2) T,?_,?_⟩
   ·rintro σ2 H2 ⟨jO,e2,M2,x2,w2,p2⟩
    exact⟨it.ds.length - (i+1),by omega,rfl,hlt,jO,e2,M2,x2,w2,p2⟩
   ·intro x H2 y
    obtain⟨x2,r2,dv⟩:=yl x H2 y
    have w2:=w'.ext x2 r2
    have p2:=p'.ext x2
    refine⟨ι',e',M',_,w2,dv,?_⟩
    cases z:g it.ds[i] e' with
    | none=>rw[z]at p2;exact p2
    | some e2=>
     rw[z]at p2
     intro σ3 w3
     refine⟨ι',e2,M',w3,?_⟩
     cases z3:b e2 M' with
     | next e4 M4=>simp only[z3]at p2;exact fun ι5 σ5 H5 x5 w5=>⟨ι5,e4,M4,(x'.trans x2).trans x5,w5,p2.ext x5⟩
     | cont e4 M4=>simp only[z3]at p2;exact fun ι5 σ5 H5 x5 w5=>⟨ι5,e4,M4,(x'.trans x2).trans x5,w5,p2.ext x5⟩
     | brk e4 M4=>simp only[z3]at p2;exact p2
     | ret d M4=>simp only[z3]at p2;exact p2
     | exc xc xd xe xM=>simp only[z3]at p2;exact p2
     | bad=>simp only[z3]at p2;exact p2
  ·rw[if_neg ok']at p'
   exact p'.elim
 ·have e0:i=it.ds.length:=by omega
  subst e0
  rw[List.drop_length]at p'
  unfold rM at p'
  by_cases ok':jX it.src M'
  ·rw[if_pos ok']at p'
   exact .inl ⟨(step ι' M' H' x' w'.rl ok' _).2 (Nat.le_refl _),p' ι' σ' H' .refl w'⟩
  ·rw[if_neg ok']at p'
   exact p'.elim
def Pk(d:D)(M1:Mem):Out Itm:=match d with
 | .ref n=>match qD M1 n with
  | some ds=> .ok ⟨some (n,ds),ds⟩ M1
  | none=> .bad
 | .cl ds=> .ok ⟨none,ds⟩ M1
 | .tup ds=> .ok ⟨none,ds⟩ M1
 | _=> .bad
def tX(m:ME):MI:=fun e M=>(m e M).bind Pk
theorem acN{tg l:Expr}{tl:TE}(hl:PE X l tl):PI X tg l (fun σ H R=>tl σ H fun x H1=>∃a,x= .ref a∧(((∃xs,yt X.K H1 a xs)∧((∀xs,yt X.K H1 a xs→xs.length≤sizeLine)→R (Itl X.K a) H1))∨((∃xs,vK X.K H1 a xs)∧((∀xs,vK X.K H1 a xs→xs.length≤sizeLine)→R (Itt X.K a) H1)))):=by
 intro pins s σ H R I h
 refine gU (hl pins s σ H _ I h) fun v s1 ⟨x,H1,I1,r1,q1⟩=> ?_
 obtain⟨a,e,q⟩:=q1
 subst e
 cases r1
 rcases q with⟨⟨xs,hq⟩,q⟩ | ⟨⟨xs,hq⟩,q⟩
 ·obtain⟨its,rv,p,hz⟩:=I1.list hq
  have q:=q fun ys hy=>by obtain⟨_,_,_,hz⟩:=I1.list hy;exact hz
  refine wpAny_pyIter_list p.isList ?_
  refine⟨s1.heap.objs.size,[s1.heap.objs.size],_,_,H1,rfl,I1.kept (t':=s1.toks) fun b o e=>Heap.get?_push_of_some _ e,U8 a _,⟨_,Heap.get?_push_size _ rfl,rfl,rfl⟩,fun b hb=> ?_,q⟩
  have e:b=s1.heap.objs.size:=by simpa using hb
  subst e
  exact I1.V6 (Nat.le_refl _) (I1.hok.fresh (Nat.le_refl _))
 ·obtain⟨its,rv,p,hz⟩:=I1.tuple hq
  have q:=q fun ys hy=>by obtain⟨_,_,_,hz⟩:=I1.tuple hy;exact hz
  refine wpAny_pyIter_tuple (show s1.heap.IsTuple a its.toArray from p) ?_
  refine⟨s1.heap.objs.size,[s1.heap.objs.size],_,_,H1,rfl,I1.kept (t':=s1.toks) fun b o e=>Heap.get?_push_of_some _ e,QK a _,⟨_,Heap.get?_push_size _ rfl,rfl,rfl⟩,fun b hb=> ?_,q⟩
  have e:b=s1.heap.objs.size:=by simpa using hb
  subst e
  exact I1.V6 (Nat.le_refl _) (I1.hok.fresh (Nat.le_refl _))
theorem Pj{K:PySem.W.Frag}{ι:Nat→Addr}{M:Mem}{H:Hp}{a:Addr}{xs:List V}{ds:List D}(R:Rl K ct ι M H)(hq:yt K H a xs)(hd:lB K ct ι M.length H ds xs)(i:Nat):
  (∀d,ds[i]? = some d→(Itl K a).go i H∧∀x H2,(Itl K a).WD i H x H2→Ext K ι M.length H ι M.length H2∧Rl K ct ι M H2∧DV K ct ι M.length H2 d x)∧(ds.length≤i→(Itl K a).stop i H):=by
 refine⟨fun d e=> ?_,fun h=>⟨xs,hq,by rw[hd.length];exact h⟩⟩
 obtain⟨v,hv,dv⟩:=hd.at e
 refine⟨⟨xs,v,hq,hv⟩,fun x H2 y=> ?_⟩
 obtain⟨e2,y⟩:=y
 subst e2
 have z:=y xs hq
 rw[hv]at z
 cases z
 exact⟨.refl,R,dv⟩
theorem Yl{K:PySem.W.Frag}{ι:Nat→Addr}{M:Mem}{H:Hp}{a:Addr}{xs:List V}{ds:List D}(R:Rl K ct ι M H)(hq:vK K H a xs)(hd:lB K ct ι M.length H ds xs)(i:Nat):
  (∀d,ds[i]? = some d→(Itt K a).go i H∧∀x H2,(Itt K a).WD i H x H2→Ext K ι M.length H ι M.length H2∧Rl K ct ι M H2∧DV K ct ι M.length H2 d x)∧(ds.length≤i→(Itt K a).stop i H):=by
 refine⟨fun d e=> ?_,fun h=>⟨xs,hq,by rw[hd.length];exact h⟩⟩
 obtain⟨v,hv,dv⟩:=hd.at e
 refine⟨⟨xs,v,hq,hv⟩,fun x H2 y=> ?_⟩
 obtain⟨e2,y⟩:=y
 subst e2
 have z:=y xs hq
 rw[hv]at z
 cases z
 exact⟨.refl,R,dv⟩
theorem pF{tg:Expr}(hl:SE X ct W a ma):SI X ct W tg a (tX ma):=PI.imp (acN hl) fun σ H R q=>by
 obtain⟨ι,e,M,w,p⟩:=b_ (fQ:=d8 X.K ct) (f:=fun d _ M1=>Pk d M1) q
 refine⟨ι,e,M,w,p.mono fun v H1 ⟨dz,e1,M1,d,w1,q1,p1⟩=> ?_⟩
 cases q1 with
 | @ref n hn=>
  dsimp only[Pk]at p1
  cases z:qD M1 n with
  | none=>rw[z]at p1;exact p1.elim
  | some ds=>
   rw[z]at p1
   obtain⟨xs,hH,hd⟩:=w1.rl.obj n _ (pM.mp z)
   refine⟨_,rfl,.inl ⟨⟨xs,yt.of hH⟩,fun hz=>p1 dz _ H1 .refl w1.rl ⟨z,by rw[←hd.length];exact hz xs (yt.of hH),fun jO M2 H2 x2 r2 ok2 i=> ?_⟩⟩⟩
   obtain⟨xs2,hH2,hd2⟩:=r2.obj n _ (pM.mp ok2)
   rw[←x2.same n hn]
   exact Pj r2 (yt.of hH2) hd2 i
 | cl h1 h2=>exact⟨_,rfl,.inl ⟨⟨_,h1.sq⟩,fun hz=>p1 dz _ H1 .refl w1.rl ⟨trivial,by rw[←h2.length];exact hz _ h1.sq,fun jO M2 H2 x2 r2 ok2 i=>Pj r2 (x2.zR _ _ h1).sq (h2.mono x2) i⟩⟩⟩
 | tup h1 h2=>exact⟨_,rfl,.inr ⟨⟨_,vK.of h1⟩,fun hz=>p1 dz _ H1 .refl w1.rl ⟨trivial,by rw[←h2.length];exact hz _ (vK.of h1),fun jO M2 H2 x2 r2 ok2 i=>Yl r2 (vK.of (x2.tup _ _ h1)) (h2.mono x2) i⟩⟩⟩
 | _=>exact p1.elim
def Gb(lo:Int)(n:Nat):List D:=(List.range n).map fun(k:Nat)=>D.int (lo+k)
def K6(ds:List D)(M1:Mem):Out Itm:=match ds with
 | [.int j]=>if -(2 ^ 62)≤j∧j<2 ^ 24 then .ok ⟨none,Gb 0 j.toNat⟩ M1 else .bad
 | _=> .bad
def O3(ms:MA):MI:=fun e M=>(ms e M).bind K6
theorem Ym{K:PySem.W.Frag}{ι:Nat→Addr}{M:Mem}{H:Hp}(R:Rl K ct ι M H)(lo:Int)(n i:Nat):
  (∀d,(Gb lo n)[i]? = some d→(Itr lo n).go i H∧∀x H2,(Itr lo n).WD i H x H2→Ext K ι M.length H ι M.length H2∧Rl K ct ι M H2∧DV K ct ι M.length H2 d x)∧((Gb lo n).length≤i→(Itr lo n).stop i H):=by
 refine⟨fun d e=> ?_,fun h=>(by simpa[Gb]using h:n≤i)⟩
 unfold Gb at e
 rw[List.getElem?_map]at e
 obtain⟨k,hk,rfl⟩:=Option.map_eq_some_iff.mp e
 obtain⟨hi,e2⟩:=List.getElem?_eq_some_iff.mp hk
 have hi':i<n:=by simpa using hi
 have ek:k=i:=by rw[←e2];simp
 subst ek
 refine⟨hi',fun x H2 y=> ?_⟩
 obtain⟨e3,y⟩:=y
 subst e3 y
 exact⟨.refl,R,.int _⟩
theorem adn:(2 ^ 24:Nat)≤sizeLine:=by rw[sizeLine_eq];decide
theorem Dq{tg a:Expr}{ms:MA}{p pos:Pos}(hg:Gl X "range")(hm:X.mg "range" = none)(ha:SA X ct W [a] ms)(hs:starEach [a] X.env=[(false,eval a X.env)]:=by rfl):SI X ct W tg (.Call (.Name "range" p) [a] [] pos) (O3 ms):=PI.imp (Vo hg hm ha hs) fun σ H R q=>by
 obtain⟨ι,e,M,w,p⟩:=b_ (fQ:=Hq X.K ct) (f:=fun ds _ M1=>K6 ds M1) q
 refine⟨ι,e,M,w,p.mono fun v H1 ⟨dz,e1,M1,d,w1,q1,p1⟩=> ?_⟩
 dsimp only[K6]at p1
 split at p1
 ·rename_i j
  obtain⟨v,rfl,q2⟩:=wC q1
  cases vI q2
  split at p1
  ·rename_i hj
   have hz:=adn
   exact⟨j,rfl,hj.1,by omega,p1 dz _ H1 .refl w1.rl ⟨trivial,by simp[Gb];omega,fun jO M2 H2 x2 r2 ok2 i=>Ym r2 0 _ i⟩⟩
  ·exact p1.elim
 ·exact p1.elim
def Dh(c:MT)(b:MS):Nat→Sl→Mem→sS
 | 0,_,_=> .bad
 | n+1,e,M=>match c e M with
  | .bad=> .bad
  | .exc c d M1=> .exc c d e M1
  | .ok false M1=> .next e M1
  | .ok true M1=>match b e M1 with
   | .next e2 M2=>Dh c b n e2 M2
   | .cont e2 M2=>Dh c b n e2 M2
   | .brk e2 M2=> .next e2 M2
   | .ret d M2=> .ret d M2
   | .exc c d e2 M2=> .exc c d e2 M2
   | .bad=> .bad
theorem Gy{c:MT}{b:MS}:∀(n:Nat) (e:Sl) (M:Mem),Dh c b n e M≠ .bad→Dh c b (n+1) e M=Dh c b n e M
 | 0,_,_,h=>absurd rfl h
 | n+1,e,M,h=>by
  unfold Dh at h ⊢
  cases z:c e M with
  | bad=>rfl
  | exc _ _ _=>rfl
  | ok k M1=>
   cases k with
   | false=>rfl
   | true=>
    simp only[z]at h ⊢
    cases z2:b e M1 with
    | next e2 M2=>simp only[z2]at h ⊢;exact Gy n e2 M2 h
    | cont e2 M2=>simp only[z2]at h ⊢;exact Gy n e2 M2 h
    | brk e2 M2=>rfl
    | ret d M2=>rfl
    | exc _ _ _ _=>rfl
    | bad=>rfl
theorem QG{c:MT}{b:MS}{n:Nat}{e:Sl}{M:Mem}(h:Dh c b n e M≠ .bad):∀k,Dh c b (n+k) e M=Dh c b n e M
 | 0=>rfl
 | k+1=>by
  have ih:=QG h k
  rw[←Nat.add_assoc,Gy _ _ _ (by rw[ih];exact h)]
  exact ih
open Classical in
def Ax(c:MT)(b:MS):MS:=fun e M=>if h:∃n,Dh c b n e M≠ .bad then Dh c b (Classical.choose h) e M else .bad
theorem Du{c:MT}{b:MS}{n:Nat}{e:Sl}{M:Mem}{o:sS}(h:Dh c b n e M=o)(ho:o≠ .bad):Ax c b e M=o:=by
 have ex:∃n,Dh c b n e M≠ .bad:=⟨n,by rw[h];exact ho⟩
 unfold Ax
 rw[dif_pos ex]
 have h1:=Classical.choose_spec ex
 rcases Nat.le_total n (Classical.choose ex)with l | l
 ·obtain⟨k,hk⟩:=Nat.exists_eq_add_of_le l
  rw[hk,QG (by rw[h];exact ho) k,h]
 ·obtain⟨k,hk⟩:=Nat.exists_eq_add_of_le l
  rw[←h,hk,QG h1 k]
theorem GX{c:Expr}{body:List Stmt}{mc:MT}{b:MS}(hp:X.Ok→PassesOwn (model X.prog X.w) X.A X.env X.xe)(hc:Wm X ct W c mc)(hb:SSs X ct W body b):SS X ct W (.While c body [] pos) (Ax mc b):=PS.imp (fun pins s σ H D I h=>Xu (hp I.ok) hc hb pins s σ H D I h) fun T σ H ⟨ι,e,M,w,p⟩=>by
 unfold Ax at p
 split at p
 ·rename_i ex
  refine⟨fun m σ' H'=>∃ι' e' M',Ws X.K ct ι' e' M' σ' H'∧Df X.K ct W ι' M'.length H' (Dh mc b m e' M') T,⟨_,ι,e,M,w,p⟩,?_⟩
  rintro m σ' H' ⟨ι',e',M',w',p'⟩
  cases m with
  | zero=>exact p'.elim
  | succ m=>
   refine⟨ι',e',M',w',?_⟩
   unfold Dh at p'
   cases z:mc e' M' with
   | bad=>rw[z]at p';exact p'
   | exc xc xd xM=>rw[z]at p';exact fun jO dx v H2 x r q1 q2=>p' jO σ' dx v H2 x (w'.ext x r) q1 q2
   | ok k M1=>
    intro jO k2 H2 x2 r2 ek
    have Mj:k=k2:=ek;subst Mj
    have w2:=w'.ext x2 r2
    cases k with
    | false=>rw[z]at p';exact p' jO σ' H2 x2 w2
    | true=>
     simp only[z]at p'
     have p2:=p'.ext x2
     show ∃N:St→Hp→Prop,_
     refine⟨fun σ3 H3=>∃An e3 M3,Ws X.K ct An e3 M3 σ3 H3∧Df X.K ct W An M3.length H3 (Dh mc b m e3 M3) T,fun σ3 H3 q3=>⟨m,Nat.lt_succ_self _,q3⟩,jO,e',M1,w2,?_⟩
     cases z3:b e' M1 with
     | next e4 M4=>simp only[z3]at p2;exact fun ι5 σ5 H5 x5 w5=>⟨ι5,e4,M4,w5,p2.ext x5⟩
     | cont e4 M4=>simp only[z3]at p2;exact fun ι5 σ5 H5 x5 w5=>⟨ι5,e4,M4,w5,p2.ext x5⟩
     | brk e4 M4=>simp only[z3]at p2;exact p2
     | ret d M4=>simp only[z3]at p2;exact p2
     | exc xc xd xe xM=>simp only[z3]at p2;exact p2
     | bad=>simp only[z3]at p2;exact p2
 ·exact p.elim
def o6(js:List Nat)(e:Sl):Sl:=js.map fun i=>(e[i]?).join
def Out.noX{α:Type}(o:Out α):Out α:=match o with
 | .ok a M=> .ok a M
 | _=> .bad
@[simp] theorem wZ{α:Type}(a:α)(M:Mem):(Out.ok a M).noX= .ok a M:=id rfl
@[simp] theorem Ge{α:Type}:(Out.bad:Out α).noX= .bad:=id rfl
@[simp] theorem Gd{α:Type}(c:Nat)(d:D)(M:Mem):(Out.exc c d M:Out α).noX= .bad:=id rfl
def uI(src:Option (Nat×List D))(tt:MT)(te:ME)(ce:Sl):List D→List D→Mem→Out D
 | [],ys,M=>if jX src M then .ok (.ref M.length) (M++[.lst ys])else .bad
 | d::ds,ys,M=>if jX src M then(tt (some d::ce) M).noX.bind fun k M1=>if k=true then(te (some d::ce) M1).noX.bind fun y M2=>uI src tt te ce ds (ys++[y]) M2 else uI src tt te ce ds ys M1 else .bad
def vY(js:List Nat)(mi:MI)(tt:MT)(te:ME):ME:=fun e M=>(mi e M).bind fun it M1=>uI it.src tt te (o6 js e) it.ds [] M1
def STs(X:Cx)(ct:Nat→Addr)(W:bG)(ifs:List Expr)(m:MT):Prop:=PTs X ifs (tG Cg X.K ct W m)
def sE:MT:=fun _ M=> .ok true M
theorem pU:STs X ct W [] sE:=fun pins s σ H Q I ⟨ι,e,M,w,p⟩=>Z2 pins s σ H Q I (p ι true H .refl w.rl rfl)
theorem Zv{c:Expr}{m:MT}(h:Wm X ct W c m):STs X ct W [c] m:=Z1 h
theorem Ws.caps{K:PySem.W.Frag}{ι:Nat→Addr}{e:Sl}{M:Mem}{σ:St}{H:Hp}{d:D}{v:V}(w:Ws K ct ι e M σ H)(js:List Nat)(h:DV K ct ι M.length H d v):Ws K ct ι (some d::o6 js e) M (some v::L2.caps js σ) H:=by
 refine⟨w.rl,by simp[o6,L2.caps],fun i x hx=> ?_⟩
 cases i with
 | zero=>simp at hx;subst hx;exact⟨v,rfl,h⟩
 | succ i=>
  simp only[List.getElem?_cons_succ,o6,List.getElem?_map]at hx
  obtain⟨j,hj,ej⟩:=Option.map_eq_some_iff.mp hx
  cases z:e[j]? with
  | none=>rw[z]at ej;cases ej
  | some o=>
   rw[z]at ej
   cases(show o=some x from ej)
   obtain⟨u,hu,du⟩:=w.env j x z
   refine⟨u,?_,du⟩
   simp only[List.getElem?_cons_succ,L2.caps,List.getElem?_map,hj,Option.map_some,hu]
   rfl
theorem Nz{js:List Nat}{mi:MI}{tt:MT}{te:ME}{σ:St}{H:Hp}{Q:VK}(h:tG (d8 X.K ct) X.K ct W (vY js mi tt te) σ H Q):W8 js (tG (Vk X.K ct) X.K ct W mi) (tG Cg X.K ct W0 tt) (tG (d8 X.K ct) X.K ct W0 te) σ H Q:=by
 obtain⟨ι,e,M,w,p⟩:=b_ (fQ:=Vk X.K ct) (f:=fun it e M1=>uI it.src tt te (o6 js e) it.ds [] M1) h
 refine⟨ι,e,M,w,p.mono fun J H1 ⟨dz,e1,M1,it,w1,q1,p1⟩=> ?_⟩
 obtain⟨ok1,hz,step⟩:=q1
 refine⟨fun i m ys H'=>m=it.ds.length - i∧i≤it.ds.length∧ys.length≤i∧∃ι' M' ds',Ext X.K dz M1.length H1 ι' M'.length H'∧Rl X.K ct ι' M' H'∧lB X.K ct ι' M'.length H' ds' ys∧jh (d8 X.K ct) X.K ct (wAt W σ) ι' M'.length H' (uI it.src tt te (o6 js e1) (it.ds.drop i) ds' M') Q,
  ⟨it.ds.length,by simp,Nat.zero_le _,Nat.le_refl _,dz,M1,[],.refl,w1.rl,.nil,by simpa using p1⟩,?_⟩
 rintro i m ys H' ⟨rfl,hi,hy,ι',M',ds',x',r',dy,p'⟩
 by_cases hlt:i<it.ds.length
 ·rw[List.drop_eq_getElem_cons hlt]at p'
  unfold uI at p'
  by_cases ok':jX it.src M'
  ·rw[if_pos ok']at p'
   obtain⟨go,yl⟩:=(step ι' M' H' x' r' ok' i).1 _ (List.getElem?_eq_getElem hlt)
   refine .inr ⟨go,fun Wq H2=>Wq.length≤i+1∧∃jO M2 ds2,Ext X.K dz M1.length H1 jO M2.length H2∧Rl X.K ct jO M2 H2∧lB X.K ct jO M2.length H2 ds2 Wq∧jh (d8 X.K ct) X.K ct (wAt W σ) jO M2.length H2 (uI it.src tt te (o6 js e1) (it.ds.drop (i+1)) ds2 M2) Q,?_,?_⟩
   ·rintro Wq H2 ⟨hl2,q2⟩
    exact⟨by omega,it.ds.length - (i+1),by omega,rfl,hlt,hl2,q2⟩
   ·intro x H2 y
    obtain⟨x2,r2,dv⟩:=yl x H2 y
    have w2:Ws X.K ct ι' (some it.ds[i]::o6 js e1) M' (some x::L2.caps js σ) H2:=(w1.ext (x'.trans x2) r2).caps js dv
    have p2:=p'.ext x2
    refine⟨ι',_,M',w2,?_⟩
    cases z:tt (some it.ds[i]::o6 js e1) M' with
    | bad=>simp only[z,Ge,Out.fD]at p2;exact p2
    | exc xc xd xM=>simp only[z,Gd,Out.fD]at p2;exact p2.elim
    | ok k M3=>
     simp only[z,wZ,Out.eZ]at p2
     intro An k3 H3 x3 r3 ek
     have Mj:k=k3:=ek;subst Mj
     have p3:=p2.ext x3
     have w3:=w2.ext x3 r3
     have dy3:=(dy.mono x2).mono x3
     cases k with
     | false=>exact⟨by omega,An,M3,ds',(x'.trans x2).trans x3,r3,dy3,p3⟩
     | true=>
      simp only[if_true]at p3 ⊢
      refine⟨An,_,M3,w3,?_⟩
      cases z4:te (some it.ds[i]::o6 js e1) M3 with
      | bad=>simp only[z4,Ge,Out.fD]at p3;exact p3
      | exc xc xd xM=>simp only[z4,Gd,Out.fD]at p3;exact p3.elim
      | ok yy M4=>
       simp only[z4,wZ,Out.eZ]at p3
       intro ι4 v4 H4 x4 r4 d4
       exact⟨by rw[List.length_append];simp;omega,ι4,M4,ds'++[yy],((x'.trans x2).trans x3).trans x4,r4,(dy3.mono x4).append (.cons d4 .nil),p3.ext x4⟩
  ·rw[if_neg ok']at p'
   exact p'.elim
 ·have e0:i=it.ds.length:=by omega
  subst e0
  rw[List.drop_length]at p'
  unfold uI at p'
  by_cases ok':jX it.src M'
  ·rw[if_pos ok']at p'
   exact .inl ⟨(step ι' M' H' x' r' ok' _).2 (Nat.le_refl _),by omega,fun pp hp=>oH r' dy hp p'⟩
  ·rw[if_neg ok']at p'
   exact p'.elim
variable{elt iter:Expr}{ifs:List Expr}{scope:Scope}{x:Str}{px:Pos}{mi:MI}{tt:MT}{te:ME}
theorem wV(hc:X.calm=true)(cs:List Str)(js:List Nat)(hi:SI X ct W (.Name x px) iter mi)(hcap:uP X scope cs js)(ht:∀cl C fp s H,STs (bz X scope cl C (x::cs) fp s H) ct W0 ifs tt)(he:∀cl C fp s H,SE (bz X scope cl C (x::cs) fp s H) ct W0 elt te)
  (hall:∀y∈scope.names,y.2= .free→y.1∈cs) (hcell:∀y∈scope.names,y.2≠ .cell) (hnames:∀y∈scope.names,y.2= .local→scope.names.lookup y.1=some .local) (hnd:(x::cs).Nodup)
  (hkind:scope.kind= .function:=by rfl) (hx:scope.names.lookup x=some .local:=by rfl) (hs:∀v,foldedSetIterable iter X.env v=pure v:=by intro _;rfl):
  SE X ct W (.ListComp elt [⟨.Name x px,iter,ifs,0⟩] scope pos) (vY js mi tt te):=
 fP (aad (tt:=tG Cg X.K ct W0 tt) (te:=tG (d8 X.K ct) X.K ct W0 te) hc cs js hi hcap (fun cl C fp s H=>ht cl C fp s H) (fun cl C fp s H=>he cl C fp s H) hall hcell hnames hnd hkind hx hs) fun σ H Q q=>Nz q
theorem S8{y:Str}{py spos:Pos}{k:Nat}(hc:X.calm=true)(cs:List Str)(js:List Nat)(hN:X.N.Nodup)(hk:X.N[k]? = some y)(hy:X.env.scope.names.lookup y=some .local)(hi:SI X ct W (.Name x px) iter mi)(hcap:uP X scope cs js)
  (ht:∀cl C fp s H,STs (bz X scope cl C (x::cs) fp s H) ct W0 ifs tt) (he:∀cl C fp s H,SE (bz X scope cl C (x::cs) fp s H) ct W0 elt te)
  (hall:∀y∈scope.names,y.2= .free→y.1∈cs) (hcell:∀y∈scope.names,y.2≠ .cell) (hnames:∀y∈scope.names,y.2= .local→scope.names.lookup y.1=some .local) (hnd:(x::cs).Nodup)
  (hsw:swapsWith (.ListComp elt [⟨.Name x px,iter,ifs,0⟩] scope pos) (some (.Name y py)) spos.line X.env=pure true:=by rfl)
  (hkind:scope.kind= .function:=by rfl) (hx:scope.names.lookup x=some .local:=by rfl) (hs:∀v,foldedSetIterable iter X.env v=pure v:=by intro _;rfl):
  SS X ct W (.Assign [.Name y py] (.ListComp elt [⟨.Name x px,iter,ifs,0⟩] scope pos) spos) (cU (vY js mi tt te) (gN k)):=
 PS.imp (Z_ (tt:=tG Cg X.K ct W0 tt) (te:=tG (d8 X.K ct) X.K ct W0 te) hc cs js hN hk hy hi hcap (fun cl C fp s H=>ht cl C fp s H) (fun cl C fp s H=>he cl C fp s H) hall hcell hnames hnd hsw hkind hx hs) fun T σ H q=>S5 (fun _ q=>Nz q) (fun v H Q ⟨ι,e,M,d,w,q,p⟩=>p _ (w.set k q)) q
end
def slots(n:Nat)(ds:List D):Sl:=ds.map some++List.replicate (n - ds.length) none
def bA(n:Nat)(b:MS):Fn:=fun ds M=>match b (slots n ds) M with
 | .ret d M'=> .ok d M'
 | .next _ M'=> .ok .non M'
 | .exc c d _ M'=> .exc c d M'
 | _=> .bad
theorem Ws.start{K:PySem.W.Frag}{ct ι:Nat→Addr}{M:Mem}{H:Hp}{ds:List D}{vs:List V}(N:List Str)(R:Rl K ct ι M H)(h:lB K ct ι M.length H ds vs):Ws K ct ι (slots N.length ds) M (L2.start N vs) H:=by
 refine⟨R,by simp[slots,L2.start,h.length],fun i d hd=> ?_⟩
 unfold slots at hd
 by_cases z:i<ds.length
 ·rw[List.getElem?_append_left (by simpa using z),List.getElem?_map]at hd
  obtain⟨d',e1,e2⟩:=Option.map_eq_some_iff.mp hd
  cases e2
  obtain⟨v,hv,dv⟩:=h.at e1
  refine⟨v,?_,dv⟩
  unfold L2.start
  rw[List.getElem?_append_left (by rw[List.length_map,h.length];exact z),List.getElem?_map,hv]
  rfl
 ·rw[List.getElem?_append_right (by simpa using z),List.getElem?_replicate]at hd
  split at hd<;>cases hd
section
variable{P:Program}{w:World}{K:PySem.W.Frag}{mg:Str→Option Value}{base:Heap}{ct:Nat→Addr}
theorem iU{n ar:Nat}{b:MS}{x qual:Str}{st:Stmt}{dV:Value}{f:Addr}{fd:FuncData}{N ps:List Str}{k:Nat}(F:bx K x qual st dV f fd)(S:aU N ps (au st))(hn:N.length=n)(har:ps.length=ar)
  (hbody:∀(cdv:Value) (A:Around) (outer:List PySem.Env) (s:Shared) (H:Hp) (E:XK) (W:bG),lQ k (A.deeper (envOfC qual (au st) s.heap.objs.size f cdv))→
   SSs ((Bh (fG P w) P w K mg base N qual (au st) f cdv A outer s H E).wish (mU (Bh (fG P w) P w K mg base N qual (au st) f cdv A outer s H E) W)) ct W (aG st) b):
  aX P w K mg base (fG P w) (k+1) f fd ps (spS K ct (bA n b) ar):=by
 subst hn har
 refine F.okX S (fun vs H Q E ⟨ι,ds,M,hl,_,hd,_⟩=>by rw[hd.length,hl]) fun cdv A outer s H vs Q E hr ⟨ι,ds,M,hl,R,hd,p⟩=> ?_
 refine⟨_,fun C dx _ H'=>E (.ref C) (some dx) H',fun C dx σ H' z=>z,hbody cdv A outer s H E _ hr,ι,slots N.length ds,M,Ws.start N R hd,?_⟩
 unfold bA at p
 cases z:b (slots N.length ds) M with
 | ret d M'=>rw[z]at p;exact fun ι' v H' x r q=> .inl (p ι' v H' x r q)
 | next e M'=>rw[z]at p;exact fun ι' σ' H' x w'=> .inl (p ι' .non H' x w'.rl .non)
 | exc c d e M'=>rw[z]at p;exact fun ι' σ' dx v H' x w' q1 q2=>p ι' dx v H' x w'.rl q1 q2
 | brk e M'=>rw[z]at p;exact p.elim
 | cont e M'=>rw[z]at p;exact p.elim
 | bad=>rw[z]at p;exact p.elim
end
theorem aim{P:Program}{w:World}{K:PySem.W.Frag}{mg:Str→Option Value}{base:Heap}{k:Nat}{f:Addr}{fd:FuncData}{ps:List Str}{sp:Sp}(F:aX P w K mg base (fG P w) k f fd ps sp):aX P w K mg base CX0 k f fd ps (fun vs H Q _=>sp vs H Q E0):=
 ⟨fun vs H Q _ h=>F.len vs H Q E0 h,fun A outer s H args us vs Q E hr he hb hv hs=>codeAny_mono (F.run A outer s H args us vs Q E0 hr he hb hv hs) fun r s' hq=>by
  match r,hq with
  | .error e,hq=>obtain⟨_,_,_,_,_,_,_,_,_,_,_,_,_,_,_,z⟩:=hq;exact z.elim
  | .ok (.ret u),hq=>exact hq⟩
theorem oJ{Y:Cx}{W:bG}(hst:Y.stack=Y.env::Y.outer)(hf:Y.env.frame=some Y.env.locals)(ok:(Y.wish (mU Y W)).Ok):PassesOwn (model Y.prog Y.w) Y.A Y.env (mU Y W):=fun ev s' h=>mU.Vr hst hf ok.frames ev s' h
theorem Tk.none{X:Cx}:Tk X W0:=fun _ _ ⟨_,_,_,_,_,_,_,_,_,_,_,_,_,_,z⟩=>z.elim
def spL(K:PySem.W.Frag):Sp:=fun vs H Q _=>∃(a:Addr) (ns:List Int),vs=[.ref a]∧FrL K H a (ns.map V.int)∧ns.length≤63∧∀H',Q (.bl true) H'
theorem PL{K:PySem.W.Frag}{ct ι:Nat→Addr}{n:Nat}{H:Hp}:∀ns:List Int,lB K ct ι n H (ns.map D.int) (ns.map V.int)
 | []=> .nil
 | i::r=> .cons (.int i) (PL r)
theorem ahi{P:Program}{w:World}{K:PySem.W.Frag}{mg:Str→Option Value}{base:Heap}{ct:Nat→Addr}{k:Nat}{f:Addr}{fd:FuncData}{x:Str}{fn:Fn}(F:aX P w K mg base (fG P w) k f fd [x] (spS K ct fn 1))
  (h:∀ns:List Int,ns.length≤63→∃M,fn [.cl (ns.map D.int)] []= .ok (.bl true) M):aX P w K mg base CX0 k f fd [x] (spL K):=by
 refine(aim F).imp fun vs H Q E ⟨a,ns,e,hf,hl,q⟩=> ?_
 subst e
 obtain⟨M,e⟩:=h ns hl
 refine⟨fun _=>0,[.cl (ns.map D.int)],[],rfl,⟨fun i j hi=>absurd hi (Nat.not_lt_zero _),fun i o h=>by simp at h⟩,.cons (.cl hf (PL ns)) .nil,?_⟩
 rw[e]
 intro ι' v H' _ _ dv
 cases dv
 exact q H'
theorem afq{l:PySem.W.OpenLaw}{q:Program}{loose:List Str}{XP:(Str→Option Value)→Heap→Prop}{YP:World→Heap→Prop}{d:DefRec}{K:Params→PySem.W.Frag}{x:Str}{k:Nat}(hn:l.most=some 63)(hdf:d.params.defaults=[])(hr:lQ k callerA)
  (hY:∀(w:World) (h:Heap),YP w h→(K w.params).In h)
  (F:∀(w:World) (mg:Str→Option Value) (fa:Addr) (h:Heap),(K w.params).In h→h.Ns mainGlobals mg→mg d.name=some (.ref fa)→
   ∃fd:FuncData,(∀(s:Shared) (u:Value),BindsTo s fd ⟨[u],[]⟩ [(x,u)])∧∀base:Heap,(K w.params).In base→base.Ns mainGlobals mg→aX l.prog w (K w.params) mg base CX0 k fa fd [x] (spL (K w.params))):
  PySem.W.WalkO q loose XP YP l.row.toRowW d [] (fun f vs=>PySem.call f vs):=
 Zh (n:=63) (k:=k) (x:=x) (CX:=fun _=>CX0) (sp:=fun w=>spL (K w.params)) hn (by decide) hdf hr hY F (fun _ H a ns hl hO hS=>⟨a,ns,rfl,by
  rcases hS with(z | z) | z
  ·rcases hO a with n | ⟨o,xs,n⟩
   ·rw[n]at z;cases z
   ·rw[n]at z;cases z
  ·exact .inl z
  ·exact .inr z,hl,fun _=>rfl⟩) fun _ _ _ _ _ z=>z
end S
namespace S
open PySem PySem.Spec PyProof.Rows L2
section
variable{e:Sl}{M:Mem}
@[simp] theorem jW{i:Nat}{d:D}(h:e[i]? = some (some d)):aA i e M= .ok d M:=aau h
@[simp] theorem aq3{d:D}:mC d e M= .ok d M:=id rfl
@[simp] theorem ak7{op:uM}{ma mb:ME}:aD op ma mb e M=(ma e M).bind fun d M1=>(mb e M1).bind fun d' M2=>op d d' M2:=id rfl
@[simp] theorem apu{op:D→Mem→Out D}{ma:ME}:mUn op ma e M=(ma e M).bind op:=id rfl
@[simp] theorem aqv{b:Bool}:RZ (.bl b) M= .ok b M:=id rfl
@[simp] theorem ag1{m:ME}:bW m e M=(m e M).bind RZ:=id rfl
@[simp] theorem ak8{t u:MT}:VF t u e M=(t e M).bind fun k M1=>if k=true then u e M1 else .ok false M1:=id rfl
@[simp] theorem apw{t u:MT}:mOr t u e M=(t e M).bind fun k M1=>if k=true then .ok true M1 else u e M1:=id rfl
@[simp] theorem ak3{t:MT}:O4 t e M=(t e M).bind fun k M1=> .ok (!k) M1:=id rfl
@[simp] theorem ahe{t u:ME}:JX t u e M=(t e M).bind fun d M1=>(RZ d M1).bind fun k M2=>if k=true then u e M2 else .ok (.bl false) M2:=id rfl
@[simp] theorem ak2{t u:ME}:adk t u e M=(t e M).bind fun d M1=>(RZ d M1).bind fun k M2=>if k=true then .ok (.bl true) M2 else u e M2:=id rfl
@[simp] theorem ag4{t:ME}:Yg t e M=(t e M).bind fun d M1=>(RZ d M1).bind fun k M2=> .ok (.bl (!k)) M2:=id rfl
@[simp] theorem apx{t:MT}{a b:ME}:mIf t a b e M=(t e M).bind fun k M1=>if k=true then a e M1 else b e M1:=id rfl
@[simp] theorem ak4:aF e M= .ok [] M:=id rfl
@[simp] theorem ahb{m:ME}{ms:MA}:aq m ms e M=(m e M).bind fun d M1=>(ms e M1).bind fun ds M2=> .ok (d::ds) M2:=id rfl
theorem m8:sizeLine=16777216:=sizeLine_eq
@[simp] theorem ak1{ms:MA}:gQ ms e M=(ms e M).bind fun ds M1=>if ds.length≤16777216 then .ok (.tup ds) M1 else .bad:=by unfold gQ;rw[m8]
@[simp] theorem ak5{ms:MA}:qC ms e M=(ms e M).bind fun ds M1=>if ds.length≤16777216 then .ok (.ref M1.length) (M1++[.lst ds])else .bad:=by unfold qC;rw[m8]
@[simp] theorem ak6{cs:List Nat}{m:ME}{f:Str}:jR cs m f e M=(m e M).bind (z6 cs f):=id rfl
theorem qe{cs:List Nat}{f:Str}{n c:Nat}{fs:List (Str×D)}{d:D}(h:M[n]? = some (.ins c fs))(hc:c∈cs)(hf:fs.lookup f=some d):z6 cs f (.ref n) M= .ok d M:=by
 unfold z6;simp only[h,hc,if_true,hf]
@[simp] theorem ahd{fn:Fn}{ar:Nat}{dv:List D}{ms:MA}:aZ fn ar dv ms e M=(ms e M).bind fun ds M1=>if(ds++dv).length=ar then fn (ds++dv) M1 else .bad:=id rfl
@[simp] theorem ag5{k:Nat}{m:Str}{fn:Fn}{ar:Nat}{dv:List D}{mo:ME}{ms:MA}:cu k m fn ar dv mo ms e M=(mo e M).bind fun d M1=>if Ah k m d M1=true then(ms e M1).bind fun ds M2=>if(d::(ds++dv)).length=ar then fn (d::(ds++dv)) M2 else .bad else .bad:=id rfl
theorem Pr{k:Nat}{m:Str}{n:Nat}{fs:List (Str×D)}(h:M[n]? = some (.ins k fs))(hf:fs.lookup m=none):Ah k m (.ref n) M=true:=by
 unfold Ah;simp[h,hf]
@[simp] theorem ag6{kc:Nat}{fn:Fn}{ar:Nat}{dv:List D}{ms:MA}:Cy kc fn ar dv ms e M=(ms e M).bind fun ds M1=>if(D.ref M1.length::(ds++dv)).length=ar then(fn (.ref M1.length::(ds++dv)) (M1++[.ins kc []])).bind fun r M2=>if Pq r=true then .ok (.ref M1.length) M2 else .bad else .bad:=id rfl
@[simp] theorem ae6:Pq .non=true:=id rfl
@[simp] theorem apz{op:Kg}{ms:MA}:yq op ms e M=(ms e M).bind op:=id rfl
@[simp] theorem apA{T:String}{op:D→List D→Mem→Out D}{mo:ME}{ms:MA}:Gi T op mo ms e M=(mo e M).bind fun d M1=>if FP T d M1=true then(ms e M1).bind fun ds M2=>op d ds M2 else .bad:=id rfl
@[simp] theorem apv{m:ME}{lo hi:MO'}:Zb m lo hi e M=(m e M).bind fun d M1=>(lo e M1).bind fun l M2=>(hi e M2).bind fun h M3=>N6 d l h M3:=id rfl
@[simp] theorem ag3{m:ME}:yR m e M=(m e M).bind asI:=id rfl
@[simp] theorem adl:sy e M= .ok none M:=id rfl
@[simp] theorem amN{i:Int}:asI (.int i) M= .ok (some i) M:=id rfl
@[simp] theorem ag8{m:ME}:tX m e M=(m e M).bind Pk:=id rfl
@[simp] theorem ah8{ds:List D}:Pk (.tup ds) M= .ok ⟨none,ds⟩ M:=id rfl
theorem qF{n:Nat}{ds:List D}(h:M[n]? = some (.lst ds)):Pk (.ref n) M= .ok ⟨some (n,ds),ds⟩ M:=by simp only[Pk,cN h]
@[simp] theorem ag2{ms:MA}:O3 ms e M=(ms e M).bind K6:=id rfl
theorem Hl{j:Int}(h: -(2 ^ 62)≤j)(h2:j<2 ^ 24):K6 [.int j] M= .ok ⟨none,Gb 0 j.toNat⟩ M:=by simp only[K6];rw[if_pos ⟨h,h2⟩]
@[simp] theorem ahc{js:List Nat}{mi:MI}{tt:MT}{te:ME}:vY js mi tt te e M=(mi e M).bind fun it M1=>uI it.src tt te (o6 js e) it.ds [] M1:=id rfl
@[simp] theorem aaw:sE e M= .ok true M:=id rfl
@[simp] theorem Mg{C:Int→Int→Bool}{g:Int→Int→D}{i j:Int}:Qw C g (.int i) (.int j) M=if C i j=true then .ok (g i j) M else .bad:=id rfl
@[simp] theorem af2{i j:Int}:dj (.int i) (.int j) M= .ok (.int (i+j)) M:=id rfl
@[simp] theorem afM{i j:Int}:KQ (.int i) (.int j) M= .ok (.int (i - j)) M:=id rfl
@[simp] theorem akQ{i j:Int}:sLt (.int i) (.int j) M= .ok (.bl (decide (i<j))) M:=id rfl
@[simp] theorem afT{i j:Int}:Xh (.int i) (.int j) M= .ok (.bl (decide (i≤j))) M:=id rfl
@[simp] theorem afX{i j:Int}:Vi (.int i) (.int j) M= .ok (.bl (decide (j<i))) M:=id rfl
@[simp] theorem afY{i j:Int}:acw (.int i) (.int j) M= .ok (.bl (decide (j≤i))) M:=id rfl
theorem Oa{i j:Int}(h:(-(2 ^ 64)<i∧i<2 ^ 64)∨(-(2 ^ 64)<j∧j<2 ^ 64)):Hf (.int i) (.int j) M= .ok (.int (i*j)) M:=by
 refine mZ ?_;unfold Xf;rw[Mg,if_pos (by unfold aeL;exact decide_eq_true h)]
theorem N_{a:Str}{n:Int}(ha:a.length≤1000)(h0: -(2 ^ 62)<n)(h1:n≤1000):Hf (.str a) (.int n) M= .ok (.str (PySem.Txt.mul a n)) M:=by
 refine(oK rfl).trans ?_;simp only[Te];rw[if_pos ⟨ha,h0,h1⟩]
theorem Og{i j:Int}(h:0<j)(h2:j<1073741824):Dw (.int i) (.int j) M= .ok (.int (i / j)) M:=by
 unfold Dw;rw[Mg,if_pos (by unfold aeM;exact decide_eq_true ⟨h,h2⟩)]
theorem Hg{i j:Int}(h:0<j):iQ (.int i) (.int j) M= .ok (.int (i % j)) M:=by
 unfold iQ;rw[Mg,if_pos (by unfold ajT;exact decide_eq_true h)]
theorem N7{i j:Int}(h:0≤j∧j≤1000000∧i.natAbs<2 ^ 64):BZ (.int i) (.int j) M= .ok (.int (i ^ j.toNat)) M:=by
 unfold BZ;rw[Mg,if_pos (by unfold YX;exact decide_eq_true h)]
@[simp] theorem afO{i:Int}:ZJ (.int i) M= .ok (.int (-i)) M:=id rfl
theorem Io{d d':D}{a b:Dt}(h:jY M 12 d=some a)(h':jY M 12 d'=some b):Qx M d d'=some (cz a b):=by unfold Qx;rw[h,h']
theorem A_{d d':D}{b:Bool}(h:Qx M d d'=some b):sEq d d' M= .ok (.bl b) M:=by unfold sEq;rw[h]
theorem KY{d d':D}{b:Bool}(h:Qx M d d'=some b):sNe d d' M= .ok (.bl (!b)) M:=by unfold sNe;rw[h]
theorem Ul{i j:Int}:Qx M (.int i) (.int j)=some (decide (i=j)):=by
 rw[Io (a:= .int i) (b:= .int j) rfl rfl];unfold cz;rw[Bool.beq_eq_decide_eq]
theorem Uk{i j:Str}:Qx M (.str i) (.str j)=some (decide (i=j)):=by
 rw[Io (a:= .str i) (b:= .str j) rfl rfl];unfold cz;rw[Bool.beq_eq_decide_eq]
@[simp] theorem akW{i j:Int}:sEq (.int i) (.int j) M= .ok (.bl (decide (i=j))) M:=A_ Ul
@[simp] theorem akP{i j:Int}:sNe (.int i) (.int j) M= .ok (.bl (!decide (i=j))) M:=KY Ul
@[simp] theorem akV{i j:Str}:sEq (.str i) (.str j) M= .ok (.bl (decide (i=j))) M:=A_ Uk
@[simp] theorem akO{i j:Str}:sNe (.str i) (.str j) M= .ok (.bl (!decide (i=j))) M:=KY Uk
theorem Yz{d:D}{t:Dt}(h:jY M 12 d=some t):Qx M d d=some true:=by rw[Io h h,C_]
@[simp] theorem akS{d:D}:sIs d .non M= .ok (.bl (isN d)) M:=id rfl
@[simp] theorem alW:isN .non=true:=id rfl
@[simp] theorem alX{i:Int}:isN (.int i)=false:=id rfl
theorem MJ{α:Type}{xs:List α}{k:Int}(h:0≤k):Jw xs k=xs[k.toNat]? := by
 unfold Jw ixN
 rw[if_pos h]
 by_cases z:k<xs.length
 ·rw[if_pos z];rfl
 ·rw[if_neg z]
  show none=_
  rw[List.getElem?_eq_none (by omega)]
theorem F_{ds:List D}{k:Int}{d:D}(h0:0≤k)(h:ds[k.toNat]? = some d):aR (.tup ds) (.int k) M= .ok d M:=
 mZ (mZ (by simp only[Oc,MJ h0,h]))
theorem acs{ds:List D}{k:Int}{d:D}(h0:0≤k)(h:ds[k.toNat]? = some d):aR (.cl ds) (.int k) M= .ok d M:=
 mZ (mZ (by simp only[Oc,Ar,MJ h0,h]))
theorem jU{n:Nat}{ds:List D}{k:Int}{d:D}(hM:M[n]? = some (.lst ds))(h0:0≤k)(h:ds[k.toNat]? = some d):aR (.ref n) (.int k) M= .ok d M:=
 mZ (mZ (by simp only[Oc,Ar,cN hM,MJ h0,h]))
@[simp] theorem B_{d:D}{r:List D}:aR (.tup (d::r)) (.int 0) M= .ok d M:=F_ (by decide) rfl
@[simp] theorem Hi{d0 d:D}{r:List D}:aR (.tup (d0::d::r)) (.int 1) M= .ok d M:=F_ (by decide) rfl
@[simp] theorem afW{d0 d1 d:D}{r:List D}:aR (.tup (d0::d1::d::r)) (.int 2) M= .ok d M:=F_ (by decide) rfl
@[simp] theorem afV{d0 d1 d2 d:D}{r:List D}:aR (.tup (d0::d1::d2::d::r)) (.int 3) M= .ok d M:=F_ (by decide) rfl
theorem je{n:Nat}{ds:List D}(hM:M[n]? = some (.lst ds)):o9 [.ref n] M= .ok (.int ds.length) M:=XX (XX (by simp only[Th,yD,Ar,cN hM]))
@[simp] theorem akR{ds:List D}:o9 [.cl ds] M= .ok (.int ds.length) M:=id rfl
theorem Dv{n:Nat}{ds:List D}(hM:M[n]? = some (.lst ds)):Ac [.ref n] M= .ok (.ref M.length) (M++[.lst ds]):=by simp only[Ac,yD,Ar,cN hM]
theorem pG{n:Nat}{ds:List D}(hM:M[n]? = some (.lst ds)):rm [.ref n] M= .ok (.tup ds) M:=by simp only[rm,yD,Ar,cN hM]
theorem FZ{n:Nat}{ds:List D}{lo hi:Option Int}(hM:M[n]? = some (.lst ds)):N6 (.ref n) lo hi M= .ok (.ref M.length) (M++[.lst (cut ds lo hi)]):=by simp only[N6,Ar,cN hM]
@[simp] theorem ack{ds:List D}{lo hi:Option Int}:N6 (.cl ds) lo hi M= .ok (.ref M.length) (M++[.lst (cut ds lo hi)]):=id rfl
theorem ji{n:Nat}{ds:List D}{d:D}(hM:M[n]? = some (.lst ds))(h:ds.length<16777216):iC (.ref n) [d] M= .ok .non (M.set n (.lst (ds++[d]))):=by
 simp only[iC,hM];rw[m8,if_pos h]
theorem g_{n:Nat}{ds:List D}(hM:M[n]? = some (.lst ds)):FP "list" (.ref n) M=true:=by simp[FP,cN hM]
theorem Hj{n m:Nat}{ds es:List D}(h:M[n]? = some (.lst ds))(h':M[m]? = some (.lst es))(hl:ds.length+es.length≤16777216):dj (.ref n) (.ref m) M= .ok (.ref M.length) (M++[.lst (ds++es)]):=by
 refine mZ ((oK rfl).trans ?_)
 unfold ZP
 simp only[h,h']
 rw[if_pos (by rw[m8];exact hl)]
@[simp] theorem Jm{i:Int}:Ca [.int i,.ty "bool"] M= .ok (.bl false) M:=by unfold Ca;rfl
@[simp] theorem KZ{i:List D}:Ca [.tup i,.ty "tuple"] M= .ok (.bl true) M:=by unfold Ca;rfl
@[simp] theorem afN:gA e M= .next e M:=id rfl
def sS.seq(o:sS)(t:MS):sS:=match o with
 | .next e M=>t e M
 | .ret d M=> .ret d M
 | .brk e M=> .brk e M
 | .cont e M=> .cont e M
 | .exc c d e M=> .exc c d e M
 | .bad=> .bad
@[simp] theorem akM{s t:MS}:aV s t e M=(s e M).seq t:=by
 unfold aV sS.seq
 cases s e M<;>rfl
@[simp] theorem afI{t:MS}:(sS.next e M).seq t=t e M:=id rfl
@[simp] theorem akK{t:MS}{d:D}:(sS.ret d M).seq t= .ret d M:=id rfl
@[simp] theorem af0{m:ME}:jV m e M=yK e (m e M) fun _ M1=> .next e M1:=id rfl
@[simp] theorem akN{m:ME}:fL m e M=yK e (m e M) fun d M1=> .ret d M1:=id rfl
@[simp] theorem an_{c:MT}{s t:MS}:Ay c s t e M=yK e (c e M) fun k M1=>if k=true then s e M1 else t e M1:=id rfl
def tgO(o:Option Sl)(M:Mem):sS:=match o with
 | some e'=> .next e' M
 | none=> .bad
@[simp] theorem afs:tgO (some e) M= .next e M:=id rfl
@[simp] theorem akX{m:ME}{g:Tg}:cU m g e M=yK e (m e M) fun d M1=>tgO (g d e) M1:=by
 unfold cU tgO;rfl
@[simp] theorem arn{i:Nat}{d:D}:gN i d e=some (e.set i (some d)):=id rfl
@[simp] theorem arl{n:Nat}{gs:UG}{ds:List D}:gT n gs (.tup ds) e=if ds.length=n then gs ds e else none:=id rfl
@[simp] theorem aii{g:Tg}{gs:UG}{d:D}{ds:List D}:iR g gs (d::ds) e=(g d e).bind fun e'=>gs ds e':=id rfl
@[simp] theorem alZ:yX [] e=some e:=id rfl
def Lx(o:Option Mem)(e:Sl):sS:=match o with
 | some M=> .next e M
 | none=> .bad
@[simp] theorem ae2:Lx (some M) e= .next e M:=id rfl
@[simp] theorem afZ{cs:List Nat}{mo mv:ME}{f:Str}:uW cs mo mv f e M=yK e (mv e M) fun d M1=>yK e (mo e M1) fun o M2=>Lx (qm cs f d o M2) e:=by
 unfold uW Lx;rfl
theorem oG{cs:List Nat}{f:Str}{d:D}{n c:Nat}{fs:List (Str×D)}(h:M[n]? = some (.ins c fs))(hc:c∈cs)(hl:fs.length<1000):qm cs f d (.ref n) M=some (M.set n (.ins c (putD f d fs))):=by
 unfold qm;simp only[h];rw[if_pos ⟨hc,hl⟩]
@[simp] theorem akU{mi:MI}{g:Tg}{b:MS}:Oe mi g b e M=yK e (mi e M) fun it M1=>rM it.src g b it.ds e M1:=id rfl
@[simp] theorem ab8{n:Nat}{d:D}{ds:List D}:slots (n+1) (d::ds)=some d::slots n ds:=by
 unfold slots
 simp
@[simp] theorem ab7{n:Nat}:slots (n+1) []=none::slots n []:=by
 unfold slots
 simp[List.replicate_succ]
@[simp] theorem ab6:slots 0 []=[]:=id rfl
def ZQ(o:sS):Out D:=match o with
 | .ret d M=> .ok d M
 | .next _ M=> .ok .non M
 | .exc c d _ M=> .exc c d M
 | _=> .bad
@[simp] theorem akY{n:Nat}{b:MS}{ds:List D}:bA n b ds M=ZQ (b (slots n ds) M):=by
 unfold bA ZQ
 cases b (slots n ds) M<;>rfl
@[simp] theorem af4{d:D}:ZQ (.ret d M)= .ok d M:=id rfl
@[simp] theorem ae0:ZQ (.next e M)= .ok .non M:=id rfl
end
def sS.to(o:sS)(P:Sl→Mem→Prop)(R:D→Mem→Prop):Prop:=match o with
 | .next e M=>P e M
 | .cont e M=>P e M
 | .ret d M=>R d M
 | _=>False
@[simp] theorem akI{e:Sl}{M:Mem}{P:Sl→Mem→Prop}{R:D→Mem→Prop}:(sS.next e M).to P R=P e M:=id rfl
theorem J6{src:Option (Nat×List D)}{g:Tg}{b:MS}(P:Nat→Sl→Mem→Prop){R:D→Mem→Prop}:∀(ds:List D) (k:Nat) {e:Sl} {M:Mem},P k e M→
  (∀i e M,k≤i→i≤k+ds.length→P i e M→jX src M)→
  (∀i d e M,ds[i]? = some d→P (k+i) e M→∃e1,g d e=some e1∧(b e1 M).to (P (k+i+1)) R)→
  (∃e' M',rM src g b ds e M= .next e' M'∧P (k+ds.length) e' M')∨∃r M',rM src g b ds e M= .ret r M'∧R r M'
 | [],k,e,M,h0,hs,_=> .inl ⟨e,M,by unfold rM;rw[if_pos (hs k e M (Nat.le_refl _) (Nat.le_refl _) h0)],h0⟩
 | d::ds,k,e,M,h0,hs,hb=>by
  unfold rM
  rw[if_pos (hs k e M (Nat.le_refl _) (Nat.le_add_right _ _) h0)]
  obtain⟨e1,hg,h⟩:=hb 0 d e M rfl h0
  rw[hg]
  have go:∀{e2:Sl} {M2:Mem},P (k+1) e2 M2→(∃e' M',rM src g b ds e2 M2= .next e' M'∧P (k+(d::ds).length) e' M')∨∃r M',rM src g b ds e2 M2= .ret r M'∧R r M':=fun{e2 M2} p=>by
   have go:=J6 (src:=src) (g:=g) (b:=b) P (R:=R) ds (k+1) (e:=e2) (M:=M2) p
    (fun i e M h1 h2=>hs i e M (by omega) (by simp only[List.length_cons];omega)) (fun i d e M hd hp=>by
     have e4:k+(i+1)=k+1+i:=by omega
     have:=hb (i+1) d e M (by simpa using hd) (by rw[e4];exact hp)
     rw[e4]at this
     exact this)
   have el:k+1+ds.length=k+(d::ds).length:=by simp only[List.length_cons];omega
   rw[el]at go
   exact go
  cases z:b e1 M with
  | next e2 M2=>rw[z]at h;simp only[z];exact go h
  | cont e2 M2=>rw[z]at h;simp only[z];exact go h
  | ret r M2=>rw[z]at h;simp only[z];exact .inr ⟨r,M2,rfl,h⟩
  | brk _ _=>rw[z]at h;exact h.elim
  | exc _ _ _ _=>rw[z]at h;exact h.elim
  | bad=>rw[z]at h;exact h.elim
theorem sY{src:Option (Nat×List D)}{g:Tg}{b:MS}(P:Nat→Sl→Mem→Prop){ds:List D}{e:Sl}{M:Mem}(h0:P 0 e M)
  (hs:∀i e M,i≤ds.length→P i e M→jX src M)
  (hb:∀i d e M,ds[i]? = some d→P i e M→∃e1,g d e=some e1∧(b e1 M).to (P (i+1)) fun _ _=>False):
  ∃e' M',rM src g b ds e M= .next e' M'∧P ds.length e' M':=by
 rcases J6 (src:=src) (g:=g) (b:=b) P (R:=fun _ _=>False) ds 0 h0 (fun i e M _ h2=>hs i e M (by omega)) (fun i d e M hd hp=>by
  rw[Nat.zero_add]at hp ⊢
  exact hb i d e M hd hp)with h | ⟨_,_,_,h⟩
 ·simpa using h
 ·exact h.elim
theorem Dd{src:Option (Nat×List D)}{tt:MT}{te:ME}{ce:Sl}(P:Nat→List D→Mem→Prop):∀(ds:List D) (k:Nat) {ys:List D} {M:Mem},P k ys M→
  (∀i ys M,k≤i→i≤k+ds.length→P i ys M→jX src M)→
  (∀i d ys M,ds[i]? = some d→P (k+i) ys M→∃t M1,tt (some d::ce) M= .ok t M1∧((t=false∧P (k+i+1) ys M1)∨(t=true∧∃y M2,te (some d::ce) M1= .ok y M2∧P (k+i+1) (ys++[y]) M2)))→
  ∃ys' M',uI src tt te ce ds ys M= .ok (.ref M'.length) (M'++[.lst ys'])∧P (k+ds.length) ys' M'
 | [],k,ys,M,h0,hs,_=>⟨ys,M,by unfold uI;rw[if_pos (hs k ys M (Nat.le_refl _) (Nat.le_refl _) h0)],h0⟩
 | d::ds,k,ys,M,h0,hs,hb=>by
  unfold uI
  rw[if_pos (hs k ys M (Nat.le_refl _) (Nat.le_add_right _ _) h0)]
  obtain⟨t,M1,ht,h⟩:=hb 0 d ys M rfl h0
  rw[ht,wZ,Out.eZ]
  have el:k+1+ds.length=k+(d::ds).length:=by simp only[List.length_cons];omega
  have go:∀{Wq:List D} {M2:Mem},P (k+1) Wq M2→∃ys' M',uI src tt te ce ds Wq M2= .ok (.ref M'.length) (M'++[.lst ys'])∧P (k+(d::ds).length) ys' M':=fun{Wq M2} p=>by
   have:=Dd (src:=src) (tt:=tt) (te:=te) (ce:=ce) P ds (k+1) (ys:=Wq) (M:=M2) p
    (fun i e M h1 h2=>hs i e M (by omega) (by simp only[List.length_cons];omega)) (fun i d e M hd hp=>by
     have:=hb (i+1) d e M (by simpa using hd) (by have:k+(i+1)=k+1+i:=by omega
                                                  rw[this];exact hp)
     have e3:k+(i+1)+1=k+1+i+1:=by omega
     rw[e3]at this
     exact this)
   rw[el]at this
   exact this
  rcases h with⟨rfl,p⟩ | ⟨rfl,y,M2,hy,p⟩
  ·exact go p
  ·simp only[if_true]
   rw[hy,wZ,Out.eZ]
   exact go p
theorem Qf{src:Option (Nat×List D)}{te:ME}{ce:Sl}{M:Mem}(f:D→D){ds:List D}(hs:jX src M)(hf:∀d∈ds,te (some d::ce) M= .ok (f d) M):uI src sE te ce ds [] M= .ok (.ref M.length) (M++[.lst (ds.map f)]):=by
 have key:∀(ds ys:List D),(∀d∈ds,te (some d::ce) M= .ok (f d) M)→uI src sE te ce ds ys M= .ok (.ref M.length) (M++[.lst (ys++ds.map f)]):=by
  intro ds
  induction ds with
  | nil=>intro ys _;unfold uI;rw[if_pos hs];simp
  | cons d r ih=>
   intro ys h
   unfold uI
   rw[if_pos hs,aaw,wZ,Out.eZ]
   simp only[if_true]
   rw[h d List.mem_cons_self,wZ,Out.eZ,ih _ fun x hx=>h x (List.mem_cons_of_mem _ hx)]
   simp
 have:=key ds [] hf
 simpa using this
theorem K5{lo:Int}{n i:Nat}{d:D}(h:(Gb lo n)[i]? = some d):i<n∧d= .int (lo+i):=by
 unfold Gb at h
 rw[List.getElem?_map]at h
 obtain⟨k,hk,rfl⟩:=Option.map_eq_some_iff.mp h
 obtain⟨hi,e⟩:=List.getElem?_eq_some_iff.mp hk
 simp at hi e
 exact⟨hi,by rw[←e]⟩
theorem K4{lo:Int}{n:Nat}:(Gb lo n).length=n:=by simp[Gb]
end S
namespace S
open PySem PySem.Spec PyProof.Rows L2
section
variable{X:Cx}{ct:Nat→Addr}{W:bG}
def Fi:List D→Option Bool
 | []=>some true
 | .bl b::r=>(Fi r).map fun k=>b&&k
 | _=>none
theorem Qm:∀{ds:List D} {k:Bool},Fi ds=some k→∃bs:List Bool,ds=bs.map D.bl∧k=bs.all id
 | [],k,h=>by cases h;exact⟨[],rfl,rfl⟩
 | d::r,k,h=>by
  cases d with
  | bl b=>
   simp only[Fi]at h
   obtain⟨k',h1,rfl⟩:=Option.map_eq_some_iff.mp h
   obtain⟨bs,rfl,rfl⟩:=Qm h1
   exact⟨b::bs,rfl,rfl⟩
  | _=>simp only[Fi]at h;cases h
theorem Uq{K:PySem.W.Frag}{ι:Nat→Addr}{n:Nat}{H:Hp}:∀{bs:List Bool} {vs:List V},lB K ct ι n H (bs.map D.bl) vs→vs=bs.map V.bl
 | [],_,.nil=>rfl
 | b::bs,_,.cons h hs=>by cases h;rw[Uq hs];rfl
theorem Y4(bs:List Bool):(List.range bs.length).all (fun j=>bs.getD j true)=bs.all id:=by
 rw[Bool.eq_iff_iff,List.all_eq_true,List.all_eq_true]
 constructor
 ·intro h b hb
  obtain⟨j,hj,e⟩:=List.mem_iff_getElem.mp hb
  have:=h j (List.mem_range.mpr hj)
  rw[List.getD_eq_getElem?_getD,List.getElem?_eq_getElem hj]at this
  rw[←e]
  exact this
 ·intro h j hj
  have hj':=List.mem_range.mp hj
  rw[List.getD_eq_getElem?_getD,List.getElem?_eq_getElem hj']
  exact h _ (List.getElem_mem hj')
theorem We(hc:X.calm=true):mV X (.builtin "all") (fun xs H Q=>∃(a:Addr) (bs:List Bool),xs=[.ref a]∧yt X.K H a (bs.map V.bl)∧Q (.bl (bs.all id)) H):=by
 intro pins s σ H xs us Q I r h
 obtain⟨a,bs,rfl,hq,q⟩:=h
 obtain⟨u,rfl,ru⟩:=vals1 r
 cases(show u=Value.ref a from ru)
 obtain⟨its,rv,p,hz⟩:=I.list hq
 have hlt:a<s.heap.objs.size:=by obtain⟨o,n,e,_⟩:=p;exact Heap.lt_size e
 have hl:its.length=bs.length:=by rw[←rv.length,List.length_map]
 refine call_all_walk (wpAny_pyIter_list p.isList ⟨s.heap.objs.size,[s.heap.objs.size,a],[s.heap.objs.size],its.toArray.size,fun i v=>its.toArray[i]? = some v,_,fun j=>bs.getD j true,rfl,
  Walks.list (A:=X.A.in1) (I.ok.hd hc) s.heap.objs.size a (Nat.ne_of_lt hlt) its.toArray,⟨⟨_,Heap.get?_push_size _ rfl,rfl,rfl⟩,p.isList.push _⟩,?_,fun h' tk hk=> ?_⟩)
 ·intro i v s' Q' E' hP hQ
  have hP':its[i]? = some v:=by simpa using hP
  have hi:i<its.length:=(List.getElem?_eq_some_iff.mp hP').1
  have hb:bs[i]? = some bs[i]:=List.getElem?_eq_getElem (by omega)
  obtain⟨u,hu,ru⟩:=rv.get (i:=i) (x:=V.bl bs[i]) (by rw[List.getElem?_map,hb];rfl)
  rw[hP']at hu
  cases hu
  cases ru
  refine wpAny_truthy_bool ?_
  have e:bs.getD i true=bs[i]:=by rw[List.getD_eq_getElem?_getD,hb];rfl
  rw[←e]
  exact hQ
 ·have e:(List.range its.toArray.size).all (fun j=>bs.getD j true)=bs.all id:=by
   rw[List.size_toArray,hl]
   exact Y4 bs
  rw[e]
  exact⟨.bl _,H,I.kept fun b o eb=>hk b o (by simp;exact Nat.ne_of_lt (Heap.lt_size eb)) (Heap.get?_push_of_some _ eb),rfl,q⟩
def Xk:Kg:=fun ds M=>match ds with
 | [d]=>match Ar M d with
  | some es=>match Fi es with
   | some k=> .ok (.bl k) M
   | none=> .bad
  | none=> .bad
 | _=> .bad
theorem ad3(hc:X.calm=true):qZ X ct (.builtin "all") Xk:=by
 refine⟨_,We hc,fun ι M H ds vs Q R h p=> ?_⟩
 unfold Xk at p
 split at p
 ·rename_i d
  obtain⟨v,rfl,q⟩:=wC h
  cases z:Ar M d with
  | none=>rw[z]at p;exact p.elim
  | some es=>
   rw[z]at p
   dsimp only at p
   obtain⟨a,xs,rfl,hs,hd⟩:=R.seq z q
   cases z2:Fi es with
   | none=>rw[z2]at p;exact p.elim
   | some k=>
    rw[z2]at p
    obtain⟨bs,rfl,rfl⟩:=Qm z2
    rw[Uq hd]at hs
    exact⟨a,bs,rfl,hs,p ι _ H .refl R (.bl _)⟩
 ·exact p.elim
theorem Wl(bs:List Bool):Fi (bs.map D.bl)=some (bs.all id):=by
 induction bs with
 | nil=>rfl
 | cons b r ih=>simp[Fi,ih]
theorem Xj{M:Mem}{n:Nat}{bs:List Bool}(h:M[n]? = some (.lst (bs.map D.bl))):Xk [.ref n] M= .ok (.bl (bs.all id)) M:=by
 simp only[Xk,Ar,cN h,Wl]
end
end S
namespace S
open PySem PySem.Spec PyProof.Rows L2
section
variable{X:Cx}{ct:Nat→Addr}{W:bG}
end
end S
namespace S
open PySem PySem.Spec PyProof.Rows L2
section
variable{X:Cx}{ct:Nat→Addr}{W:bG}
variable{c:Str}{cp hpos pos:Pos}{b₀:Stmt}{suite body:List Stmt}{b s:MS}{cl:List (Nat×Bool)}{cv:Value}{v:V}
end
section
variable{e:Sl}{M:Mem}{c:Nat}{d:D}
end
end S
namespace S
open PySem PySem.Spec PyProof.Rows L2
section
variable{X:Cx}{ct:Nat→Addr}{W:bG}
end
end S
namespace S
open PySem L2
end S
namespace S
open PySem PySem.Spec PyProof.Rows L2
section
variable{X:Cx}{ct:Nat→Addr}{W:bG}{pos:Pos}
def T6:ME:=fun _ M=> .ok (.ref M.length) (M++[.dk []])
theorem Tc:SE X ct W (.Dict [] [] pos) T6:=fP XH fun σ H Q ⟨ι,e,M,w,p⟩ pp hp=>by
 have el:(M++[MO.dk []]).length=M.length+1:=by simp
 have x:Ext X.K ι M.length H (pN ι M.length pp) (M.length+1) (upd H pp (.dK [])):=Ext.new hp
 have e0:(pN ι M.length pp) M.length=pp:=by unfold pN;rw[if_pos rfl]
 have dv:DV X.K ct (pN ι M.length pp) (M++[MO.dk []]).length (upd H pp (.dK [])) (.ref M.length) (.ref pp):=by
  have:=DV.ref (K:=X.K) (ct:=ct) (ι:=pN ι M.length pp) (n:=(M++[MO.dk []]).length) (H:=upd H pp (.dK [])) (i:=M.length) (by rw[el];omega)
  rw[e0]at this
  exact this
 exact p (pN ι M.length pp) (.ref pp) _ (by rw[el];exact x) (w.rl.new hp ⟨[],dh,.nil⟩) dv
def Pu(d:D)(M:Mem):Bool:=match d with
 | .ref n=>match M[n]? with
  | some (.dk _)=>true
  | some (.dt _)=>true
  | _=>false
 | _=>false
theorem Yp{K:PySem.W.Frag}{ι:Nat→Addr}{M:Mem}{H:Hp}{d:D}{v:V}(R:Rl K ct ι M H)(h:Pu d M=true)(q:DV K ct ι M.length H d v):∃n,d= .ref n∧n<M.length∧v= .ref (ι n)∧IsD H (ι n):=by
 cases d with
 | ref n=>
  obtain⟨hn,rfl⟩:=nA q
  refine⟨n,rfl,hn,rfl,?_⟩
  unfold Pu at h
  dsimp only at h
  split at h
  ·rename_i kvs e
   obtain⟨vs,hH,_⟩:=R.obj n _ e
   exact .inl ⟨vs,.inl hH⟩
  ·rename_i kvs e
   obtain⟨vs,hH,_⟩:=R.obj n _ e
   exact .inr ⟨vs,.inl hH⟩
  ·cases h
 | _=>exact absurd h Bool.false_ne_true
def aaQ(d k x:D)(M:Mem):Out D:=match d with
 | .ref n=>match aaX M n k with
  | some (some v,M')=> .ok v M'
  | some (none,M')=> .ok x M'
  | none=> .bad
 | _=> .bad
def ag9(mo mk mx:ME):ME:=fun e M=>(mo e M).bind fun d M1=>if Pu d M1=true then(mk e M1).bind fun k M2=>(mx e M2).bind fun x M3=>aaQ d k x M3 else .bad
theorem aaP{ι:Nat→Addr}{M:Mem}{H:Hp}{n:Nat}{k x:D}{vk vx:V}{Q:VK}{w:XW}(R:Rl X.K ct ι M H)(hn:n<M.length)(qk:DV X.K ct ι M.length H k vk)(qx:DV X.K ct ι M.length H x vx)(p:jh (d8 X.K ct) X.K ct w ι M.length H (aaQ (.ref n) k x M) Q):
  ∃o H',Y_ H (ι n) vk o H'∧Q (o.getD vx) H':=by
 simp only[aaQ]at p
 split at p
 ·rename_i v M' e
  obtain⟨ov,H',g,x2,R',h1,_⟩:=Mt R e hn qk
  obtain⟨u,rfl,dv,_,_⟩:=h1 v rfl
  exact⟨_,H',g,p ι u H' x2 R' dv⟩
 ·rename_i M' e
  obtain⟨ov,H',g,x2,R',_,h2⟩:=Mt R e hn qk
  have:=h2 rfl
  subst this
  exact⟨_,H',g,p ι vx H' x2 R' (qx.mono x2)⟩
 ·exact p.elim
variable{o e f i value:Expr}{mo mk mx mv:ME}{apos cpos pos':Pos}
theorem akL(hu:X.A.units+64<cLine)(ho:SE X ct W o mo)(he:SE X ct W e mk)(hf:SE X ct W f mx)
  (base:attributeBase o "get" X.env (eval o X.env)=eval o X.env:=by rfl)
  (few:((backTo cpos (starEach [e,f] X.env)).all (fun x=> !x.1)&&(backToKw cpos (keywordEach [] X.env)).all (fun x=>x.1.isSome)
   && decide (([e,f]:List Expr).length+([]:List Keyword).length+(if([]:List Keyword).isEmpty then 0 else 1)<30))=true:=by rfl)
  (line:(apos.endLine==cpos.line)=true:=by rfl) (trees:backTo cpos (starEach [e,f] X.env)=[(false,eval e X.env),(false,eval f X.env)]:=by rfl):
  SE X ct W (.Call (.Attribute o "get" apos) [e,f] [] cpos) (ag9 mo mk mx):=fP (XF (by omega) ho he hf ⟨base,few,line,trees⟩) fun σ H Q q=>by
 obtain⟨ι,e,M,w,p⟩:=b_ (fQ:=d8 X.K ct) (f:=fun d e M1=>if Pu d M1=true then(mk e M1).bind fun k M2=>(mx e M2).bind fun x M3=>aaQ d k x M3 else .bad) q
 refine⟨ι,e,M,w,p.mono fun v H1 ⟨dz,e1,M1,d,w1,q1,p1⟩=> ?_⟩
 cases z:Pu d M1 with
 | false=>simp only[z,Bool.false_eq_true,if_false]at p1;exact p1.elim
 | true=>
  simp only[z,if_true]at p1
  obtain⟨n,rfl,hn,rfl,hD⟩:=Yp w1.rl z q1
  refine⟨_,rfl,hD,dz,e1,M1,w1,?_⟩
  cases z2:mk e1 M1 with
  | bad=>simp only[z2,Out.fD]at p1;exact p1
  | exc xc xd xM=>simp only[z2,Out.mR]at p1;exact p1
  | ok k M2=>
   simp only[z2,Out.eZ]at p1
   intro jO vk H2 x2 r2 q2
   refine⟨jO,e1,M2,w1.ext x2 r2,?_⟩
   have p2:=p1.ext x2
   cases z3:mx e1 M2 with
   | bad=>simp only[z3,Out.fD]at p2;exact p2
   | exc xc xd xM=>simp only[z3,Out.mR]at p2;exact p2
   | ok x M3=>
    simp only[z3,Out.eZ]at p2
    intro An vx H3 x3 r3 q3
    have:=aaP r3 (Nat.lt_of_lt_of_le (Nat.lt_of_lt_of_le hn x2.le) x3.le) (q2.mono x3) q3 (p2.ext x3)
    rw[←x2.same n hn,←x3.same n (Nat.lt_of_lt_of_le hn x2.le)]
    exact this
def Fy(M:Mem)(o k d:D):Option Mem:=match o with
 | .ref n=>match M[n]? with
  | some (.dk kvs)=>match toKey k with
   | some kk=>if kvs.length<sizeLine then some (M.set n (.dk (Vm kvs kk d)))else none
   | none=>match k with
    | .tup ds=>match toKeys ds with
     | some ks=>if kvs.isEmpty=true then some (M.set n (.dt [(ks,d)]))else none
     | none=>none
    | _=>none
  | some (.dt kvs)=>match k with
   | .tup ds=>match toKeys ds with
    | some ks=>if kvs.length<sizeLine then some (M.set n (.dt (Vm kvs ks d)))else none
    | none=>none
   | _=>none
  | _=>none
 | _=>none
theorem aaY{ι:Nat→Addr}{M M':Mem}{H:Hp}{n:Nat}{k d:D}{vk vd:V}(R:Rl X.K ct ι M H)(h:Fy M (.ref n) k d=some M')(hn:n<M.length)(qk:DV X.K ct ι M.length H k vk)(qd:DV X.K ct ι M.length H d vd):
  ∃H',akA H (ι n) vk vd H'∧Ext X.K ι M.length H ι M'.length H'∧Rl X.K ct ι M' H':=by
 simp only[Fy]at h
 split at h
 ·rename_i kvs e
  obtain⟨vs,hH,pv⟩:=R.obj n _ e
  split at h
  ·rename_i kk ek
   split at h
   ·rename_i hz
    cases h
    have:=GD ek qk
    subst this
    have x2:Ext X.K ι M.length H ι M.length (upd H (ι n) (.dK (putK vs kk vd))):=Ext.chg hH (fun _ z=>nomatch z) (fun _ _ z=>nomatch z)
    exact⟨_,.inl (Ng.k hH (by rw[pv.length];exact hz)),by rw[List.length_set];exact x2,R.chg hn hH (fun _ z=>nomatch z) (fun _ _ z=>nomatch z) ⟨_,dh,(pv.put qd kk).mono x2⟩⟩
   ·cases h
  ·split at h
   ·rename_i ds
    split at h
    ·rename_i ks eks
     split at h
     ·rename_i hem
      cases h
      have ek:kvs=[]:=List.isEmpty_iff.mp hem
      subst ek
      cases pv
      obtain⟨b,xs,rfl,hb,hd⟩:=oX qk
      have ex:=vQ eks hd
      subst ex
      have x2:Ext X.K ι M.length H ι M.length (upd H (ι n) (.dT [(ks,vd)])):=Ext.chg hH (fun _ z=>nomatch z) (fun _ _ z=>nomatch z)
      exact⟨_,.inr ⟨ks,b,hH,rfl,hb,rfl⟩,by rw[List.length_set];exact x2,R.chg hn hH (fun _ z=>nomatch z) (fun _ _ z=>nomatch z) ⟨_,dh,.cons (qd.mono x2) .nil⟩⟩
     ·cases h
    ·cases h
   ·cases h
 ·rename_i kvs e
  obtain⟨vs,hH,pv⟩:=R.obj n _ e
  split at h
  ·rename_i ds
   split at h
   ·rename_i ks eks
    split at h
    ·rename_i hz
     cases h
     obtain⟨b,xs,rfl,hb,hd⟩:=oX qk
     have ex:=vQ eks hd
     subst ex
     have x2:Ext X.K ι M.length H ι M.length (upd H (ι n) (.dT (putK vs ks vd))):=Ext.chg hH (fun _ z=>nomatch z) (fun _ _ z=>nomatch z)
     exact⟨_,.inl (Ng.t hH hb (by rw[pv.length];exact hz)),by rw[List.length_set];exact x2,R.chg hn hH (fun _ z=>nomatch z) (fun _ _ z=>nomatch z) ⟨_,dh,(pv.put qd ks).mono x2⟩⟩
    ·cases h
   ·cases h
  ·cases h
 ·cases h
def K1(mo mk mv:ME):MS:=fun e M=>yK e (mv e M) fun d M1=>yK e (mo e M1) fun o M2=>yK e (mk e M2) fun k M3=>Lx (Fy M3 o k d) e
theorem S7(hu:X.A.units+64<cLine)(ho:SE X ct W o mo)(hi:SE X ct W i mk)(hv:SE X ct W value mv)(hs:swapsWith value (some (.Subscript o i pos')) pos.line X.env=pure false:=by rfl):
  SS X ct W (.Assign [.Subscript o i pos'] value pos) (K1 mo mk mv):=PS.imp (Z9 (by omega) ho hi hv hs) fun T σ H q=>by
 obtain⟨ι,e,M,w,p⟩:=uR (rel:=d8 X.K ct) (f:=fun d e M1=>yK e (mo e M1) fun o M2=>yK e (mk e M2) fun k M3=>Lx (Fy M3 o k d) e) q
 refine⟨ι,e,M,w,p.mono fun vd H1 ⟨dz,e1,M1,d,w1,q1,p1⟩=>⟨dz,e1,M1,w1,?_⟩⟩
 cases z:mo e1 M1 with
 | bad=>simp only[z,zM]at p1;exact p1
 | exc xc xd xM=>simp only[z,zL]at p1;exact fun jO dx v H2 x r q1 q2=>p1 jO σ dx v H2 x (w1.ext x r) q1 q2
 | ok o' M2=>
  simp only[z,DP]at p1
  intro jO vo H2 x2 r2 q2
  have p2:=p1.ext x2
  have w2:=w1.ext x2 r2
  refine⟨jO,e1,M2,w2,?_⟩
  cases z2:mk e1 M2 with
  | bad=>simp only[z2,zM]at p2;exact p2
  | exc xc xd xM=>simp only[z2,zL]at p2;exact fun An dx v H3 x r q1 q2=>p2 An σ dx v H3 x (w2.ext x r) q1 q2
  | ok k M3=>
   simp only[z2,DP]at p2
   intro An vk H3 x3 r3 q3
   have p3:=p2.ext x3
   have w3:=w2.ext x3 r3
   cases z3:Fy M3 o' k d with
   | none=>rw[z3]at p3;exact p3.elim
   | some M4=>
    rw[z3]at p3
    cases o' with
    | ref n=>
     obtain⟨hn,rfl⟩:=nA q2
     have hn3:n<M3.length:=Nat.lt_of_lt_of_le hn x3.le
     obtain⟨H4,g,x4,r4⟩:=aaY r3 z3 hn3 q3 ((q1.mono x2).mono x3)
     refine⟨_,H4,rfl,?_,p3 An σ H4 x4 (w3.ext x4 r4)⟩
     rw[←x3.same n hn]
     exact g
    | _=>simp only[Fy]at z3;cases z3
end
section
variable{e:Sl}{M:Mem}
@[simp] theorem aha:T6 e M= .ok (.ref M.length) (M++[.dk []]):=id rfl
@[simp] theorem aeZ{mo mk mv:ME}:K1 mo mk mv e M=yK e (mv e M) fun d M1=>yK e (mo e M1) fun o M2=>yK e (mk e M2) fun k M3=>Lx (Fy M3 o k d) e:=id rfl
end
end S
namespace S
open PySem L2
variable{M:Mem}
theorem Oh{a b:Str}(h:a.length+b.length≤16777216):dj (.str a) (.str b) M= .ok (.str (a++b)) M:=by
 refine(oK rfl).trans (mZ ?_)
 simp only[Tj]
 rw[if_pos (by rw[m8];exact h)]
theorem ZL{a:Str}{k:Int}{c:Nat}(h0:0≤k)(h:a.cps.toList[k.toNat]? = some c)(hl:a.length≤16777216):aR (.str a) (.int k) M= .ok (.str ⟨#[c]⟩) M:=by
 refine(oK rfl).trans ?_
 simp only[ZM,MJ h0,h]
 rw[if_pos (by rw[m8];exact hl)]
theorem Qo{a b:Str}:(a++b).length=a.length+b.length:=by
 show(a.cps++b.cps).size=_
 rw[Array.size_append];rfl
theorem PJ(c:Array Nat):∀(k:Nat) (acc:Array Nat),((List.replicate k c).foldl (· ++ ·) acc).size=acc.size+c.size*k
 | 0,acc=>by simp
 | k+1,acc=>by rw[List.replicate_succ,List.foldl_cons,PJ c k,Array.size_append,Nat.mul_succ];omega
theorem T4{a:Str}{n:Int}:(PySem.Txt.mul a n).length=a.length*n.toNat:=by
 unfold PySem.Txt.mul
 split
 ·rename_i h
  have:n.toNat=0:=by omega
  rw[this];rfl
 ·split
  ·rename_i h h2
   rcases Bool.or_eq_true_iff.mp h2 with q | q
   ·have:n=1:=by simpa using q
    subst this;simp
   ·have:a.length=0:=by simpa using q
    simp[this]
  ·show((List.replicate n.toNat a.cps).foldl (· ++ ·) #[]).size=_
   rw[PJ];simp[Str.length]
end S
namespace S
open PySem PySem.Spec PyProof.Rows L2
section
variable{X:Cx}{ct:Nat→Addr}{W:bG}{pos:Pos}
def abO(K:PySem.W.Frag)(ct ι:Nat→Addr)(M:Mem)(H:Hp)(n:Nat)(σ:St)(o:Option Sl)(Q:St→Hp→Prop):Prop:=match o with
 | some e'=>∀σ',Ws K ct ι e' M σ' H→(σ'.length=σ.length∧σ'.drop n=σ.drop n)→Q σ' H
 | none=>False
def tTN(K:PySem.W.Frag)(ct:Nat→Addr)(n:Nat)(g:Tg):TG:=fun v σ H Q=>∃ι e M d,Ws K ct ι e M σ H∧DV K ct ι M.length H d v∧abO K ct ι M H n σ (g d e) Q
def am6(K:PySem.W.Frag)(ct:Nat→Addr)(n:Nat)(g:UG):Zc:=fun vs σ H Q=>∃ι e M ds,Ws K ct ι e M σ H∧lB K ct ι M.length H ds vs∧abO K ct ι M H n σ (g ds e) Q
def SN(X:Cx)(ct:Nat→Addr)(n:Nat)(tg:Expr)(g:Tg):Prop:=PG X tg (tTN X.K ct n g)
def SNs(X:Cx)(ct:Nat→Addr)(n:Nat)(tg:List Expr)(g:UG):Prop:=Wn X tg (am6 X.K ct n g)
theorem FW{n i:Nat}{x:Str}(hN:X.N.Nodup)(hi:X.N[i]? = some x)(hx:Loc X.env.scope x)(hin:i<n)(hf:X.fn x=true∨X.env.scope.names.lookup x=some .local:=by first | exact .inl rfl | exact .inr rfl | assumption):SN X ct n (.Name x pos) (gN i):=
 PG.imp (Tv hN hi hx hf) fun v σ H Q ⟨ι,e,M,d,w,q,p⟩=>p _ (w.set i q) ⟨List.length_set,List.drop_set_of_lt hin⟩
theorem S9{n:Nat}:SNs X ct n [] yX:=Wn.imp Tu fun vs σ H Q ⟨ι,e,M,ds,w,q,p⟩=>by
 cases q with
 | nil=>exact⟨rfl,p σ w ⟨rfl,rfl⟩⟩
 | cons _ _=>exact p.elim
theorem BP{n:Nat}{a:Expr}{es:List Expr}{g:Tg}{gs:UG}(h1:SN X ct n a g)(h2:SNs X ct n es gs)
  (hs:(assignEach (a::es) X.env).map (·.2)=assign a X.env::(assignEach es X.env).map (·.2):=by rfl):SNs X ct n (a::es) (iR g gs):=Wn.imp (Ol h1 h2 hs) fun vs σ H Q ⟨ι,e,M,ds,w,q,p⟩=>by
 cases q with
 | nil=>exact p.elim
 | @cons d x ds xs h hs=>
  refine⟨x,xs,rfl,ι,e,M,d,w,h,?_⟩
  simp only[iR]at p
  cases z:g d e with
  | none=>rw[z]at p;exact p.elim
  | some e'=>
   rw[z]at p
   refine fun σ' w' hd=>⟨ι,e',M,ds,w',hs,?_⟩
   simp only[Option.bind_some]at p
   cases z2:gs ds e' with
   | none=>rw[z2]at p;exact p.elim
   | some e2=>rw[z2]at p;exact fun σ2 w2 hd2=>p σ2 w2 ⟨hd2.1.trans hd.1,hd2.2.trans hd.2⟩
theorem Xc{m:Nat}{es:List Expr}{k:Nat}{gs:UG}{n:Nat}(hc:X.calm=true)(h:SNs X ct m es gs)
  (hn:(assignEach es X.env).length=n:=by rfl) (hst:(assignEach es X.env).findIdx? (·.1)=none:=by rfl):SN X ct m (.Tuple es k pos) (gT n gs):=PG.imp (Xw hc h hn hst) fun v σ H Q ⟨ι,e,M,d,w,q,p⟩=>by
 cases q with
 | @tup a xs ds hs hd=>
  simp only[gT]at p
  split at p
  ·rename_i hl
   exact⟨a,xs,rfl,vK.of hs,by rw[hd.length];exact hl,ι,e,M,ds,w,hd,p⟩
  ·exact p.elim
 | _=>exact p.elim
def Cm(n:Nat):Sl:=List.replicate n none
def vh(src:Option (Nat×List D))(g:Tg)(n:Nat)(tt:MT)(te:ME)(ce:Sl):List D→List D→Mem→Out D
 | [],ys,M=>if jX src M then .ok (.ref M.length) (M++[.lst ys])else .bad
 | d::ds,ys,M=>if jX src M then match g d (Cm n++ce)with
   | some e1=>(tt e1 M).noX.bind fun k M1=>if k=true then(te e1 M1).noX.bind fun y M2=>vh src g n tt te ce ds (ys++[y]) M2 else vh src g n tt te ce ds ys M1
   | none=> .bad
  else .bad
def H9(n:Nat)(js:List Nat)(mi:MI)(g:Tg)(tt:MT)(te:ME):ME:=fun e M=>(mi e M).bind fun it M1=>vh it.src g n tt te (o6 js e) it.ds [] M1
theorem Ws.ajQ{K:PySem.W.Frag}{ι:Nat→Addr}{e:Sl}{M:Mem}{σ:St}{H:Hp}(w:Ws K ct ι e M σ H)(xs:List Str)(js:List Nat):Ws K ct ι (Cm xs.length++o6 js e) M (Es xs++L2.caps js σ) H:=by
 refine⟨w.rl,by simp[o6,L2.caps,Cm,Es],fun i x hx=> ?_⟩
 rcases Nat.lt_or_ge i xs.length with q | q
 ·rw[List.getElem?_append_left (by simpa[Cm]using q)]at hx
  simp[Cm,q]at hx
 ·rw[List.getElem?_append_right (by simpa[Cm]using q)]at hx
  rw[List.getElem?_append_right (by simpa[Es]using q)]
  have l1:(Cm xs.length).length=xs.length:=by simp[Cm]
  have l2:(Es xs).length=xs.length:=by simp[Es]
  rw[l1]at hx
  rw[l2]
  simp only[o6,List.getElem?_map]at hx
  obtain⟨j,hj,ej⟩:=Option.map_eq_some_iff.mp hx
  cases z:e[j]? with
  | none=>rw[z]at ej;cases ej
  | some o=>
   rw[z]at ej
   cases(show o=some x from ej)
   obtain⟨u,hu,du⟩:=w.env j x z
   refine⟨u,?_,du⟩
   simp only[L2.caps,List.getElem?_map,hj,Option.map_some,hu]
   rfl
theorem U_{xs:List Str}{js:List Nat}{mi:MI}{g:Tg}{tt:MT}{te:ME}{σ:St}{H:Hp}{Q:VK}(h:tG (d8 X.K ct) X.K ct W (H9 xs.length js mi g tt te) σ H Q):W7 xs js (tG (Vk X.K ct) X.K ct W mi) (tTN X.K ct xs.length g) (tG Cg X.K ct W0 tt) (tG (d8 X.K ct) X.K ct W0 te) σ H Q:=by
 obtain⟨ι,e,M,w,p⟩:=b_ (fQ:=Vk X.K ct) (f:=fun it e M1=>vh it.src g xs.length tt te (o6 js e) it.ds [] M1) h
 refine⟨ι,e,M,w,p.mono fun J H1 ⟨dz,e1,M1,it,w1,q1,p1⟩=> ?_⟩
 obtain⟨ok1,hz,step⟩:=q1
 refine⟨fun i m ys H'=>m=it.ds.length - i∧i≤it.ds.length∧ys.length≤i∧∃ι' M' ds',Ext X.K dz M1.length H1 ι' M'.length H'∧Rl X.K ct ι' M' H'∧lB X.K ct ι' M'.length H' ds' ys∧jh (d8 X.K ct) X.K ct (wAt W σ) ι' M'.length H' (vh it.src g xs.length tt te (o6 js e1) (it.ds.drop i) ds' M') Q,
  ⟨it.ds.length,by simp,Nat.zero_le _,Nat.le_refl _,dz,M1,[],.refl,w1.rl,.nil,by simpa using p1⟩,?_⟩
 rintro i m ys H' ⟨rfl,hi,hy,ι',M',ds',x',r',dy,p'⟩
 by_cases hlt:i<it.ds.length
 ·rw[List.drop_eq_getElem_cons hlt]at p'
  unfold vh at p'
  by_cases ok':jX it.src M'
  ·rw[if_pos ok']at p'
   obtain⟨go,yl⟩:=(step ι' M' H' x' r' ok' i).1 _ (List.getElem?_eq_getElem hlt)
   refine .inr ⟨go,fun Wq H2=>Wq.length≤i+1∧∃jO M2 ds2,Ext X.K dz M1.length H1 jO M2.length H2∧Rl X.K ct jO M2 H2∧lB X.K ct jO M2.length H2 ds2 Wq∧jh (d8 X.K ct) X.K ct (wAt W σ) jO M2.length H2 (vh it.src g xs.length tt te (o6 js e1) (it.ds.drop (i+1)) ds2 M2) Q,?_,?_⟩
   ·rintro Wq H2 ⟨hl2,q2⟩
    exact⟨by omega,it.ds.length - (i+1),by omega,rfl,hlt,hl2,q2⟩
   ·intro x H2 y
    obtain⟨x2,r2,dv⟩:=yl x H2 y
    have w2:Ws X.K ct ι' (Cm xs.length++o6 js e1) M' (Es xs++L2.caps js σ) H2:=(w1.ext (x'.trans x2) r2).ajQ xs js
    have p2:=p'.ext x2
    refine⟨ι',_,M',it.ds[i],w2,dv,?_⟩
    cases zg:g it.ds[i] (Cm xs.length++o6 js e1)with
    | none=>rw[zg]at p2;exact p2.elim
    | some eg=>
    rw[zg]at p2
    dsimp only at p2
    intro σ' wg hd
    refine⟨⟨hd.1,by rw[hd.2];simp[Es]⟩,ι',eg,M',wg,?_⟩
    cases z:tt eg M' with
    | bad=>simp only[z,Ge,Out.fD]at p2;exact p2
    | exc xc xd xM=>simp only[z,Gd,Out.fD]at p2;exact p2.elim
    | ok k M3=>
     simp only[z,wZ,Out.eZ]at p2
     intro An k3 H3 x3 r3 ek
     have Mj:k=k3:=ek;subst Mj
     have p3:=p2.ext x3
     have w3:=wg.ext x3 r3
     have dy3:=(dy.mono x2).mono x3
     cases k with
     | false=>exact⟨by omega,An,M3,ds',(x'.trans x2).trans x3,r3,dy3,p3⟩
     | true=>
      simp only[if_true]at p3 ⊢
      refine⟨An,_,M3,w3,?_⟩
      cases z4:te eg M3 with
      | bad=>simp only[z4,Ge,Out.fD]at p3;exact p3
      | exc xc xd xM=>simp only[z4,Gd,Out.fD]at p3;exact p3.elim
      | ok yy M4=>
       simp only[z4,wZ,Out.eZ]at p3
       intro ι4 v4 H4 x4 r4 d4
       exact⟨by rw[List.length_append];simp;omega,ι4,M4,ds'++[yy],((x'.trans x2).trans x3).trans x4,r4,(dy3.mono x4).append (.cons d4 .nil),p3.ext x4⟩
  ·rw[if_neg ok']at p'
   exact p'.elim
 ·have e0:i=it.ds.length:=by omega
  subst e0
  rw[List.drop_length]at p'
  unfold vh at p'
  by_cases ok':jX it.src M'
  ·rw[if_pos ok']at p'
   exact .inl ⟨(step ι' M' H' x' r' ok' _).2 (Nat.le_refl _),by omega,fun pp hp=>oH r' dy hp p'⟩
  ·rw[if_neg ok']at p'
   exact p'.elim
variable{tg elt iter:Expr}{ifs:List Expr}{scope:Scope}{mi:MI}{g:Tg}{tt:MT}{te:ME}
theorem NP(hc:X.calm=true)(xs cs:List Str)(js:List Nat)(hi:SI X ct W tg iter mi)(hcap:uP X scope cs js)(hg:∀cl C fp s H,SN (bz X scope cl C (xs++cs) fp s H) ct xs.length tg g)(ht:∀cl C fp s H,STs (bz X scope cl C (xs++cs) fp s H) ct W0 ifs tt)(he:∀cl C fp s H,SE (bz X scope cl C (xs++cs) fp s H) ct W0 elt te)
  (hall:∀y∈scope.names,y.2= .free→y.1∈cs) (hcell:∀y∈scope.names,y.2≠ .cell) (hnames:∀y∈scope.names,y.2= .local→scope.names.lookup y.1=some .local)
  (hkind:scope.kind= .function:=by rfl) (hs:∀v,foldedSetIterable iter X.env v=pure v:=by intro _;rfl):
  SE X ct W (.ListComp elt [⟨tg,iter,ifs,0⟩] scope pos) (H9 xs.length js mi g tt te):=
 fP (XJ (g:=tTN X.K ct xs.length g) (tt:=tG Cg X.K ct W0 tt) (te:=tG (d8 X.K ct) X.K ct W0 te) hc xs cs js hi hcap (fun cl C fp s H=>ht cl C fp s H) (fun cl C fp s H=>he cl C fp s H) hall hcell hnames (fun cl C fp s H=>hg cl C fp s H) hkind hs) fun σ H Q q=>U_ q
end
section
variable{e:Sl}{M:Mem}
@[simp] theorem ae4{n:Nat}{js:List Nat}{mi:MI}{g:Tg}{tt:MT}{te:ME}:H9 n js mi g tt te e M=(mi e M).bind fun it M1=>vh it.src g n tt te (o6 js e) it.ds [] M1:=id rfl
end
theorem Eg{src:Option (Nat×List D)}{g:Tg}{n:Nat}{tt:MT}{te:ME}{ce:Sl}{M:Mem}(c:D→Bool)(f:D→D):∀{ds ys:List D},jX src M→(∀d∈ds,∃e1,g d (Cm n++ce)=some e1∧tt e1 M= .ok (c d) M∧(c d=true→te e1 M= .ok (f d) M))→
  vh src g n tt te ce ds ys M= .ok (.ref M.length) (M++[.lst (ys++(ds.filter c).map f)])
 | [],ys,hs,_=>by unfold vh;rw[if_pos hs];simp
 | d::ds,ys,hs,h=>by
  unfold vh
  rw[if_pos hs]
  obtain⟨e1,h1,h2,h3⟩:=h d List.mem_cons_self
  have ih:=fun ys=>Eg (src:=src) (g:=g) (n:=n) (tt:=tt) (te:=te) (ce:=ce) (M:=M) c f (ds:=ds) (ys:=ys) hs fun d' hd'=>h d' (List.mem_cons_of_mem _ hd')
  rw[h1]
  simp only[h2,wZ,Out.eZ]
  cases z:c d with
  | true=>simp[h3 z,ih,z]
  | false=>simp[ih,z]
end S
namespace S
theorem Wf:PySem.bootBuiltins "sorted" = some (.builtin "sorted"):=by rfl
open PySem PySem.Spec PyProof.Rows L2
def gB:D→Option (List Int×Nat)
 | .int i=>some ([i],0)
 | .str s=>some (Kv s,1)
 | .tup ds=>(m9 ds).map fun is=>(is,is.length+2)
 | _=>none
def j4:List D→Option (List Int×List Nat)
 | []=>some ([],[])
 | d::ds=>match gB d,j4 ds with
  | some p,some q=>some (p.1++q.1,p.2::q.2)
  | _,_=>none
def Jo:D→Option (List Int×List Nat)
 | .tup ds=>j4 ds
 | _=>none
def lO(d:D):List Int:=match gB d with
 | some p=>p.1
 | none=>match Jo d with
  | some p=>p.1
  | none=>[]
def V0(d:D):List D→List D
 | []=>[d]
 | x::l=>if HT.lexLt (lO x) (lO d)=true then x::V0 d l else d::x::l
def qj:List D→List D
 | []=>[]
 | d::l=>V0 d (qj l)
abbrev Y5(l:List D):Prop:=l.Pairwise fun a b=>HT.lexLt (lO b) (lO a)=false
theorem DY(d:D):∀l:List D,(V0 d l).Perm (d::l)
 | []=>List.Perm.refl _
 | x::l=>by
  unfold V0
  split
  ·exact((DY d l).cons x).trans (List.Perm.swap d x l)
  ·exact List.Perm.refl _
theorem pC:∀l:List D,(qj l).Perm l
 | []=>List.Perm.refl _
 | d::l=>(DY d _).trans ((pC l).cons d)
theorem Uc(d:D):∀{l:List D},Y5 l→Y5 (V0 d l)
 | [],_=>List.pairwise_singleton _ _
 | x::l,h=>by
  rw[Y5,List.pairwise_cons]at h
  unfold V0
  split
  ·rename_i hx
   rw[Y5,List.pairwise_cons]
   refine⟨fun y hy=> ?_,Uc d h.2⟩
   rcases List.mem_cons.mp ((DY d l).mem_iff.mp hy)with rfl | hy
   ·exact KeyOrd.kle_of_klt (O:=Yi) hx
   ·exact h.1 y hy
  ·rename_i hx
   rw[Y5,List.pairwise_cons]
   have hx':HT.lexLt (lO x) (lO d)=false:=by simpa using hx
   refine⟨fun y hy=> ?_,List.pairwise_cons.mpr h⟩
   rcases List.mem_cons.mp hy with rfl | hy
   ·exact hx'
   ·exact KeyOrd.kle_trans (O:=Yi) (a:=lO d) (b:=lO x) (c:=lO y) hx' (h.1 y hy)
theorem FT:∀l:List D,Y5 (qj l)
 | []=>List.Pairwise.nil
 | d::l=>Uc d (FT l)
theorem JK:∀{l m:List D},Y5 l→Y5 m→l.Perm m→(∀a∈l,∀b∈l,lO a=lO b→a=b)→l=m
 | [],m,_,_,p,_=>by have:=p.length_eq;cases m with
  | nil=>rfl
  | cons _ _=>simp at this
 | a::l,[],_,_,p,_=>by have:=p.length_eq;simp at this
 | a::l,b::m,h,h',p,k=>by
  rw[Y5,List.pairwise_cons]at h h'
  have hb:b∈a::l:=p.mem_iff.mpr List.mem_cons_self
  have ha:a∈b::m:=p.mem_iff.mp List.mem_cons_self
  have e:a=b:=by
   rcases List.mem_cons.mp hb with q | q
   ·exact q.symm
   ·rcases List.mem_cons.mp ha with r | r
    ·exact r
    ·exact k a List.mem_cons_self b hb (u5 _ _ (h'.1 a r) (h.1 b q))
  subst e
  rw[JK h.2 h'.2 ((List.perm_cons a).mp p) fun x hx y hy=>k x (List.mem_cons_of_mem _ hx) y (List.mem_cons_of_mem _ hy)]
theorem Zy{l m:List D}(hm:Y5 m)(p:l.Perm m)(k:∀a∈l,∀b∈l,lO a=lO b→a=b):qj l=m:=
 JK (FT l) hm ((pC l).trans p) fun a ha b hb=>k a ((pC l).mem_iff.mp ha) b ((pC l).mem_iff.mp hb)
theorem Nu:∀{a b:List Nat} {r r':List Int},a.map Int.ofNat++[-1]++r=b.map Int.ofNat++[-1]++r'→a=b∧r=r'
 | [],[],r,r',h=>by simpa using h
 | [],y::b,r,r',h=>by
  simp at h
 | x::a,[],r,r',h=>by
  simp at h
 | x::a,y::b,r,r',h=>by
  simp only[List.map_cons,List.cons_append]at h
  injection h with h1 h2
  obtain⟨e1,e2⟩:=Nu h2
  have:x=y:=Int.ofNat.inj h1
  exact⟨by rw[this,e1],e2⟩
theorem uQ:∀{ds:List D} {is:List Int},m9 ds=some is→ds=is.map D.int
 | [],is,h=>by cases h;rfl
 | d::r,is,h=>by
  cases d with
  | int i=>
   simp only[m9]at h
   obtain⟨js,h1,rfl⟩:=Option.map_eq_some_iff.mp h
   rw[uQ h1];rfl
  | _=>simp[m9]at h
theorem Oo{d d':D}{c c' r r':List Int}{k:Nat}(h:gB d=some (c,k))(h':gB d'=some (c',k))(e:c++r=c'++r'):d=d'∧r=r':=by
 cases d with
 | int i=>
  cases d' with
  | int j=>simp only[gB]at h h';cases h;cases h';simp at e;exact⟨by rw[e.1],e.2⟩
  | str s=>simp only[gB]at h h';cases h;cases h'
  | tup ds=>simp only[gB]at h h';cases h;obtain⟨is,_,q⟩:=Option.map_eq_some_iff.mp h';simp at q
  | _=>simp[gB]at h'
 | str s=>
  cases d' with
  | int j=>simp only[gB]at h h';cases h;cases h'
  | str s'=>
   simp only[gB]at h h'
   cases h;cases h'
   obtain⟨e1,e2⟩:=Nu e
   refine⟨?_,e2⟩
   cases s;cases s'
   simp at e1
   rw[e1]
  | tup ds=>simp only[gB]at h h';cases h;obtain⟨is,_,q⟩:=Option.map_eq_some_iff.mp h';simp at q
  | _=>simp[gB]at h'
 | tup ds=>
  simp only[gB]at h
  obtain⟨is,hi,q⟩:=Option.map_eq_some_iff.mp h
  simp at q
  obtain⟨rfl,rfl⟩:=q
  cases d' with
  | int j=>simp[gB]at h'
  | str s=>simp[gB]at h'
  | tup ds'=>
   simp only[gB]at h'
   obtain⟨js,hj,q⟩:=Option.map_eq_some_iff.mp h'
   simp at q
   obtain⟨rfl,ek⟩:=q
   obtain⟨e1,e2⟩:=List.append_inj e ek.symm
   rw[uQ hi,uQ hj,e1]
   exact⟨rfl,e2⟩
  | _=>simp[gB]at h'
 | _=>simp[gB]at h
theorem sW:∀{ds ds':List D} {c:List Int} {ks:List Nat},j4 ds=some (c,ks)→j4 ds'=some (c,ks)→ds=ds'
 | [],[],_,_,_,_=>rfl
 | [],d'::ds',c,ks,h,h'=>by
  simp only[j4]at h h'
  cases h
  split at h'<;>simp at h'
 | d::ds,[],c,ks,h,h'=>by
  simp only[j4]at h h'
  cases h'
  split at h<;>simp at h
 | d::ds,d'::ds',c,ks,h,h'=>by
  simp only[j4]at h h'
  split at h
  ·rename_i p q hp hq
   split at h'
   ·rename_i p' q' hp' hq'
    simp at h h'
    obtain⟨h1,h2⟩:=h
    obtain⟨h1',h2'⟩:=h'
    subst h1 h2
    simp at h2'
    obtain⟨e1,e2⟩:=Oo (d:=d) (d':=d') (k:=p.2) (by rw[hp]) (by rw[hp',←h2'.1]) h1'.symm
    have:=sW (ds:=ds) (ds':=ds') (c:=q.1) (ks:=q.2) (by rw[hq]) (by rw[hq',e2,←h2'.2])
    rw[e1,this]
   ·cases h'
  ·cases h
inductive Y6 (ds:List D):Prop
 | flat (k:Nat) (hk:k<2) (h:∀d∈ds,∃c,gB d=some (c,k)):Y6 ds
 | rows (k:Nat) (ks:List Nat) (h:∀d∈ds,∃c,Jo d=some (c,k::ks)):Y6 ds
theorem Ig{d:D}{c:List Int}{k:Nat}(h:gB d=some (c,k)):lO d=c:=by unfold lO;rw[h]
theorem Hs:∀{is:List Int},j4 (is.map D.int)=some (is,is.map fun _=>0)
 | []=>rfl
 | i::is=>by
  have:=Hs (is:=is)
  simp only[List.map_cons,j4,gB,this]
  rfl
theorem zQ{d:D}{c:List Int}{ks:List Nat}(h:Jo d=some (c,ks)):lO d=c:=by
 cases d with
 | tup ds=>
  unfold lO
  cases z:gB (.tup ds)with
  | none=>dsimp only;rw[h]
  | some p=>
   dsimp only
   simp only[gB]at z
   obtain⟨is,hi,q⟩:=Option.map_eq_some_iff.mp z
   rw[←q]
   simp only[Jo]at h
   rw[uQ hi,Hs]at h
   simp at h
   exact h.1
 | _=>simp[Jo]at h
theorem Y6.inj{ds:List D}(h:Y6 ds):∀a∈ds,∀b∈ds,lO a=lO b→a=b:=by
 intro a ha b hb e
 cases h with
 | flat k hk h=>
  obtain⟨c,h1⟩:=h a ha
  obtain⟨c',h2⟩:=h b hb
  rw[Ig h1,Ig h2]at e
  exact(Oo (r:=[]) (r':=[]) h1 h2 (by rw[e])).1
 | rows k ks h=>
  obtain⟨c,h1⟩:=h a ha
  obtain⟨c',h2⟩:=h b hb
  rw[zQ h1,zQ h2]at e
  subst e
  cases a with
  | tup xs=>cases b with
   | tup ys=>rw[sW (show j4 xs=some (c,k::ks)from h1) (show j4 ys=some (c,k::ks)from h2)]
   | _=>simp[Jo]at h2
  | _=>simp[Jo]at h1
theorem TJ{ds:List D}{q:List Nat}(h:Y6 ds)(o:Order ds.length (ds.map lO) q):(q.map fun i=>ds.getD i .non)=qj ds:=by
 have pm:(q.map fun i=>ds.getD i .non).Perm ds:=by
  have:=o.pm.map fun i=>ds.getD i .non
  have e:((List.range ds.length).map fun i=>ds.getD i .non)=ds:=by
   refine List.ext_getElem? fun i=> ?_
   rw[List.getElem?_map]
   rcases Nat.lt_or_ge i ds.length with z | z
   ·simp[z]
   ·simp[z]
  rw[e]at this
  exact this
 refine(Zy ?_ pm.symm h.inj).symm
 rw[Y5,List.pairwise_map]
 refine List.pairwise_iff_getElem.mpr fun i j hi hj hij=> ?_
 have hl:q.length=ds.length:=by have:=o.pm.length_eq;simpa using this
 have:=o.up i j (by omega) (by omega)
 have g:∀x,x∈q→(ds.map lO).getD x []=lO (ds.getD x .non):=fun x hx=>by
  have:=o.lt x hx
  simp[this]
 have gi:q.getD i 0=q[i]:=by simp[hi]
 have gj:q.getD j 0=q[j]:=by simp[hj]
 rw[gi,gj,g _ (List.getElem_mem hi),g _ (List.getElem_mem hj)]at this
 exact this
open Classical in
def Td:Kg:=fun ds M=>match ds with
 | [.ref n]=>match qD M n with
  | some es=>if Y6 es∧es.length<64 then .ok (.ref M.length) (M++[.lst (qj es)])else .bad
  | none=> .bad
 | _=> .bad
section
variable{X:Cx}{ct:Nat→Addr}{W:bG}{pos:Pos}{K:PySem.W.Frag}{ι:Nat→Addr}{n:Nat}{H:Hp}
theorem Tz{d:D}{c:List Int}{k:Nat}{v:V}(h:gB d=some (c,k))(q:DV K ct ι n H d v):Part K H v c k:=by
 cases q with
 | int i=>simp only[gB]at h;cases h;exact .int i
 | str s=>simp only[gB]at h;cases h;exact .str s
 | tup e r=>
  simp only[gB]at h
  obtain⟨is,hi,z⟩:=Option.map_eq_some_iff.mp h
  simp at z
  obtain⟨rfl,rfl⟩:=z
  have:=sV hi r
  subst this
  exact .tup e
 | _=>simp[gB]at h
theorem Ht:∀{ds:List D} {c:List Int} {ks:List Nat} {vs:List V},j4 ds=some (c,ks)→lB K ct ι n H ds vs→Parts K H vs c ks
 | [],c,ks,_,h,.nil=>by simp only[j4]at h;cases h;exact .nil
 | d::ds,c,ks,_,h,.cons q qs=>by
  simp only[j4]at h
  split at h
  ·rename_i p p' hp hp'
   cases h
   exact .cons (Tz hp q) (Ht hp' qs)
  ·cases h
theorem ZS{ds:List D}{vs:List V}(h:Y6 ds)(q:lB K ct ι n H ds vs):Sg K H vs (ds.map lO):=by
 have hl:=q.length
 have get:∀{i:Nat} {y:V},vs[i]? = some y→∃d,ds[i]? = some d∧DV K ct ι n H d y:=fun{i y} hy=>by
  have hi:=(List.getElem?_eq_some_iff.mp hy).1
  have hd:ds[i]? = some ds[i]:=List.getElem?_eq_getElem (by omega)
  obtain⟨v,h1,h2⟩:=q.at hd
  rw[hy]at h1
  cases h1
  exact⟨_,hd,h2⟩
 cases h with
 | flat k hk h=>
  refine .flat k hk (by simp;omega) fun i y c hy hc=> ?_
  obtain⟨d,hd,dv⟩:=get hy
  rw[List.getElem?_map,hd]at hc
  cases hc
  obtain⟨c,h1⟩:=h d (List.mem_of_getElem? hd)
  rw[Ig h1]
  exact Tz h1 dv
 | rows k ks h=>
  refine .rows k ks (by simp;omega) fun i y c hy hc=> ?_
  obtain⟨d,hd,dv⟩:=get hy
  rw[List.getElem?_map,hd]at hc
  cases hc
  obtain⟨c,h1⟩:=h d (List.mem_of_getElem? hd)
  rw[zQ h1]
  cases dv with
  | tup e r=>exact⟨_,_,rfl,e,Ht h1 r⟩
  | _=>simp[Jo]at h1
theorem XS{ds:List D}{vs:List V}{q:List Nat}(h:lB K ct ι n H ds vs)(hq:∀i∈q,i<ds.length):lB K ct ι n H (q.map fun i=>ds.getD i .non) (Ra vs q):=by
 induction q with
 | nil=>exact .nil
 | cons i q ih=>
  refine .cons ?_ (ih fun j hj=>hq j (List.mem_cons_of_mem _ hj))
  have hi:=hq i List.mem_cons_self
  have hd:ds[i]? = some ds[i]:=List.getElem?_eq_getElem hi
  obtain⟨v,h1,h2⟩:=h.at hd
  show DV K ct ι n H (ds.getD i .non) (vs.getD i .non)
  rw[List.getD_eq_getElem?_getD,List.getD_eq_getElem?_getD,hd,h1]
  exact h2
theorem afe(hu:X.A.units+64<cLine):qZ X ct (.builtin "sorted") Td:=by
 refine⟨_,Qj (by omega),fun ι M H ds vs Q R h p=> ?_⟩
 unfold Td at p
 split at p
 ·rename_i n
  obtain⟨v,rfl,q⟩:=wC h
  obtain⟨hn,rfl⟩:=nA q
  split at p
  ·rename_i es z
   split at p
   ·rename_i hs
    obtain⟨ys,hH,dy⟩:=R.obj n _ (pM.mp z)
    have hl:=dy.length
    refine⟨_,ys,es.map lO,rfl,yt.of hH,by omega,ZS hs.1 dy,fun q l od hl'=> ?_⟩
    rw[show ys.length=es.length by omega]at od
    have:=XS dy od.lt
    rw[TJ hs.1 od]at this
    exact oH R this hl' p
   ·exact p.elim
  ·exact p.elim
 ·exact p.elim
def aaB:Key→D
 | .inl i=> .int i
 | .inr s=> .str s
def tZ(M:Mem)(n:Nat):Option (List (D×D)):=match M[n]? with
 | some (.dk kvs)=>some (kvs.map fun p=>(aaB p.1,p.2))
 | some (.dt kvs)=>some (kvs.map fun p=>(.tup (p.1.map aaB),p.2))
 | _=>none
def pairD(p:D×D):D:= .tup [p.1,p.2]
open Classical in
def uT(d:D)(M:Mem):Out D:=match d with
 | .ref n=>match tZ M n with
  | some ps=>if Y6 (ps.map pairD)∧ps.length<64 then .ok (.ref M.length) (M++[.lst (qj (ps.map pairD))])else .bad
  | none=> .bad
 | _=> .bad
def Cw(mo:ME):ME:=fun e M=>(mo e M).bind uT
theorem T_{k:Key}:DV K ct ι n H (aaB k) (kV k):=by
 cases k with
 | inl i=>exact .int i
 | inr s=>exact .str s
theorem Pa:∀{ks:List Key},lB K ct ι n H (ks.map aaB) (ks.map kV)
 | []=> .nil
 | _::_=> .cons T_ Pa
abbrev PD(K:PySem.W.Frag)(ct ι:Nat→Addr)(n:Nat)(H:Hp):List (D×D)→List (V×V)→Prop:=Paired fun p q=>DV K ct ι n H p.1 q.1∧DV K ct ι n H p.2 q.2
theorem aaN{M:Mem}{m:Nat}{ps:List (D×D)}{qs:List (V×V)}(R:Rl K ct ι M H)(h:tZ M m=some ps)(hq:aeS H (ι m) qs):PD K ct ι M.length H ps qs:=by
 unfold tZ at h
 split at h
 ·rename_i kvs e
  cases h
  obtain⟨vs,hH,pv⟩:=R.obj m _ e
  rcases hq with⟨kvs',h1,rfl⟩ | ⟨kvs',h1,_⟩
  ·rw[hH]at h1
   cases h1
   clear e hH
   induction pv with
   | nil=>exact .nil
   | cons q _ ih=>exact .cons ⟨T_,q⟩ (ih)
  ·rw[hH]at h1;cases h1
 ·rename_i kvs e
  cases h
  obtain⟨vs,hH,pv⟩:=R.obj m _ e
  rcases hq with⟨kvs',h1,rfl⟩ | ⟨kvs',h1,pr⟩
  ·rw[hH]at h1;cases h1
  ·rw[hH]at h1
   cases h1
   clear e hH
   induction pv generalizing qs with
   | nil=>cases pr;exact .nil
   | cons q _ ih=>
    cases pr with
    | cons r rs=>
     obtain⟨b,e1,e2,e3⟩:=r
     refine .cons ⟨?_,?_⟩ (ih rs)
     ·rw[e1];exact .tup e2 Pa
     ·rw[e3];exact q
 ·cases h
theorem WT{ps:List (Addr×HO)}:∀{H:Hp},(∀p∈ps,H p.1=none)→(ps.map (·.1)).Nodup→Ext K ι n H ι n (Bx H ps):=by
 induction ps with
 | nil=>intro H _ _;exact .refl
 | cons p ps ih=>
  intro H h nd
  rw[List.map_cons,List.nodup_cons]at nd
  refine(Ext.fresh (o:=p.2) (h p List.mem_cons_self)).trans (ih (fun q hq=> ?_) nd.2)
  rw[bh (fun z=>nd.1 (by rw[←z];exact List.mem_map_of_mem hq))]
  exact h q (List.mem_cons_of_mem _ hq)
theorem Zi{M:Mem}{ps:List (Addr×HO)}:∀{H:Hp},Rl K ct ι M H→(∀p∈ps,H p.1=none)→(ps.map (·.1)).Nodup→Rl K ct ι M (Bx H ps):=by
 induction ps with
 | nil=>intro H R _ _;exact R
 | cons p ps ih=>
  intro H R h nd
  rw[List.map_cons,List.nodup_cons]at nd
  refine ih (R.fresh (o:=p.2) (h p List.mem_cons_self)) (fun q hq=> ?_) nd.2
  rw[bh (fun z=>nd.1 (by rw[←z];exact List.mem_map_of_mem hq))]
  exact h q (List.mem_cons_of_mem _ hq)
theorem Tt{as:List Addr}{qs:List (V×V)}(h:as.length=qs.length):(prs as qs).map (·.1)=as:=by
 unfold prs
 rw[List.map_map]
 have e:((fun x=>x.fst)∘fun(p:Addr×V×V)=>(p.1,HO.tup [p.2.1,p.2.2]))=Prod.fst:=rfl
 rw[e,List.map_fst_zip]
 omega
theorem XQ{as:List Addr}{ps:List (D×D)}{qs:List (V×V)}{H':Hp}(h:PD K ct ι n H' ps qs)(la:as.length=qs.length)(hh:∀(i:Nat) (a:Addr) (q:V×V),as[i]? = some a→qs[i]? = some q→H' a=some (.tup [q.1,q.2])):lB K ct ι n H' (ps.map pairD) (as.map V.ref):=by
 induction h generalizing as with
 | nil=>cases as with
  | nil=>exact .nil
  | cons _ _=>simp at la
 | @cons p q ps qs r _ ih=>
  cases as with
  | nil=>simp at la
  | cons a as=>
   refine .cons (.tup (hh 0 a q rfl rfl) (.cons r.1 (.cons r.2 .nil))) (ih (by simpa using la) fun i a q h1 h2=>hh (i+1) a q (by simpa using h1) (by simpa using h2))
variable{o:Expr}{mo:ME}{apos p1 pos1:Pos}
theorem G5(hc:X.calm=true)(hu:X.A.units+64<cLine)(ho:SE X ct W o mo)(hg:Gl X "sorted")(hm:X.mg "sorted" = none)
  (hbase:attributeBase o "items" X.env (eval o X.env)=eval o X.env:=by rfl) (hline:(apos.endLine==pos1.line)=true:=by rfl)
  (he:starEach [.Call (.Attribute o "items" apos) [] [] pos1] X.env=(false,eval (.Call (.Attribute o "items" apos) [] [] pos1) X.env)::starEach [] X.env:=by rfl) (hpl:(backTo pos (starEach [] X.env)).any (·.1)=false:=by rfl):
  SE X ct W (.Call (.Name "sorted" p1) [.Call (.Attribute o "items" apos) [] [] pos1] [] pos) (Cw mo):=by
 refine fP (Om (Mv hc (by omega)) hg hm Wf (TF (acW PySem.F.plainAttrs_dict PySem.F.slot_dict_items PySem.F.type_dict_items X7 ho hbase hline) XR he) (by decide) (by decide) he hpl) fun σ H Q q=> ?_
 obtain⟨ι,e,M,w,p⟩:=b_ (fQ:=d8 X.K ct) (f:=fun d _ M1=>uT d M1) q
 refine⟨ι,e,M,w,p.mono fun v H1 ⟨dz,e1,M1,d,w1,q1,p1⟩=> ?_⟩
 cases d with
 | ref m=>
  obtain⟨hn,rfl⟩:=nA q1
  have R1:=w1.rl
  simp only[uT]at p1
  cases z:tZ M1 m with
  | none=>rw[z]at p1;exact p1.elim
  | some ps=>
   rw[z]at p1
   dsimp only at p1
   split at p1
   ·rename_i hs
    have isd:(∃kvs,H1 (dz m)=some (.dK kvs))∨∃kvs,H1 (dz m)=some (.dT kvs):=by
     unfold tZ at z
     split at z
     ·rename_i kvs e'
      obtain⟨vs,hH,_⟩:=R1.obj m _ e'
      exact .inl ⟨vs,hH⟩
     ·rename_i kvs e'
      obtain⟨vs,hH,_⟩:=R1.obj m _ e'
      exact .inr ⟨vs,hH⟩
     ·cases z
    have afH:∃u,H1 (dz m)=some u:=by
     rcases isd with⟨_,q⟩ | ⟨_,q⟩<;>exact⟨_,q⟩
    refine⟨.inr (.inr (.inl ⟨rfl,isd⟩)),_,rfl,rfl,?_,fun v hv=> ?_⟩
    ·rcases isd with⟨kvs,q⟩ | ⟨kvs,q⟩
     ·exact .inl ⟨kvs,.inl q⟩
     ·exact .inr ⟨kvs,.inl q⟩
    ·have ne:dz m≠v:=fun z'=>by obtain⟨u,hu⟩:=afH;rw[z',hv]at hu;cases hu
     have x2:Ext X.K dz M1.length H1 dz M1.length (upd H1 v (El v (dz m))):=Ext.fresh hv
     have R2:Rl X.K ct dz M1 (upd H1 v (El v (dz m))):=R1.fresh hv
     have p2:=p1.ext x2
     refine⟨v,dz m,rfl,dh,by rw[bh ne];exact isd,fun qs hqs=> ?_⟩
     have pd:=aaN R2 z hqs
     have lq:=pd.length
     refine⟨by omega,?_⟩
     obtain⟨hs1,hs2⟩:=hs
     have rk:∃k ks,∀p∈ps,∃c,j4 [p.1,p.2]=some (c,k::ks):=by
      cases hs1 with
      | flat k hk h=>
       cases ps with
       | nil=>exact⟨0,[],fun p hp=>by cases hp⟩
       | cons p ps=>
        obtain⟨c,hc⟩:=h (pairD p) (by simp)
        simp only[pairD,gB]at hc
        obtain⟨is,_,q⟩:=Option.map_eq_some_iff.mp hc
        simp at q
        omega
      | rows k ks h=>exact⟨k,ks,fun p hp=>h (pairD p) (List.mem_map_of_mem hp)⟩
     obtain⟨k,ks,hrow⟩:=rk
     refine⟨ps.map fun p=>lO (pairD p),k,ks,?_,fun as q l la nd fr od hl=> ?_⟩
     ·clear lq hqs z hs1 hs2 p1 p2
      induction pd with
      | nil=>exact .nil
      | @cons p q ps qs r _ ih=>
       refine .cons ?_ (ih fun p hp=>hrow p (List.mem_cons_of_mem _ hp))
       obtain⟨c,hc⟩:=hrow p List.mem_cons_self
       show Parts X.K _ _ (lO (pairD p)) _
       rw[zQ (d:=pairD p) hc]
       exact Ht hc (.cons r.1 (.cons r.2 .nil))
     ·have fr':∀p∈prs as qs,upd H1 v (El v (dz m)) p.1=none:=fun p hp=>by
       have:p.1∈(prs as qs).map (·.1):=List.mem_map_of_mem hp
       rw[Tt la]at this
       exact fr _ this
      have nd':((prs as qs).map (·.1)).Nodup:=by rw[Tt la];exact nd
      have x3:=WT (K:=X.K) (ι:=dz) (n:=M1.length) fr' nd'
      have R3:=Zi R2 fr' nd'
      have pd3:PD X.K ct dz M1.length (Bx (upd H1 v (El v (dz m))) (prs as qs)) ps qs:=Paired.aat pd fun a b h=>⟨h.1.mono x3,h.2.mono x3⟩
      have dv3:=XQ pd3 la fun i a q ha hq=>by
       have:(prs as qs)[i]? = some (a,.tup [q.1,q.2]):=by
        unfold prs
        rw[List.getElem?_map,show(as.zip qs)[i]? = some (a,q)from List.getElem?_zip_eq_some.mpr ⟨ha,hq⟩]
        rfl
       exact Ku nd' this
      have od':Order (ps.map pairD).length ((ps.map pairD).map lO) q:=by
       rw[List.map_map,List.length_map,show ps.length=qs.length by omega]
       exact od
      have out:=XS dv3 od'.lt
      rw[TJ hs1 od']at out
      exact oH R3 out hl (p2.ext x3)
   ·exact p1.elim
 | _=>exact p1.elim
end
section
variable{e:Sl}{M:Mem}
@[simp] theorem abw{mo:ME}:Cw mo e M=(mo e M).bind uT:=id rfl
theorem G3{n:Nat}{ps:List (D×D)}(h:tZ M n=some ps)(hs:Y6 (ps.map pairD))(hl:ps.length<64):uT (.ref n) M= .ok (.ref M.length) (M++[.lst (qj (ps.map pairD))]):=by
 simp only[uT,h];rw[if_pos ⟨hs,hl⟩]
end
end S
namespace S
open PySem PySem.Spec PyProof.Rows L2
section
variable{X:Cx}{ct:Nat→Addr}{W:bG}{pos:Pos}{K:PySem.W.Frag}{ι:Nat→Addr}{n:Nat}{H:Hp}
variable{o:Expr}{mo:ME}{apos p1 pos1:Pos}
end
section
variable{e:Sl}{M:Mem}
end
end S
namespace L2
open PySem PySem.Spec PyProof.Rows
section
variable{X:Cx}
theorem JF:∀{ws:List Str} {us:List Value},Vals (ws.map V.str) us→∃l:List (Str×Tok),us=strValues l∧l.map (·.1)=ws
 | [],_,.nil=>⟨[],rfl,rfl⟩
 | w::ws,_,.cons ⟨t,e⟩ r=>by
  obtain⟨l,e1,e2⟩:=JF r
  subst e
  exact⟨(w,t)::l,by rw[e1];rfl,by rw[←e2];rfl⟩
theorem JM:∀(l:List (Str×Tok)),Vals ((l.map (·.1)).map V.str) (strValues l)
 | []=> .nil
 | (_,t)::l=> .cons ⟨t,rfl⟩ (JM l)
def rJoin:V→List V→Hp→VK→Prop:=fun x vs H Q=>∃y a ws,x= .str y∧vs=[.ref a]∧H a=some (.lst (ws.map V.str))∧JoinOk y ws=true∧Q (.str (Txt.join y ws)) H
theorem aar:MtR X "str.join" rJoin:=by
 intro pins s σ H x vs v us Q I rx r h
 obtain⟨y,a,ws,rfl,rfl,hH,hk,q⟩:=h
 obtain⟨t,rfl⟩:=rx
 obtain⟨u,rfl,ru⟩:=vals1 r
 cases ru
 obtain⟨z,its,n,rv,hl,e⟩:=I.VG hH
 obtain⟨l,rfl,rfl⟩:=JF rv
 exact SC.join ⟨_,e,rfl,n,rfl⟩ rfl hk fun t' k=>⟨.str _,H,I.tok k,⟨_,rfl⟩,q⟩
theorem split_len(x y:Str):(Txt.split x y).length≤x.length+2:=by
 unfold Txt.split
 split
 ·simp
 ·split
  ·simp
  ·rw[length_partsBetween]
   have:=StrLaws.occ_length_le x y 0 x.length (x.length+1)
   omega
def acA:V→List V→Hp→VK→Prop:=fun x vs H Q=>∃y z,x= .str y∧vs=[.str z]∧y.length+2≤sizeLine∧(z.length==0)=false∧∀p,H p=none→Q (.ref p) (upd H p (.lst ((Txt.split y z).map V.str)))
theorem X6:MtR X "str.split" acA:=by
 intro pins s σ H x vs v us Q I rx r h
 obtain⟨y,z,rfl,rfl,hl,hz,q⟩:=h
 obtain⟨t,rfl⟩:=rx
 obtain⟨u,rfl,t',rfl⟩:=vals1 r
 have fin:∀(l:List (Str×Tok)) (k:Nat),l.map (·.1)=Txt.split y z→EP X pins σ Q (.ref s.heap.objs.size) {s with heap:=s.heap.push {cls:= .type "list",data:= .seq (strValues l).toArray},toks:=k}:=fun l k e=>
  ⟨.ref _,_,I.ahg (t':=k) (by rw[←e];exact JM l) (by rw[List.length_map];exact Nat.le_trans (split_len y z) hl),rfl,q _ I.fresh⟩
 have adG:(Builtin.Str.partsBetween y (Builtin.Str.occurrences y z 0 y.length (y.length+1)) z.length).length≤sizeLine:=by
  rw[length_partsBetween]
  have:=StrLaws.occ_length_le y z 0 y.length (y.length+1)
  omega
 cases h1:(decide (y.length<z.length)||decide (Builtin.Str.strKind y<Builtin.Str.strKind z))with
 | true=>exact call_meets F.slot_str_split (typeIs_str _ _ _) F.entry_str_split (F.args_str_split_2 _ _) (meets_str_split_cannot_occur y z t t' h1) (fin [(y,t)] s.toks (if_pos h1).symm)
 | false=>
  have n1:=ne_true_of_eq_false h1
  cases h2:(Builtin.Str.occurrences y z 0 y.length (y.length+1)).isEmpty with
  | true=>exact call_meets F.slot_str_split (typeIs_str _ _ _) F.entry_str_split (F.args_str_split_2 _ _) (meets_str_split_not_found y z t t' h1 hz h2) (fin [(y,t)] s.toks ((if_neg n1).trans (if_pos h2)).symm)
  | false=>
   have n2:=ne_true_of_eq_false h2
   refine call_meets F.slot_str_split (typeIs_str _ _ _) F.entry_str_split (F.args_str_split_2 _ _) (meets_str_split_sep y z t t' h1 hz h2 (by omega) adG) ?_
   have:=fin (numbered s.toks (Builtin.Str.partsBetween y (Builtin.Str.occurrences y z 0 y.length (y.length+1)) z.length)) (s.toks+(Builtin.Str.partsBetween y (Builtin.Str.occurrences y z 0 y.length (y.length+1)) z.length).length) ((numbered_texts _ _).trans ((if_neg n1).trans (if_neg n2)).symm)
   rw[←strsFrom_eq]at this
   exact this
theorem Vz:MtR X "str.startswith" (fun x vs H Q=>∃y z,x= .str y∧vs=[.str z]∧Q (.bl (Txt.startswith y z)) H):=by
 intro pins s σ H x vs v us Q I rx r h
 obtain⟨y,z,rfl,rfl,q⟩:=h
 obtain⟨t,rfl⟩:=rx
 obtain⟨u,rfl,t',rfl⟩:=vals1 r
 exact SC.startswith ⟨.bl _,H,I,rfl,q⟩
theorem V9:mV X (.type "str") (fun xs H Q=>(∃i,xs=[.int i]∧i.natAbs.log2<1920∧Q (.str (toString i)) H)∨(∃z,xs=[.str z]∧Q (.str z) H)∨xs=[.non]∧Q (.str "None") H):=by
 intro pins s σ H xs us Q I r h
 rcases h with h | ⟨z,rfl,q⟩ | ⟨rfl,q⟩
 ·exact Mu pins s σ H xs us Q I r h
 ·obtain⟨u,rfl,t,rfl⟩:=vals1 r
  exact PySem.P.str_of_str ⟨.str z,H,I,⟨_,rfl⟩,q⟩
 ·obtain⟨u,rfl,ru⟩:=vals1 r
  cases ru
  exact PySem.P.str_of_none ⟨.str _,H,I.tok _,⟨_,rfl⟩,q⟩
theorem Wc:mV X (.type "int") (fun xs H Q=>(∃i,xs=[.int i]∧Q (.int i) H)∨(∃k,xs=[.bl k]∧Q (.int (if k then 1 else 0)) H)∨∃z n,xs=[.str z]∧PySem.intText? z=some n∧z.length≤640∧Q (.int n) H):=by
 intro pins s σ H xs us Q I r h
 rcases h with h | h | ⟨z,n,rfl,e,hl,q⟩
 ·exact J_ pins s σ H xs us Q I r (.inl h)
 ·exact J_ pins s σ H xs us Q I r (.inr h)
 ·obtain⟨u,rfl,t,rfl⟩:=vals1 r
  exact PySem.W.KIN.call_text e hl ⟨.int n,H,I.tok _,⟨_,rfl⟩,q⟩
theorem Vt:yu X (compareOp .LtE) (fun x y H Q=>∃i j,x= .str i∧y= .str j∧Q (.bl (!(decide (j.cps.toList<i.cps.toList)))) H):=by
 intro pins s σ H x y v u Q I rx ry h
 obtain⟨i,j,rfl,rfl,q⟩:=h
 obtain⟨t,rfl⟩:=rx
 obtain⟨t',rfl⟩:=ry
 exact PySem.P.le_str (Mm I q rfl)
end
end L2
namespace TLe
open PySem PyProof.Rows PySem.SeqAt
open PySem.AutoSeq1 (wpAny_loadPart')
open PySem.MeetsSeq PySem.MeetsSeq2 PySem.MeetsSeq3
def Rv:List Int→List Int→Bool
 | [],_=>true
 | _::_,[]=>false
 | x::xs,y::ys=>if x=y then Rv xs ys else decide (x≤y)
theorem Yj:∀{vs ws:List Value} {ns ms:List Int},IntsAre vs ns→IntsAre ws ms→vs.zip ws=[]→Rv ns ms=decide (ns.length≤ms.length)
 | _,_,_,_,.nil,_,_=>by simp[Rv]
 | _,_,_,_,.cons _ _ _,.nil,_=>by simp[Rv]
 | _,_,_,_,.cons _ _ _,.cons _ _ _,h=>by rw[List.zip_cons_cons]at h;cases h
theorem ahh(l b:Addr)(its its2:Array Value)(n n2:Nat)(dd dd2:Option Addr)(sl sl2:Array (Option Value))(ns ms:List Int)(hi:IntsAre its.toList ns)(hj:IntsAre its2.toList ms):
  Meets (Builtin.«tuple.__le__» ⟨[.ref l,.ref b],[]⟩)
   (fun _ R s=>s.heap.get? l=some {cls:= .type "tuple",dict:=dd,data:= .seq its n,slots:=sl}∧s.heap.get? b=some {cls:= .type "tuple",dict:=dd2,data:= .seq its2 n2,slots:=sl2}∧
    R (.ok (.ret (.bool (Rv ns ms)))) s):=
 .of_wp fun prog w A R s h=>by
  obtain⟨hp,g,d,tk,os⟩:=s
  obtain⟨hl,hb,h⟩:=h
  have f2:=AutoSeq1.sub_tuple_tuple
  have z1:its.size=ns.length:=by rw[←hi.length];simp
  have z2:its2.size=ms.length:=by rw[←hj.length];simp
  wp_walk using wpAny_loadPart' hl,wpAny_loadPart' hb,wpAny_forIn_list _ (fun rest b s'=>b.1=none∧s'=⟨hp,g,d,tk,os⟩∧∃(vs ws:List Value) (ns' ms':List Int),rest=vs.zip ws∧
   IntsAre vs ns'∧IntsAre ws ms'∧ns'.length+its2.size=ms'.length+its.size∧R (.ok (.ret (.bool (Rv ns' ms')))) ⟨hp,g,d,tk,os⟩) _
  case turn=>
   rintro⟨y,x⟩ rest b s' ⟨hb',rfl,vs,ws,ns',ms',hz,hvi,hwi,hlen,hR⟩
   cases hvi with
   | nil=>rw[List.zip_nil_left]at hz;cases hz
   | cons a t hv2=>
    cases hwi with
    | nil=>rw[List.zip_nil_right]at hz;cases hz
    | cons c u hw2=>
     rw[List.zip_cons_cons]at hz
     obtain⟨hyx,hrest⟩:=List.cons.inj hz
     cases hyx
     simp only[Rv]at hR
     simp only[List.length_cons]at hlen
     by_cases hac:a=c
     ·rw[if_pos hac]at hR
      refine wpAny_bind ((SeqAt.EqAt.int_int a t c u:SeqAt.EqAt A.in1 ⟨hp,g,d,tk,os⟩ _ _ _) prog w _ _ ?_)
      rw[beq_iff_eq.mpr hac]
      wp_walk
      exact⟨rfl,rfl,_,_,_,_,hrest,hv2,hw2,by omega,hR⟩
     ·rw[if_neg hac]at hR
      refine wpAny_bind ((SeqAt.EqAt.int_int a t c u:SeqAt.EqAt A.in1 ⟨hp,g,d,tk,os⟩ _ _ _) prog w _ _ ?_)
      rw[beq_eq_false_iff_ne.mpr hac]
      have hri:∀(E:Value→Shared→Prop) (Q:Value→Shared→Prop),Q (.bool (decide (a≤c))) ⟨hp,g,d,tk,os⟩→wpAny (model prog w) A.in1 (richCompare .LtE (.int a t) (.int c u)) Q E ⟨hp,g,d,tk,os⟩:=fun E Q hq=>
       (PyProof.Rows.le_int hq:wpAny (model prog w) A.in1 (compareOp .LtE (.int a t) (.int c u)) Q E ⟨hp,g,d,tk,os⟩)
      wp_walk using hri
      exact⟨_,rfl,by simpa using hR⟩
  case fin=>
   rintro⟨b1,b2⟩ s' ⟨hb',rfl,vs,ws,ns',ms',hz,hvi,hwi,hlen,hR⟩
   simp only at hb'
   subst hb'
   have hv:Rv ns' ms'=decide (its.size≤its2.size):=by
    rw[Yj hvi hwi hz.symm]
    exact decide_eq_decide.mpr (by omega)
   rw[hv]at hR
   wp_walk
   exact⟨_,rfl,by simpa[Builtin.Tuple.tupleCompareSizes]using hR⟩
  case h=>
   exact⟨rfl,rfl,its.toList,its2.toList,ns,ms,rfl,hi,hj,by omega,h⟩
end TLe
namespace L2
open PySem PySem.Spec PyProof.Rows
section
variable{X:Cx}
theorem ac9(hu:X.A.units<cLine):yu X (compareOp .LtE) (fun x y H Q=>∃a b ns ms,x= .ref a∧y= .ref b∧vK X.K H a (ns.map V.int)∧vK X.K H b (ms.map V.int)∧Q (.bl (TLe.Rv ns ms)) H):=by
 intro pins s σ H x y v u Q I rx ry h
 obtain⟨a,b,ns,ms,rfl,rfl,ha,hb,q⟩:=h
 cases rx
 cases ry
 obtain⟨its,r1,p1,_⟩:=I.tuple ha
 obtain⟨its2,r2,p2,_⟩:=I.tuple hb
 obtain⟨⟨cls,dd,data,sl⟩,ho,hc,n,hd⟩:=id p1
 obtain⟨⟨cls2,dd2,data2,sl2⟩,ho2,hc2,n2,hd2⟩:=id p2
 simp only at hc hd hc2 hd2
 subst hc hd hc2 hd2
 exact richCompare_meets_room (op:= .LtE) ⟨_,ho,rfl⟩ ⟨_,ho2,rfl⟩ PySem.F.slot_tuple_le PySem.F.entry_tuple_le (PySem.F.args_tuple_le_2 _ _) (TLe.ahh a b _ _ n n2 dd dd2 sl sl2 ns ms (intsAre_of r1) (intsAre_of r2))
  ⟨ho,ho2,show Value.bool (TLe.Rv ns ms)≠Value.notImplemented∧EP X pins σ Q (.bool (TLe.Rv ns ms)) s from⟨(fun x=>nomatch x),⟨.bl _,H,I,rfl,q⟩⟩⟩ hu
def Its(x:Str):It:=⟨fun i _=>i<x.length,fun i H v H'=>H'=H∧∃c,x.cps.toList[i]? = some c∧v= .str ⟨#[c]⟩,fun i _=>x.length≤i⟩
theorem U3{P:Program}{w:World}{A:Around}(hh:A.handled=none)(it:Addr)(x:Str)(t:Tok):Walks P w A it [it] [it] x.cps.size (SignAt x) (fun i h=>h.IsStrIter it (strIterType x) x t i):=by
 unfold strIterType
 cases ha:x.cps.all (· < 128)
 ·simp only[Bool.false_eq_true,if_false];exact Walks.strWide hh it x t
 ·simp only[if_true];exact Walks.strAscii hh it x t
theorem NB(x:Str):["enumerate","zip","dict_itemiterator","dict_reverseitemiterator","odict_iterator","itertools.zip_longest","itertools.pairwise"].contains (strIterType x)=false:=by
 unfold strIterType
 split<;>decide
theorem WX{P:Program}{w:World}{K:PySem.W.Frag}{tg:Expr}(it:Addr)(x:Str)(t:Tok):Turn P w K tg (Its x) [it] it (fun i h=>h.IsStrIter it (strIterType x) x t i) where
 mem:=by simp
 obj:=fun i h st b hb=>by
  have e:b=it:=by simpa using hb
  subst e
  obtain⟨o,e,c,d⟩:=st
  exact⟨o,e,fun v z=>by rw[d]at z;cases z⟩
 keep:=fun i h h' st k=>by
  obtain⟨o,e,r⟩:=st
  exact⟨o,k it (by simp) o e,r⟩
 item:=by
  intro X hP hw hK hc i pins s σ H E I hf st hg
  subst hP hw hK
  obtain⟨f0,f1,f2,f3,f4,f5⟩:=hf it (by simp)
  refine(U3 (I.ok.hd hc) it x t).item i s _ _ hg st fun v h' tk hv st' kk=> ?_
  obtain⟨c,u,hx,rfl⟩:=hv
  have I1:Inv X pins σ H {s with heap:=h',toks:=tk}:=I.turned (fun b o hb e=>kk b o (by simpa using hb) e) f0 f1 f3 f4 f5
  obtain⟨o,e,cc,d⟩:=id st'
  exact⟨_,rfl,Uh (s:={s with heap:=h',toks:=tk}) e cc d (NB x) ⟨.str ⟨#[c]⟩,H,I1,⟨u,rfl⟩,⟨rfl,c,by rw[←hx,Array.getElem?_toList],rfl⟩,st',fun b hb=>(hf b hb).1⟩⟩
 done:=by
  intro X hP hw hK hc i pins s σ H E I hf st hg
  subst hP hw hK
  obtain⟨f0,f1,f2,f3,f4,f5⟩:=hf it (by simp)
  have hi:x.cps.size≤i:=hg
  obtain⟨o,e,cc,d⟩:=id st
  unfold strIterType at st
  split at st
  ·exact wpAny_pyNext_ascii_end (I.ok.hd hc) st (by simp[hi]) fun h' eb=>⟨rfl,I.turned (t':=s.toks) (fun b o hb e=>eb b o hb e) f0 f1 f3 f4 f5⟩
  ·exact wpAny_pyNext_wide_end (I.ok.hd hc) st (by simp[hi]) fun h' eb=>⟨rfl,I.turned (t':=s.toks) (fun b o hb e=>eb b o hb e) f0 f1 f3 f4 f5⟩
 self:=fun A i s Q E st h=>by
  unfold strIterType at st
  split at st
  ·exact wpAny_pyIter_striter_ascii st h
  ·exact wpAny_pyIter_striter_wide st h
theorem acM{tg l:Expr}{tl:TE}(hl:PE X l tl):PI X tg l (fun σ H R=>tl σ H fun x H1=>∃u,x= .str u∧R (Its u) H1):=by
 intro pins s σ H R I h
 refine gU (hl pins s σ H _ I h) fun v s1 ⟨x,H1,I1,r1,u,e,q⟩=> ?_
 subst e
 obtain⟨t,rfl⟩:=r1
 refine wpAny_pyIter_strU ?_
 refine⟨s1.heap.objs.size,[s1.heap.objs.size],_,_,H1,rfl,I1.kept (t':=s1.toks) fun b o e=>Heap.get?_push_of_some _ e,WX _ u t,⟨_,Heap.get?_push_size _ rfl,rfl,rfl⟩,fun b hb=> ?_,q⟩
 have e:b=s1.heap.objs.size:=by simpa using hb
 subst e
 exact I1.V6 (Nat.le_refl _) (I1.hok.fresh (Nat.le_refl _))
def afU(td ty tv:TE):TS:=fun D σ H=>tv σ H fun v H1=>td σ H1 fun x H2=>ty σ H2 fun y H3=>abq x y v H3 fun H4=>D.nx σ H4
theorem Z6{o i value:Expr}{td ty tv:TE}{pos pos':Pos}(ho:PE X o td)(hi:PE X i ty)(hv:PE X value tv)(hs:swapsWith value (some (.Subscript o i pos')) pos.line X.env=pure false):PS X (.Assign [.Subscript o i pos'] value pos) (afU td ty tv):=by
 intro pins s σ H D I h
 refine wpAny_Assign_Subscript (gU (hv pins s σ H _ I h) fun r t1 ⟨v,H1,I1,rv,q1⟩=>gU (ho pins t1 σ H1 _ I1 q1) fun u t2 ⟨x,H2,I2,rx,q2⟩=>gU (hi pins t2 σ H2 _ I2 q2) fun iv t3 ⟨y,H3,I3,ry,q3⟩=> ?_) hs
 exact gU (set_list pins t3 σ H3 x y v u iv r _ I3 rx ry rv q3) fun _ t4 ⟨H4,I4,q4⟩=>⟨σ,H4,I4,q4⟩
end
end L2
namespace L2
open PySem PySem.Spec PyProof.Rows
def aeO(K:PySem.W.Frag)(a:Addr)(T:List (Str×Int)):Prop:=(a==sysModules)=false∧∃o es ep,K.lookup a=some o∧o.ExactDict∧o.data= .dict es ep∧PyProof.Rows.KTD.Rows (fun i v=>∃t,v=Value.int i t) es.toList T
def Dk(k:Str):List (Str×Int)→V
 | []=> .non
 | (x,i)::T=>if decide (k=x)=true then .int i else Dk k T
section
variable{X:Cx}{o e:Expr}{apos cpos:Pos}{td ty:TE}
theorem Nv{h:Heap}{k:Str}{P:Value→Prop}:∀{T:List (Str×Int)},(∀v,RelV (Dk k T) v→P v)→PyProof.Rows.KTD.Each h k P (P .none) (T.map fun p=>(p.1,PyProof.Rows.KTD.Dat.flat (PyData.int p.2)))
 | [],hp=>hp .none rfl
 | (x,i)::T,hp=>by
  show if decide (k=x)=true then _ else _
  unfold Dk at hp
  by_cases hk:decide (k=x)=true
  ·rw[if_pos hk]at hp ⊢
   exact fun t=>hp _ ⟨t,rfl⟩
  ·rw[if_neg hk]at hp ⊢
   exact Nv hp
def afy(K:PySem.W.Frag)(td ty:TE):TE:=fun σ H Q=>td σ H fun x H1=>∃a T,x= .ref a∧aeO K a T∧ty σ H1 fun y H2=>∃k,y= .str k∧Q (Dk k T) H2
theorem aac(ho:PE X o td)(he:PE X e ty)(m:M1 X o "get" apos e cpos):PE X (.Call (.Attribute o "get" apos) [e] [] cpos) (afy X.K td ty):=by
 intro pins s σ H Q I h
 refine wpAny_Call_method m.base m.few m.line PySem.F.plainAttrs_dict PySem.F.slot_dict_get PySem.F.type_dict_get (gU (ho pins s σ H _ I h) fun u t ⟨x,H1,I1,rx,a,T,ex,tb,q1⟩=> ?_)
 subst ex
 obtain rfl:u=Value.ref a:=rx
 obtain⟨hs,ob,es,ep,ho',hx,hd,hr⟩:=tb
 have here:∀(h:Heap),X.K.In h→PyProof.Rows.KTD.Here h h a (T.map fun p=>(p.1,PyProof.Rows.KTD.Dat.flat (PyData.int p.2))):=fun h hk=>
  ⟨⟨hs,ob,es,ep,hk _ _ ho',hx,hd,hr.mono (R':=PyProof.Rows.KTD.Dat.At h) (f:=fun i=>PyProof.Rows.KTD.Dat.flat (PyData.int i)) fun i v ⟨t,e⟩=>by subst e;exact .int i t⟩,fun _ _ z=>z⟩
 refine⟨(here _ I1.Bt).typeIs,(here _ I1.Bt).noDict,?_⟩
 rw[m.trees]
 refine Calls.callWith_builtin rfl (Calls.evalArgs_plain (Calls.spliced_cons (gU (he pins t σ H1 _ I1 q1) fun iv t2 ⟨y,H2,I2,ry,k,ek,q2⟩=>Calls.spliced_nil ?_)))
 subst ek
 obtain⟨tk,rfl⟩:=ry
 exact PyProof.Rows.KTD.get1_text (here _ I2.Bt) (Nv fun v rv=>⟨_,H2,I2.tok _,rv,q2⟩)
end
end L2
namespace S
open PySem PySem.Spec PyProof.Rows L2
section
variable{X:Cx}{ct:Nat→Addr}{W:bG}{pos pos':Pos}
def strsOf:List D→Option (List Str)
 | []=>some []
 | .str w::r=>(strsOf r).map (w:: ·)
 | _=>none
theorem JN{K:PySem.W.Frag}{ι:Nat→Addr}{n:Nat}{H:Hp}:∀{ds:List D} {ws:List Str} {vs:List V},strsOf ds=some ws→lB K ct ι n H ds vs→vs=ws.map V.str
 | [],_,_,h,.nil=>by cases h;rfl
 | d::r,ws,_,h,.cons q qs=>by
  cases q with
  | str w=>
   simp only[strsOf]at h
   obtain⟨us,h1,rfl⟩:=Option.map_eq_some_iff.mp h
   rw[JN h1 qs]
   rfl
  | _=>simp only[strsOf]at h;cases h
theorem S6{K:PySem.W.Frag}{ι:Nat→Addr}{n:Nat}{H:Hp}:∀(ws:List Str),lB K ct ι n H (ws.map D.str) (ws.map V.str)
 | []=> .nil
 | w::ws=> .cons (.str w) (S6 ws)
def yG:D→List D→Mem→Out D:=fun d ds M=>match d,ds with
 | .str y,[.ref n]=>match M[n]? with
  | some (.lst es)=>match strsOf es with
   | some ws=>if JoinOk y ws=true then .ok (.str (Txt.join y ws)) M else .bad
   | none=> .bad
  | _=> .bad
 | _,_=> .bad
theorem Gf:MtS X ct "str" "str.join" yG:=by
 refine⟨_,aar,fun ι M H d ds v vs Q R q qs p=> ?_⟩
 unfold yG at p
 split at p
 ·rename_i y n
  cases jA q
  obtain⟨u,rfl,qu⟩:=wC qs
  obtain⟨hn,rfl⟩:=nA qu
  split at p
  ·rename_i es e1
   split at p
   ·rename_i ws e2
    split at p
    ·rename_i hk
     obtain⟨xs,hH,hd⟩:=R.obj n _ e1
     have ex:=JN e2 hd
     subst ex
     exact⟨y,_,ws,rfl,rfl,hH,hk,p ι _ H .refl R (.str _)⟩
    ·exact p.elim
   ·exact p.elim
  ·exact p.elim
 ·exact p.elim
def yF:D→List D→Mem→Out D:=fun d ds M=>match d,ds with
 | .str y,[.str z]=>if y.length+2≤sizeLine∧(z.length==0)=false then .ok (.ref M.length) (M++[.lst ((Txt.split y z).map D.str)])else .bad
 | _,_=> .bad
theorem OJ:MtS X ct "str" "str.split" yF:=by
 refine⟨_,X6,fun ι M H d ds v vs Q R q qs p=> ?_⟩
 unfold yF at p
 split at p
 ·rename_i y z
  cases jA q
  obtain⟨u,rfl,qu⟩:=wC qs
  cases jA qu
  split at p
  ·rename_i hz
   exact⟨y,z,rfl,rfl,hz.1,hz.2,fun pp hp=>oH R (S6 _) hp p⟩
  ·exact p.elim
 ·exact p.elim
def BX:D→List D→Mem→Out D:=fun d ds M=>match d,ds with
 | .str y,[.str z]=> .ok (.bl (Txt.startswith y z)) M
 | _,_=> .bad
theorem JV:MtS X ct "str" "str.startswith" BX:=by
 refine⟨_,Vz,fun ι M H d ds v vs Q R q qs p=> ?_⟩
 unfold BX at p
 split at p
 ·rename_i y z
  cases jA q
  obtain⟨u,rfl,qu⟩:=wC qs
  cases jA qu
  exact⟨y,z,rfl,rfl,p ι _ H .refl R (.bl _)⟩
 ·exact p.elim
def KR:Kg:=fun ds M=>match ds with
 | [.int i]=>if i.natAbs.log2<1920 then .ok (.str (toString i)) M else .bad
 | [.str z]=> .ok (.str z) M
 | [.non]=> .ok (.str "None") M
 | _=> .bad
theorem YL:qZ X ct (.type "str") KR:=by
 refine⟨_,V9,fun ι M H ds vs Q R h p=> ?_⟩
 unfold KR at p
 split at p
 ·rename_i i
  obtain⟨v,rfl,q⟩:=wC h
  cases vI q
  split at p
  ·rename_i hz;exact .inl ⟨i,rfl,hz,p ι _ H .refl R (.str _)⟩
  ·exact p.elim
 ·rename_i z
  obtain⟨v,rfl,q⟩:=wC h
  cases jA q
  exact .inr (.inl ⟨z,rfl,p ι _ H .refl R (.str _)⟩)
 ·obtain⟨v,rfl,q⟩:=wC h
  cases q
  exact .inr (.inr ⟨rfl,p ι _ H .refl R (.str _)⟩)
 ·exact p.elim
def Xi:Kg:=fun ds M=>match ds with
 | [.int i]=> .ok (.int i) M
 | [.bl k]=> .ok (.int (if k then 1 else 0)) M
 | [.str z]=>match PySem.intText? z with
  | some n=>if z.length≤640 then .ok (.int n) M else .bad
  | none=> .bad
 | _=> .bad
theorem ad2:qZ X ct (.type "int") Xi:=by
 refine⟨_,Wc,fun ι M H ds vs Q R h p=> ?_⟩
 unfold Xi at p
 split at p
 ·rename_i i
  obtain⟨v,rfl,q⟩:=wC h
  cases vI q
  exact .inl ⟨i,rfl,p ι _ H .refl R (.int _)⟩
 ·rename_i k
  obtain⟨v,rfl,q⟩:=wC h
  cases q
  exact .inr (.inl ⟨k,rfl,p ι _ H .refl R (.int _)⟩)
 ·rename_i z
  obtain⟨v,rfl,q⟩:=wC h
  cases jA q
  split at p
  ·rename_i n e
   split at p
   ·rename_i hl;exact .inr (.inr ⟨z,n,rfl,e,hl,p ι _ H .refl R (.int _)⟩)
   ·exact p.elim
  ·exact p.elim
 ·exact p.elim
def acp:uM:=fun d e M=>match d,e with
 | .str a,.str b=> .ok (.bl (!decide (b.cps.toList<a.cps.toList))) M
 | _,_=> .bad
theorem aeH:jZ X ct (compareOp .LtE) acp:=by
 refine⟨_,Vt,fun ι M H d d' v v' Q R h h' p=> ?_⟩
 unfold acp at p
 split at p
 ·cases jA h
  cases jA h'
  exact⟨_,_,rfl,rfl,p ι _ H .refl R (.bl _)⟩
 ·exact p.elim
def ZK:uM:=fun d e M=>match d,e with
 | .tup xs,.tup ys=>match m9 xs,m9 ys with
  | some is,some js=> .ok (.bl (TLe.Rv is js)) M
  | _,_=> .bad
 | _,_=> .bad
theorem aeG(hu:X.A.units+64<cLine):jZ X ct (compareOp .LtE) ZK:=by
 refine⟨_,ac9 (by omega),fun ι M H d d' v v' Q R h h' p=> ?_⟩
 unfold ZK at p
 split at p
 ·obtain⟨a,vs,rfl,ha,hd⟩:=oX h
  obtain⟨b,us,rfl,hb,hd'⟩:=oX h'
  split at p
  ·rename_i is js e1 e2
   have x1:=sV e1 hd
   have x2:=sV e2 hd'
   subst x1 x2
   exact⟨a,b,is,js,rfl,rfl,vK.of ha,vK.of hb,p ι _ H .refl R (.bl _)⟩
  ·exact p.elim
 ·exact p.elim
def sLe:uM:=ym (ym Xh acp) ZK
theorem YS(hu:X.A.units+64<cLine):jZ X ct (compareOp .LtE) sLe:=(YT.or aeH).or (aeG hu)
def Vh:uM:=fun d e M=>match d,e with
 | .str i,.str j=> .ok (.bl (!(Builtin.Str.occurrences j i 0 j.length 1).isEmpty)) M
 | _,_=> .bad
theorem aeI:jZ X ct (compareOp .In) Vh:=by
 refine⟨_,Vu,fun ι M H d d' v v' Q R h h' p=> ?_⟩
 unfold Vh at p
 split at p
 ·cases jA h
  cases jA h'
  exact⟨_,_,rfl,rfl,p ι _ H .refl R (.bl _)⟩
 ·exact p.elim
def itS(d:D)(M1:Mem):Out Itm:=match d with
 | .str u=>if u.length≤sizeLine then .ok ⟨none,u.cps.toList.map fun c=>D.str ⟨#[c]⟩⟩ M1 else .bad
 | _=> .bad
def Rq(m:ME):MI:=fun e M=>(m e M).bind itS
theorem acf{tg a:Expr}{ma:ME}(hl:SE X ct W a ma):SI X ct W tg a (Rq ma):=PI.imp (acM hl) fun σ H R q=>by
 obtain⟨ι,e,M,w,p⟩:=b_ (fQ:=d8 X.K ct) (f:=fun d _ M1=>itS d M1) q
 refine⟨ι,e,M,w,p.mono fun v H1 ⟨dz,e1,M1,d,w1,q1,p1⟩=> ?_⟩
 cases q1 with
 | str u=>
  dsimp only[itS]at p1
  split at p1
  ·rename_i hz
   refine⟨u,rfl,p1 dz _ H1 .refl w1.rl ⟨trivial,by rw[List.length_map,Array.length_toList];exact hz,fun jO M2 H2 x2 r2 ok2 i=>⟨fun d e=> ?_,fun h=> ?_⟩⟩⟩
   ·rw[List.getElem?_map]at e
    obtain⟨c,hc,rfl⟩:=Option.map_eq_some_iff.mp e
    have hi:i<u.length:=by have:=(List.getElem?_eq_some_iff.mp hc).1;simpa[Str.length]using this
    refine⟨hi,fun x H3 ⟨e3,c',hc',e4⟩=> ?_⟩
    subst e3 e4
    rw[hc]at hc'
    cases hc'
    exact⟨.refl,r2,.str _⟩
   ·show u.length≤i
    simpa[Str.length]using h
  ·exact p1.elim
 | _=>exact p1.elim
def wX:D→List D→Mem→Out D:=fun d ds M=>match d,ds with
 | .ref n,[.ref k]=>match M[n]?,M[k]? with
  | some (.lst es),some (.lst fs)=>if es.length+fs.length≤sizeLine then .ok .non (M.set n (.lst (es++fs)))else .bad
  | _,_=> .bad
 | _,_=> .bad
theorem DQ:MtS X ct "list" "list.extend" wX:=by
 refine⟨_,VB,fun ι M H d ds v vs Q R q qs p=> ?_⟩
 unfold wX at p
 split at p
 ·rename_i n k
  obtain⟨hn,rfl⟩:=nA q
  obtain⟨y,rfl,qy⟩:=wC qs
  obtain⟨hk,rfl⟩:=nA qy
  split at p
  ·rename_i es fs e1 e2
   split at p
   ·rename_i hz
    obtain⟨xs,hH,hd⟩:=R.obj n _ e1
    obtain⟨ys,hB,hd2⟩:=R.obj k _ e2
    have x2:Ext X.K ι M.length H ι M.length (upd H (ι n) (.lst (xs++ys))):=Ext.chg hH (fun _ z=>nomatch z) (fun _ _ z=>nomatch z)
    refine⟨_,_,xs,ys,rfl,rfl,hH,hB,by rw[hd.length,hd2.length];exact hz,?_⟩
    exact p ι .non _ (by rw[List.length_set];exact x2) (R.chg hn hH (fun _ z=>nomatch z) (fun _ _ z=>nomatch z) ⟨_,dh,(hd.append hd2).mono x2⟩) .non
   ·exact p.elim
  ·exact p.elim
 ·exact p.elim
def Rx(M:Mem)(o k d:D):Option Mem:=match o,k with
 | .ref n,.int i=>match M[n]? with
  | some (.lst es)=>(ixN es.length i).map fun j=>M.set n (.lst (es.set j d))
  | _=>none
 | _,_=>none
def Q5(mo mk mv:ME):MS:=fun e M=>yK e (mv e M) fun d M1=>yK e (mo e M1) fun o M2=>yK e (mk e M2) fun k M3=>Lx (Rx M3 o k d) e
theorem Zx{o i value:Expr}{mo mk mv:ME}(ho:SE X ct W o mo)(hi:SE X ct W i mk)(hv:SE X ct W value mv)(hs:swapsWith value (some (.Subscript o i pos')) pos.line X.env=pure false:=by rfl):
  SS X ct W (.Assign [.Subscript o i pos'] value pos) (Q5 mo mk mv):=PS.imp (Z6 ho hi hv hs) fun T σ H q=>by
 obtain⟨ι,e,M,w,p⟩:=uR (rel:=d8 X.K ct) (f:=fun d e M1=>yK e (mo e M1) fun o M2=>yK e (mk e M2) fun k M3=>Lx (Rx M3 o k d) e) q
 refine⟨ι,e,M,w,p.mono fun vd H1 ⟨dz,e1,M1,d,w1,q1,p1⟩=>⟨dz,e1,M1,w1,?_⟩⟩
 cases z:mo e1 M1 with
 | bad=>simp only[z,zM]at p1;exact p1
 | exc xc xd xM=>simp only[z,zL]at p1;exact fun jO dx v H2 x r q1 q2=>p1 jO σ dx v H2 x (w1.ext x r) q1 q2
 | ok o' M2=>
  simp only[z,DP]at p1
  intro jO vo H2 x2 r2 q2
  have p2:=p1.ext x2
  have w2:=w1.ext x2 r2
  refine⟨jO,e1,M2,w2,?_⟩
  cases z2:mk e1 M2 with
  | bad=>simp only[z2,zM]at p2;exact p2
  | exc xc xd xM=>simp only[z2,zL]at p2;exact fun An dx v H3 x r q1 q2=>p2 An σ dx v H3 x (w2.ext x r) q1 q2
  | ok k M3=>
   simp only[z2,DP]at p2
   intro An vk H3 x3 r3 q3
   have p3:=p2.ext x3
   have w3:=w2.ext x3 r3
   cases z3:Rx M3 o' k d with
   | none=>rw[z3]at p3;exact p3.elim
   | some M4=>
    rw[z3]at p3
    unfold Rx at z3
    split at z3
    ·rename_i n i
     obtain⟨hn,rfl⟩:=nA q2
     cases vI q3
     split at z3
     ·rename_i es e1'
      obtain⟨j,hj,rfl⟩:=Option.map_eq_some_iff.mp z3
      have hn3:n<M3.length:=Nat.lt_of_lt_of_le hn x3.le
      obtain⟨xs,hH,hd⟩:=r3.obj n _ e1'
      have x4:Ext X.K An M3.length H3 An M3.length (upd H3 (An n) (.lst (xs.set j vd))):=Ext.chg hH (fun _ z=>nomatch z) (fun _ _ z=>nomatch z)
      have r4:Rl X.K ct An (M3.set n (.lst (es.set j d))) (upd H3 (An n) (.lst (xs.set j vd))):=r3.chg hn3 hH (fun _ z=>nomatch z) (fun _ _ z=>nomatch z) ⟨_,dh,(hd.set j ((q1.mono x2).mono x3)).mono x4⟩
      have x5:Ext X.K An M3.length H3 An (M3.set n (.lst (es.set j d))).length (upd H3 (An n) (.lst (xs.set j vd))):=by rw[List.length_set];exact x4
      refine⟨_,xs,i,j,rfl,rfl,?_,by rw[hd.length];exact hj,?_⟩
      ·rw[←x3.same n hn];exact hH
      ·rw[←x3.same n hn]
       exact p3 An σ _ x5 (w3.ext x5 r4)
     ·cases z3
    ·cases z3
theorem S_{x:Str}{z:Str}{t:Tok}{pos:Pos}(hg:Gl X x)(hm:X.mg x=some (.str z t))(hd:(x==("__debug__" : Str))=false:=by decide):SE X ct W (.Name x pos) (mC (.str z)):=
 fP (Le (v:= .str z) hg hm ⟨t,rfl⟩ hd) fun _ _ _ h=>GF (fun _ _=> .str z) h
theorem BR{x:Str}{z:Int}{t:Tok}{pos:Pos}(hg:Gl X x)(hm:X.mg x=some (.int z t))(hd:(x==("__debug__" : Str))=false:=by decide):SE X ct W (.Name x pos) (mC (.int z)):=
 fP (Le (v:= .int z) hg hm ⟨t,rfl⟩ hd) fun _ _ _ h=>GF (fun _ _=> .int z) h
def Fl(k:Str):List (Str×Int)→D
 | []=> .non
 | (x,i)::T=>if decide (k=x)=true then .int i else Fl k T
theorem SX{K:PySem.W.Frag}{ι:Nat→Addr}{n:Nat}{H:Hp}{k:Str}:∀(T:List (Str×Int)),DV K ct ι n H (Fl k T) (Dk k T)
 | []=> .non
 | (x,i)::T=>by
  unfold Fl Dk
  split
  ·exact .int i
  ·exact SX T
def aaE(T:List (Str×Int))(k:D)(M:Mem):Out D:=match k with
 | .str z=> .ok (Fl z T) M
 | _=> .bad
def Yh(T:List (Str×Int))(mk:ME):ME:=fun e M=>(mk e M).bind (aaE T)
theorem ZF{x:Str}{e:Expr}{mk:ME}{p apos cpos:Pos}{a:Addr}(T:List (Str×Int))(hg:Gl X x)(hm:X.mg x=some (.ref a))(hT:aeO X.K a T)(he:SE X ct W e mk)(hd:(x==("__debug__" : Str))=false:=by decide)
  (base:attributeBase (.Name x p) "get" X.env (eval (.Name x p) X.env)=eval (.Name x p) X.env:=by rfl)
  (few:((backTo cpos (starEach [e] X.env)).all (fun x=> !x.1)&&(backToKw cpos (keywordEach [] X.env)).all (fun x=>x.1.isSome)
   && decide (([e]:List Expr).length+([]:List Keyword).length+(if([]:List Keyword).isEmpty then 0 else 1)<30))=true:=by rfl)
  (line:(apos.endLine==cpos.line)=true:=by rfl) (trees:backTo cpos (starEach [e] X.env)=[(false,eval e X.env)]:=by rfl):
  SE X ct W (.Call (.Attribute (.Name x p) "get" apos) [e] [] cpos) (Yh T mk):=fP (aac (Le (v:= .ref a) hg hm rfl hd) he ⟨base,few,line,trees⟩) fun σ H Q q=>by
 obtain⟨ι,e,M,w,p⟩:=b_ (fQ:=d8 X.K ct) (f:=fun k _ M1=>aaE T k M1) q
 refine⟨a,T,rfl,hT,ι,e,M,w,p.mono fun v H1 ⟨dz,e1,M1,d,w1,q1,p1⟩=> ?_⟩
 cases q1 with
 | str z=>exact⟨_,rfl,p1 dz _ H1 .refl w1.rl (SX T)⟩
 | _=>exact p1.elim
end
theorem vA{N ps:List Str}{sc:Scope}(h1:sc.kind= .function:=by rfl)(h2:sc.isCoroutine=false:=by rfl)(h3:sc.isGenerator=false:=by rfl)(h4:N.Nodup:=by decide +kernel)(h5:N.take ps.length=ps:=by rfl)
  (h6:∀x∈ps,sc.names.lookup x=some .local∨sc.names.lookup x=some .cell:=by decide +kernel) (h7:∀y∈sc.names,y.2≠ .free:=by decide +kernel):aU N ps sc:=⟨h1,h2,h3,h4,h5,h6,h7⟩
section
variable{e:Sl}{M:Mem}
@[simp] theorem ag7{T:List (Str×Int)}{mk:ME}:Yh T mk e M=(mk e M).bind (aaE T):=id rfl
@[simp] theorem ahU{T:List (Str×Int)}{z:Str}:aaE T (.str z) M= .ok (Fl z T) M:=id rfl
@[simp] theorem ae3{m:ME}:Rq m e M=(m e M).bind itS:=id rfl
@[simp] theorem aeY{mo mk mv:ME}:Q5 mo mk mv e M=yK e (mv e M) fun d M1=>yK e (mo e M1) fun o M2=>yK e (mk e M2) fun k M3=>Lx (Rx M3 o k d) e:=id rfl
@[simp] theorem anY{z:Str}:KR [.str z] M= .ok (.str z) M:=id rfl
@[simp] theorem anZ:KR [.non] M= .ok (.str "None") M:=id rfl
theorem aci{i:Int}(h:i.natAbs.log2<1920):KR [.int i] M= .ok (.str (toString i)) M:=by simp only[KR,h,if_true]
@[simp] theorem acj{y z:Str}:BX (.str y) [.str z] M= .ok (.bl (Txt.startswith y z)) M:=id rfl
theorem JR{y z:Str}(h:y.length+2≤16777216)(hz:(z.length==0)=false):yF (.str y) [.str z] M= .ok (.ref M.length) (M++[.lst ((Txt.split y z).map D.str)]):=by
 simp only[yF]
 rw[if_pos ⟨by rw[m8];exact h,hz⟩]
theorem GP:∀(ws:List Str),strsOf (ws.map D.str)=some ws
 | []=>rfl
 | w::ws=>by simp only[List.map_cons,strsOf,GP ws,Option.map_some]
theorem Hh{y:Str}{n:Nat}{ws:List Str}(h:M[n]? = some (.lst (ws.map D.str)))(hk:JoinOk y ws=true):yG (.str y) [.ref n] M= .ok (.str (Txt.join y ws)) M:=by
 simp only[yG,h,GP,hk,if_true]
theorem acv{z:Str}{n:Int}(h:PySem.intText? z=some n)(hl:z.length≤640):Xi [.str z] M= .ok (.int n) M:=by simp only[Xi,h,hl,if_true]
theorem Az{n k:Nat}{es fs:List D}(h1:M[n]? = some (.lst es))(h2:M[k]? = some (.lst fs))(hz:es.length+fs.length≤16777216):wX (.ref n) [.ref k] M= .ok .non (M.set n (.lst (es++fs))):=by
 simp only[wX,h1,h2]
 rw[if_pos (by rw[m8];exact hz)]
theorem afS{a b:Str}:sLe (.str a) (.str b) M= .ok (.bl (!decide (b.cps.toList<a.cps.toList))) M:=mZ ((oK rfl).trans rfl)
theorem afR{xs ys:List D}{is js:List Int}(h1:m9 xs=some is)(h2:m9 ys=some js):sLe (.tup xs) (.tup ys) M= .ok (.bl (TLe.Rv is js)) M:=by
 refine(oK rfl).trans ?_
 simp only[ZK,h1,h2]
end
end S
namespace S
open PySem PySem.Spec PyProof.Rows L2
section
variable{X:Cx}{ct:Nat→Addr}{W:bG}{pos pos':Pos}
variable{elt iter:Expr}{ifs:List Expr}{scope:Scope}{x:Str}{px:Pos}{mi:MI}{tt:MT}{te:ME}
end
section
variable{e:Sl}{M:Mem}
end
end S
set_option Elab.async false
set_option maxHeartbeats 0
set_option maxRecDepth 100000
set_option linter.all false
namespace My
open PySem L2 S
def tD:MS:=
 (aV (cU (aD iQ (aD dj (aD dj (aD Hf (aA 3) (aD dj (aD Dw (aA 3) (mC (.int 1009))) (mC (.int 69621)))) (aA 4)) (mC (.int 1))) (mC (.int 2147483647))) (gN 3))
 (jV (Gi "list" iC (aA 2) (aq (aA 3) aF))))
def zq:MS:=
 (Oe (O3 (aq (aA 1) aF)) (gN 4) tD)
def fZ:MS:=
 (aV (cU (qC aF) (gN 2))
 (aV (cU (aD iQ (aD dj (aD Hf (aA 0) (mC (.int 48271))) (mC (.int 7919))) (mC (.int 2147483647))) (gN 3))
 (aV zq
 (fL (aA 2)))))
def fY:Fn:=bA 5 fZ
def xZ:MS:=
 (Ay (bW (aD sLt (aA 1) (yq o9 (aq (aA 0) aF)))) (fL (aD aR (aA 0) (aA 1))) gA)
def cI:MS:=
 (aV xZ
 (fL (mC (.int 0))))
def bU:Fn:=bA 2 cI
def lu:MS:=
 (aV (cU (aD dj (mC (.int 1)) (aD aR (qC (aq (aD iQ (aA 0) (mC (.int 31))) (aq (aD iQ (aA 1) (mC (.int 1152921504606846975))) aF))) (aD iQ (aD Dw (aA 0) (mC (.int 31))) (mC (.int 2))))) (gN 2))
 (fL (gQ (aq (aA 2) (aq (aD aR (qC (aq (mC (.int 0)) (aq (aD iQ (aD Dw (aA 0) (mC (.int 62))) (mC (.int 64))) (aq (aD iQ (aD dj (aA 1) (aA 0)) (mC (.int 1152921504606846976))) aF)))) (aD iQ (aD Dw (aA 0) (mC (.int 3968))) (mC (.int 3)))) aF)))))
def pK:Fn:=bA 3 lu
def jD:MS:=
 (aV (cU (mC (.str "abcdefghijklmnopqrstuvwxyz")) (gN 1))
 (aV (cU (aD dj (mC (.int 1)) (aD iQ (aA 0) (mC (.int 8)))) (gN 2))
 (aV (cU (aD iQ (aD Dw (aA 0) (mC (.int 8))) (aA 2)) (gN 3))
 (fL (aD dj (aD dj (aD Hf (mC (.str "t")) (aA 3)) (aD aR (aA 1) (aD iQ (aD Dw (aA 0) (mC (.int 64))) (mC (.int 26))))) (aD Hf (mC (.str "t")) (aD KQ (aD KQ (aA 2) (aA 3)) (mC (.int 1)))))))))
def pL:Fn:=bA 4 jD
def bM:MS:=
 (fL (aD aR (qC (aq (aD iQ (aA 0) (mC (.int 12))) (aq (aD iQ (aA 1) (aD BZ (mC (.int 10)) (mC (.int 40)))) (aq (aD KQ (mC (.int 0)) (aD iQ (aA 1) (aD BZ (mC (.int 10)) (mC (.int 40))))) (aq (aD KQ (mC (.int 0)) (aD iQ (aA 0) (mC (.int 3)))) aF))))) (aD iQ (aD Dw (aA 0) (mC (.int 12))) (mC (.int 4)))))
def cY:Fn:=bA 2 bM
def rR:MS:=
 (K1 (aA 2) (aZ pL 1 [] (aq (aD aR (aA 0) (aD dj (mC (.int 1)) (aA 4))) aF)) (aZ cY 2 [] (aq (aD aR (aA 0) (aD dj (mC (.int 2)) (aA 4))) (aq (aD dj (aA 1) (aA 4)) aF))))
def CV:MS:=
 (Oe (O3 (aq (aD iQ (aD aR (aA 0) (mC (.int 0))) (mC (.int 7))) aF)) (gN 4) rR)
def rQ:MS:=
 (K1 (aA 3) (gQ (aq (aZ cY 2 [] (aq (aD aR (aA 0) (aD dj (mC (.int 8)) (aA 4))) (aq (aD KQ (aA 1) (aA 4)) aF))) (aq (aZ cY 2 [] (aq (aD aR (aA 0) (aD dj (mC (.int 9)) (aA 4))) (aq (aA 1) aF))) aF))) (aZ cY 2 [] (aq (aD aR (aA 0) (aD dj (mC (.int 10)) (aA 4))) (aq (aD dj (aA 1) (aA 4)) aF))))
def CT:MS:=
 (Oe (O3 (aq (aD iQ (aD aR (aA 0) (mC (.int 7))) (mC (.int 7))) aF)) (gN 4) rQ)
def nG:MS:=
 (aV (cU T6 (gN 2))
 (aV (cU T6 (gN 3))
 (aV CV
 (aV CT
 (fL (gQ (aq (yq rm (aq (H9 2 [] (tX (Cw (aA 2))) (gT 2 (iR (gN 0) (iR (gN 1) yX))) (bW (aD sNe (aA 1) (mC (.int 0)))) (gQ (aq (aA 0) (aq (aA 1) aF)))) aF)) (aq (yq rm (aq (H9 2 [] (tX (Cw (aA 3))) (gT 2 (iR (gN 0) (iR (gN 1) yX))) sE (gQ (aq (aD aR (aA 0) (mC (.int 0))) (aq (aD aR (aA 0) (mC (.int 1))) (aq (aA 1) aF))))) aF)) aF))))))))
def tW:Fn:=bA 5 nG
def sH:MS:=
 (Ay (bW (aD sEq (aD iQ (aD aR (aA 1) (mC (.int 0))) (mC (.int 4))) (mC (.int 0)))) (fL (gQ (aq (mC (.str "start")) aF))) gA)
def xu:MS:=
 (Ay (bW (aD sEq (aD iQ (aD aR (aA 1) (mC (.int 0))) (mC (.int 4))) (mC (.int 1)))) (fL (aD dj (gQ (aq (mC (.str "roll")) aF)) (aZ pK 2 [] (aq (aD aR (aA 1) (mC (.int 1))) (aq (aA 0) aF))))) gA)
def sG:MS:=
 (Ay (bW (aD sEq (aD iQ (aD aR (aA 1) (mC (.int 2))) (mC (.int 3))) (mC (.int 0)))) (cU (gQ (aq (mC (.str "swap")) (aq (aZ pL 1 [] (aq (aD aR (aA 1) (mC (.int 3))) aF)) (aq (aZ cY 2 [] (aq (aD aR (aA 1) (mC (.int 5))) (aq (aD dj (aA 0) (mC (.int 1))) aF))) (aq (aZ cY 2 [] (aq (aD aR (aA 1) (mC (.int 4))) (aq (aA 0) aF))) aF))))) (gN 2)) gA)
def jC:MS:=
 (aV (cU (aZ fY 2 [] (aq (aA 0) (aq (mC (.int 6)) aF))) (gN 1))
 (aV sH
 (aV xu
 (aV (cU (gQ (aq (aD aR (qC (aq (mC (.str "put")) (aq (mC (.str "add")) aF))) (aD iQ (aD aR (aA 1) (mC (.int 2))) (mC (.int 2)))) (aq (aZ pL 1 [] (aq (aD aR (aA 1) (mC (.int 3))) aF)) (aq (aZ cY 2 [] (aq (aD aR (aA 1) (mC (.int 4))) (aq (aA 0) aF))) aF)))) (gN 2))
 (aV sG
 (fL (gQ (aq (mC (.str "ask")) (aq (aZ cY 2 [] (aq (aD aR (aA 1) (mC (.int 1))) (aq (aA 0) aF))) (aq (aZ cY 2 [] (aq (aD aR (aA 1) (mC (.int 5))) (aq (aA 0) aF))) (aq (aA 2) aF)))))))))))
def j6:Fn:=bA 3 jC
def jE:MS:=
 (aV (uW [4] (aA 0) (aA 1) "base")
 (aV (uW [4] (aA 0) (aA 2) "base_term")
 (aV (uW [4] (aA 0) (aA 3) "base_roll")
 (uW [4,5] (aA 0) (yq Ac (aq (aA 4) aF)) "kept"))))
def m_:Fn:=bA 5 jE
def nH:MS:=
 (fL (Cy 4 m_ 5 [] (aq (jR [4] (aA 0) "base") (aq (jR [4] (aA 0) "base_term") (aq (jR [4] (aA 0) "base_roll") (aq (jR [4,5] (aA 0) "kept") aF))))))
def xq:Fn:=bA 1 nH
def jk:MS:=
 (aV (uW [5] (aA 0) (aA 1) "term")
 (aV (uW [5] (aA 0) (aA 2) "vote")
 (aV (uW [5] (aA 0) (cu 4 "twin" xq 1 [] (aA 3) aF) "row")
 (uW [4,5] (aA 0) (aA 4) "kept"))))
def qz:Fn:=bA 5 jk
def nJ:MS:=
 (fL (aD dj (jR [4] (aA 0) "base") (yq o9 (aq (jR [4,5] (aA 0) "kept") aF))))
def xr:Fn:=bA 1 nJ
def nY:MS:=
 (aV (jV (Gi "list" iC (jR [4,5] (aA 0) "kept") (aq (aA 1) aF)))
 (fL (cu 4 "last" xr 1 [] (aA 0) aF)))
def vX:Fn:=bA 2 nY
def fK:MS:=
 (fL (Gi "str" yG (mC (.str " ")) (aq (vY [] (tX (aA 0)) sE (yq KR (aq (aA 0) aF))) aF)))
def fJ:Fn:=bA 1 fK
def sI:MS:=
 (Ay (bW (aD sIs (aD aR (aA 0) (mC (.int 1))) (mC .non))) (Q5 (aA 4) (mC (.int 0)) (aZ fJ 1 [] (aq (qC (aq (mC (.str "book")) (aq (aD aR (aA 0) (mC (.int 0))) (aq (mC (.str "-")) aF)))) aF))) gA)
def rP:MS:=
 (jV (Gi "list" iC (aA 4) (aq (aZ fJ 1 [] (aq (aD dj (gQ (aq (mC (.str "value")) aF)) (aA 5)) aF)) aF)))
def CQ:MS:=
 (Oe (tX (aD aR (aA 2) (mC (.int 0)))) (gN 5) rP)
def rO:MS:=
 (jV (Gi "list" iC (aA 4) (aq (aZ fJ 1 [] (aq (aD dj (gQ (aq (mC (.str "answer")) aF)) (aA 6)) aF)) aF)))
def CP:MS:=
 (Oe (tX (aD aR (aA 2) (mC (.int 1)))) (gN 6) rO)
def xx:MS:=
 (Ay (bW (aD sEq (aD aR (aA 8) (mC (.int 0))) (mC (.str "ask")))) (jV (Gi "list" iC (aA 4) (aq (aZ fJ 1 [] (aq (aD dj (qC (aq (mC (.str "at")) (aq (aA 7) (aq (mC (.str "ask")) (aq (aD aR (aA 8) (mC (.int 1))) (aq (aD aR (aA 8) (mC (.int 2))) aF)))))) (yq Ac (aq (aD aR (aA 8) (mC (.int 3))) aF))) aF)) aF))) (jV (Gi "list" iC (aA 4) (aq (aZ fJ 1 [] (aq (aD dj (gQ (aq (mC (.str "at")) (aq (aA 7) aF))) (aA 8)) aF)) aF))))
def oh:MS:=
 xx
def CN:MS:=
 (Oe (tX (aA 3)) (gT 2 (iR (gN 7) (iR (gN 8) yX))) oh)
def nF:MS:=
 (aV (cU (qC (aq (aZ fJ 1 [] (aq (qC (aq (mC (.str "book")) (aq (aD aR (aA 0) (mC (.int 0))) (aq (aD aR (aA 0) (mC (.int 1))) aF)))) aF)) (aq (aZ fJ 1 [] (aq (aD dj (qC (aq (mC (.str "base")) aF)) (aA 1)) aF)) aF))) (gN 4))
 (aV sI
 (aV CQ
 (aV CP
 (aV CN
 (fL (Gi "str" yG (mC (.str "\n")) (aq (aD dj (aA 4) (qC (aq (aZ fJ 1 [] (aq (qC (aq (mC (.str "end")) (aq (yq o9 (aq (aA 4) aF)) aF))) aF)) aF))) aF))))))))
def xj:Fn:=bA 9 nF
def jM:MS:=
 (fL (Gi "str" yG (mC (.str " ")) (aq (vY [] (tX (aA 0)) sE (yq KR (aq (aA 0) aF))) aF)))
def cO:Fn:=bA 1 jM
def x_:MS:=
 (Ay (bW (aD sEq (aD aR (aA 1) (mC (.int 0))) (mC (.str "ask")))) (fL (aD dj (gQ (aq (mC (.str "at")) (aq (aD aR (aA 0) (mC (.int 0))) (aq (mC (.str "ask")) (aq (aD aR (aA 1) (mC (.int 1))) (aq (aD aR (aA 1) (mC (.int 2))) aF)))))) (aD aR (aA 1) (mC (.int 3))))) gA)
def iY:MS:=
 (aV (cU (aD aR (aA 0) (mC (.int 1))) (gN 1))
 (aV x_
 (fL (aD dj (gQ (aq (mC (.str "at")) (aq (aD aR (aA 0) (mC (.int 0))) aF))) (aA 1)))))
def jP:Fn:=bA 2 iY
def gk:MS:=
 (fL (yq Ac (aq (jR [4,5] (aA 0) "kept") aF)))
def lV:Fn:=bA 1 gk
def nW:MS:=
 (aV (cU (jR [5] (aA 0) "row") (gN 1))
 (aV (cU (qC (aq (aZ cO 1 [] (aq (gQ (aq (mC (.str "book")) (aq (jR [5] (aA 0) "term") (aq (mIf (bW (aD sIs (jR [5] (aA 0) "vote") (mC .non))) (mC (.str "-")) (jR [5] (aA 0) "vote")) aF)))) aF)) aF)) (gN 2))
 (aV (jV (Gi "list" iC (aA 2) (aq (aZ cO 1 [] (aq (aD dj (gQ (aq (mC (.str "base")) (aq (jR [4] (aA 1) "base") (aq (jR [4] (aA 1) "base_term") aF)))) (jR [4] (aA 1) "base_roll")) aF)) aF)))
 (aV (jV (Gi "list" wX (aA 2) (aq (vY [] (tX (aD aR (jR [4,5] (aA 0) "kept") (mC (.int 0)))) sE (aZ cO 1 [] (aq (aD dj (gQ (aq (mC (.str "value")) aF)) (aA 0)) aF))) aF)))
 (aV (jV (Gi "list" wX (aA 2) (aq (vY [] (tX (aD aR (jR [4,5] (aA 0) "kept") (mC (.int 1)))) sE (aZ cO 1 [] (aq (aD dj (gQ (aq (mC (.str "answer")) aF)) (aA 0)) aF))) aF)))
 (aV (jV (Gi "list" wX (aA 2) (aq (vY [] (tX (cu 4 "entries" lV 1 [] (aA 1) aF)) sE (aZ cO 1 [] (aq (aZ jP 1 [] (aq (aA 0) aF)) aF))) aF)))
 (aV (jV (Gi "list" iC (aA 2) (aq (aZ cO 1 [] (aq (gQ (aq (mC (.str "end")) (aq (yq o9 (aq (aA 2) aF)) aF))) aF)) aF)))
 (fL (Gi "str" yG (mC (.str "\n")) (aq (aA 2) aF))))))))))
def vW:Fn:=bA 3 nW
def Ak:MS:=
 (Ay (mOr (bW (aD sNe (jR [5] (aA 0) "term") (aD aR (aA 1) (mC (.int 0))))) (mOr (bW (aD sNe (jR [5] (aA 0) "vote") (aD aR (aA 1) (mC (.int 1))))) (bW (yq Ca (aq (jR [5] (aA 0) "vote") (aq (mC (.ty "bool")) aF)))))) (fL (mC (.bl false))) gA)
def Aj:MS:=
 (Ay (bW (aD sNe (qC (aq (jR [4] (aA 5) "base") (aq (jR [4] (aA 5) "base_term") (aq (jR [4] (aA 5) "base_roll") aF)))) (qC (aq (aD aR (aA 2) (mC (.int 0))) (aq (aD aR (aA 2) (mC (.int 1))) (aq (gQ (aq (aD aR (aA 2) (mC (.int 2))) (aq (aD aR (aA 2) (mC (.int 3))) aF))) aF)))))) (fL (mC (.bl false))) gA)
def iK:MS:=
 (aV (cU (jR [5] (aA 0) "row") (gN 5))
 (aV Ak
 (aV Aj
 (fL (JX (aD sEq (cu 4 "entries" lV 1 [] (aA 5) aF) (aA 4)) (JX (yq Ca (aq (jR [4,5] (aA 0) "kept") (aq (mC (.ty "tuple")) aF))) (aD sEq (jR [4,5] (aA 0) "kept") (aA 3))))))))
def nR:Fn:=bA 6 iK
def iZ:MS:=
 (aV (uW [3] (aA 0) (Gi "str" yF (aA 1) (aq (mC (.str "\n")) aF)) "rows")
 (uW [3] (aA 0) (mC (.int 1)) "here"))
def pX:Fn:=bA 2 iZ
def v7:MS:=
 (Ay (bW (aD Vi (jR [3] (aA 0) "here") (yq o9 (aq (jR [3] (aA 0) "rows") aF)))) Cd gA)
def dR:MS:=
 (aV v7
 (fL (Gi "str" yF (aD aR (jR [3] (aA 0) "rows") (aD KQ (jR [3] (aA 0) "here") (mC (.int 1)))) (aq (mC (.str " ")) aF))))
def gG:Fn:=bA 1 dR
def rJ:MS:=
 (Ay (mOr (bW (aD sNe (aD aR (aA 3) (mC (.int 0))) (aA 1))) (bW (aD sNe (yq o9 (aq (aA 3) aF)) (aA 2)))) Cd gA)
def bC:MS:=
 (aV (cU (cu 3 "words" gG 1 [] (aA 0) aF) (gN 3))
 (aV rJ
 (fL (aA 3))))
def cj:Fn:=bA 4 bC
def qg:MS:=
 (fL (JX (aD Xh (mC (.int 1)) (yq o9 (aq (aA 0) aF))) (JX (aD Xh (yq o9 (aq (aA 0) aF)) (aA 2)) (yq Xk (aq (vY [1] (Rq (aA 0)) sE (aD Vh (aA 0) (aA 1))) aF)))))
def xm:Fn:=bA 3 qg
def p_:MS:=
 (Ay (bW (Gi "str" BX (aA 0) (aq (mC (.str "-")) aF))) (cU (Zb (aA 0) (yR (mC (.int 1))) sy) (gN 1)) gA)
def Al:MS:=
 (Ay (O4 (bW (aZ xm 3 [] (aq (aA 1) (aq (mC (.str "0123456789")) (aq (mC (.int 100)) aF)))))) (fL (mC (.bl false))) gA)
def lz:MS:=
 (aV (cU (aA 0) (gN 1))
 (aV p_
 (aV Al
 (fL (adk (aD sEq (aA 0) (mC (.str "0"))) (Yg (Gi "str" BX (aA 1) (aq (mC (.str "0")) aF))))))))
def u0:Fn:=bA 2 lz
def v8:MS:=
 (Ay (O4 (bW (aZ u0 1 [] (aq (aA 1) aF)))) Cd gA)
def bF:MS:=
 (aV v8
 (fL (yq Xi (aq (aA 1) aF))))
def bO:Fn:=bA 2 bF
def oN:MS:=
 (Ay (bW (aD sLt (aA 2) (mC (.int 0)))) Cd gA)
def a_:MS:=
 (aV (cU (cu 3 "whole" bO 2 [] (aA 0) (aq (aA 1) aF)) (gN 2))
 (aV oN
 (fL (aA 2))))
def bI:Fn:=bA 3 a_
def v9:MS:=
 (Ay (bW (aD acw (aA 3) (aA 2))) Cd gA)
def dU:MS:=
 (aV (cU (cu 3 "from_nought" bI 2 [] (aA 0) (aq (aA 1) aF)) (gN 3))
 (aV v9
 (fL (aA 3))))
def jg:Fn:=bA 4 dU
def i_:MS:=
 (fL (cu 3 "below" jg 3 [] (aA 0) (aq (aA 1) (aq (mC (.int 60)) aF))))
def pY:Fn:=bA 2 i_
def cG:MS:=
 (uW [3] (aA 0) (aD dj (jR [3] (aA 0) "here") (mC (.int 1))) "here")
def fj:Fn:=bA 1 cG
def p6:MS:=
 (Ay (bW (aD sNe (aD aR (aA 1) (mC (.int 2))) (mC (.str "-")))) (cU (cu 3 "hand" pY 2 [] (aA 0) (aq (aD aR (aA 1) (mC (.int 2))) aF)) (gN 2)) gA)
def k_:MS:=
 (aV (cU (cu 3 "words_of" cj 3 [] (aA 0) (aq (mC (.str "book")) (aq (mC (.int 3)) aF))) (gN 1))
 (aV (cU (mC .non) (gN 2))
 (aV p6
 (aV (cU (gQ (aq (cu 3 "from_nought" bI 2 [] (aA 0) (aq (aD aR (aA 1) (mC (.int 1))) aF)) (aq (aA 2) aF))) (gN 3))
 (aV (jV (cu 3 "go_on" fj 1 [] (aA 0) aF))
 (fL (aA 3)))))))
def qp:Fn:=bA 4 k_
def qG:MS:=
 (Ay (bW (aD sEq (aD aR (aA 3) (mC (.int 0))) (mC (.int 0)))) Cd gA)
def cH:MS:=
 (aV (cU (gQ (aq (cu 3 "below" jg 3 [] (aA 0) (aq (aA 1) (aq (aD ZG (mC (.int 1)) (mC (.int 60))) aF))) (aq (cu 3 "below" jg 3 [] (aA 0) (aq (aA 2) (aq (aD ZG (mC (.int 1)) (mC (.int 60))) aF))) aF))) (gN 3))
 (aV qG
 (fL (aA 3))))
def gH:Fn:=bA 4 cH
def lg:MS:=
 (aV (cU (cu 3 "words_of" cj 3 [] (aA 0) (aq (mC (.str "base")) (aq (mC (.int 5)) aF))) (gN 1))
 (aV (cU (cu 3 "from_nought" bI 2 [] (aA 0) (aq (aD aR (aA 1) (mC (.int 1))) aF)) (gN 2))
 (aV (cU (gQ (aq (aA 2) (aq (cu 3 "from_nought" bI 2 [] (aA 0) (aq (aD aR (aA 1) (mC (.int 2))) aF)) (aq (cu 3 "both_sets" gH 3 [] (aA 0) (aq (aD aR (aA 1) (mC (.int 3))) (aq (aD aR (aA 1) (mC (.int 4))) aF))) aF)))) (gN 3))
 (aV (jV (cu 3 "go_on" fj 1 [] (aA 0) aF))
 (fL (aA 3))))))
def qw:Fn:=bA 4 lg
def cZ:MS:=
 (fL (aD sEq (aD aR (cu 3 "words" gG 1 [] (aA 0) aF) (mC (.int 0))) (aA 1)))
def fM:Fn:=bA 2 cZ
def pQ:MS:=
 (fL (aZ xm 3 [] (aq (aA 0) (aq (mC (.str "abcdefghijklmnopqrstuvwxyz")) (aq (mC (.int 8)) aF)))))
def zN:Fn:=bA 1 pQ
def yc:MS:=
 (Ay (O4 (bW (aZ zN 1 [] (aq (aA 1) aF)))) Cd gA)
def gm:MS:=
 (aV yc
 (fL (aA 1)))
def lW:Fn:=bA 2 gm
def rB:MS:=
 (Ay (mOr (bW (aD sEq (aD aR (aA 3) (mC (.int 1))) (mC (.int 0)))) (VF (bW (aD Vi (yq o9 (aq (aA 1) aF)) (mC (.int 0)))) (bW (aD sLe (aD aR (aA 3) (mC (.int 0))) (aD aR (aD aR (aA 1) (mUn ZJ (mC (.int 1)))) (mC (.int 0))))))) Cd gA)
def gZ:MT:=
 (bW (cu 3 "begins" fM 2 [] (aA 0) (aq (mC (.str "value")) aF)))
def mW:MS:=
 (aV (cU (cu 3 "words_of" cj 3 [] (aA 0) (aq (mC (.str "value")) (aq (mC (.int 3)) aF))) (gN 2))
 (aV (cU (gQ (aq (cu 3 "name" lW 2 [] (aA 0) (aq (aD aR (aA 2) (mC (.int 1))) aF)) (aq (cu 3 "whole" bO 2 [] (aA 0) (aq (aD aR (aA 2) (mC (.int 2))) aF)) aF))) (gN 3))
 (aV rB
 (aV (jV (Gi "list" iC (aA 1) (aq (aA 3) aF)))
 (jV (cu 3 "go_on" fj 1 [] (aA 0) aF))))))
def xQ:MS:=
 (Ax gZ mW)
def iW:MS:=
 (aV (cU (qC aF) (gN 1))
 (aV xQ
 (fL (yq rm (aq (aA 1) aF)))))
def lU:Fn:=bA 4 iW
def pO:MS:=
 (Ay (VF (bW (aD Vi (yq o9 (aq (aA 1) aF)) (mC (.int 0)))) (bW (aD sLe (Zb (aA 3) sy (yR (mC (.int 2)))) (Zb (aD aR (aA 1) (mUn ZJ (mC (.int 1)))) sy (yR (mC (.int 2))))))) Cd gA)
def gq:MT:=
 (bW (cu 3 "begins" fM 2 [] (aA 0) (aq (mC (.str "answer")) aF)))
def lE:MS:=
 (aV (cU (cu 3 "words_of" cj 3 [] (aA 0) (aq (mC (.str "answer")) (aq (mC (.int 4)) aF))) (gN 2))
 (aV (cU (yq rm (aq (vY [0] (tX (Zb (aA 2) (yR (mC (.int 1))) sy)) sE (cu 3 "whole" bO 2 [] (aA 1) (aq (aA 0) aF))) aF)) (gN 3))
 (aV pO
 (aV (jV (Gi "list" iC (aA 1) (aq (aA 3) aF)))
 (jV (cu 3 "go_on" fj 1 [] (aA 0) aF))))))
def vP:MS:=
 (Ax gq lE)
def gO:MS:=
 (aV (cU (qC aF) (gN 1))
 (aV vP
 (fL (yq rm (aq (aA 1) aF)))))
def j5:Fn:=bA 4 gO
def yS:MS:=
 (Ay (bW (aD sNe (Yh [("put",3),("add",3),("swap",4)] (aD aR (aA 1) (mC (.int 0)))) (yq o9 (aq (aA 1) aF)))) Cd gA)
def jB:MS:=
 (aV yS
 (aV (cU (vY [0] (tX (Zb (aA 1) (yR (mC (.int 2))) sy)) sE (cu 3 "whole" bO 2 [] (aA 1) (aq (aA 0) aF))) (gN 2))
 (fL (aD dj (gQ (aq (aD aR (aA 1) (mC (.int 0))) (aq (cu 3 "name" lW 2 [] (aA 0) (aq (aD aR (aA 1) (mC (.int 1))) aF)) aF))) (yq rm (aq (aA 2) aF))))))
def sr:Fn:=bA 3 jB
def pZ:MS:=
 (Ay (bW (aD sEq (aA 1) (qC (aq (mC (.str "start")) aF)))) (fL (gQ (aq (mC (.str "start")) aF))) gA)
def vC:MS:=
 (Ay (VF (bW (aD sEq (yq o9 (aq (aA 1) aF)) (mC (.int 3)))) (bW (aD sEq (aD aR (aA 1) (mC (.int 0))) (mC (.str "roll"))))) (fL (aD dj (gQ (aq (mC (.str "roll")) aF)) (cu 3 "both_sets" gH 3 [] (aA 0) (aq (aD aR (aA 1) (mC (.int 1))) (aq (aD aR (aA 1) (mC (.int 2))) aF))))) gA)
def Ai:MS:=
 (Ay (VF (bW (aD Vi (yq o9 (aq (aA 1) aF)) (mC (.int 3)))) (bW (aD sEq (aD aR (aA 1) (mC (.int 0))) (mC (.str "ask"))))) (fL (gQ (aq (mC (.str "ask")) (aq (cu 3 "whole" bO 2 [] (aA 0) (aq (aD aR (aA 1) (mC (.int 1))) aF)) (aq (cu 3 "whole" bO 2 [] (aA 0) (aq (aD aR (aA 1) (mC (.int 2))) aF)) (aq (aZ sr 2 [] (aq (aA 0) (aq (Zb (aA 1) (yR (mC (.int 3))) sy) aF))) aF)))))) gA)
def iJ:MS:=
 (aV pZ
 (aV vC
 (aV Ai
 Cd)))
def nQ:Fn:=bA 2 iJ
def gn:MT:=
 (bW (cu 3 "begins" fM 2 [] (aA 0) (aq (mC (.str "at")) aF)))
def lD:MS:=
 (aV (cU (cu 3 "words" gG 1 [] (aA 0) aF) (gN 2))
 (aV (cU (aZ nQ 2 [] (aq (aA 0) (aq (Zb (aA 2) (yR (mC (.int 2))) sy) aF))) (gN 3))
 (aV (jV (Gi "list" iC (aA 1) (aq (gQ (aq (cu 3 "from_nought" bI 2 [] (aA 0) (aq (aD aR (aA 2) (mC (.int 1))) aF)) (aq (aA 3) aF))) aF)))
 (jV (cu 3 "go_on" fj 1 [] (aA 0) aF)))))
def vO:MS:=
 (Ax gn lD)
def gM:MS:=
 (aV (cU (qC aF) (gN 1))
 (aV vO
 (fL (aA 1))))
def oM:Fn:=bA 4 gM
def vf:MS:=
 (Ay (bW (aD sNe (cu 3 "whole" bO 2 [] (aA 0) (aq (aD aR (aA 1) (mC (.int 1))) aF)) (aD KQ (jR [3] (aA 0) "here") (mC (.int 1))))) Cd gA)
def u_:MS:=
 (Ay (bW (aD sLt (jR [3] (aA 0) "here") (yq o9 (aq (jR [3] (aA 0) "rows") aF)))) Cd gA)
def fO:MS:=
 (aV (cU (cu 3 "words_of" cj 3 [] (aA 0) (aq (mC (.str "end")) (aq (mC (.int 2)) aF))) (gN 1))
 (aV vf
 u_))
def m7:Fn:=bA 2 fO
def jj:MS:=
 (aV (cU (Cy 3 pX 2 [] (aq (aA 0) aF)) (gN 1))
 (aV (cU (aZ qp 1 [] (aq (aA 1) aF)) (gN 2))
 (aV (cU (aZ qw 1 [] (aq (aA 1) aF)) (gN 3))
 (aV (cU (aZ lU 1 [] (aq (aA 1) aF)) (gN 4))
 (aV (cU (aZ j5 1 [] (aq (aA 1) aF)) (gN 5))
 (aV (cU (Cy 4 m_ 5 [] (aq (aD aR (aA 3) (mC (.int 0))) (aq (aD aR (aA 3) (mC (.int 1))) (aq (aD aR (aA 3) (mC (.int 2))) (aq (aZ oM 1 [] (aq (aA 1) aF)) aF))))) (gN 6))
 (aV (jV (cu 3 "finish" m7 1 [] (aA 1) aF))
 (fL (Cy 5 qz 5 [] (aq (aD aR (aA 2) (mC (.int 0))) (aq (aD aR (aA 2) (mC (.int 1))) (aq (aA 6) (aq (gQ (aq (aA 4) (aq (aA 5) aF))) aF)))))))))))))
def qt:Fn:=bA 7 jj
def Ue:MS:=
 (Ay (mOr (O4 (bW (yq Ca (aq (aA 11) (aq (mC (.ty "str")) aF))))) (mOr (bW (aD sNe (aA 11) (aA 10))) (O4 (bW (aZ nR 5 [] (aq (aA 9) (aq (aA 2) (aq (aA 5) (aq (aA 6) (aq (aA 7) aF)))))))))) (fL (mC (.bl false))) gA)
def Ud:MS:=
 (Ay (mOr (O4 (bW (aZ nR 5 [] (aq (aA 12) (aq (aA 2) (aq (aA 5) (aq (aA 6) (aq (aA 7) aF)))))))) (bW (aD sNe (aZ vW 1 [] (aq (aA 12) aF)) (aA 10)))) (fL (mC (.bl false))) gA)
def Kf:MS:=
 (aV (cU (aZ fY 2 [] (aq (aZ bU 2 [] (aq (aA 0) (aq (mC (.int 0)) aF))) (aq (mC (.int 17)) aF))) (gN 1))
 (aV (cU (gQ (aq (aD aR (qC (aq (aD iQ (aD aR (aA 1) (mC (.int 0))) (mC (.int 9))) (aq (aD iQ (aZ bU 2 [] (aq (aA 0) (aq (mC (.int 1)) aF))) (aD BZ (mC (.int 10)) (mC (.int 40)))) aF))) (aD iQ (aD aR (aA 1) (mC (.int 1))) (mC (.int 2)))) (aq (aD aR (qC (aq (mC .non) (aq (aD iQ (aD aR (aA 1) (mC (.int 2))) (mC (.int 60))) (aq (mC (.int 0)) aF)))) (aD iQ (aD Dw (aD aR (aA 1) (mC (.int 1))) (mC (.int 2))) (mC (.int 3)))) aF))) (gN 2))
 (aV (cU (aZ pK 2 [] (aq (aD aR (aA 1) (mC (.int 3))) (aq (aZ bU 2 [] (aq (aA 0) (aq (mC (.int 2)) aF))) aF))) (gN 3))
 (aV (cU (aD aR (qC (aq (mC (.int 0)) (aq (aD iQ (aD aR (aA 1) (mC (.int 4))) (mC (.int 300))) (aq (aD iQ (aZ bU 2 [] (aq (aA 0) (aq (mC (.int 2)) aF))) (aD BZ (mC (.int 10)) (mC (.int 40)))) aF)))) (aD iQ (aD aR (aA 1) (mC (.int 5))) (mC (.int 3)))) (gN 4))
 (aV (cU (qC (aq (aA 4) (aq (aD iQ (aZ bU 2 [] (aq (aA 0) (aq (mC (.int 1)) aF))) (aD BZ (mC (.int 10)) (mC (.int 40)))) (aq (aD aR (aA 3) (mC (.int 0))) (aq (aD aR (aA 3) (mC (.int 1))) aF))))) (gN 5))
 (aV (cU (aZ tW 2 [] (aq (aA 1) (aq (aZ bU 2 [] (aq (aA 0) (aq (mC (.int 3)) aF))) aF))) (gN 6))
 (aV (cU (vY [] (tX (Zb (aA 0) (yR (mC (.int 3))) (yR (mC (.int 40))))) sE (gQ (aq (aD dj (aD iQ (aD aR (aZ fY 2 [] (aq (aD dj (aA 0) (mC (.int 1))) (aq (mC (.int 1)) aF))) (mC (.int 0))) (mC (.int 5))) (aD iQ (aA 0) (aD BZ (mC (.int 10)) (mC (.int 40))))) (aq (aZ j6 1 [] (aq (aA 0) aF)) aF)))) (gN 7))
 (aV (cU (Cy 4 m_ 5 [] (aq (aD aR (aA 5) (mC (.int 0))) (aq (aD aR (aA 5) (mC (.int 1))) (aq (aA 3) (aq (yq Ac (aq (aA 7) aF)) aF))))) (gN 8))
 (aV (cU (Cy 5 qz 5 [] (aq (aD aR (aA 2) (mC (.int 0))) (aq (aD aR (aA 2) (mC (.int 1))) (aq (aA 8) (aq (aA 6) aF))))) (gN 9))
 (aV (jV (cu 4 "put" vX 2 [] (aA 8) (aq (gQ (aq (mC (.int 1)) (aq (gQ (aq (mC (.str "start")) aF)) aF))) aF)))
 (aV (cU (aZ xj 4 [] (aq (aA 2) (aq (aA 5) (aq (aA 6) (aq (aA 7) aF))))) (gN 10))
 (aV (cU (aZ vW 1 [] (aq (aA 9) aF)) (gN 11))
 (aV Ue
 (aV (cU (aZ qt 1 [] (aq (aA 10) aF)) (gN 12))
 (aV (cU (aZ qt 1 [] (aq (aA 10) aF)) (gN 13))
 (aV Ud
 (aV (jV (cu 4 "put" vX 2 [] (jR [5] (aA 13) "row") (aq (gQ (aq (mC (.int 2)) (aq (gQ (aq (mC (.str "start")) aF)) aF))) aF)))
 (fL (aZ nR 5 [] (aq (aA 12) (aq (aA 2) (aq (aA 5) (aq (aA 6) (aq (aA 7) aF))))))))))))))))))))))))
def Yd:Fn:=bA 14 Kf
def gf(l:List Nat):Str:=⟨l.toArray⟩
@[simp] theorem cQ(l:List Nat):(gf l).cps.toList=l:=by simp[gf]
theorem sO{a b:Str}(h:a.cps.toList=b.cps.toList):a=b:=Str.ext' (Array.toList_inj.mp h)
theorem X_(a:Str):gf a.cps.toList=a:=sO (by simp)
theorem aas{a b:List Nat}(h:gf a=gf b):a=b:=by
 have:=congrArg (fun s:Str=>s.cps.toList) h
 simpa using this
theorem jy(a:Str):a.length=a.cps.toList.length:=by simp[Str.length]
def nC(c:Nat):List Nat→List (List Nat)
 | []=>[[]]
 | a::l=>if a=c then[]::nC c l else match nC c l with
  | []=>[[a]]
  | h::t=>(a::h)::t
theorem Ur(c:Nat):∀l,nC c l≠[]
 | []=>by simp[nC]
 | a::l=>by
  unfold nC
  split
  ·simp
  ·split<;>simp
theorem Qd{c:Nat}{l:List Nat}:nC c (c::l)=[]::nC c l:=by rw[nC,if_pos rfl]
def yd(p:List Nat):List (List Nat)→List (List Nat)
 | []=>[p]
 | h::t=>(p++h)::t
theorem Ef{c a:Nat}{l:List Nat}(h:a≠c):nC c (a::l)=yd [a] (nC c l):=by
 rw[nC,if_neg h]
 cases e:nC c l<;>simp[yd]
theorem V4{c a:Nat}{p l:List Nat}(h:a≠c):yd p (nC c (a::l))=yd (p++[a]) (nC c l):=by
 rw[Ef h]
 cases nC c l<;>simp[yd]
open Builtin.Str in
theorem Ln(x:Str)(c:Nat):∀(n a:Nat) (st:Array Nat×Nat),st.2≤a→st.1.size≤a→a+n=x.length+1→
  (forIn (List.range' a n) st (StrLaws.occBody x ⟨#[c]⟩ x.length (x.length+1))).run.fst.toList=st.1.toList++(List.range' a n).filter fun i=>decide (x.cps.toList[i]? = some c)
 | 0,a,st,_,_,_=>by simp
 | n+1,a,st,h1,h2,h3=>by
  rw[List.range'_succ,List.forIn_cons,List.filter_cons]
  unfold StrLaws.occBody
  by_cases hx:x.cps.toList[a]? = some c
  ·have q:=(StrLaws.subAt_one x c a).mpr hx
   rw[if_pos ⟨⟨⟨by omega,h1⟩,q.1⟩,q.2⟩]
   have ih:=Ln x c n (a+1) (st.1.push a,a+1) (by simp) (by simp;omega) (by omega)
   simp only[hx,decide_true,if_true]
   refine ih.trans ?_
   simp
  ·have nq:¬(((st.1.size<x.length+1∧st.2≤a)∧a+(⟨#[c]⟩:Str).length≤x.length)∧subAt x ⟨#[c]⟩ a=true):=fun q=>hx ((StrLaws.subAt_one x c a).mp ⟨q.1.2,q.2⟩)
   rw[if_neg nq]
   have ih:=Ln x c n (a+1) (st.1,st.2) (by simp;omega) (by simp;omega) (by omega)
   simp only[hx,decide_false,Bool.false_eq_true,if_false]
   exact ih
theorem sW(x:Str)(c:Nat):∀(n a b:Nat),a≤b→b+n=x.length+1→0<n→
  StrLaws.partsFrom x 1 a ((List.range' b n).filter fun i=>decide (x.cps.toList[i]? = some c))=(yd ((x.cps.toList.drop a).take (b - a)) (nC c (x.cps.toList.drop b))).map gf
 | 0,_,_,_,_,h=>absurd h (by omega)
 | n+1,a,b,hab,hb,_=>by
  have hl:=jy x
  by_cases hn:n=0
  ·subst hn
   have e0:x.cps.toList[b]? = none:=List.getElem?_eq_none (by omega)
   have e1:x.cps.toList.drop b=[]:=List.drop_eq_nil_of_le (by omega)
   simp only[List.range'_succ,List.range'_zero,List.filter_cons,List.filter_nil,e0,e1,nC,yd]
   simp only[StrLaws.partsFrom,List.append_nil,List.map_cons,List.map_nil]
   refine congrArg (· :: []) (sO ?_)
   rw[StrLaws.strSub_toList,cQ,show x.length - a=b - a from by omega]
  ·rw[List.range'_succ,List.filter_cons]
   obtain⟨v,hv⟩:∃v,x.cps.toList[b]? = some v:=⟨_,List.getElem?_eq_getElem (by omega)⟩
   have ed:x.cps.toList.drop b=v::x.cps.toList.drop (b+1):=by
    have hb':b<x.cps.toList.length:=by omega
    rw[List.drop_eq_getElem_cons hb']
    rw[List.getElem?_eq_getElem hb']at hv
    rw[Option.some.inj hv]
   rw[ed]
   by_cases hc:v=c
   ·subst hc
    simp only[hv,decide_true,if_true,StrLaws.partsFrom]
    rw[sW x v n (b+1) (b+1) (Nat.le_refl _) (by omega) (by omega)]
    simp only[Nat.sub_self,List.take_zero]
    rw[Qd]
    have eg:yd [] (nC v (x.cps.toList.drop (b+1)))=nC v (x.cps.toList.drop (b+1)):=by
     cases e:nC v (x.cps.toList.drop (b+1))with
     | nil=>exact absurd e (Ur _ _)
     | cons h t=>simp[yd]
    rw[eg]
    simp only[yd,List.append_nil,List.map_cons]
    refine congrArg (· :: _) (sO ?_)
    rw[StrLaws.strSub_toList,cQ]
   ·have hne:¬(some v=some c):=fun z=>hc (Option.some.inj z)
    simp only[hv,hne,decide_false,Bool.false_eq_true,if_false]
    rw[sW x c n a (b+1) (by omega) (by omega) (by omega),V4 hc]
    have et:(x.cps.toList.drop a).take (b+1 - a)=(x.cps.toList.drop a).take (b - a)++[v]:=by
     have h1:b+1 - a=(b - a)+1:=by omega
     have h2:(x.cps.toList.drop a)[b - a]? = some v:=by rw[List.getElem?_drop,←hv];congr 1;omega
     rw[h1,List.take_succ,h2];rfl
    rw[et]
theorem strKind_pos(x:Str):1≤Builtin.Str.strKind x:=by
 unfold Builtin.Str.strKind
 split
 ·omega
 ·split<;>omega
theorem Vc(x:Str){c:Nat}(hc:c<256):Txt.split x ⟨#[c]⟩=(nC c x.cps.toList).map gf:=by
 have hk:Builtin.Str.strKind ⟨#[c]⟩=1:=by
  unfold Builtin.Str.strKind
  rw[if_pos (by simp[hc])]
 have hl:=jy x
 unfold Txt.split
 have h1:((⟨#[c]⟩:Str)).length=1:=rfl
 have hkp:=strKind_pos x
 by_cases h0:x.length<1
 ·rw[if_pos (by rw[h1,decide_eq_true h0];rfl)]
  have:x.cps.toList=[]:=List.eq_nil_of_length_eq_zero (by omega)
  rw[this]
  simp only[nC,List.map_cons,List.map_nil]
  exact congrArg (· :: []) (sO (by rw[this];simp))
 ·rw[if_neg (by rw[h1,hk,decide_eq_false h0,decide_eq_false (by omega)];decide)]
  have ho:Builtin.Str.occurrences x ⟨#[c]⟩ 0 x.length (x.length+1)=(List.range' 0 (x.length+1)).filter fun i=>decide (x.cps.toList[i]? = some c):=by
   rw[StrLaws.occ_eq]
   have:=Ln x c (x.length+1) 0 (#[],0) (Nat.le_refl _) (by simp) (by omega)
   simpa using this
  have hp:=sW x c (x.length+1) 0 0 (Nat.le_refl _) (by omega) (by omega)
  have eg:yd ((x.cps.toList.drop 0).take (0 - 0)) (nC c (x.cps.toList.drop 0))=nC c x.cps.toList:=by
   simp only[Nat.sub_self,List.take_zero,List.drop_zero]
   cases e:nC c x.cps.toList with
   | nil=>exact absurd e (Ur _ _)
   | cons h t=>simp[yd]
  rw[eg]at hp
  rw[←ho]at hp
  split
  ·rename_i he
   rw[List.isEmpty_iff.mp he]at hp
   rw[←hp]
   simp only[StrLaws.partsFrom]
   exact congrArg (· :: []) (StrLaws.sub_whole x).symm
  ·rw[StrLaws.partsBetween_eq]
   exact hp
def lX(c:Nat):List (List Nat)→List Nat
 | []=>[]
 | [w]=>w
 | w::r=>w++c::lX c r
theorem Bd(c:Nat):∀(ws:List (List Nat)),Txt.join ⟨#[c]⟩ (ws.map gf)=gf (lX c ws):=by
 intro ws
 unfold Txt.join
 rw[StrLaws.glued_eq_join]
 induction ws with
 | nil=>rfl
 | cons w r ih=>
  cases r with
  | nil=>rfl
  | cons v r=>
   show gf w++⟨#[c]⟩++Str.join ⟨#[c]⟩ ((v::r).map gf)=_
   rw[ih]
   apply sO
   simp[lX,Str.cps_append]
theorem Qe{c:Nat}:∀{w l:List Nat},c∉w→nC c (w++c::l)=w::nC c l
 | [],l,_=>Qd
 | a::w,l,h=>by
  have ha:a≠c:=fun z=>h (by simp[z])
  have hw:c∉w:=fun z=>h (by simp[z])
  show nC c (a::(w++c::l))=_
  rw[Ef ha,Qe hw]
  rfl
theorem Qc{c:Nat}:∀{w:List Nat},c∉w→nC c w=[w]
 | [],_=>rfl
 | a::w,h=>by
  have ha:a≠c:=fun z=>h (by simp[z])
  have hw:c∉w:=fun z=>h (by simp[z])
  rw[Ef ha,Qc hw]
  rfl
theorem Iz{c:Nat}:∀{ws:List (List Nat)},ws≠[]→(∀w∈ws,c∉w)→nC c (lX c ws)=ws
 | [],h,_=>absurd rfl h
 | [w],_,h=>Qc (h w (by simp))
 | w::v::r,_,h=>by
  show nC c (w++c::lX c (v::r))=_
  rw[Qe (h w (by simp)),Iz (by simp) fun x hx=>h x (by simp at hx ⊢;exact .inr hx)]
theorem GZ{c:Nat}(hc:c<256){ws:List (List Nat)}(h:ws≠[])(hw:∀w∈ws,c∉w):Txt.split (Txt.join ⟨#[c]⟩ (ws.map gf)) ⟨#[c]⟩=ws.map gf:=by
 rw[Bd,Vc _ hc,cQ,Iz h hw]
def ux(m:Nat):List Nat:=(Nat.toDigits 10 m).map Char.toNat
def aK(n:Int):List Nat:=if n<0 then 45::ux n.natAbs else ux n.natAbs
theorem Vx(n:Int):(Str.ofString (toString n)).cps.toList=aK n:=by
 rw[PyProof.Rows.signs_ofString]
 cases n with
 | ofNat m=>
  show(Nat.repr m).toList.map Char.toNat=_
  rw[Nat.toList_repr]
  have:¬(Int.ofNat m<0):=Int.not_lt.mpr (Int.natCast_nonneg m)
  simp only[aK,this,if_false]
  rfl
 | negSucc m=>
  show(("-" : String)++Nat.repr (m+1)).toList.map Char.toNat=_
  rw[String.toList_append,List.map_append,Nat.toList_repr]
  have:Int.negSucc m<0:=Int.negSucc_lt_zero m
  simp only[aK,this,if_true]
  rfl
theorem aap(n:Int):(Str.ofString (toString n))=gf (aK n):=sO (by rw[Vx,cQ])
theorem Iw{m:Nat}(h:10≤m):ux m=ux (m / 10)++ux (m % 10):=by
 have hm:m % 10<10:=Nat.mod_lt m (by decide)
 have t:Nat.toDigits 10 (m / 10)++Nat.toDigits 10 (m % 10)=Nat.toDigits 10 (10*(m / 10)+m % 10):=Nat.toDigits_append_toDigits (by decide) (by omega) hm
 rw[Nat.div_add_mod]at t
 unfold ux
 rw[←t,List.map_append]
theorem uv{m:Nat}(h:m<10):ux m=[48+m]:=by
 unfold ux
 rw[Nat.toDigits_of_lt_base h]
 have:∀d,d<10→(Nat.digitChar d).toNat=48+d:=by decide
 simp[this m h]
theorem uw(m:Nat):∀c∈ux m,48≤c∧c≤57:=by
 induction m using Nat.strongRecOn with
 | _ m ih=>
  by_cases h:m<10
  ·rw[uv h];intro c hc;simp at hc;omega
  ·rw[Iw (by omega)]
   intro c hc
   rcases List.mem_append.mp hc with q | q
   ·exact ih (m / 10) (by omega) c q
   ·rw[uv (Nat.mod_lt m (by decide))]at q
    simp at q
    have:=Nat.mod_lt m (show 10 > 0 by decide)
    omega
theorem P0{k:Nat}:∀{m:Nat},m<10 ^ (k+1)→(ux m).length≤k+1:=by
 induction k with
 | zero=>intro m h;rw[uv (by omega)];simp
 | succ k ih=>
  intro m h
  by_cases h1:m<10
  ·rw[uv h1];simp
  ·rw[Iw (by omega),List.length_append,uv (Nat.mod_lt m (by decide))]
   have:m / 10<10 ^ (k+1):=by
    rw[Nat.div_lt_iff_lt_mul (by decide)]
    rw[Nat.pow_succ]at h
    exact h
   have:=ih this
   simp
   omega
theorem Eb(m:Nat):∃a r,ux m=a::r∧(a=48→m=0):=by
 induction m using Nat.strongRecOn with
 | _ m ih=>
  by_cases h:m<10
  ·exact⟨48+m,[],uv h,by omega⟩
  ·obtain⟨a,r,e,q⟩:=ih (m / 10) (by omega)
   refine⟨a,r++ux (m % 10),by rw[Iw (by omega),e];rfl,fun z=> ?_⟩
   have:=q z
   omega
theorem Mq(m:Nat):ux m≠[]:=by
 obtain⟨a,r,e,_⟩:=Eb m
 rw[e];simp
theorem PX(m:Nat):PySem.NumText.digitsVal (ux m)=m:=PySem.W.KIN.val_back m
theorem adW:ux 0=[48]:=uv (by decide)
theorem HB(n:Int):∀c∈aK n,c=45∨(48≤c∧c≤57):=by
 unfold aK
 split
 ·intro c hc
  rcases List.mem_cons.mp hc with q | q
  ·exact .inl q
  ·exact .inr (uw _ c q)
 ·intro c hc;exact .inr (uw _ c hc)
theorem HF{n:Int}(h:n.natAbs<10 ^ 41):(aK n).length≤42:=by
 have:=P0 (k:=40) h
 unfold aK
 split
 ·simp;omega
 ·omega
theorem aaq{n:Int}(h:n.natAbs<10 ^ 41):PySem.intText? (gf (aK n))=some n:=by
 have hl:=HF h
 by_cases hn:n<0
 ·have e:(gf (aK n)).cps.toList=45::ux n.natAbs:=by rw[cQ];simp only[aK,hn,if_true]
  rw[PySem.intText_neg e (fun c hc=>uw _ c hc) (Mq _) (by rw[jy,cQ];omega),PX]
  congr 1
  omega
 ·have e:(gf (aK n)).cps.toList=ux n.natAbs:=by rw[cQ];simp only[aK,hn,if_false]
  rw[PySem.intText_digits (x:=gf (aK n)) (by rw[e];exact fun c hc=>uw _ c hc) (by rw[e];exact Mq _) (by rw[jy,cQ];omega),e,PX]
  congr 1
  omega
theorem Ve{n:Int}(h:n.natAbs<10 ^ 41):n.natAbs.log2<1920:=by
 by_cases h0:n.natAbs=0
 ·rw[h0];decide
 ·rw[Nat.log2_lt h0]
  exact Nat.lt_of_lt_of_le h (by decide +kernel)
theorem agY(n:Int):32∉aK n∧10∉aK n:=⟨fun h=>by have:=HB n _ h;omega,fun h=>by have:=HB n _ h;omega⟩
def ud(l:List Nat):List Nat:=if l.head? = some 45 then l.tail else l
def Mf(l:List Nat):Bool:=(decide (1≤(ud l).length)&&(decide ((ud l).length≤100)&&(ud l).all fun c=>decide (48≤c∧c≤57)))&&(decide (l=[48])|| !decide ((ud l).head? = some 48))
theorem VR{n:Int}(h:n.natAbs<10 ^ 41):Mf (aK n)=true:=by
 have hf:ud (aK n)=ux n.natAbs:=by
  obtain⟨a,r,e,_⟩:=Eb n.natAbs
  have ha:=uw n.natAbs a (by rw[e];simp)
  unfold ud aK
  by_cases hn:n<0
  ·simp[hn]
  ·have:¬(a=45):=by omega
   simp[hn,e,this]
 have hl:=P0 (k:=40) h
 have hd:1≤(ux n.natAbs).length:=by
  cases e:ux n.natAbs with
  | nil=>exact absurd e (Mq _)
  | cons _ _=>simp
 obtain⟨a,r,e,q⟩:=Eb n.natAbs
 unfold Mf
 rw[hf]
 have hall:(ux n.natAbs).all (fun c=>decide (48≤c∧c≤57))=true:=List.all_eq_true.mpr fun c hc=>decide_eq_true (uw _ c hc)
 have h3:decide (aK n=[48])=true∨(!decide ((ux n.natAbs).head? = some 48))=true:=by
  by_cases ha:a=48
  ·left
   have z:=q ha
   have:¬(n<0):=by omega
   apply decide_eq_true
   simp only[aK,this,if_false,z,adW]
  ·right
   rw[e];simp[ha]
 simp only[hall,decide_eq_true hd,decide_eq_true (show(ux n.natAbs).length≤100 by omega),Bool.true_and,Bool.or_eq_true]
 exact h3
def ni(l:List Nat):Bool:=decide (1≤l.length)&&(decide (l.length≤8)&&l.all fun c=>decide (97≤c∧c≤122))
def Gr(M M':Mem):Prop:=∀(i:Nat) (o:MO),M[i]? = some o→M'[i]? = some o
theorem Gr.refl{M:Mem}:Gr M M:=fun _ _ h=>h
theorem Gr.trans{M M1 M2:Mem}(a:Gr M M1)(b:Gr M1 M2):Gr M M2:=fun i o h=>b i o (a i o h)
theorem Gr.app{M:Mem}{xs:List MO}:Gr M (M++xs):=fun i o h=>by
 rw[List.getElem?_append_left (List.getElem?_eq_some_iff.mp h).1];exact h
theorem eE{M:Mem}{i:Nat}{o:MO}(h:M[i]? = some o):i<M.length:=(List.getElem?_eq_some_iff.mp h).1
theorem aN{M:Mem}{o:MO}:(M++[o])[M.length]? = some o:=by simp
theorem get_set{M:Mem}{n:Nat}{o x:MO}(h:M[n]? = some o):(M.set n x)[n]? = some x:=List.getElem?_set_self (eE h)
theorem nu{M:Mem}{n i:Nat}{x:MO}(h:n≠i):(M.set n x)[i]? = M[i]? := List.getElem?_set_ne h
theorem Gr.le{M M':Mem}(h:Gr M M'):M.length≤M'.length:=by
 cases z:M.length with
 | zero=>omega
 | succ n=>
  have q:M[n]? = some M[n]:=List.getElem?_eq_getElem (by omega)
  have:=eE (h _ _ q)
  omega
def Ch(p:Nat→Prop)(M M':Mem):Prop:=M.length≤M'.length∧∀(i:Nat) (o:MO),¬p i→M[i]? = some o→M'[i]? = some o
theorem Ch.refl{p:Nat→Prop}{M:Mem}:Ch p M M:=⟨Nat.le_refl _,fun _ _ _ h=>h⟩
theorem Ch.trans{p:Nat→Prop}{M M1 M2:Mem}(a:Ch p M M1)(b:Ch p M1 M2):Ch p M M2:=⟨Nat.le_trans a.1 b.1,fun i o n h=>b.2 i o n (a.2 i o n h)⟩
theorem Ch.mono{p q:Nat→Prop}{M M1:Mem}(a:Ch p M M1)(h:∀i,i<M.length→p i→q i):Ch q M M1:=⟨a.1,fun i o n e=>a.2 i o (fun z=>n (h i (eE e) z)) e⟩
theorem Gr.ch{p:Nat→Prop}{M M':Mem}(h:Gr M M'):Ch p M M':=⟨h.le,fun i o _ e=>h i o e⟩
theorem Ch.set{p:Nat→Prop}{M:Mem}{n:Nat}{o:MO}(h:p n):Ch p M (M.set n o):=⟨by simp,fun i x z e=>by
 rw[nu (fun q=>z (by rw[←q];exact h))];exact e⟩
def af3(b bt:Int)(br:D)(l:Nat):MO:= .ins 4 [("base",.int b),("base_term",.int bt),("base_roll",br),("kept",.ref l)]
structure gR(M:Mem)(r:Nat)(b bt:Int)(br:D)(l:Nat)(es:List D):Prop where
 o:M[r]? = some (af3 b bt br l)
 k:M[l]? = some (.lst es)
section
variable{M M':Mem}{r l:Nat}{b bt:Int}{br:D}{es:List D}
theorem gR.gr(R:gR M r b bt br l es)(g:Gr M M'):gR M' r b bt br l es:=⟨g _ _ R.o,g _ _ R.k⟩
theorem gR.ch{p:Nat→Prop}(R:gR M r b bt br l es)(g:Ch p M M')(h1:¬p r)(h2:¬p l):gR M' r b bt br l es:=⟨g.2 _ _ h1 R.o,g.2 _ _ h2 R.k⟩
theorem gR.fb(R:gR M r b bt br l es):z6 [4] "base" (.ref r) M= .ok (.int b) M:=qe R.o (by simp) rfl
theorem gR.ft(R:gR M r b bt br l es):z6 [4] "base_term" (.ref r) M= .ok (.int bt) M:=qe R.o (by simp) rfl
theorem gR.fr(R:gR M r b bt br l es):z6 [4] "base_roll" (.ref r) M= .ok br M:=qe R.o (by simp) rfl
theorem gR.fk(R:gR M r b bt br l es):z6 [4,5] "kept" (.ref r) M= .ok (.ref l) M:=qe R.o (by simp) rfl
theorem gR.me(R:gR M r b bt br l es){m:Str}(h:List.lookup m [(("base" : Str),D.int b),("base_term",.int bt),("base_roll",br),("kept",.ref l)]=none):Ah 4 m (.ref r) M=true:=Pr R.o h
theorem Ir(R:gR M r b bt br l es):lV [.ref r] M= .ok (.ref M.length) (M++[.lst es]):=by
 simp[lV,gk,R.fk,Dv R.k]
theorem gR.ne(R:gR M r b bt br l es):l≠r:=fun e=>by subst e;have:=R.k;rw[R.o]at this;cases this
end
theorem aaL{M:Mem}{n h:Nat}{b bt:Int}{br:D}{es:List D}(h0:M[n]? = some (.ins 4 []))(hh:M[h]? = some (.lst es)):
  ∃M',m_ [.ref n,.int b,.int bt,br,.ref h] M= .ok .non M'∧gR M' n b bt br M.length es∧Ch (· = n) M M'∧M'.length=M.length+1:=by
 have ne:n≠h:=fun e=>by subst e;rw[h0]at hh;cases hh
 have e1:qm [4] "base" (.int b) (.ref n) M=some (M.set n (.ins 4 [("base",.int b)])):=oG h0 (by simp) (by simp)
 have e2:qm [4] "base_term" (.int bt) (.ref n) (M.set n (.ins 4 [("base",.int b)]))=some (M.set n (.ins 4 [("base",.int b),("base_term",.int bt)])):=by
  rw[oG (get_set h0) (by simp) (by simp),List.set_set];rfl
 have e3:qm [4] "base_roll" br (.ref n) (M.set n (.ins 4 [("base",.int b),("base_term",.int bt)]))=some (M.set n (.ins 4 [("base",.int b),("base_term",.int bt),("base_roll",br)])):=by
  rw[oG (get_set h0) (by simp) (by simp),List.set_set];rfl
 have e4:Ac [.ref h] (M.set n (.ins 4 [("base",.int b),("base_term",.int bt),("base_roll",br)]))= .ok (.ref M.length) (M.set n (.ins 4 [("base",.int b),("base_term",.int bt),("base_roll",br)])++[.lst es]):=by
  rw[Dv (ds:=es) (by rw[nu ne];exact hh),List.length_set]
 have hn:=eE h0
 have g:(M.set n (.ins 4 [("base",.int b),("base_term",.int bt),("base_roll",br)])++[MO.lst es])[n]? = some (.ins 4 [("base",.int b),("base_term",.int bt),("base_roll",br)]):=by
  rw[List.getElem?_append_left (by simpa using hn)];exact get_set h0
 have e5:qm [4,5] "kept" (.ref M.length) (.ref n) (M.set n (.ins 4 [("base",.int b),("base_term",.int bt),("base_roll",br)])++[MO.lst es])=some ((M.set n (.ins 4 [("base",.int b),("base_term",.int bt),("base_roll",br)])++[MO.lst es]).set n (af3 b bt br M.length)):=by
  rw[oG g (by simp) (by simp)];rfl
 refine⟨_,by simp only[m_,jE];simp[e1,e2,e3,e4,e5],⟨get_set g,?_⟩,⟨by simp,fun i o hi h=> ?_⟩,by simp⟩
 ·rw[nu (by omega),List.getElem?_append_right (by simp)]
  simp
 ·rw[nu (Ne.symm hi),List.getElem?_append_left (by simpa using eE h),nu (Ne.symm hi)]
  exact h
theorem Ly{M:Mem}{h:Nat}{b bt:Int}{br:D}{es:List D}(hh:M[h]? = some (.lst es)):
  ∃M',(m_ [.ref M.length,.int b,.int bt,br,.ref h] (M++[.ins 4 []]))= .ok .non M'∧gR M' M.length b bt br (M.length+1) es∧Gr M M':=by
 obtain⟨M',e,R,k,z⟩:=aaL (M:=M++[.ins 4 []]) (n:=M.length) (h:=h) (b:=b) (bt:=bt) (br:=br) (es:=es) aN (by rw[List.getElem?_append_left (eE hh)];exact hh)
 refine⟨M',e,?_,fun i o hi=>k.2 i o (Nat.ne_of_lt (eE hi)) (Gr.app _ _ hi)⟩
 simpa using R
theorem Zo{M:Mem}{r l:Nat}{b bt:Int}{br:D}{es:List D}(R:gR M r b bt br l es):∃M',xq [.ref r] M= .ok (.ref M.length) M'∧gR M' M.length b bt br (M.length+1) es∧Gr M M':=by
 obtain⟨M',e,R',g⟩:=Ly (M:=M) (b:=b) (bt:=bt) (br:=br) R.k
 refine⟨M',?_,R',g⟩
 simp only[xq,nH]
 simp[R.fb,R.ft,R.fr,R.fk,e]
structure yp(M:Mem)(k r l:Nat)(tm:Int)(vt:D)(b bt:Int)(br:D)(kept:D)(es:List D):Prop where
 o:M[k]? = some (.ins 5 [("term",.int tm),("vote",vt),("row",.ref r),("kept",kept)])
 row:gR M r b bt br l es
section
variable{M M':Mem}{k r l:Nat}{tm b bt:Int}{vt br kept:D}{es:List D}
theorem yp.gr(B:yp M k r l tm vt b bt br kept es)(g:Gr M M'):yp M' k r l tm vt b bt br kept es:=⟨g _ _ B.o,B.row.gr g⟩
theorem yp.ch{p:Nat→Prop}(B:yp M k r l tm vt b bt br kept es)(g:Ch p M M')(h0:¬p k)(h1:¬p r)(h2:¬p l):yp M' k r l tm vt b bt br kept es:=⟨g.2 _ _ h0 B.o,B.row.ch g h1 h2⟩
theorem yp.ft(B:yp M k r l tm vt b bt br kept es):z6 [5] "term" (.ref k) M= .ok (.int tm) M:=qe B.o (by simp) rfl
theorem yp.fv(B:yp M k r l tm vt b bt br kept es):z6 [5] "vote" (.ref k) M= .ok vt M:=qe B.o (by simp) rfl
theorem yp.fr(B:yp M k r l tm vt b bt br kept es):z6 [5] "row" (.ref k) M= .ok (.ref r) M:=qe B.o (by simp) rfl
theorem yp.fk(B:yp M k r l tm vt b bt br kept es):z6 [4,5] "kept" (.ref k) M= .ok kept M:=qe B.o (by simp) rfl
end
theorem Uw{M:Mem}{r l:Nat}{tm b bt:Int}{vt br kept:D}{es:List D}(R:gR M r b bt br l es):
  ∃M',qz [.ref M.length,.int tm,vt,.ref r,kept] (M++[.ins 5 []])= .ok .non M'∧yp M' M.length (M.length+1) (M.length+2) tm vt b bt br kept es∧Gr M M':=by
 have h0:(M++[MO.ins 5 []])[M.length]? = some (.ins 5 []):=aN
 have e1:qm [5] "term" (.int tm) (.ref M.length) (M++[MO.ins 5 []])=some (M++[.ins 5 [("term",.int tm)]]):=by
  rw[oG h0 (by simp) (by simp)];simp[putD]
 have e2:qm [5] "vote" vt (.ref M.length) (M++[MO.ins 5 [("term",.int tm)]])=some (M++[.ins 5 [("term",.int tm),("vote",vt)]]):=by
  rw[oG aN (by simp) (by simp)];simp[putD];decide
 have R1:gR (M++[MO.ins 5 [("term",.int tm),("vote",vt)]]) r b bt br l es:=R.gr Gr.app
 obtain⟨M1,e3,R2,g⟩:=Zo R1
 have eL:(M++[MO.ins 5 [("term",.int tm),("vote",vt)]]).length=M.length+1:=by simp
 rw[eL]at e3 R2
 have q1:M1[M.length]? = some (.ins 5 [("term",.int tm),("vote",vt)]):=g _ _ aN
 have e4:qm [5] "row" (.ref (M.length+1)) (.ref M.length) M1=some (M1.set M.length (.ins 5 [("term",.int tm),("vote",vt),("row",.ref (M.length+1))])):=by
  rw[oG q1 (by simp) (by simp)];rfl
 have e5:qm [4,5] "kept" kept (.ref M.length) (M1.set M.length (.ins 5 [("term",.int tm),("vote",vt),("row",.ref (M.length+1))]))=some (M1.set M.length (.ins 5 [("term",.int tm),("vote",vt),("row",.ref (M.length+1)),("kept",kept)])):=by
  rw[oG (get_set q1) (by simp) (by simp),List.set_set];rfl
 have c:Ch (· = M.length) M1 (M1.set M.length (.ins 5 [("term",.int tm),("vote",vt),("row",.ref (M.length+1)),("kept",kept)])):=Ch.set rfl
 refine⟨_,?_,⟨get_set q1,R2.ch c (by omega) (by omega)⟩,fun i o h=>c.2 i o (Nat.ne_of_lt (eE h)) (g _ _ (Gr.app _ _ h))⟩
 simp only[qz,jk]
 simp[e1,e2,R1.me (m:= "twin") rfl,e3,e4,e5]
theorem TX:("\n" : Str)=⟨#[10]⟩:=by decide
theorem YW:(" " : Str)=⟨#[32]⟩:=by decide
structure bV(M:Mem)(r l:Nat)(rows:List Str)(k:Int):Prop where
 o:M[r]? = some (.ins 3 [("rows",.ref l),("here",.int k)])
 k:M[l]? = some (.lst (rows.map D.str))
section
variable{M M':Mem}{r l:Nat}{rows:List Str}{k:Int}
theorem bV.gr(R:bV M r l rows k)(g:Gr M M'):bV M' r l rows k:=⟨g _ _ R.o,g _ _ R.k⟩
theorem bV.ch{p:Nat→Prop}(R:bV M r l rows k)(g:Ch p M M')(h1:¬p r)(h2:¬p l):bV M' r l rows k:=⟨g.2 _ _ h1 R.o,g.2 _ _ h2 R.k⟩
theorem bV.fr(R:bV M r l rows k):z6 [3] "rows" (.ref r) M= .ok (.ref l) M:=qe R.o (by simp) rfl
theorem bV.fh(R:bV M r l rows k):z6 [3] "here" (.ref r) M= .ok (.int k) M:=qe R.o (by simp) rfl
theorem bV.me(R:bV M r l rows k){m:Str}(h:List.lookup m [(("rows" : Str),D.ref l),("here",.int k)]=none):Ah 3 m (.ref r) M=true:=Pr R.o h
theorem bV.ne(R:bV M r l rows k):l≠r:=fun e=>by subst e;have:=R.k;rw[R.o]at this;cases this
end
theorem ZR{M:Mem}{t:Str}(h:t.length+2≤16777216):
  ∃M',pX [.ref M.length,.str t] (M++[.ins 3 []])= .ok .non M'∧bV M' M.length (M.length+1) (Txt.split t "\n") 1∧Gr M M'∧M'.length=M.length+2:=by
 have e0:yF (.str t) [.str "\n"] (M++[MO.ins 3 []])= .ok (.ref (M.length+1)) (M++[MO.ins 3 [],.lst ((Txt.split t "\n").map D.str)]):=by
  rw[JR h (by decide)];simp
 have h0:(M++[MO.ins 3 [],.lst ((Txt.split t "\n").map D.str)])[M.length]? = some (.ins 3 []):=by simp
 have e1:qm [3] "rows" (.ref (M.length+1)) (.ref M.length) (M++[MO.ins 3 [],.lst ((Txt.split t "\n").map D.str)])=some (M++[MO.ins 3 [("rows",.ref (M.length+1))],.lst ((Txt.split t "\n").map D.str)]):=by
  rw[oG h0 (by simp) (by simp)];simp[putD]
 have h1:(M++[MO.ins 3 [("rows",.ref (M.length+1))],.lst ((Txt.split t "\n").map D.str)])[M.length]? = some (.ins 3 [("rows",.ref (M.length+1))]):=by simp
 have e2:qm [3] "here" (.int 1) (.ref M.length) (M++[MO.ins 3 [("rows",.ref (M.length+1))],.lst ((Txt.split t "\n").map D.str)])=some (M++[MO.ins 3 [("rows",.ref (M.length+1)),("here",.int 1)],.lst ((Txt.split t "\n").map D.str)]):=by
  rw[oG h1 (by simp) (by simp)];simp[putD];decide
 refine⟨_,?_,⟨?_,?_⟩,Gr.app (xs:=[MO.ins 3 [("rows",.ref (M.length+1)),("here",.int 1)],.lst ((Txt.split t "\n").map D.str)]),by simp⟩
 ·simp only[pX,iZ]
  simp[e0,e1,e2,FP]
 ·simp
 ·simp
def ts(ws:List (List Nat)):List D:=ws.map fun w=>D.str (gf w)
def b8(ws:List (List Nat)):Str:=Txt.join " " (ws.map gf)
def Wd(w:List Nat):Prop:=32∉w∧10∉w∧w.length≤50
def Br(ws:List (List Nat)):Prop:=ws≠[]∧ws.length≤20∧∀w∈ws,Wd w
theorem J1{c:Nat}:∀(ws:List (List Nat)),(∀w∈ws,w.length≤50)→(lX c ws).length≤ws.length*51
 | [],_=>by simp[lX]
 | [w],h=>by have:=h w (by simp);simp[lX];omega
 | w::v::r,h=>by
  have h1:=h w (by simp)
  have h2:=J1 (c:=c) (v::r) fun x hx=>h x (by simp at hx ⊢;exact .inr hx)
  simp only[lX,List.length_append,List.length_cons]at h2 ⊢
  omega
theorem Ga(ws:List (List Nat)):b8 ws=gf (lX 32 ws):=by unfold b8;rw[YW,Bd]
theorem Ce{ws:List (List Nat)}(h:Br ws):(b8 ws).length≤1020:=by
 rw[Ga,jy,cQ]
 have:=J1 (c:=32) ws fun w hw=>(h.2.2 w hw).2.2
 have:=h.2.1
 omega
theorem Q6{ws:List (List Nat)}(h:Br ws):Txt.split (b8 ws) " " = ws.map gf:=by
 unfold b8
 rw[YW]
 exact GZ (by decide) h.1 fun w hw=>(h.2.2 w hw).1
theorem abk(ws:List (List Nat)):(ws.map gf).map D.str=ts ws:=by simp[ts]
section
variable{M:Mem}{r l:Nat}{rows:List Str}{k:Int}{i:Nat}{ws:List (List Nat)}
theorem Gx(R:bV M r l rows k)(hk:k=i+1)(h:rows[i]? = some (b8 ws))(hw:Br ws):gG [.ref r] M= .ok (.ref M.length) (M++[.lst (ts ws)]):=by
 have hi:i<rows.length:=(List.getElem?_eq_some_iff.mp h).1
 have e1:aR (.ref l) (.int (k - 1)) M= .ok (.str (b8 ws)) M:=jU R.k (by omega) (by rw[show(k - 1).toNat=i by omega,List.getElem?_map,h];rfl)
 have e2:yF (.str (b8 ws)) [.str " "] M= .ok (.ref M.length) (M++[.lst (ts ws)]):=by
  rw[JR (by have:=Ce hw;omega) (by decide),Q6 hw,abk]
 have h1:¬((rows.length:Int)<k):=by omega
 simp only[gG,dR,v7]
 simp[R.fr,R.fh,je R.k,h1,e1,e2,FP]
theorem Wh(R:bV M r l rows k)(hk:k=i+1){w:List Nat}(h:rows[i]? = some (b8 (w::ws)))(hw:Br (w::ws))(b:Str):fM [.ref r,.str b] M= .ok (.bl (decide (gf w=b))) (M++[.lst (ts (w::ws))]):=by
 have e1:=Gx R hk h hw
 have e2:aR (.ref M.length) (.int 0) (M++[.lst (ts (w::ws))])= .ok (.str (gf w)) (M++[.lst (ts (w::ws))]):=jU aN (by omega) rfl
 simp only[fM,cZ]
 simp[R.me (m:= "words") rfl,e1,e2]
theorem Ni(R:bV M r l rows k)(hk:k=i+1){w:List Nat}(h:rows[i]? = some (b8 (w::ws)))(hw:Br (w::ws)){b:Str}(hb:gf w=b){n:Int}(hn:n=(ws.length:Int)+1):
  cj [.ref r,.str b,.int n] M= .ok (.ref M.length) (M++[.lst (ts (w::ws))]):=by
 have e1:=Gx R hk h hw
 have e2:aR (.ref M.length) (.int 0) (M++[.lst (ts (w::ws))])= .ok (.str (gf w)) (M++[.lst (ts (w::ws))]):=jU aN (by omega) rfl
 have e3:o9 [.ref M.length] (M++[.lst (ts (w::ws))])= .ok (.int n) (M++[.lst (ts (w::ws))]):=by
  rw[je aN];simp[ts,hn]
 simp only[cj,bC,rJ]
 simp[R.me (m:= "words") rfl,e1,e2,e3,hb]
theorem yU(R:bV M r l rows k):∃M',fj [.ref r] M= .ok .non M'∧bV M' r l rows (k+1)∧Ch (· = r) M M'∧M'.length=M.length:=by
 have e1:qm [3] "here" (.int (k+1)) (.ref r) M=some (M.set r (.ins 3 [("rows",.ref l),("here",.int (k+1))])):=by
  rw[oG R.o (by simp) (by simp)];rfl
 refine⟨_,?_,⟨get_set R.o,?_⟩,Ch.set rfl,by simp⟩
 ·simp only[fj,cG]
  simp[R.fh,e1]
 ·rw[nu (Ne.symm R.ne)];exact R.k
end
theorem adE{c:Nat}{sg:Str}{M:Mem}:Vh (.str ⟨#[c]⟩) (.str sg) M= .ok (.bl (decide (c∈sg.cps.toList))) M:=by
 show Out.ok (D.bl (!(Builtin.Str.occurrences sg ⟨#[c]⟩ 0 sg.length 1).isEmpty)) M=_
 rw[StrLaws.found_one]
theorem aax{z:Str}{M:Mem}(h:z.length≤16777216):o9 [.str z] M= .ok (.int z.length) M:=by
 unfold o9
 refine(aah ?_).trans ?_
 ·rfl
 ·simp only[Tf]
  rw[if_pos (by rw[m8];exact h)]
def Lw(s:Str):List Nat:=s.cps.toList
@[simp] theorem Jc(l:List Nat):Lw (gf l)=l:=cQ l
theorem Y7{a b:Str}(h:Lw a=Lw b):a=b:=sO h
theorem zB(a:Str):a.length=(Lw a).length:=jy a
theorem aaM{c:Nat}{sg:Str}{M:Mem}:Vh (.str ⟨#[c]⟩) (.str sg) M= .ok (.bl (decide (c∈Lw sg))) M:=adE
theorem ah7{w:Str}{M:Mem}(h:w.length≤16777216):itS (.str w) M= .ok ⟨none,(Lw w).map fun c=>D.str ⟨#[c]⟩⟩ M:=by
 simp only[itS];rw[if_pos (by rw[m8];exact h)];rfl
def oneOf(z:Str):Nat:=(z.cps.toList).headD 0
@[simp] theorem agU(c:Nat):oneOf ⟨#[c]⟩=c:=rfl
theorem R8(f:Nat→Bool)(l:List Nat):(l.map f).all id=l.all f:=by simp[List.all_map]
theorem Pn{M:Mem}{w sg:Str}{n:Int}(h:w.length≤16777216):∃M',xm [.str w,.str sg,.int n] M= .ok (.bl (decide (1≤w.length)&&(decide ((w.length:Int)≤n)&&(Lw w).all fun c=>decide (c∈(Lw sg))))) M'∧Gr M M':=by
 have e1:=aax (M:=M) h
 by_cases h1:1≤w.length
 ·by_cases h2:(w.length:Int)≤n
  ·obtain⟨M1,v_⟩:∃M1,M1=M++[MO.lst (((Lw w).map fun c=>decide (c∈(Lw sg))).map D.bl)]:=⟨_,rfl⟩
   refine⟨M1,?_,by rw[v_];exact Gr.app⟩
   have e2:=ah7 (M:=M) h
   have e3:uI none sE (aD Vh (aA 0) (aA 1)) [some (.str sg)] ((Lw w).map fun c=>D.str ⟨#[c]⟩) [] M= .ok (.ref M.length) (M++[.lst (((Lw w).map fun c=>decide (c∈(Lw sg))).map D.bl)]):=by
    rw[Qf (src:=none) (fun d=>match d with | .str z=> .bl (decide (oneOf z∈(Lw sg))) | _=> .non) trivial]
    ·simp[List.map_map]
     exact fun a _=>decide_eq_decide.mpr Iff.rfl
    ·intro d hd
     obtain⟨c,_,rfl⟩:=List.mem_map.mp hd
     simp[aaM]
     exact decide_eq_decide.mpr Iff.rfl
   have e4:=Xj (M:=M++[.lst (((Lw w).map fun c=>decide (c∈(Lw sg))).map D.bl)]) (n:=M.length) aN
   rw[R8]at e4
   rw[←v_]at e3 e4
   simp only[xm,qg]
   have h1':(1:Int)≤w.length:=by omega
   have ec:o6 [1] [some (D.str w),some (.str sg),some (.int n)]=[some (.str sg)]:=rfl
   simp[e1,h1,h1',h2,e2,ec,e3,e4]
  ·refine⟨M,?_,Gr.refl⟩
   have h1':(1:Int)≤w.length:=by omega
   simp only[xm,qg]
   simp[e1,h1,h1',h2]
 ·refine⟨M,?_,Gr.refl⟩
  have h1':¬((1:Int)≤w.length):=by omega
  simp only[xm,qg]
  simp[e1,h1,h1']
theorem Yx:(Lw "0123456789")=[48,49,50,51,52,53,54,55,56,57]:=by decide
theorem O8:(Lw "abcdefghijklmnopqrstuvwxyz")=[97,98,99,100,101,102,103,104,105,106,107,108,109,110,111,112,113,114,115,116,117,118,119,120,121,122]:=by decide
theorem aaT(c:Nat):decide (c∈(Lw "0123456789"))=decide (48≤c∧c≤57):=by
 rw[Yx]
 refine decide_eq_decide.mpr ⟨fun h=> ?_,fun h=> ?_⟩
 ·simp at h;omega
 ·simp;omega
theorem T8(c:Nat):decide (c∈(Lw "abcdefghijklmnopqrstuvwxyz"))=decide (97≤c∧c≤122):=by
 rw[O8]
 refine decide_eq_decide.mpr ⟨fun h=> ?_,fun h=> ?_⟩
 ·simp at h;omega
 ·simp;omega
theorem Aq(w:Str)(c:Nat):Txt.startswith w ⟨#[c]⟩=decide ((Lw w).head? = some c):=by
 unfold Txt.startswith
 have h:(0+(⟨#[c]⟩:Str).length≤w.length∧Builtin.Str.subAt w ⟨#[c]⟩ 0=true)↔(Lw w)[0]? = some c:=StrLaws.subAt_one w c 0
 rw[←List.head?_eq_getElem?]at h
 by_cases q:(Lw w).head? = some c
 ·have:=h.mpr q
  rw[decide_eq_true q,this.2,decide_eq_true this.1];rfl
 ·rw[decide_eq_false q]
  by_cases q1:0+(⟨#[c]⟩:Str).length≤w.length
  ·have:Builtin.Str.subAt w ⟨#[c]⟩ 0=false:=by
    cases z:Builtin.Str.subAt w ⟨#[c]⟩ 0 with
    | false=>rfl
    | true=>exact absurd (h.mp ⟨q1,z⟩) q
   rw[this,Bool.and_false]
  ·rw[decide_eq_false q1,Bool.false_and]
theorem HN:("-" : Str)=⟨#[45]⟩:=by decide
theorem Vy:("0" : Str)=⟨#[48]⟩:=by decide
theorem ab9(w:Str)(h:1≤w.length):Txt.slice w (some 1) none=gf (Lw w).tail:=by
 have hl:=zB w
 have e:=StrLaws.sliceText_from (x:=w) (i:=1) ⟨by decide,by show(1:Int)≤(Lw w).length;omega⟩
 refine Eq.trans e ?_
 apply Y7
 rw[Jc]
 show((((Lw w).drop (1:Int).toNat).take _).toArray).toList=_
 rw[List.toList_toArray,←List.drop_one]
 refine List.take_of_length_le ?_
 simp only[List.length_drop]
 show(Lw w).length - 1≤(((Lw w).length:Int) - 1).toNat
 omega
theorem Ma{M:Mem}{w:Str}(h:w.length≤16777216):∃M',u0 [.str w] M= .ok (.bl (Mf (Lw w))) M'∧Gr M M':=by
 have hf:∃f:Str,(Lw f)=ud (Lw w)∧f.length≤16777216∧p_ [some (.str w),some (.str w)] M= .next [some (.str w),some (.str f)] M:=by
  by_cases q:(Lw w).head? = some 45
  ·have hl:1≤w.length:=by
    rw[zB]
    cases z:(Lw w)with
    | nil=>rw[z]at q;cases q
    | cons _ _=>simp
   have hs:Txt.startswith w "-" = true:=by rw[HN,Aq,decide_eq_true q]
   refine⟨gf (Lw w).tail,by rw[Jc];simp[ud,q],?_,?_⟩
   ·rw[zB,Jc,List.length_tail,←zB];omega
   ·simp only[p_]
    have e:N6 (.str w) (some 1) none M= .ok (.str (gf (Lw w).tail)) M:=by
     rw[←ab9 w hl]
     simp only[N6,Ar,m8,h,if_true]
    simp[FP,hs,e]
  ·have hs:Txt.startswith w "-" = false:=by rw[HN,Aq,decide_eq_false q]
   refine⟨w,by simp[ud,q],h,?_⟩
   simp only[p_]
   simp[FP,hs]
 obtain⟨f,hfe,hfl,ef⟩:=hf
 obtain⟨M1,e1,g1⟩:=Pn (M:=M) (w:=f) (sg:= "0123456789") (n:=100) hfl
 have ea:((Lw f).all fun c=>decide (c∈(Lw "0123456789")))=(ud (Lw w)).all fun c=>decide (48≤c∧c≤57):=by
  rw[hfe]
  congr 1
  funext c
  exact aaT c
 have el:f.length=(ud (Lw w)).length:=by rw[zB,hfe]
 rw[ea,el]at e1
 have hs:Txt.startswith f "0" = decide ((ud (Lw w)).head? = some 48):=by rw[Vy,Aq,hfe]
 have hw:(w=("0" : Str))↔(Lw w)=[48]:=⟨fun z=>by rw[z];decide,fun z=>Y7 (by rw[z];decide)⟩
 refine⟨M1,?_,g1⟩
 simp only[u0,lz,Al]
 have hi:(((ud (Lw w)).length:Int)≤100)↔(ud (Lw w)).length≤100:=by omega
 simp only[Mf]
 by_cases q:(decide (1≤(ud (Lw w)).length)&&(decide ((ud (Lw w)).length≤100)&&(ud (Lw w)).all fun c=>decide (48≤c∧c≤57)))=true
 ·have q':(decide (1≤(ud (Lw w)).length)&&(decide (((ud (Lw w)).length:Int)≤100)&&(ud (Lw w)).all fun c=>decide (48≤c∧c≤57)))=true:=by
   rw[decide_eq_decide.mpr hi];exact q
  rw[q']at e1
  rw[q]
  simp[ef,e1,hs,hw,FP]
  by_cases z:(Lw w)=[48]<;>simp[z]
 ·have q2:=Bool.eq_false_iff.mpr q
  have q':(decide (1≤(ud (Lw w)).length)&&(decide (((ud (Lw w)).length:Int)≤100)&&(ud (Lw w)).all fun c=>decide (48≤c∧c≤57)))=false:=by
   rw[decide_eq_decide.mpr hi];exact q2
  rw[q']at e1
  rw[q2]
  simp[ef,e1]
theorem RJ{M:Mem}{w:Str}(h:w.length≤16777216):∃M',zN [.str w] M= .ok (.bl (ni (Lw w))) M'∧Gr M M':=by
 obtain⟨M1,e1,g1⟩:=Pn (M:=M) (w:=w) (sg:= "abcdefghijklmnopqrstuvwxyz") (n:=8) h
 have ea:((Lw w).all fun c=>decide (c∈(Lw "abcdefghijklmnopqrstuvwxyz")))=(Lw w).all fun c=>decide (97≤c∧c≤122):=by
  congr 1
  funext c
  exact T8 c
 rw[ea,zB]at e1
 refine⟨M1,?_,g1⟩
 simp only[zN,pQ]
 have hi:((((Lw w)).length:Int)≤8)↔((Lw w)).length≤8:=by omega
 rw[show decide (((Lw w).length:Int)≤8)=decide ((Lw w).length≤8)from decide_eq_decide.mpr hi]at e1
 simp[e1,ni]
section
variable{M:Mem}{r l:Nat}{rows:List Str}{k:Int}
theorem vN(R:bV M r l rows k){n:Int}(h:n.natAbs<10 ^ 41):∃M',bO [.ref r,.str (gf (aK n))] M= .ok (.int n) M'∧Gr M M':=by
 have hl:(gf (aK n)).length≤42:=by rw[zB,Jc];exact HF h
 obtain⟨M1,e1,g1⟩:=Ma (M:=M) (w:=gf (aK n)) (by omega)
 rw[Jc,VR h]at e1
 refine⟨M1,?_,g1⟩
 simp only[bO,bF,v8]
 simp[e1,acv (aaq h) (show(gf (aK n)).length≤640 by omega)]
theorem j7(R:bV M r l rows k){n:Int}(h:n.natAbs<10 ^ 41)(h0:0≤n):∃M',bI [.ref r,.str (gf (aK n))] M= .ok (.int n) M'∧Gr M M':=by
 obtain⟨M1,e1,g1⟩:=vN R h
 refine⟨M1,?_,g1⟩
 have:¬(n<0):=by omega
 simp only[bI,a_,oN]
 simp[R.me (m:= "whole") rfl,e1,this]
theorem IV(R:bV M r l rows k){n b:Int}(h:n.natAbs<10 ^ 41)(h0:0≤n)(hb:n<b):∃M',jg [.ref r,.str (gf (aK n)),.int b] M= .ok (.int n) M'∧Gr M M':=by
 obtain⟨M1,e1,g1⟩:=j7 R h h0
 refine⟨M1,?_,g1⟩
 have:¬(b≤n):=by omega
 simp only[jg,dU,v9]
 simp[R.me (m:= "from_nought") rfl,e1,this]
theorem aaO(R:bV M r l rows k){n:Int}(h0:0≤n)(hb:n<60):∃M',pY [.ref r,.str (gf (aK n))] M= .ok (.int n) M'∧Gr M M':=by
 obtain⟨M1,e1,g1⟩:=IV R (n:=n) (b:=60) (by omega) h0 hb
 refine⟨M1,?_,g1⟩
 simp only[pY,i_]
 simp[R.me (m:= "below") rfl,e1]
theorem Uv(R:bV M r l rows k){a b:Int}(ha:1≤a)(ha2:a<2 ^ 60)(hb:0≤b)(hb2:b<2 ^ 60):∃M',gH [.ref r,.str (gf (aK a)),.str (gf (aK b))] M= .ok (.tup [.int a,.int b]) M'∧Gr M M':=by
 obtain⟨M1,e1,g1⟩:=IV R (n:=a) (b:=1152921504606846976) (by omega) (by omega) (by omega)
 obtain⟨M2,e2,g2⟩:=IV (R.gr g1) (n:=b) (b:=1152921504606846976) (by omega) (by omega) (by omega)
 refine⟨M2,?_,g1.trans g2⟩
 have hs:∀M,ZG (.int 1) (.int 60) M= .ok (.int 1152921504606846976) M:=fun M=>by rfl
 have:¬(a=0):=by omega
 simp only[gH,cH,qG]
 simp[R.me (m:= "below") rfl,(R.gr g1).me (m:= "below") rfl,hs,e1,e2,this]
theorem TY(R:bV M r l rows k){w:List Nat}(h:ni w=true)(hl:w.length≤100):∃M',lW [.ref r,.str (gf w)] M= .ok (.str (gf w)) M'∧Gr M M':=by
 obtain⟨M1,e1,g1⟩:=RJ (M:=M) (w:=gf w) (by rw[zB,Jc];omega)
 rw[Jc,h]at e1
 refine⟨M1,?_,g1⟩
 simp only[lW,gm,yc]
 simp[e1]
end
def W(s:Str):List Nat:=s.cps.toList
@[simp] theorem HJ(s:Str):gf (W s)=s:=X_ s
inductive Od where
 | put (s:List Nat) (n:Int) | add (s:List Nat) (n:Int) | swap (s:List Nat) (a n:Int)
inductive Wt where
 | start | roll (a b:Int) | ask (w n:Int) (o:Od)
def Od.d:Od→D
 | .put s n=> .tup [.str "put",.str (gf s),.int n]
 | .add s n=> .tup [.str "add",.str (gf s),.int n]
 | .swap s a n=> .tup [.str "swap",.str (gf s),.int a,.int n]
def Od.w:Od→List (List Nat)
 | .put s n=>[W "put",s,aK n]
 | .add s n=>[W "add",s,aK n]
 | .swap s a n=>[W "swap",s,aK a,aK n]
def Sm(n:Int):Prop:=n.natAbs<10 ^ 41
def Od.Ok:Od→Prop
 | .put s n=>ni s=true∧Sm n
 | .add s n=>ni s=true∧Sm n
 | .swap s a n=>ni s=true∧Sm a∧Sm n
def Wt.d:Wt→D
 | .start=> .tup [.str "start"]
 | .roll a b=> .tup [.str "roll",.int a,.int b]
 | .ask w n o=> .tup [.str "ask",.int w,.int n,o.d]
def Wt.w:Wt→List (List Nat)
 | .start=>[W "start"]
 | .roll a b=>[W "roll",aK a,aK b]
 | .ask w n o=>W "ask" :: aK w::aK n::o.w
def Ro(a b:Int):Prop:=1≤a∧a<2 ^ 60∧0≤b∧b<2 ^ 60
def Wt.Ok:Wt→Prop
 | .start=>True
 | .roll a b=>Ro a b
 | .ask w n o=>Sm w∧Sm n∧o.Ok
def Jh(p:Int×Wt):D:= .tup [.int p.1,p.2.d]
def yj(p:Int×Wt):List (List Nat):=W "at" :: aK p.1::p.2.w
def JD(p:Int×Wt):Prop:=0≤p.1∧Sm p.1∧p.2.Ok
def zJ(p:List Nat×Int):D:= .tup [.str (gf p.1),.int p.2]
def zZ(p:List Nat×Int):List (List Nat):=[W "value",p.1,aK p.2]
def M_(p:List Nat×Int):Prop:=ni p.1=true∧Sm p.2∧p.2≠0
def Am(p:(Int×Int)×Int):D:= .tup [.int p.1.1,.int p.1.2,.int p.2]
def Aa(p:(Int×Int)×Int):List (List Nat):=[W "answer",aK p.1.1,aK p.1.2,aK p.2]
def Jg(p:(Int×Int)×Int):Prop:=Sm p.1.1∧Sm p.1.2∧Sm p.2
def IW(p q:(Int×Int)×Int):Prop:=p.1.1<q.1.1∨p.1.1=q.1.1∧p.1.2<q.1.2
structure Bk where
 tm:Int
 vt:Option Int
 b:Int
 bt:Int
 r1:Int
 r2:Int
 vs:List (List Nat×Int)
 as:List ((Int×Int)×Int)
 es:List (Int×Wt)
def Bk.vd(B:Bk):D:=match B.vt with
 | none=> .non
 | some v=> .int v
def Bk.vw(B:Bk):List Nat:=match B.vt with
 | none=>W "-"
 | some v=>aK v
def Bk.roll(B:Bk):D:= .tup [.int B.r1,.int B.r2]
def Bk.kept(B:Bk):D:= .tup [.tup (B.vs.map zJ),.tup (B.as.map Am)]
def Bk.ents(B:Bk):List D:=B.es.map Jh
def Bk.body(B:Bk):List (List (List Nat)):=[W "book",aK B.tm,B.vw]::[W "base",aK B.b,aK B.bt,aK B.r1,aK B.r2]::(B.vs.map zZ++(B.as.map Aa++B.es.map yj))
def Bk.di(B:Bk):List (List (List Nat)):=B.body++[[W "end",aK B.body.length]]
def Bk.text(B:Bk):Str:=Txt.join "\n" (B.di.map b8)
structure Bk.Ok(B:Bk):Prop where
 tm:0≤B.tm∧Sm B.tm
 vt:∀v,B.vt=some v→0≤v∧v<60
 b:0≤B.b∧Sm B.b
 bt:0≤B.bt∧Sm B.bt
 ro:Ro B.r1 B.r2
 vs:∀p∈B.vs,M_ p
 vo:B.vs.Pairwise fun p q=>p.1<q.1
 as:∀p∈B.as,Jg p
 ao:B.as.Pairwise IW
 es:∀p∈B.es,JD p
 lv:B.vs.length<64
 la:B.as.length<64
 le:B.es.length≤64
theorem iM{n:Int}(h:Sm n):Wd (aK n):=⟨(agY n).1,(agY n).2,by have:=HF h;omega⟩
theorem yx{s:List Nat}(h:ni s=true):Wd s:=by
 simp only[ni,Bool.and_eq_true,decide_eq_true_eq,List.all_eq_true]at h
 refine⟨fun z=> ?_,fun z=> ?_,by omega⟩
 ·have:=h.2.2 _ z;omega
 ·have:=h.2.2 _ z;omega
theorem T3{s:List Nat}(h:ni s=true):s.length≤100:=by
 have:=(yx h).2.2;omega
theorem lC{s:Str}(h:(decide (32∉W s)&&decide (10∉W s)&&decide ((W s).length≤50))=true):Wd (W s):=by
 simp only[Bool.and_eq_true,decide_eq_true_eq]at h
 exact⟨h.1.1,h.1.2,h.2⟩
theorem yw{ws:List (List Nat)}(h0:ws≠[])(hl:ws.length≤20)(h:∀w∈ws,Wd w):Br ws:=⟨h0,hl,h⟩
theorem agV{o:Od}(h:o.Ok):∀w∈o.w,Wd w:=by
 cases o with
 | put s n=>
  intro w hw
  simp[Od.w]at hw
  rcases hw with rfl | rfl | rfl
  ·exact lC (by decide)
  ·exact yx h.1
  ·exact iM h.2
 | add s n=>
  intro w hw
  simp[Od.w]at hw
  rcases hw with rfl | rfl | rfl
  ·exact lC (by decide)
  ·exact yx h.1
  ·exact iM h.2
 | swap s a n=>
  intro w hw
  simp[Od.w]at hw
  rcases hw with rfl | rfl | rfl | rfl
  ·exact lC (by decide)
  ·exact yx h.1
  ·exact iM h.2.1
  ·exact iM h.2.2
theorem Rj(o:Od):o.w.length≤4:=by cases o<;>simp[Od.w]
theorem Oi{a b:Int}(h:Ro a b):Sm a∧Sm b:=by
 obtain⟨h1,h2,h3,h4⟩:=h
 unfold Sm
 constructor<;>omega
theorem afp{x:Wt}(h:x.Ok):∀w∈x.w,Wd w:=by
 cases x with
 | start=>intro w hw;simp[Wt.w]at hw;subst hw;exact lC (by decide)
 | roll a b=>
  have:=Oi h
  intro w hw
  simp[Wt.w]at hw
  rcases hw with rfl | rfl | rfl
  ·exact lC (by decide)
  ·exact iM this.1
  ·exact iM this.2
 | ask a n o=>
  intro w hw
  simp only[Wt.w,List.mem_cons]at hw
  rcases hw with rfl | rfl | rfl | hw
  ·exact lC (by decide)
  ·exact iM h.1
  ·exact iM h.2.1
  ·exact agV h.2.2 w hw
theorem WL(x:Wt):x.w.length≤7:=by
 cases x with
 | start=>simp[Wt.w]
 | roll a b=>simp[Wt.w]
 | ask a n o=>have:=Rj o;simp[Wt.w];omega
theorem Iu{p:Int×Wt}(h:JD p):Br (yj p):=by
 refine yw (by simp[yj]) (by have:=WL p.2;simp[yj];omega) fun w hw=> ?_
 simp only[yj,List.mem_cons]at hw
 rcases hw with rfl | rfl | hw
 ·exact lC (by decide)
 ·exact iM h.2.1
 ·exact afp h.2.2 w hw
theorem QJ{p:List Nat×Int}(h:M_ p):Br (zZ p):=yw (by simp[zZ]) (by simp[zZ]) fun w hw=>by
 simp[zZ]at hw
 rcases hw with rfl | rfl | rfl
 ·exact lC (by decide)
 ·exact yx h.1
 ·exact iM h.2.1
theorem MN{p:(Int×Int)×Int}(h:Jg p):Br (Aa p):=yw (by simp[Aa]) (by simp[Aa]) fun w hw=>by
 simp[Aa]at hw
 rcases hw with rfl | rfl | rfl | rfl
 ·exact lC (by decide)
 ·exact iM h.1
 ·exact iM h.2.1
 ·exact iM h.2.2
theorem Ys{B:Bk}(h:B.Ok):Br [W "book",aK B.tm,B.vw]:=yw (by simp) (by simp) fun w hw=>by
 simp at hw
 rcases hw with rfl | rfl | rfl
 ·exact lC (by decide)
 ·exact iM h.tm.2
 ·unfold Bk.vw
  split
  ·exact lC (by decide)
  ·rename_i v e
   have:=h.vt v e
   exact iM (by unfold Sm;omega)
theorem YM{B:Bk}(h:B.Ok):Br [W "base",aK B.b,aK B.bt,aK B.r1,aK B.r2]:=yw (by simp) (by simp) fun w hw=>by
 have:=Oi h.ro
 simp at hw
 rcases hw with rfl | rfl | rfl | rfl | rfl
 ·exact lC (by decide)
 ·exact iM h.b.2
 ·exact iM h.bt.2
 ·exact iM this.1
 ·exact iM this.2
theorem zA{B:Bk}(h:B.Ok):B.body.length=2+B.vs.length+B.as.length+B.es.length∧B.body.length≤200:=by
 have e:B.body.length=2+B.vs.length+B.as.length+B.es.length:=by simp[Bk.body];omega
 have:=h.lv
 have:=h.la
 have:=h.le
 exact⟨e,by omega⟩
theorem CZ{B:Bk}(h:B.Ok):Br [W "end",aK B.body.length]:=yw (by simp) (by simp) fun w hw=>by
 have:=(zA h).2
 simp at hw
 rcases hw with rfl | rfl
 ·exact lC (by decide)
 ·exact iM (by unfold Sm;omega)
theorem Kr{B:Bk}(h:B.Ok):∀ws∈B.di,Br ws:=by
 intro ws hw
 simp only[Bk.di,Bk.body,List.mem_append,List.mem_cons,List.mem_map,List.not_mem_nil,or_false]at hw
 rcases hw with(rfl | rfl | ⟨p,hp,rfl⟩ | ⟨p,hp,rfl⟩ | ⟨p,hp,rfl⟩) | rfl
 ·exact Ys h
 ·exact YM h
 ·exact QJ (h.vs p hp)
 ·exact MN (h.as p hp)
 ·exact Iu (h.es p hp)
 ·exact CZ h
theorem J0{c x:Nat}:∀{ws:List (List Nat)},x∈lX c ws→x=c∨∃w∈ws,x∈w
 | [],h=>by simp[lX]at h
 | [w],h=> .inr ⟨w,by simp,h⟩
 | w::v::r,h=>by
  simp only[lX,List.mem_append,List.mem_cons]at h
  rcases h with h | h | h
  ·exact .inr ⟨w,by simp,h⟩
  ·exact .inl h
  ·rcases J0 h with q | ⟨y,hy,q⟩
   ·exact .inl q
   ·exact .inr ⟨y,by simp at hy ⊢;exact .inr hy,q⟩
theorem Xl{ws:List (List Nat)}(h:Br ws):10∉lX 32 ws:=fun z=>by
 rcases J0 z with q | ⟨w,hw,q⟩
 ·omega
 ·exact(h.2.2 w hw).2.1 q
theorem QS{di:List (List (List Nat))}(h0:di≠[])(h:∀ws∈di,Br ws):Txt.split (Txt.join "\n" (di.map b8)) "\n" = di.map b8:=by
 have e:di.map b8=(di.map (lX 32)).map gf:=by rw[List.map_map];exact List.map_congr_left fun ws _=>Ga ws
 rw[TX,e]
 refine GZ (by decide) (by simpa using h0) fun w hw=> ?_
 obtain⟨ws,hs,rfl⟩:=List.mem_map.mp hw
 exact Xl (h ws hs)
theorem Ph{c:Nat}{n:Nat}:∀(ws:List (List Nat)),(∀w∈ws,w.length≤n)→(lX c ws).length≤ws.length*(n+1)
 | [],_=>by simp[lX]
 | [w],h=>by have:=h w (by simp);simp[lX];omega
 | w::v::r,h=>by
  have h1:=h w (by simp)
  have h2:=Ph (c:=c) (v::r) fun x hx=>h x (by simp at hx ⊢;exact .inr hx)
  simp only[lX,List.length_append,List.length_cons]at h2 ⊢
  rw[Nat.succ_mul]
  omega
theorem text_len{di:List (List (List Nat))}(h:∀ws∈di,Br ws)(hl:di.length≤300):(Txt.join "\n" (di.map b8)).length≤306300:=by
 have e:di.map b8=(di.map (lX 32)).map gf:=by rw[List.map_map];exact List.map_congr_left fun ws _=>Ga ws
 rw[TX,e,Bd,jy,cQ]
 have:=Ph (c:=10) (n:=1020) (di.map (lX 32)) fun w hw=>by
  obtain⟨ws,hs,rfl⟩:=List.mem_map.mp hw
  have:=Ce (h ws hs)
  rw[Ga,jy,cQ]at this
  exact this
 rw[List.length_map]at this
 omega
theorem wD{α:Type}{l:List α}{i:Nat}{x:α}{r:List α}(h:l.drop i=x::r):l[i]? = some x∧l.drop (i+1)=r:=by
 constructor
 ·have:(l.drop i)[0]? = some x:=by rw[h];rfl
  rw[List.getElem?_drop]at this
  exact this
 ·rw[←List.drop_drop,h];rfl
section
variable{M:Mem}{r l:Nat}{di:List (List (List Nat))}{k:Int}{i:Nat}{ws:List (List Nat)}
theorem UW(R:bV M r l (di.map b8) k)(hk:k=i+1)(h:di[i]? = some ws)(hw:Br ws):∃x M1,gG [.ref r] M= .ok (.ref x) M1∧M1[x]? = some (.lst (ts ws))∧Gr M M1:=
 ⟨_,_,Gx R hk (by rw[List.getElem?_map,h];rfl) hw,aN,Gr.app⟩
theorem pP(R:bV M r l (di.map b8) k)(hk:k=i+1){w:List Nat}(h:di[i]? = some (w::ws))(hw:Br (w::ws))(b:Str):∃M1,fM [.ref r,.str b] M= .ok (.bl (decide (gf w=b))) M1∧Gr M M1:=
 ⟨_,Wh R hk (by rw[List.getElem?_map,h];rfl) hw b,Gr.app⟩
theorem n6(R:bV M r l (di.map b8) k)(hk:k=i+1){w:List Nat}(h:di[i]? = some (w::ws))(hw:Br (w::ws)){b:Str}(hb:gf w=b){n:Int}(hn:n=(ws.length:Int)+1):
  ∃x M1,cj [.ref r,.str b,.int n] M= .ok (.ref x) M1∧M1[x]? = some (.lst (ts (w::ws)))∧Gr M M1:=
 ⟨_,_,Ni R hk (by rw[List.getElem?_map,h];rfl) hw hb hn,aN,Gr.app⟩
end
theorem n_{M:Mem}{x:Nat}{ws:List (List Nat)}{k:Int}{j:Nat}{w:List Nat}(h:M[x]? = some (.lst (ts ws)))(hk:k=j)(hw:ws[j]? = some w):aR (.ref x) (.int k) M= .ok (.str (gf w)) M:=
 jU h (by omega) (by subst hk;simp[ts,hw])
theorem Lp{v:Int}(h:0≤v):gf (aK v)≠("-" : Str):=fun z=>by
 have e:aK v=[45]:=by
  rw[HN]at z
  exact aas (z.trans (show(⟨#[45]⟩:Str)=gf [45]from rfl))
 have hn:¬(v<0):=by omega
 simp only[aK,hn,if_false]at e
 have:=uw v.natAbs 45 (by rw[e];simp)
 omega
theorem Jq{M:Mem}{r l:Nat}{B:Bk}{di:List (List (List Nat))}(h:B.Ok)(h0:di[0]? = some [W "book",aK B.tm,B.vw])(R:bV M r l (di.map b8) 1):∃M',qp [.ref r] M= .ok (.tup [.int B.tm,B.vd]) M'∧bV M' r l (di.map b8) 2∧Ch (· = r) M M':=by
 obtain⟨x,M1,e1,h1,g1⟩:=n6 R (i:=0) rfl h0 (Ys h) (b:= "book") (HJ _) (n:=3) rfl
 have R1:=R.gr g1
 have i1:∀M2,Gr M1 M2→aR (.ref x) (.int 1) M2= .ok (.str (gf (aK B.tm))) M2:=fun M2 g=>n_ (g _ _ h1) (j:=1) rfl rfl
 have i2:aR (.ref x) (.int 2) M1= .ok (.str (gf B.vw)) M1:=n_ h1 (j:=2) rfl rfl
 have hv:∃M2,p6 [some (.ref r),some (.ref x),some .non,none] M1= .next [some (.ref r),some (.ref x),some B.vd,none] M2∧Gr M1 M2:=by
  unfold Bk.vw at i2
  unfold Bk.vd
  cases e:B.vt with
  | none=>
   rw[e]at i2
   simp only[HJ]at i2
   refine⟨M1,?_,Gr.refl⟩
   simp only[p6]
   simp[i2]
  | some v=>
   rw[e]at i2
   simp only at i2
   obtain⟨M2,e2,g2⟩:=aaO R1 (h.vt v e).1 (h.vt v e).2
   refine⟨M2,?_,g2⟩
   have:=Lp (h.vt v e).1
   simp only[p6]
   simp[i2,this,R1.me (m:= "hand") rfl,e2]
 obtain⟨M2,e2,g2⟩:=hv
 have R2:=R1.gr g2
 obtain⟨M3,e3,g3⟩:=j7 R2 h.tm.2 h.tm.1
 have R3:=R2.gr g3
 obtain⟨M4,e4,R4,c4,_⟩:=yU R3
 refine⟨M4,?_,R4,((g1.trans g2).trans g3).ch.trans c4⟩
 simp only[qp,k_]
 simp[R.me (m:= "words_of") rfl,e1,e2,i1 M2 g2,R2.me (m:= "from_nought") rfl,e3,R3.me (m:= "go_on") rfl,e4]
theorem K9{M:Mem}{r l:Nat}{B:Bk}(h:B.Ok)(R:bV M r l (B.di.map b8) 1):∃M',qp [.ref r] M= .ok (.tup [.int B.tm,B.vd]) M'∧bV M' r l (B.di.map b8) 2∧Ch (· = r) M M':=Jq h rfl R
theorem Jr{M:Mem}{r l:Nat}{B:Bk}{di:List (List (List Nat))}(h:B.Ok)(h0:di[1]? = some [W "base",aK B.b,aK B.bt,aK B.r1,aK B.r2])(R:bV M r l (di.map b8) 2):∃M',qw [.ref r] M= .ok (.tup [.int B.b,.int B.bt,B.roll]) M'∧bV M' r l (di.map b8) 3∧Ch (· = r) M M':=by
 obtain⟨x,M1,e1,h1,g1⟩:=n6 R (i:=1) rfl h0 (YM h) (b:= "base") (HJ _) (n:=5) rfl
 have R1:=R.gr g1
 obtain⟨M2,e2,g2⟩:=j7 R1 h.b.2 h.b.1
 have R2:=R1.gr g2
 obtain⟨M3,e3,g3⟩:=j7 R2 h.bt.2 h.bt.1
 have R3:=R2.gr g3
 obtain⟨M4,e4,g4⟩:=Uv R3 h.ro.1 h.ro.2.1 h.ro.2.2.1 h.ro.2.2.2
 have R4:=R3.gr g4
 obtain⟨M5,e5,R5,c5,_⟩:=yU R4
 have i1:aR (.ref x) (.int 1) M1= .ok (.str (gf (aK B.b))) M1:=n_ h1 (j:=1) rfl rfl
 have i2:aR (.ref x) (.int 2) M2= .ok (.str (gf (aK B.bt))) M2:=n_ (g2 _ _ h1) (j:=2) rfl rfl
 have i3:aR (.ref x) (.int 3) M3= .ok (.str (gf (aK B.r1))) M3:=n_ (g3 _ _ (g2 _ _ h1)) (j:=3) rfl rfl
 have i4:aR (.ref x) (.int 4) M3= .ok (.str (gf (aK B.r2))) M3:=n_ (g3 _ _ (g2 _ _ h1)) (j:=4) rfl rfl
 refine⟨M5,?_,R5,(((g1.trans g2).trans g3).trans g4).ch.trans c5⟩
 simp only[qw,lg]
 simp[R.me (m:= "words_of") rfl,e1,i1,R1.me (m:= "from_nought") rfl,e2,i2,R2.me (m:= "from_nought") rfl,e3,i3,i4,R3.me (m:= "both_sets") rfl,e4,R4.me (m:= "go_on") rfl,e5,Bk.roll]
theorem K_{M:Mem}{r l:Nat}{B:Bk}(h:B.Ok)(R:bV M r l (B.di.map b8) 2):∃M',qw [.ref r] M= .ok (.tup [.int B.b,.int B.bt,B.roll]) M'∧bV M' r l (B.di.map b8) 3∧Ch (· = r) M M':=Jr h rfl R
theorem Ob{M:Mem}{n k:Nat}{ds:List D}{d:D}(hM:M[n]? = some (.lst ds))(hl:ds.length=k+1)(h:ds[k]? = some d):aR (.ref n) (.int (-1)) M= .ok d M:=by
 have e:Jw ds (-1)=ds[k]? := by
  unfold Jw ixN
  rw[if_neg (by decide),if_pos (by omega),hl]
  show ds[(-1+((k+1:Nat):Int)).toNat]? = _
  congr 1
  omega
 exact mZ (mZ (by simp only[Oc,Ar,cN hM,e,h]))
theorem JZ{α:Type}(l:List α)(h:l≠[]):∃m x,l=m++[x]:=⟨l.dropLast,l.getLast h,(List.dropLast_concat_getLast h).symm⟩
theorem QH{M:Mem}{r q x:Nat}{hr:Int}{l:Nat}{rows:List Str}{done:List (List Nat×Int)}{p:List Nat×Int}(R:bV M r l rows hr)(hq:M[q]? = some (.lst (done.map zJ)))(h0:p.2≠0)(ho:∀a∈done,a.1<p.1):
  rB [some (.ref r),some (.ref q),some (.ref x),some (zJ p)] M= .next [some (.ref r),some (.ref q),some (.ref x),some (zJ p)] M:=by
 simp only[rB,zJ]
 by_cases hd:done=[]
 ·subst hd
  simp[h0,je hq]
 ·obtain⟨m,a,rfl⟩:=JZ done hd
  have e1:aR (.ref q) (.int (-1)) M= .ok (zJ a) M:=Ob hq (k:=m.length) (by simp) (by simp)
  have ha:=ho a (by simp)
  have e2:sLe (.str (gf p.1)) (.str (gf a.1)) M= .ok (.bl false) M:=by
   rw[afS]
   simp only[cQ]
   rw[decide_eq_true ha];rfl
  have e3:o9 [.ref q] M= .ok (.int ((m.length:Int)+1)) M:=by rw[je hq];simp
  have h3:(0:Int)<(m.length:Int)+1:=by omega
  simp[h0,e3,h3,e1,zJ,e2]
theorem U4{M:Mem}{r l q i:Nat}{di:List (List (List Nat))}{done:List (List Nat×Int)}{p:List Nat×Int}{y2 y3:Option D}(R:bV M r l (di.map b8) ((i:Int)+1))(hw:di[i]? = some (zZ p))(hp:M_ p)
  (hq:M[q]? = some (.lst (done.map zJ))) (ho:∀a∈done,a.1<p.1) (hd:done.length<1000) (Py:q≠r) (hql:q≠l):
  ∃M0 M' x,gZ [some (.ref r),some (.ref q),y2,y3] M= .ok true M0∧mW [some (.ref r),some (.ref q),y2,y3] M0= .next [some (.ref r),some (.ref q),some (.ref x),some (zJ p)] M'∧
   bV M' r l (di.map b8) ((i:Int)+1+1)∧M'[q]? = some (.lst ((done++[p]).map zJ))∧Ch (fun j=>j=r∨j=q) M M':=by
 obtain⟨M0,e0,g0⟩:=pP R rfl hw (QJ hp) "value"
 have R0:=R.gr g0
 obtain⟨x,M1,e1,h1,g1⟩:=n6 R0 rfl hw (QJ hp) (b:= "value") (HJ _) (n:=3) rfl
 have R1:=R0.gr g1
 obtain⟨M2,e2,g2⟩:=TY R1 hp.1 (T3 hp.1)
 have R2:=R1.gr g2
 obtain⟨M3,e3,g3⟩:=vN R2 hp.2.1
 have R3:=R2.gr g3
 have q3:=g3 _ _ (g2 _ _ (g1 _ _ (g0 _ _ hq)))
 have i1:aR (.ref x) (.int 1) M1= .ok (.str (gf p.1)) M1:=n_ h1 (j:=1) rfl rfl
 have i2:aR (.ref x) (.int 2) M2= .ok (.str (gf (aK p.2))) M2:=n_ (g2 _ _ h1) (j:=2) rfl rfl
 have ck:=QH (x:=x) R3 q3 hp.2.2 ho
 have e4:=ji (d:=zJ p) q3 (by rw[List.length_map];omega)
 obtain⟨M4,Pz⟩:∃M4,M4=M3.set q (.lst (done.map zJ++[zJ p])):=⟨_,rfl⟩
 have q4:M4[q]? = some (.lst ((done++[p]).map zJ)):=by rw[Pz,get_set q3];simp
 have c4:Ch (fun j=>j=r∨j=q) M3 M4:=by rw[Pz];exact Ch.set (.inr rfl)
 have R4:bV M4 r l (di.map b8) ((i:Int)+1):=by
  have c:Ch (· = q) M3 M4:=by rw[Pz];exact Ch.set rfl
  exact R3.ch c (Ne.symm Py) (Ne.symm hql)
 obtain⟨M5,e5,R5,c5,_⟩:=yU R4
 refine⟨M0,M5,x,?_,?_,R5,c5.2 _ _ Py q4,(((g0.trans g1).trans g2).trans g3).ch.trans (c4.trans (c5.mono fun j _ z=> .inl z))⟩
 ·simp only[gZ]
  simp[R.me (m:= "begins") rfl,e0]
 ·simp only[mW]
  rw[←Pz]at e4
  simp only[zJ]at ck e4 ⊢
  simp[R0.me (m:= "words_of") rfl,e1,i1,R1.me (m:= "name") rfl,e2,i2,R2.me (m:= "whole") rfl,e3,ck,g_ q3,e4,R4.me (m:= "go_on") rfl,e5]
theorem U5{M:Mem}{r l i:Nat}{di:List (List (List Nat))}{w:List Nat}{tl:List (List Nat)}{y1 y2 y3:Option D}(R:bV M r l (di.map b8) ((i:Int)+1))(hw:di[i]? = some (w::tl))(hp:Br (w::tl))(hn:gf w≠ "value"):
  ∃M',gZ [some (.ref r),y1,y2,y3] M= .ok false M'∧Gr M M':=by
 obtain⟨M0,e0,g0⟩:=pP R rfl hw hp "value"
 refine⟨M0,?_,g0⟩
 simp only[gZ]
 simp[R.me (m:= "begins") rfl,e0,hn]
theorem JG{r l q:Nat}{di more:List (List (List Nat))}{w:List Nat}{tl:List (List Nat)}(Py:q≠r)(hql:q≠l)(hp:Br (w::tl))(hn:gf w≠ "value"):∀(rest done:List (List Nat×Int)) (i:Nat) (M:Mem) (y2 y3:Option D),
  bV M r l (di.map b8) ((i:Int)+1)→M[q]? = some (.lst (done.map zJ))→di.drop i=rest.map zZ++(w::tl)::more→(∀p∈rest,M_ p)→(done++rest).Pairwise (fun p q=>p.1<q.1)→(done++rest).length<1000→
  ∃M' y2' y3',Dh gZ mW (rest.length+1) [some (.ref r),some (.ref q),y2,y3] M= .next [some (.ref r),some (.ref q),y2',y3'] M'∧bV M' r l (di.map b8) ((i:Int)+rest.length+1)∧M'[q]? = some (.lst ((done++rest).map zJ))∧Ch (fun j=>j=r∨j=q) M M'
 | [],done,i,M,y2,y3,R,hq,hd,_,_,_=>by
  obtain⟨hw,_⟩:=wD (by simpa using hd)
  obtain⟨M0,e0,g0⟩:=U5 (y1:=some (.ref q)) (y2:=y2) (y3:=y3) R hw hp hn
  refine⟨M0,y2,y3,?_,by simpa using R.gr g0,by simpa using g0 _ _ hq,g0.ch⟩
  unfold Dh
  rw[e0]
 | p::rest,done,i,M,y2,y3,R,hq,hd,ho,hs,hl=>by
  obtain⟨hw,hd'⟩:=wD (show di.drop i=zZ p::(rest.map zZ++(w::tl)::more) by simpa using hd)
  have hlt:∀a∈done,a.1<p.1:=fun a ha=>(List.pairwise_append.mp hs).2.2 a ha p (by simp)
  obtain⟨M0,M1,x,e0,e1,R1,q1,c1⟩:=U4 (y2:=y2) (y3:=y3) R hw (ho p (by simp)) hq hlt (by simp at hl;omega) Py hql
  obtain⟨M2,z2,z3,e2,R2,q2,c2⟩:=JG Py hql hp hn rest (done++[p]) (i+1) M1 (some (.ref x)) (some (zJ p)) (by simpa using R1) q1 hd' (fun a ha=>ho a (by simp[ha])) (by simpa using hs) (by simpa using hl)
  refine⟨M2,z2,z3,?_,?_,by simpa using q2,c1.trans c2⟩
  ·show Dh _ _ (rest.length+1+1) _ _=_
   rw[Dh,e0]
   simp only[e1]
   exact e2
  ·have e:((i+1:Nat):Int)+rest.length+1=(i:Int)+((p::rest).length:Nat)+1:=by simp;omega
   rw[←e];exact R2
theorem tM{M:Mem}{r l i:Nat}{di more:List (List (List Nat))}{w:List Nat}{tl:List (List Nat)}{vs:List (List Nat×Int)}(R:bV M r l (di.map b8) ((i:Int)+1))(hd:di.drop i=vs.map zZ++(w::tl)::more)(hp:Br (w::tl))(hn:gf w≠ "value")
  (hv:∀p∈vs,M_ p) (ho:vs.Pairwise fun p q=>p.1<q.1) (hl:vs.length<1000):∃M',lU [.ref r] M= .ok (.tup (vs.map zJ)) M'∧bV M' r l (di.map b8) ((i:Int)+vs.length+1)∧Ch (· = r) M M':=by
 have R0:bV (M++[.lst []]) r l (di.map b8) ((i:Int)+1):=R.gr Gr.app
 have hr:=eE R.o
 have hll:=eE R.k
 obtain⟨M',y2,y3,e,R',q',c⟩:=JG (q:=M.length) (by omega) (by omega) hp hn vs [] i (M++[.lst []]) none none R0 (by simp) hd hv (by simpa using ho) (by simpa using hl)
 refine⟨M',?_,R',⟨Nat.le_trans (by simp) c.1,fun j o nj h=>c.2 j o (fun z=>by have:=eE h;rcases z with z | z<;>omega) (Gr.app _ _ h)⟩⟩
 simp only[lU,iW,xQ]
 have ew:=Du e (fun z=>nomatch z)
 simp[ew,pG q']
theorem ajh{α:Type}{x:α}{xs:List α}:cut (x::xs) (some 1) none=xs:=by
 have e1:HT.aR (x::xs).length 0 (some 1)=1:=by simp[HT.aR]
 have e2:HT.aR (x::xs).length (x::xs).length none=(x::xs).length:=rfl
 unfold cut
 rw[e1,e2]
 simp
theorem abI{α:Type}{x y:α}{xs:List α}:cut (x::y::xs) (some 2) none=xs:=by
 have e1:HT.aR (x::y::xs).length 0 (some 2)=2:=by simp[HT.aR]
 have e2:HT.aR (x::y::xs).length (x::y::xs).length none=(x::y::xs).length:=rfl
 unfold cut
 rw[e1,e2]
 simp
theorem ajg{α:Type}{x y z:α}{xs:List α}:cut (x::y::z::xs) (some 3) none=xs:=by
 have e1:HT.aR (x::y::z::xs).length 0 (some 3)=3:=by simp[HT.aR]
 have e2:HT.aR (x::y::z::xs).length (x::y::z::xs).length none=(x::y::z::xs).length:=rfl
 unfold cut
 rw[e1,e2]
 simp
theorem ab_{a b c:D}{M:Mem}:N6 (.tup [a,b,c]) none (some 2) M= .ok (.tup [a,b]) M:=by rfl
theorem JT{M:Mem}{r l y:Nat}{rows:List Str}{k:Int}(R:bV M r l rows k)(ns:List Int)(hn:∀n∈ns,Sm n)(hy:M[y]? = some (.lst (ts (ns.map aK)))):
  ∃x M',uI (some (y,ts (ns.map aK))) sE (cu 3 "whole" bO 2 [] (aA 1) (aq (aA 0) aF)) [some (.ref r)] (ts (ns.map aK)) [] M= .ok (.ref x) M'∧M'[x]? = some (.lst (ns.map D.int))∧Gr M M':=by
 have hlen:(ts (ns.map aK)).length=ns.length:=by simp[ts]
 obtain⟨ys,M',e,hy',g⟩:=Dd (src:=some (y,ts (ns.map aK))) (tt:=sE) (te:=cu 3 "whole" bO 2 [] (aA 1) (aq (aA 0) aF)) (ce:=[some (.ref r)])
  (fun i ys M'=>ys=(ns.take i).map D.int∧Gr M M') (ts (ns.map aK)) 0 (ys:=[]) (M:=M) ⟨by simp,Gr.refl⟩
  (fun i ys M' _ _ h=>cN (h.2 _ _ hy)) (fun i d ys M2 hd h=>by
   obtain⟨h1,h2⟩:=h
   rw[Nat.zero_add]at h1 ⊢
   simp only[ts,List.map_map,List.getElem?_map]at hd
   obtain⟨n,hi,rfl⟩:=Option.map_eq_some_iff.mp hd
   obtain⟨M3,e3,g3⟩:=vN (R.gr h2) (hn n (List.mem_of_getElem? hi))
   refine⟨true,M2,rfl,.inr ⟨rfl,.int n,M3,?_,?_,h2.trans g3⟩⟩
   ·simp[(R.gr h2).me (m:= "whole") rfl,e3]
   ·rw[h1,List.take_add_one,hi];simp)
 refine⟨_,_,e,?_,g.trans Gr.app⟩
 rw[aN,hy',Nat.zero_add,hlen,List.take_length]
theorem ado{a b:(Int×Int)×Int}(h:IW a b):TLe.Rv [b.1.1,b.1.2] [a.1.1,a.1.2]=false:=by
 simp only[TLe.Rv]
 rcases h with h | ⟨h1,h2⟩
 ·rw[if_neg (by omega)];exact decide_eq_false (by omega)
 ·rw[if_pos h1.symm,if_neg (by omega)];exact decide_eq_false (by omega)
theorem Wi{M:Mem}{r q x:Nat}{hr:Int}{l:Nat}{rows:List Str}{done:List ((Int×Int)×Int)}{p:(Int×Int)×Int}(R:bV M r l rows hr)(hq:M[q]? = some (.lst (done.map Am)))(ho:∀a∈done,IW a p):
  pO [some (.ref r),some (.ref q),some (.ref x),some (Am p)] M= .next [some (.ref r),some (.ref q),some (.ref x),some (Am p)] M:=by
 simp only[pO,Am]
 by_cases hd:done=[]
 ·subst hd
  simp[je hq]
 ·obtain⟨m,a,rfl⟩:=JZ done hd
  have e1:aR (.ref q) (.int (-1)) M= .ok (Am a) M:=Ob hq (k:=m.length) (by simp) (by simp)
  have e2:sLe (.tup [.int p.1.1,.int p.1.2]) (.tup [.int a.1.1,.int a.1.2]) M= .ok (.bl false) M:=by
   rw[afR (is:=[p.1.1,p.1.2]) (js:=[a.1.1,a.1.2]) rfl rfl,ado (ho a (by simp))]
  have e3:o9 [.ref q] M= .ok (.int ((m.length:Int)+1)) M:=by rw[je hq];simp
  have h3:(0:Int)<(m.length:Int)+1:=by omega
  simp[e3,h3,e1,Am,ab_,e2]
theorem YZ{M:Mem}{r l q i:Nat}{di:List (List (List Nat))}{done:List ((Int×Int)×Int)}{p:(Int×Int)×Int}{y2 y3:Option D}(R:bV M r l (di.map b8) ((i:Int)+1))(hw:di[i]? = some (Aa p))(hp:Jg p)
  (hq:M[q]? = some (.lst (done.map Am))) (ho:∀a∈done,IW a p) (hd:done.length<1000) (Py:q≠r) (hql:q≠l):
  ∃M0 M' x,gq [some (.ref r),some (.ref q),y2,y3] M= .ok true M0∧lE [some (.ref r),some (.ref q),y2,y3] M0= .next [some (.ref r),some (.ref q),some (.ref x),some (Am p)] M'∧
   bV M' r l (di.map b8) ((i:Int)+1+1)∧M'[q]? = some (.lst ((done++[p]).map Am))∧Ch (fun j=>j=r∨j=q) M M':=by
 obtain⟨M0,e0,g0⟩:=pP R rfl hw (MN hp) "answer"
 have R0:=R.gr g0
 obtain⟨x,M1,e1,h1,g1⟩:=n6 R0 rfl hw (MN hp) (b:= "answer") (HJ _) (n:=4) rfl
 have R1:=R0.gr g1
 have s1:N6 (.ref x) (some 1) none M1= .ok (.ref M1.length) (M1++[.lst (ts ([p.1.1,p.1.2,p.2].map aK))]):=by
  rw[FZ h1]
  have:cut (ts (Aa p)) (some 1) none=ts ([p.1.1,p.1.2,p.2].map aK):=ajh
  rw[←this];rfl
 obtain⟨M2,yr⟩:∃M2,M2=M1++[MO.lst (ts ([p.1.1,p.1.2,p.2].map aK))]:=⟨_,rfl⟩
 have h2:M2[M1.length]? = some (.lst (ts ([p.1.1,p.1.2,p.2].map aK))):=by rw[yr];exact aN
 have g2:Gr M1 M2:=by rw[yr];exact Gr.app
 rw[←yr]at s1
 have R2:=R1.gr g2
 obtain⟨z,M3,e3,h3,g3⟩:=JT R2 [p.1.1,p.1.2,p.2] (by
  intro n hn
  simp at hn
  rcases hn with rfl | rfl | rfl
  ·exact hp.1
  ·exact hp.2.1
  ·exact hp.2.2) h2
 have R3:=R2.gr g3
 have e3':rm [.ref z] M3= .ok (Am p) M3:=pG h3
 have q3:=g3 _ _ (g2 _ _ (g1 _ _ (g0 _ _ hq)))
 have ck:=Wi (x:=x) R3 q3 ho
 have e4:=ji (d:=Am p) q3 (by rw[List.length_map];omega)
 obtain⟨M4,Pz⟩:∃M4,M4=M3.set q (.lst (done.map Am++[Am p])):=⟨_,rfl⟩
 have q4:M4[q]? = some (.lst ((done++[p]).map Am)):=by rw[Pz,get_set q3];simp
 have c4:Ch (fun j=>j=r∨j=q) M3 M4:=by rw[Pz];exact Ch.set (.inr rfl)
 have R4:bV M4 r l (di.map b8) ((i:Int)+1):=by
  have c:Ch (· = q) M3 M4:=by rw[Pz];exact Ch.set rfl
  exact R3.ch c (Ne.symm Py) (Ne.symm hql)
 obtain⟨M5,e5,R5,c5,_⟩:=yU R4
 refine⟨M0,M5,x,?_,?_,R5,c5.2 _ _ Py q4,(((g0.trans g1).trans g2).trans g3).ch.trans (c4.trans (c5.mono fun j _ z=> .inl z))⟩
 ·simp only[gq]
  simp[R.me (m:= "begins") rfl,e0]
 ·simp only[lE]
  rw[←Pz]at e4
  have ec:o6 [0] [some (D.ref r),some (.ref q),some (.ref x),y3]=[some (.ref r)]:=rfl
  simp[R0.me (m:= "words_of") rfl,e1,s1,qF h2,ec]
  simp at e3
  simp[e3,e3',ck,g_ q3,e4,R4.me (m:= "go_on") rfl,e5]
theorem Y0{M:Mem}{r l i:Nat}{di:List (List (List Nat))}{w:List Nat}{tl:List (List Nat)}{y1 y2 y3:Option D}(R:bV M r l (di.map b8) ((i:Int)+1))(hw:di[i]? = some (w::tl))(hp:Br (w::tl))(hn:gf w≠ "answer"):
  ∃M',gq [some (.ref r),y1,y2,y3] M= .ok false M'∧Gr M M':=by
 obtain⟨M0,e0,g0⟩:=pP R rfl hw hp "answer"
 refine⟨M0,?_,g0⟩
 simp only[gq]
 simp[R.me (m:= "begins") rfl,e0,hn]
theorem Ql{r l q:Nat}{di more:List (List (List Nat))}{w:List Nat}{tl:List (List Nat)}(Py:q≠r)(hql:q≠l)(hp:Br (w::tl))(hn:gf w≠ "answer"):∀(rest done:List ((Int×Int)×Int)) (i:Nat) (M:Mem) (y2 y3:Option D),
  bV M r l (di.map b8) ((i:Int)+1)→M[q]? = some (.lst (done.map Am))→di.drop i=rest.map Aa++(w::tl)::more→(∀p∈rest,Jg p)→(done++rest).Pairwise IW→(done++rest).length<1000→
  ∃M' y2' y3',Dh gq lE (rest.length+1) [some (.ref r),some (.ref q),y2,y3] M= .next [some (.ref r),some (.ref q),y2',y3'] M'∧bV M' r l (di.map b8) ((i:Int)+rest.length+1)∧M'[q]? = some (.lst ((done++rest).map Am))∧Ch (fun j=>j=r∨j=q) M M'
 | [],done,i,M,y2,y3,R,hq,hd,_,_,_=>by
  obtain⟨hw,_⟩:=wD (by simpa using hd)
  obtain⟨M0,e0,g0⟩:=Y0 (y1:=some (.ref q)) (y2:=y2) (y3:=y3) R hw hp hn
  refine⟨M0,y2,y3,?_,by simpa using R.gr g0,by simpa using g0 _ _ hq,g0.ch⟩
  unfold Dh
  rw[e0]
 | p::rest,done,i,M,y2,y3,R,hq,hd,ho,hs,hl=>by
  obtain⟨hw,hd'⟩:=wD (show di.drop i=Aa p::(rest.map Aa++(w::tl)::more) by simpa using hd)
  have hlt:∀a∈done,IW a p:=fun a ha=>(List.pairwise_append.mp hs).2.2 a ha p (by simp)
  obtain⟨M0,M1,x,e0,e1,R1,q1,c1⟩:=YZ (y2:=y2) (y3:=y3) R hw (ho p (by simp)) hq hlt (by simp at hl;omega) Py hql
  obtain⟨M2,z2,z3,e2,R2,q2,c2⟩:=Ql Py hql hp hn rest (done++[p]) (i+1) M1 (some (.ref x)) (some (Am p)) (by simpa using R1) q1 hd' (fun a ha=>ho a (by simp[ha])) (by simpa using hs) (by simpa using hl)
  refine⟨M2,z2,z3,?_,?_,by simpa using q2,c1.trans c2⟩
  ·show Dh _ _ (rest.length+1+1) _ _=_
   rw[Dh,e0]
   simp only[e1]
   exact e2
  ·have e:((i+1:Nat):Int)+rest.length+1=(i:Int)+((p::rest).length:Nat)+1:=by simp;omega
   rw[←e];exact R2
theorem xT{M:Mem}{r l i:Nat}{di more:List (List (List Nat))}{w:List Nat}{tl:List (List Nat)}{as:List ((Int×Int)×Int)}(R:bV M r l (di.map b8) ((i:Int)+1))(hd:di.drop i=as.map Aa++(w::tl)::more)(hp:Br (w::tl))(hn:gf w≠ "answer")
  (hv:∀p∈as,Jg p) (ho:as.Pairwise IW) (hl:as.length<1000):∃M',j5 [.ref r] M= .ok (.tup (as.map Am)) M'∧bV M' r l (di.map b8) ((i:Int)+as.length+1)∧Ch (· = r) M M':=by
 have R0:bV (M++[.lst []]) r l (di.map b8) ((i:Int)+1):=R.gr Gr.app
 have hr:=eE R.o
 have hll:=eE R.k
 obtain⟨M',y2,y3,e,R',q',c⟩:=Ql (q:=M.length) (by omega) (by omega) hp hn as [] i (M++[.lst []]) none none R0 (by simp) hd hv (by simpa using ho) (by simpa using hl)
 refine⟨M',?_,R',⟨Nat.le_trans (by simp) c.1,fun j o nj h=>c.2 j o (fun z=>by have:=eE h;rcases z with z | z<;>omega) (Gr.app _ _ h)⟩⟩
 simp only[j5,gO,vP]
 have ew:=Du e (fun z=>nomatch z)
 simp[ew,pG q']
def Dat(k:Nat)(d:D):Prop:=∃t,∀M:Mem,jY M k d=some t
theorem xN{k:Nat}{i:Int}:Dat (k+1) (.int i):=⟨_,fun _=>rfl⟩
theorem zX{k:Nat}{i:Str}:Dat (k+1) (.str i):=⟨_,fun _=>rfl⟩
theorem aaW{k:Nat}:Dat (k+1) .non:=⟨_,fun _=>rfl⟩
theorem Gm{k:Nat}{ds:List D}(h:∀d∈ds,Dat k d):∃ts,∀M:Mem,vV (jY M k) ds=some ts:=by
 induction ds with
 | nil=>exact⟨[],fun M=>rfl⟩
 | cons d r ih=>
  obtain⟨ts,q⟩:=ih fun x hx=>h x (List.mem_cons_of_mem _ hx)
  obtain⟨t,q2⟩:=h d List.mem_cons_self
  exact⟨t::ts,fun M=>by simp only[vV,q2 M,q M]⟩
theorem zW{k:Nat}{ds:List D}(h:∀d∈ds,Dat k d):Dat (k+1) (.tup ds):=by
 obtain⟨ts,q⟩:=Gm h
 exact⟨.tup ts,fun M=>by show(vV (jY M k) ds).map Dt.tup=_;rw[q M];rfl⟩
theorem YK{d:D}(h:Dat 12 d)(M:Mem):Qx M d d=some true:=by
 obtain⟨t,q⟩:=h
 exact Yz (q M)
theorem Ed{M:Mem}{n m:Nat}{ds:List D}(h:∀d∈ds,Dat 11 d)(h1:M[n]? = some (.lst ds))(h2:M[m]? = some (.lst ds)):Qx M (.ref n) (.ref m)=some true:=by
 obtain⟨ts,q⟩:=Gm h
 have e:∀{n:Nat},M[n]? = some (.lst ds)→jY M 12 (.ref n)=some (.lst ts):=fun{n} h=>by
  show(match qD M n with | some ds=>(vV (jY M 11) ds).map Dt.lst | none=>none)=_
  rw[cN h]
  show(vV (jY M 11) ds).map Dt.lst=_
  rw[q M]
  rfl
 rw[Io (e h1) (e h2),C_]
theorem jF{xs ys:List D}{M:Mem}(h:xs≠[])(hl:xs.length+ys.length≤16777216):dj (.tup xs) (.tup ys) M= .ok (.tup (xs++ys)) M:=by
 refine(oK (oK rfl)).trans ((oK rfl).trans ?_)
 simp only[Ti]
 rw[if_pos ⟨by cases xs with | nil=>exact absurd rfl h | cons _ _=>rfl,by rw[m8];exact hl⟩]
theorem Yy{M:Mem}{n m:Nat}{ds es:List D}(h1:M[n]? = some (.lst ds))(h2:M[m]? = some (.lst es))(d1:∀d∈ds,Dat 11 d)(d2:∀d∈es,Dat 11 d)(hl:ds.length≠es.length):Qx M (.ref n) (.ref m)=some false:=by
 obtain⟨ts,q⟩:=Gm d1
 obtain⟨us,q'⟩:=Gm d2
 have e:∀{n:Nat} {ds:List D} {ts:List Dt},(∀M:Mem,vV (jY M 11) ds=some ts)→M[n]? = some (.lst ds)→jY M 12 (.ref n)=some (.lst ts):=fun{n ds ts} q h=>by
  show(match qD M n with | some ds=>(vV (jY M 11) ds).map Dt.lst | none=>none)=_
  rw[cN h]
  show(vV (jY M 11) ds).map Dt.lst=_
  rw[q M]
  rfl
 have len:∀{ds:List D} {ts:List Dt},vV (jY M 11) ds=some ts→ts.length=ds.length:=by
  intro ds
  induction ds with
  | nil=>intro ts h;cases h;rfl
  | cons d r ih=>
   intro ts h
   simp only[vV]at h
   split at h
   ·rename_i t u _ hr
    cases h
    simp[ih hr]
   ·cases h
 rw[Io (e q h1) (e q' h2)]
 have l1:=len (q M)
 have l2:=len (q' M)
 have:z_ ts us=false:=qP (by omega)
 simp only[cz,this]
theorem WY(ws:List (List Nat)):∀d∈ts ws,Dat 11 d:=fun d hd=>by
 obtain⟨w,_,rfl⟩:=List.mem_map.mp hd
 exact zX
theorem Zr:Fl "put" [("put",3),("add",3),("swap",4)]= .int 3:=by simp[Fl]
theorem Zt:Fl "add" [("put",3),("add",3),("swap",4)]= .int 3:=by
 have:¬(("add" : Str)= "put"):=by decide
 simp[Fl,this]
theorem W3:Fl "swap" [("put",3),("add",3),("swap",4)]= .int 4:=by
 have h1:¬(("swap" : Str)= "put"):=by decide
 have h2:¬(("swap" : Str)= "add"):=by decide
 simp[Fl,h1,h2]
def Od.k:Od→Str
 | .put _ _=> "put" | .add _ _=> "add" | .swap _ _ _=> "swap"
def Od.s:Od→List Nat
 | .put s _=>s | .add s _=>s | .swap s _ _=>s
def Od.ns:Od→List Int
 | .put _ n=>[n] | .add _ n=>[n] | .swap _ a n=>[a,n]
theorem Od.w_eq(o:Od):o.w=W o.k::o.s::o.ns.map aK:=by cases o<;>rfl
theorem Od.ajf(o:Od):o.d= .tup ([.str o.k,.str (gf o.s)]++o.ns.map D.int):=by cases o<;>rfl
theorem Od.tab(o:Od):Fl o.k [("put",3),("add",3),("swap",4)]= .int ((o.ns.length:Int)+2):=by
 cases o with
 | put=>exact Zr
 | add=>exact Zt
 | swap=>exact W3
theorem Od.nOk{o:Od}(h:o.Ok):ni o.s=true∧∀n∈o.ns,Sm n:=by
 cases o with
 | put s n=>exact⟨h.1,fun m hm=>by simp[Od.ns]at hm;subst hm;exact h.2⟩
 | add s n=>exact⟨h.1,fun m hm=>by simp[Od.ns]at hm;subst hm;exact h.2⟩
 | swap s a n=>exact⟨h.1,fun m hm=>by
   simp[Od.ns]at hm
   rcases hm with rfl | rfl
   ·exact h.2.1
   ·exact h.2.2⟩
theorem Jp{M:Mem}{r l y:Nat}{rows:List Str}{k:Int}(R:bV M r l rows k){o:Od}(ho:o.Ok)(hy:M[y]? = some (.lst (ts o.w))):∃M',sr [.ref r,.ref y] M= .ok o.d M'∧Gr M M':=by
 obtain⟨hs,hn⟩:=Od.nOk ho
 rw[Od.w_eq]at hy
 have i0:aR (.ref y) (.int 0) M= .ok (.str o.k) M:=by have:=n_ (k:=0) hy (j:=0) rfl rfl;simpa using this
 have ln:o9 [.ref y] M= .ok (.int ((o.ns.length:Int)+2)) M:=by rw[je hy];simp[ts];omega
 have s2:N6 (.ref y) (some 2) none M= .ok (.ref M.length) (M++[.lst (ts (o.ns.map aK))]):=by
  rw[FZ hy]
  have:cut (ts (W o.k::o.s::o.ns.map aK)) (some 2) none=ts (o.ns.map aK):=abI
  rw[this]
 obtain⟨M1,v_⟩:∃M1,M1=M++[MO.lst (ts (o.ns.map aK))]:=⟨_,rfl⟩
 have h1:M1[M.length]? = some (.lst (ts (o.ns.map aK))):=by rw[v_];exact aN
 have g1:Gr M M1:=by rw[v_];exact Gr.app
 rw[←v_]at s2
 obtain⟨z,M2,e2,h2,g2⟩:=JT (R.gr g1) o.ns hn h1
 have R2:=(R.gr g1).gr g2
 have i0':aR (.ref y) (.int 0) M2= .ok (.str o.k) M2:=by have:=n_ (k:=0) (g2 _ _ (g1 _ _ hy)) (j:=0) rfl rfl;simpa using this
 have i1:aR (.ref y) (.int 1) M2= .ok (.str (gf o.s)) M2:=n_ (g2 _ _ (g1 _ _ hy)) (j:=1) rfl rfl
 obtain⟨M3,e3,g3⟩:=TY R2 hs (T3 hs)
 have e4:rm [.ref z] M3= .ok (.tup (o.ns.map D.int)) M3:=pG (g3 _ _ h2)
 have hnl:o.ns.length≤2:=by cases o<;>simp[Od.ns]
 have e5:dj (.tup [.str o.k,.str (gf o.s)]) (.tup (o.ns.map D.int)) M3= .ok o.d M3:=by
  rw[jF (by simp) (by simp;omega),Od.ajf]
 refine⟨M3,?_,(g1.trans g2).trans g3⟩
 simp only[sr,jB,yS]
 have ec:o6 [0] [some (D.ref r),some (.ref y),none]=[some (.ref r)]:=rfl
 simp[i0,Od.tab,ln,s2,qF h1,ec,e2,i0',i1,R2.me (m:= "name") rfl,e3,e4,e5]
theorem K8{M:Mem}{r l y:Nat}{rows:List Str}{k:Int}(R:bV M r l rows k){x:Wt}(hx:x.Ok)(hy:M[y]? = some (.lst (ts x.w))):∃M',nQ [.ref r,.ref y] M= .ok x.d M'∧Gr M M':=by
 obtain⟨M1,v_⟩:∃M1,M1=M++[MO.lst [D.str "start"]]:=⟨_,rfl⟩
 have h1:M1[M.length]? = some (.lst [D.str "start"]):=by rw[v_];exact aN
 have g1:Gr M M1:=by rw[v_];exact Gr.app
 have y1:=g1 _ _ hy
 have R1:=R.gr g1
 cases x with
 | start=>
  refine⟨M1,?_,g1⟩
  have hy':M1[y]? = some (.lst [D.str "start"]):=by simpa[ts,Wt.w]using y1
  have e:sEq (.ref y) (.ref M.length) M1= .ok (.bl true) M1:=A_ (Ed (ds:=[D.str "start"]) (fun d hd=>by simp at hd;subst hd;exact zX) hy' h1)
  simp only[nQ,iJ,pZ]
  simp[←v_,e,Wt.d]
 | roll a b=>
  have e:sEq (.ref y) (.ref M.length) M1= .ok (.bl false) M1:=A_ (Yy y1 h1 (WY _) (fun d hd=>by simp at hd;subst hd;exact zX) (by simp[ts,Wt.w]))
  have ln:o9 [.ref y] M1= .ok (.int 3) M1:=by rw[je y1];simp[ts,Wt.w]
  have i0:aR (.ref y) (.int 0) M1= .ok (.str "roll") M1:=by have:=n_ (k:=0) y1 (j:=0) rfl rfl;simpa using this
  have i1:aR (.ref y) (.int 1) M1= .ok (.str (gf (aK a))) M1:=n_ y1 (j:=1) rfl rfl
  have i2:aR (.ref y) (.int 2) M1= .ok (.str (gf (aK b))) M1:=n_ y1 (j:=2) rfl rfl
  obtain⟨M2,e2,g2⟩:=Uv R1 hx.1 hx.2.1 hx.2.2.1 hx.2.2.2
  refine⟨M2,?_,g1.trans g2⟩
  have e3:dj (.tup [.str "roll"]) (.tup [.int a,.int b]) M2= .ok (Wt.roll a b).d M2:=jF (by simp) (by simp)
  simp only[nQ,iJ,pZ,vC]
  simp[←v_,e,ln,i0,i1,i2,R1.me (m:= "both_sets") rfl,e2,e3]
 | ask a n o=>
  have hl:(ts (Wt.ask a n o).w).length=o.w.length+3:=by simp[ts,Wt.w]
  have ho:3≤o.w.length:=by rw[Od.w_eq];cases o<;>simp[Od.ns]
  have e:sEq (.ref y) (.ref M.length) M1= .ok (.bl false) M1:=A_ (Yy y1 h1 (WY _) (fun d hd=>by simp at hd;subst hd;exact zX) (by rw[hl];simp))
  have ln:o9 [.ref y] M1= .ok (.int ((o.w.length:Int)+3)) M1:=by rw[je y1,hl];simp
  have n3:¬((o.w.length:Int)+3=3):=by omega
  have n4:(3:Int)<(o.w.length:Int)+3:=by omega
  have i0:aR (.ref y) (.int 0) M1= .ok (.str "ask") M1:=by have:=n_ (k:=0) y1 (j:=0) rfl rfl;simpa using this
  have i1:aR (.ref y) (.int 1) M1= .ok (.str (gf (aK a))) M1:=n_ y1 (j:=1) rfl rfl
  obtain⟨M2,e2,g2⟩:=vN R1 hx.1
  have R2:=R1.gr g2
  have i2:aR (.ref y) (.int 2) M2= .ok (.str (gf (aK n))) M2:=n_ (g2 _ _ y1) (j:=2) rfl rfl
  obtain⟨M3,e3,g3⟩:=vN R2 hx.2.1
  have R3:=R2.gr g3
  have s3:N6 (.ref y) (some 3) none M3= .ok (.ref M3.length) (M3++[.lst (ts o.w)]):=by
   rw[FZ (g3 _ _ (g2 _ _ y1))]
   have:cut (ts (Wt.ask a n o).w) (some 3) none=ts o.w:=ajg
   rw[this]
  obtain⟨M4,Pz⟩:∃M4,M4=M3++[MO.lst (ts o.w)]:=⟨_,rfl⟩
  have h4:M4[M3.length]? = some (.lst (ts o.w)):=by rw[Pz];exact aN
  have g4:Gr M3 M4:=by rw[Pz];exact Gr.app
  rw[←Pz]at s3
  obtain⟨M5,e5,g5⟩:=Jp (R3.gr g4) hx.2.2 h4
  refine⟨M5,?_,(((g1.trans g2).trans g3).trans g4).trans g5⟩
  simp only[nQ,iJ,pZ,vC,Ai]
  simp[←v_,e,ln,n3,n4,i0,i1,i2,R1.me (m:= "whole") rfl,e2,R2.me (m:= "whole") rfl,e3,s3,e5,Wt.d]
theorem YD{M:Mem}{r l q i:Nat}{di:List (List (List Nat))}{done:List (Int×Wt)}{p:Int×Wt}{y2 y3:Option D}(R:bV M r l (di.map b8) ((i:Int)+1))(hw:di[i]? = some (yj p))(hp:JD p)
  (hq:M[q]? = some (.lst (done.map Jh))) (hd:done.length<1000) (Py:q≠r) (hql:q≠l):
  ∃M0 M' x,gn [some (.ref r),some (.ref q),y2,y3] M= .ok true M0∧lD [some (.ref r),some (.ref q),y2,y3] M0= .next [some (.ref r),some (.ref q),some (.ref x),some p.2.d] M'∧
   bV M' r l (di.map b8) ((i:Int)+1+1)∧M'[q]? = some (.lst ((done++[p]).map Jh))∧Ch (fun j=>j=r∨j=q) M M':=by
 obtain⟨M0,e0,g0⟩:=pP R rfl hw (Iu hp) "at"
 have R0:=R.gr g0
 obtain⟨x,M1,e1,h1,g1⟩:=UW R0 rfl hw (Iu hp)
 have R1:=R0.gr g1
 have s1:N6 (.ref x) (some 2) none M1= .ok (.ref M1.length) (M1++[.lst (ts p.2.w)]):=by
  rw[FZ h1]
  have:cut (ts (yj p)) (some 2) none=ts p.2.w:=abI
  rw[this]
 obtain⟨M2,yr⟩:∃M2,M2=M1++[MO.lst (ts p.2.w)]:=⟨_,rfl⟩
 have h2:M2[M1.length]? = some (.lst (ts p.2.w)):=by rw[yr];exact aN
 have g2:Gr M1 M2:=by rw[yr];exact Gr.app
 rw[←yr]at s1
 have R2:=R1.gr g2
 obtain⟨M3,e3,g3⟩:=K8 R2 hp.2.2 h2
 have R3:=R2.gr g3
 have i1:aR (.ref x) (.int 1) M3= .ok (.str (gf (aK p.1))) M3:=n_ (g3 _ _ (g2 _ _ h1)) (j:=1) rfl rfl
 obtain⟨M4,e4,g4⟩:=j7 R3 hp.2.1 hp.1
 have R4:=R3.gr g4
 have q4:=g4 _ _ (g3 _ _ (g2 _ _ (g1 _ _ (g0 _ _ hq))))
 have e5:=ji (d:=Jh p) q4 (by rw[List.length_map];omega)
 have t4:FP "list" (.ref q) M3=true:=g_ (g3 _ _ (g2 _ _ (g1 _ _ (g0 _ _ hq))))
 obtain⟨M5,hM5⟩:∃M5,M5=M4.set q (.lst (done.map Jh++[Jh p])):=⟨_,rfl⟩
 have q5:M5[q]? = some (.lst ((done++[p]).map Jh)):=by rw[hM5,get_set q4];simp
 have c5:Ch (fun j=>j=r∨j=q) M4 M5:=by rw[hM5];exact Ch.set (.inr rfl)
 have R5:bV M5 r l (di.map b8) ((i:Int)+1):=by
  have c:Ch (· = q) M4 M5:=by rw[hM5];exact Ch.set rfl
  exact R4.ch c (Ne.symm Py) (Ne.symm hql)
 obtain⟨M6,e6,R6,c6,_⟩:=yU R5
 refine⟨M0,M6,x,?_,?_,R6,c6.2 _ _ Py q5,((((g0.trans g1).trans g2).trans g3).trans g4).ch.trans (c5.trans (c6.mono fun j _ z=> .inl z))⟩
 ·simp only[gn]
  simp[R.me (m:= "begins") rfl,e0]
 ·simp only[lD]
  rw[←hM5]at e5
  simp only[Jh]at e5 ⊢
  simp[R0.me (m:= "words") rfl,e1,s1,e3,i1,R3.me (m:= "from_nought") rfl,e4,t4,e5,R5.me (m:= "go_on") rfl,e6]
theorem YF{M:Mem}{r l i:Nat}{di:List (List (List Nat))}{w:List Nat}{tl:List (List Nat)}{y1 y2 y3:Option D}(R:bV M r l (di.map b8) ((i:Int)+1))(hw:di[i]? = some (w::tl))(hp:Br (w::tl))(hn:gf w≠ "at"):
  ∃M',gn [some (.ref r),y1,y2,y3] M= .ok false M'∧Gr M M':=by
 obtain⟨M0,e0,g0⟩:=pP R rfl hw hp "at"
 refine⟨M0,?_,g0⟩
 simp only[gn]
 simp[R.me (m:= "begins") rfl,e0,hn]
theorem PK{r l q:Nat}{di more:List (List (List Nat))}{w:List Nat}{tl:List (List Nat)}(Py:q≠r)(hql:q≠l)(hp:Br (w::tl))(hn:gf w≠ "at"):∀(rest done:List (Int×Wt)) (i:Nat) (M:Mem) (y2 y3:Option D),
  bV M r l (di.map b8) ((i:Int)+1)→M[q]? = some (.lst (done.map Jh))→di.drop i=rest.map yj++(w::tl)::more→(∀p∈rest,JD p)→(done++rest).length<1000→
  ∃M' y2' y3',Dh gn lD (rest.length+1) [some (.ref r),some (.ref q),y2,y3] M= .next [some (.ref r),some (.ref q),y2',y3'] M'∧bV M' r l (di.map b8) ((i:Int)+rest.length+1)∧M'[q]? = some (.lst ((done++rest).map Jh))∧Ch (fun j=>j=r∨j=q) M M'
 | [],done,i,M,y2,y3,R,hq,hd,_,_=>by
  obtain⟨hw,_⟩:=wD (by simpa using hd)
  obtain⟨M0,e0,g0⟩:=YF (y1:=some (.ref q)) (y2:=y2) (y3:=y3) R hw hp hn
  refine⟨M0,y2,y3,?_,by simpa using R.gr g0,by simpa using g0 _ _ hq,g0.ch⟩
  unfold Dh
  rw[e0]
 | p::rest,done,i,M,y2,y3,R,hq,hd,ho,hl=>by
  obtain⟨hw,hd'⟩:=wD (show di.drop i=yj p::(rest.map yj++(w::tl)::more) by simpa using hd)
  obtain⟨M0,M1,x,e0,e1,R1,q1,c1⟩:=YD (y2:=y2) (y3:=y3) R hw (ho p (by simp)) hq (by simp at hl;omega) Py hql
  obtain⟨M2,z2,z3,e2,R2,q2,c2⟩:=PK Py hql hp hn rest (done++[p]) (i+1) M1 (some (.ref x)) (some p.2.d) (by simpa using R1) q1 hd' (fun a ha=>ho a (by simp[ha])) (by simpa using hl)
  refine⟨M2,z2,z3,?_,?_,by simpa using q2,c1.trans c2⟩
  ·show Dh _ _ (rest.length+1+1) _ _=_
   rw[Dh,e0]
   simp only[e1]
   exact e2
  ·have e:((i+1:Nat):Int)+rest.length+1=(i:Int)+((p::rest).length:Nat)+1:=by simp;omega
   rw[←e];exact R2
theorem Ft{M:Mem}{r l i:Nat}{di more:List (List (List Nat))}{w:List Nat}{tl:List (List Nat)}{es:List (Int×Wt)}(R:bV M r l (di.map b8) ((i:Int)+1))(hd:di.drop i=es.map yj++(w::tl)::more)(hp:Br (w::tl))(hn:gf w≠ "at")
  (hv:∀p∈es,JD p) (hl:es.length<1000):∃q M',oM [.ref r] M= .ok (.ref q) M'∧M'[q]? = some (.lst (es.map Jh))∧bV M' r l (di.map b8) ((i:Int)+es.length+1)∧Ch (· = r) M M':=by
 have R0:bV (M++[.lst []]) r l (di.map b8) ((i:Int)+1):=R.gr Gr.app
 have hr:=eE R.o
 have hll:=eE R.k
 obtain⟨M',y2,y3,e,R',q',c⟩:=PK (q:=M.length) (by omega) (by omega) hp hn es [] i (M++[.lst []]) none none R0 (by simp) hd hv (by simpa using hl)
 refine⟨M.length,M',?_,q',R',⟨Nat.le_trans (by simp) c.1,fun j o nj h=>c.2 j o (fun z=>by have:=eE h;rcases z with z | z<;>omega) (Gr.app _ _ h)⟩⟩
 simp only[oM,gM,vO]
 have ew:=Du e (fun z=>nomatch z)
 simp[ew]
theorem Zf{B:Bk}:B.di[B.body.length]? = some [W "end",aK B.body.length]:=by simp[Bk.di]
theorem finish_ok{M:Mem}{r l:Nat}{B:Bk}(h:B.Ok){k:Int}(hk:k=(B.body.length:Int)+1)(R:bV M r l (B.di.map b8) k):∃M',m7 [.ref r] M= .ok .non M'∧Gr M M':=by
 obtain⟨x,M1,e1,h1,g1⟩:=n6 R hk Zf (CZ h) (b:= "end") (HJ _) (n:=2) rfl
 have R1:=R.gr g1
 have i1:aR (.ref x) (.int 1) M1= .ok (.str (gf (aK B.body.length))) M1:=n_ h1 (j:=1) rfl rfl
 have hb:=(zA h).2
 obtain⟨M2,e2,g2⟩:=vN R1 (n:=(B.body.length:Int)) (by omega)
 have R2:=R1.gr g2
 have hl:o9 [.ref l] M2= .ok (.int k) M2:=by
  rw[je R2.k,hk];simp[Bk.di]
 have n1:k - 1=(B.body.length:Int):=by omega
 refine⟨M2,?_,g1.trans g2⟩
 simp only[m7,fO,vf,u_]
 simp[R.me (m:= "words_of") rfl,e1,i1,R1.me (m:= "whole") rfl,e2,R2.fh,n1,R2.fr,hl]
theorem zT:(("end" : Str)≠ "value" ∧ ("end" : Str)≠ "answer" ∧ ("end" : Str)≠ "at")∧(("at" : Str)≠ "value" ∧ ("at" : Str)≠ "answer")∧("answer" : Str)≠ "value" := by decide
theorem Ci{M:Mem}{B:Bk}(h:B.Ok):∃k r l M',qt [.str B.text] M= .ok (.ref k) M'∧yp M' k r l B.tm B.vd B.b B.bt B.roll B.kept B.ents∧Gr M M'∧M.length≤k∧M.length≤r∧M.length≤l:=by
 have hb:=zA h
 have hlen:B.di.length≤300:=by simp[Bk.di];omega
 have hw:=Kr h
 have hT:B.text.length+2≤16777216:=by have:=text_len hw hlen;unfold Bk.text;omega
 obtain⟨M1,e1,R1,g1,z1⟩:=ZR (M:=M) hT
 have hs:Txt.split B.text "\n" = B.di.map b8:=QS (by simp[Bk.di]) hw
 rw[hs]at R1
 obtain⟨M2,e2,R2,c2⟩:=K9 h R1
 obtain⟨M3,e3,R3,c3⟩:=K_ h R2
 have d0:B.di.drop 2=B.vs.map zZ++(B.as.map Aa++(B.es.map yj++[[W "end",aK B.body.length]])):=by simp[Bk.di,Bk.body]
 have dE:∀n:Nat,n=2+B.vs.length+B.as.length→B.di.drop n=B.es.map yj++[[W "end",aK B.body.length]]:=fun n hn=>by
  subst hn
  rw[show 2+B.vs.length+B.as.length=(2+B.vs.length)+B.as.length from rfl,←List.drop_drop,←List.drop_drop,d0,List.drop_left' (by simp),List.drop_left' (by simp)]
 have dA:B.di.drop (2+B.vs.length)=B.as.map Aa++(B.es.map yj++[[W "end",aK B.body.length]]):=by
  rw[←List.drop_drop,d0,List.drop_left' (by simp)]
 have sv:∃M4,lU [.ref M.length] M3= .ok (.tup (B.vs.map zJ)) M4∧bV M4 M.length (M.length+1) (B.di.map b8) (((2+B.vs.length:Nat):Int)+1)∧Ch (· = M.length) M3 M4:=by
  have hl:B.vs.length<1000:=by have:=h.lv;omega
  have fin:∀{M4:Mem},bV M4 M.length (M.length+1) (B.di.map b8) (((2:Nat):Int)+B.vs.length+1)→bV M4 M.length (M.length+1) (B.di.map b8) (((2+B.vs.length:Nat):Int)+1):=fun{M4} R=>by
   have:((2:Nat):Int)+B.vs.length+1=((2+B.vs.length:Nat):Int)+1:=by omega
   rw[←this];exact R
  cases ea:B.as with
  | cons a ar=>
   have dd:B.di.drop 2=B.vs.map zZ++(Aa a)::(ar.map Aa++(B.es.map yj++[[W "end",aK B.body.length]])):=by rw[d0,ea];simp
   obtain⟨M4,e,R,c⟩:=tM (i:=2) R3 (w:=W "answer") (tl:=[aK a.1.1,aK a.1.2,aK a.2]) dd (MN (h.as a (by rw[ea];simp))) (by simp;exact zT.2.2) h.vs h.vo hl
   exact⟨M4,e,fin R,c⟩
  | nil=>
   cases ee:B.es with
   | cons p pr=>
    have dd:B.di.drop 2=B.vs.map zZ++(yj p)::(pr.map yj++[[W "end",aK B.body.length]]):=by rw[d0,ea,ee];simp
    obtain⟨M4,e,R,c⟩:=tM (i:=2) R3 (w:=W "at") (tl:=aK p.1::p.2.w) dd (Iu (h.es p (by rw[ee];simp))) (by simp;exact zT.2.1.1) h.vs h.vo hl
    exact⟨M4,e,fin R,c⟩
   | nil=>
    have dd:B.di.drop 2=B.vs.map zZ++[W "end",aK B.body.length]::[]:=by rw[d0,ea,ee];simp
    obtain⟨M4,e,R,c⟩:=tM (i:=2) R3 (w:=W "end") dd (CZ h) (by simp;exact zT.1.1) h.vs h.vo hl
    exact⟨M4,e,fin R,c⟩
 obtain⟨M4,e4,R4,c4⟩:=sv
 have sa:∃M5,j5 [.ref M.length] M4= .ok (.tup (B.as.map Am)) M5∧bV M5 M.length (M.length+1) (B.di.map b8) (((2+B.vs.length+B.as.length:Nat):Int)+1)∧Ch (· = M.length) M4 M5:=by
  have hl:B.as.length<1000:=by have:=h.la;omega
  have fin:∀{M5:Mem},bV M5 M.length (M.length+1) (B.di.map b8) (((2+B.vs.length:Nat):Int)+B.as.length+1)→bV M5 M.length (M.length+1) (B.di.map b8) (((2+B.vs.length+B.as.length:Nat):Int)+1):=fun{M5} R=>by
   have:((2+B.vs.length:Nat):Int)+B.as.length+1=((2+B.vs.length+B.as.length:Nat):Int)+1:=by omega
   rw[←this];exact R
  cases ee:B.es with
  | cons p pr=>
   have dd:B.di.drop (2+B.vs.length)=B.as.map Aa++(yj p)::(pr.map yj++[[W "end",aK B.body.length]]):=by rw[dA,ee];simp
   obtain⟨M5,e,R,c⟩:=xT R4 (w:=W "at") (tl:=aK p.1::p.2.w) dd (Iu (h.es p (by rw[ee];simp))) (by simp;exact zT.2.1.2) h.as h.ao hl
   exact⟨M5,e,fin R,c⟩
  | nil=>
   have dd:B.di.drop (2+B.vs.length)=B.as.map Aa++[W "end",aK B.body.length]::[]:=by rw[dA,ee];simp
   obtain⟨M5,e,R,c⟩:=xT R4 (w:=W "end") dd (CZ h) (by simp;exact zT.1.2.1) h.as h.ao hl
   exact⟨M5,e,fin R,c⟩
 obtain⟨M5,e5,R5,c5⟩:=sa
 obtain⟨q,M6,e6,q6,R6,c6⟩:=Ft R5 (w:=W "end") (tl:=[aK B.body.length]) (more:=[]) (dE _ rfl) (CZ h) (by simp;exact zT.1.2.2) h.es (by have:=h.le;omega)
 obtain⟨M7,e7,Rw,g7⟩:=Ly (M:=M6) (b:=B.b) (bt:=B.bt) (br:=B.roll) q6
 have R7:=R6.gr g7
 obtain⟨M8,e8,g8⟩:=finish_ok h (by rw[hb.1];omega) R7
 have Rw8:=Rw.gr g8
 obtain⟨M9,e9,Bk9,g9⟩:=Uw (tm:=B.tm) (vt:=B.vd) (kept:=B.kept) Rw8
 have hle:M.length≤M6.length:=by
  have:=g1.le
  have:=c2.1
  have:=c3.1
  have:=c4.1
  have:=c5.1
  have:=c6.1
  omega
 have ap3:M.length≤M8.length:=by
  have:=g7.le
  have:=g8.le
  omega
 refine⟨_,_,_,M9,?_,Bk9,?_,ap3,by omega,by omega⟩
 ·simp only[qt,jj]
  simp[e1,e2,e3,e4,e5,e6,e7,R7.me (m:= "finish") rfl,e8,Bk.roll]at e7 e9 ⊢
  simp[e7,R7.me (m:= "finish") rfl,e8,Bk.kept]at e9 ⊢
  simp[e9]
 ·refine Gr.trans (M1:=M6) ?_ ((g7.trans g8).trans g9)
  have c26:=((((c2.trans c3).trans c4).trans c5).trans c6)
  exact fun i o hi=>c26.2 i o (Nat.ne_of_lt (eE hi)) (g1 _ _ hi)
inductive Pt where
 | n (i:Int) | s (w:List Nat) | no
def Pt.d:Pt→D
 | .n i=> .int i
 | .s w=> .str (gf w)
 | .no=> .non
def Pt.w:Pt→List Nat
 | .n i=>aK i
 | .s w=>w
 | .no=>W "None"
def Pt.Ok:Pt→Prop
 | .n i=>Sm i
 | .s w=>Wd w
 | .no=>True
theorem abr{p:Pt}(h:p.Ok):Wd p.w:=by
 cases p with
 | n i=>exact iM h
 | s w=>exact h
 | no=>exact lC (s:= "None") (by decide)
def Zw:D→D
 | .int i=> .str (toString i)
 | .non=> .str "None"
 | d=>d
theorem Qg{M:Mem}{src:Option (Nat×List D)}(ps:List Pt)(h:∀p∈ps,p.Ok)(hs:jX src M):uI src sE (yq KR (aq (aA 0) aF)) [] (ps.map Pt.d) [] M= .ok (.ref M.length) (M++[.lst (ts (ps.map Pt.w))]):=by
 rw[Qf Zw hs]
 ·congr 3
  congr 1
  simp only[List.map_map,ts]
  refine List.map_congr_left fun p hp=> ?_
  cases p with
  | n i=>
   show D.str (Str.ofString (toString i))=D.str (gf (aK i))
   rw[aap]
  | s w=>rfl
  | no=>
   show D.str "None" = D.str (gf (W "None"))
   rw[HJ]
 ·intro d hd
  obtain⟨p,hp,rfl⟩:=List.mem_map.mp hd
  cases p with
  | n i=>simp[Pt.d,aci (Ve (h _ hp)),Zw]
  | s w=>simp[Pt.d,Zw]
  | no=>simp[Pt.d,Zw]
theorem Rz{c:Nat}{n:Nat}{texts:List Str}(hB:∀y∈texts,y.length≤n)(h:texts.length*n+texts.length*1≤16777216):JoinOk ⟨#[c]⟩ texts=true:=by
 have:=StrLaws.joinFits (sep:=⟨#[c]⟩) (B:=n) hB h
 unfold JoinOk
 rw[this];rfl
theorem Pg{M:Mem}{n:Nat}{ws:List (List Nat)}(hM:M[n]? = some (.lst (ts ws)))(h:Br ws):yG (.str " ") [.ref n] M= .ok (.str (b8 ws)) M:=by
 have hk:JoinOk " " (ws.map gf)=true:=by
  rw[YW]
  refine Rz (n:=50) (fun y hy=> ?_) (by have:=h.2.1;simp;omega)
  obtain⟨w,hw,rfl⟩:=List.mem_map.mp hy
  rw[jy,cQ]
  exact(h.2.2 w hw).2.2
 exact Hh (by rw[abk];exact hM) hk
theorem pB{M:Mem}(ps:List Pt)(h:∀p∈ps,p.Ok)(h0:ps≠[])(hl:ps.length≤20):∃M',cO [.tup (ps.map Pt.d)] M= .ok (.str (b8 (ps.map Pt.w))) M'∧Gr M M':=by
 have e1:=Qg (src:=none) (M:=M) ps h trivial
 obtain⟨M1,v_⟩:∃M1,M1=M++[MO.lst (ts (ps.map Pt.w))]:=⟨_,rfl⟩
 have h1:M1[M.length]? = some (.lst (ts (ps.map Pt.w))):=by rw[v_];exact aN
 rw[←v_]at e1
 have hw:Br (ps.map Pt.w):=yw (by simpa using h0) (by simpa using hl) fun w hw=>by
  obtain⟨p,hp,rfl⟩:=List.mem_map.mp hw
  exact abr (h p hp)
 refine⟨M1,?_,by rw[v_];exact Gr.app⟩
 simp only[cO,jM]
 have ec:o6 [] [some (D.tup (ps.map Pt.d))]=[]:=rfl
 simp[ec,e1,FP,Pg h1 hw]
theorem Bj{α:Type}{M:Mem}{src:Option (Nat×List D)}{te:ME}{ce:Sl}(xs:List α)(gd fd:α→D)(hs:∀M',Gr M M'→jX src M')(hf:∀x∈xs,∀M',Gr M M'→∃M2,te (some (gd x)::ce) M'= .ok (fd x) M2∧Gr M' M2):
  ∃x M',uI src sE te ce (xs.map gd) [] M= .ok (.ref x) M'∧M'[x]? = some (.lst (xs.map fd))∧Gr M M'∧M.length≤x:=by
 obtain⟨ys,M',e,hy,g⟩:=Dd (src:=src) (tt:=sE) (te:=te) (ce:=ce) (fun i ys M'=>ys=(xs.take i).map fd∧Gr M M') (xs.map gd) 0 (ys:=[]) (M:=M) ⟨by simp,Gr.refl⟩
  (fun i ys M' _ _ h=>hs M' h.2) (fun i d ys M2 hd h=>by
   obtain⟨h1,h2⟩:=h
   rw[Nat.zero_add]at h1 ⊢
   rw[List.getElem?_map]at hd
   obtain⟨x,hx,rfl⟩:=Option.map_eq_some_iff.mp hd
   obtain⟨M3,e3,g3⟩:=hf x (List.mem_of_getElem? hx) M2 h2
   refine⟨true,M2,rfl,.inr ⟨rfl,fd x,M3,e3,?_,h2.trans g3⟩⟩
   rw[h1,List.take_add_one,hx];simp)
 refine⟨_,_,e,?_,g.trans Gr.app,g.le⟩
 rw[aN,hy,Nat.zero_add,List.length_map,List.take_length]
def U7(p:List Nat×Int):List Pt:=[.s (W "value"),.s p.1,.n p.2]
def Wk(p:(Int×Int)×Int):List Pt:=[.s (W "answer"),.n p.1.1,.n p.1.2,.n p.2]
def Od.p(o:Od):List Pt:= .s (W o.k):: .s o.s::o.ns.map Pt.n
def Wt.p:Wt→List Pt
 | .start=>[.s (W "start")]
 | .roll a b=>[.s (W "roll"),.n a,.n b]
 | .ask w n o=> .s (W "ask"):: .n w:: .n n::o.p
def Iv(p:Int×Wt):List Pt:= .s (W "at"):: .n p.1::p.2.p
theorem Od.p_w(o:Od):o.p.map Pt.w=o.w:=by rw[Od.w_eq];simp[Od.p,Pt.w]
theorem Od.p_d(o:Od): .tup (o.p.map Pt.d)=o.d:=by rw[Od.ajf];simp[Od.p,Pt.d]
theorem Wt.p_w(x:Wt):x.p.map Pt.w=x.w:=by
 cases x with
 | ask w n o=>simp[Wt.p,Wt.w,Pt.w,Od.p_w]
 | _=>rfl
theorem aao(o:Od):Wd (W o.k):=by
 cases o with
 | put=>exact lC (s:= "put") (by decide)
 | add=>exact lC (s:= "add") (by decide)
 | swap=>exact lC (s:= "swap") (by decide)
@[simp] theorem Pt.d_n(i:Int):(Pt.n i).d= .int i:=rfl
@[simp] theorem Pt.d_s(w:List Nat):(Pt.s w).d= .str (gf w):=rfl
@[simp] theorem Pt.at6:Pt.no.d= .non:=rfl
@[simp] theorem Pt.asd:Pt.no.w=W "None" := rfl
@[simp] theorem Pt.w_n(i:Int):(Pt.n i).w=aK i:=rfl
@[simp] theorem Pt.w_s(w:List Nat):(Pt.s w).w=w:=rfl
theorem aan{o:Od}(h:o.Ok):∀p∈o.p,p.Ok:=by
 obtain⟨h1,h2⟩:=Od.nOk h
 intro p hp
 simp only[Od.p,List.mem_cons,List.mem_map]at hp
 rcases hp with rfl | rfl | ⟨n,hn,rfl⟩
 ·exact aao o
 ·exact yx h1
 ·exact h2 n hn
theorem Ze{x:Wt}(h:x.Ok):∀p∈x.p,p.Ok:=by
 cases x with
 | start=>intro p hp;simp[Wt.p]at hp;subst hp;exact lC (by decide)
 | roll a b=>
  have:=Oi h
  intro p hp
  simp[Wt.p]at hp
  rcases hp with rfl | rfl | rfl
  ·exact lC (by decide)
  ·exact this.1
  ·exact this.2
 | ask w n o=>
  intro p hp
  simp only[Wt.p,List.mem_cons]at hp
  rcases hp with rfl | rfl | rfl | hp
  ·exact lC (by decide)
  ·exact h.1
  ·exact h.2.1
  ·exact aan h.2.2 p hp
theorem Gv(x:Wt):x.p.length≤7:=by
 have:x.p.length=x.w.length:=by rw[←Wt.p_w];simp
 rw[this];exact WL x
theorem Mp{p:Int×Wt}(h:JD p):∀q∈Iv p,q.Ok:=by
 intro q hq
 simp only[Iv,List.mem_cons]at hq
 rcases hq with rfl | rfl | hq
 ·exact lC (by decide)
 ·exact h.2.1
 ·exact Ze h.2.2 q hq
theorem V7{p:Int×Wt}(h:JD p)(M:Mem):∃M',cO [.tup ((Iv p).map Pt.d)] M= .ok (.str (b8 (yj p))) M'∧Gr M M':=by
 obtain⟨M',e,g⟩:=pB (M:=M) (Iv p) (Mp h) (by simp[Iv]) (by have:=Gv p.2;simp[Iv];omega)
 refine⟨M',?_,g⟩
 rw[e]
 simp[Iv,yj,Pt.w,Wt.p_w]
theorem U6{p:List Nat×Int}(h:M_ p)(M:Mem):∃M',cO [.tup [.str "value",.str (gf p.1),.int p.2]] M= .ok (.str (b8 (zZ p))) M'∧Gr M M':=by
 obtain⟨M',e,g⟩:=pB (M:=M) (U7 p) (by
  intro q hq
  simp[U7]at hq
  rcases hq with rfl | rfl | rfl
  ·exact lC (by decide)
  ·exact yx h.1
  ·exact h.2.1) (by simp[U7]) (by simp[U7])
 refine⟨M',?_,g⟩
 simpa[U7,zZ,Pt.d,Pt.w]using e
theorem Wj{p:(Int×Int)×Int}(h:Jg p)(M:Mem):∃M',cO [.tup [.str "answer",.int p.1.1,.int p.1.2,.int p.2]] M= .ok (.str (b8 (Aa p))) M'∧Gr M M':=by
 obtain⟨M',e,g⟩:=pB (M:=M) (Wk p) (by
  intro q hq
  simp[Wk]at hq
  rcases hq with rfl | rfl | rfl | rfl
  ·exact lC (by decide)
  ·exact h.1
  ·exact h.2.1
  ·exact h.2.2) (by simp[Wk]) (by simp[Wk])
 refine⟨M',?_,g⟩
 simpa[Wk,Aa,Pt.d,Pt.w]using e
def Bk.vp(B:Bk):Pt:=match B.vt with
 | none=> .s (W "-")
 | some v=> .n v
theorem V2{B:Bk}(h:B.Ok)(M:Mem):∃M',cO [.tup [.str "book",.int B.tm,B.vp.d]] M= .ok (.str (b8 [W "book",aK B.tm,B.vw])) M'∧Gr M M':=by
 have hv:B.vp.Ok:=by
  unfold Bk.vp
  split
  ·exact lC (by decide)
  ·rename_i v e
   have:=h.vt v e
   show Sm v
   unfold Sm;omega
 have hw:B.vp.w=B.vw:=by unfold Bk.vp Bk.vw;cases B.vt<;>rfl
 obtain⟨M',e,g⟩:=pB (M:=M) [.s (W "book"),.n B.tm,B.vp] (by
  intro q hq
  simp at hq
  rcases hq with rfl | rfl | rfl
  ·exact lC (by decide)
  ·exact h.tm.2
  ·exact hv) (by simp) (by simp)
 refine⟨M',?_,g⟩
 simpa[hw]using e
theorem Wg{B:Bk}(h:B.Ok)(M:Mem):∃M',cO [.tup [.str "base",.int B.b,.int B.bt,.int B.r1,.int B.r2]] M= .ok (.str (b8 [W "base",aK B.b,aK B.bt,aK B.r1,aK B.r2])) M'∧Gr M M':=by
 have:=Oi h.ro
 obtain⟨M',e,g⟩:=pB (M:=M) [.s (W "base"),.n B.b,.n B.bt,.n B.r1,.n B.r2] (by
  intro q hq
  simp at hq
  rcases hq with rfl | rfl | rfl | rfl | rfl
  ·exact lC (by decide)
  ·exact h.b.2
  ·exact h.bt.2
  ·exact this.1
  ·exact this.2) (by simp) (by simp)
 refine⟨M',?_,g⟩
 simpa[Pt.d,Pt.w]using e
theorem RQ{n:Int}(h:Sm n)(M:Mem):∃M',cO [.tup [.str "end",.int n]] M= .ok (.str (b8 [W "end",aK n])) M'∧Gr M M':=by
 obtain⟨M',e,g⟩:=pB (M:=M) [.s (W "end"),.n n] (by
  intro q hq
  simp at hq
  rcases hq with rfl | rfl
  ·exact lC (by decide)
  ·exact h) (by simp) (by simp)
 refine⟨M',?_,g⟩
 simpa[Pt.d,Pt.w]using e
theorem XN{p:Int×Wt}{M:Mem}:jP [Jh p] M= .ok (.tup ((Iv p).map Pt.d)) M:=by
 obtain⟨t,x⟩:=p
 simp only[jP,iY,x_,Jh]
 cases x with
 | start=>
  have h:¬(("start" : Str)= "ask"):=by decide
  have e:dj (.tup [.str "at",.int t]) (.tup [.str "start"]) M= .ok (.tup [.str "at",.int t,.str "start"]) M:=jF (by simp) (by simp)
  simp[Wt.d,h,e,Iv,Wt.p,Pt.d]
 | roll a b=>
  have h:¬(("roll" : Str)= "ask"):=by decide
  have e:dj (.tup [.str "at",.int t]) (.tup [.str "roll",.int a,.int b]) M= .ok (.tup [.str "at",.int t,.str "roll",.int a,.int b]) M:=jF (by simp) (by simp)
  simp[Wt.d,h,e,Iv,Wt.p,Pt.d]
 | ask w n o=>
  have e:dj (.tup [.str "at",.int t,.str "ask",.int w,.int n]) o.d M= .ok (.tup ([.str "at",.int t,.str "ask",.int w,.int n]++o.p.map Pt.d)) M:=by
   rw[←Od.p_d]
   refine jF (by simp) ?_
   have:=Rj o
   rw[←Od.p_w]at this
   simp at this ⊢
   omega
  simp[Wt.d,e,Iv,Wt.p,Pt.d]
def bf(ws:List (List Nat)):D:= .str (b8 ws)
theorem Gw{M:Mem}{k r l:Nat}{B:Bk}(h:B.Ok)(H:yp M k r l B.tm B.vd B.b B.bt B.roll B.kept B.ents):∃M',vW [.ref k] M= .ok (.str B.text) M'∧Gr M M':=by
 have hb:=zA h
 have hv:=h.lv
 have ha:=h.la
 have he:=h.le
 obtain⟨M1,e1,g1⟩:=V2 h M
 obtain⟨M2,yr⟩:∃M2,M2=M1++[MO.lst [bf [W "book",aK B.tm,B.vw]]]:=⟨_,rfl⟩
 have q2:M2[M1.length]? = some (.lst [bf [W "book",aK B.tm,B.vw]]):=by rw[yr];exact aN
 have g2:Gr M1 M2:=by rw[yr];exact Gr.app
 have H2:=(H.gr g1).gr g2
 obtain⟨M3,e3,g3⟩:=Wg h M2
 have q3:=g3 _ _ q2
 have t2:FP "list" (.ref M1.length) M2=true:=g_ q2
 have a3:=ji (d:=bf [W "base",aK B.b,aK B.bt,aK B.r1,aK B.r2]) q3 (by simp)
 obtain⟨M4,Pz⟩:∃M4,M4=M3.set M1.length (.lst ([bf [W "book",aK B.tm,B.vw]]++[bf [W "base",aK B.b,aK B.bt,aK B.r1,aK B.r2]])):=⟨_,rfl⟩
 have q4:M4[M1.length]? = some (.lst [bf [W "book",aK B.tm,B.vw],bf [W "base",aK B.b,aK B.bt,aK B.r1,aK B.r2]]):=by rw[Pz,get_set q3];rfl
 have c4:Ch (· = M1.length) M3 M4:=by rw[Pz];exact Ch.set rfl
 have hk1:k<M1.length:=Nat.lt_of_lt_of_le (eE H.o) g1.le
 have hr1:r<M1.length:=Nat.lt_of_lt_of_le (eE H.row.o) g1.le
 have hl1:l<M1.length:=Nat.lt_of_lt_of_le (eE H.row.k) g1.le
 have H4:=(H2.gr g3).ch c4 (Nat.ne_of_lt hk1) (Nat.ne_of_lt hr1) (Nat.ne_of_lt hl1)
 obtain⟨x5,M5,e5,h5,g5,l5⟩:=Bj (M:=M4) (src:=none) (te:=aZ cO 1 [] (aq (aD dj (gQ (aq (mC (.str "value")) aF)) (aA 0)) aF)) (ce:=[]) B.vs zJ (fun p=>bf (zZ p))
  (fun _ _=>trivial) (fun p hp M' _=>by
   obtain⟨M2',e,g⟩:=U6 (h.vs p hp) M'
   have es:dj (.tup [.str "value"]) (zJ p) M'= .ok (.tup [.str "value",.str (gf p.1),.int p.2]) M':=jF (by simp) (by simp)
   refine⟨M2',?_,g⟩
   simp[es,e,bf])
 rw[show(B.vs.map fun p=>bf (zZ p))=(B.vs.map zZ).map bf by rw[List.map_map];rfl]at h5
 have q5:=g5 _ _ q4
 have H5:=H4.gr g5
 have t4:FP "list" (.ref M1.length) M4=true:=g_ q4
 have a5:=Az q5 h5 (by simp;omega)
 obtain⟨M6,hM6⟩:∃M6,M6=M5.set M1.length (.lst ([bf [W "book",aK B.tm,B.vw],bf [W "base",aK B.b,aK B.bt,aK B.r1,aK B.r2]]++(B.vs.map zZ).map bf)):=⟨_,rfl⟩
 have q6:M6[M1.length]? = some (.lst ([bf [W "book",aK B.tm,B.vw],bf [W "base",aK B.b,aK B.bt,aK B.r1,aK B.r2]]++(B.vs.map zZ).map bf)):=by rw[hM6,get_set q5]
 have c6:Ch (· = M1.length) M5 M6:=by rw[hM6];exact Ch.set rfl
 have H6:=H5.ch c6 (Nat.ne_of_lt hk1) (Nat.ne_of_lt hr1) (Nat.ne_of_lt hl1)
 obtain⟨x7,M7,e7,h7,g7,l7⟩:=Bj (M:=M6) (src:=none) (te:=aZ cO 1 [] (aq (aD dj (gQ (aq (mC (.str "answer")) aF)) (aA 0)) aF)) (ce:=[]) B.as Am (fun p=>bf (Aa p))
  (fun _ _=>trivial) (fun p hp M' _=>by
   obtain⟨M2',e,g⟩:=Wj (h.as p hp) M'
   have es:dj (.tup [.str "answer"]) (Am p) M'= .ok (.tup [.str "answer",.int p.1.1,.int p.1.2,.int p.2]) M':=jF (by simp) (by simp)
   refine⟨M2',?_,g⟩
   simp[es,e,bf])
 rw[show(B.as.map fun p=>bf (Aa p))=(B.as.map Aa).map bf by rw[List.map_map];rfl]at h7
 have q7:=g7 _ _ q6
 have H7:=H6.gr g7
 have t6:FP "list" (.ref M1.length) M6=true:=g_ q6
 have a7:=Az q7 h7 (by simp;omega)
 obtain⟨M8,hM8⟩:∃M8,M8=M7.set M1.length (.lst (([bf [W "book",aK B.tm,B.vw],bf [W "base",aK B.b,aK B.bt,aK B.r1,aK B.r2]]++(B.vs.map zZ).map bf)++(B.as.map Aa).map bf)):=⟨_,rfl⟩
 have q8:M8[M1.length]? = some (.lst (([bf [W "book",aK B.tm,B.vw],bf [W "base",aK B.b,aK B.bt,aK B.r1,aK B.r2]]++(B.vs.map zZ).map bf)++(B.as.map Aa).map bf)):=by rw[hM8,get_set q7]
 have c8:Ch (· = M1.length) M7 M8:=by rw[hM8];exact Ch.set rfl
 have H8:=H7.ch c8 (Nat.ne_of_lt hk1) (Nat.ne_of_lt hr1) (Nat.ne_of_lt hl1)
 have n8:=Ir H8.row
 obtain⟨N8,hN8⟩:∃N8,N8=M8++[MO.lst B.ents]:=⟨_,rfl⟩
 rw[←hN8]at n8
 have p8:N8[M8.length]? = some (.lst B.ents):=by rw[hN8];exact aN
 have gN:Gr M8 N8:=by rw[hN8];exact Gr.app
 obtain⟨x9,M9,e9,h9,g9,l9⟩:=Bj (M:=N8) (src:=some (M8.length,B.ents)) (te:=aZ cO 1 [] (aq (aZ jP 1 [] (aq (aA 0) aF)) aF)) (ce:=[]) B.es Jh (fun p=>bf (yj p))
  (fun M' g=>cN (g _ _ p8)) (fun p hp M' _=>by
   obtain⟨M2',e,g⟩:=V7 (h.es p hp) M'
   refine⟨M2',?_,g⟩
   simp[XN,e,bf])
 rw[show(B.es.map fun p=>bf (yj p))=(B.es.map yj).map bf by rw[List.map_map];rfl]at h9
 have q9:=g9 _ _ (gN _ _ q8)
 have t8:FP "list" (.ref M1.length) M8=true:=g_ q8
 have a9:=Az q9 h9 (by simp;omega)
 obtain⟨Qz,PB⟩:∃Qz,Qz=M9.set M1.length (.lst ((([bf [W "book",aK B.tm,B.vw],bf [W "base",aK B.b,aK B.bt,aK B.r1,aK B.r2]]++(B.vs.map zZ).map bf)++(B.as.map Aa).map bf)++(B.es.map yj).map bf)):=⟨_,rfl⟩
 have q10:Qz[M1.length]? = some (.lst (B.body.map bf)):=by rw[PB,get_set q9];simp[Bk.body]
 have c10:Ch (· = M1.length) M9 Qz:=by rw[PB];exact Ch.set rfl
 have t10:FP "list" (.ref M1.length) Qz=true:=g_ q10
 have ln:o9 [.ref M1.length] Qz= .ok (.int B.body.length) Qz:=by rw[je q10,List.length_map]
 obtain⟨M11,e11,g11⟩:=RQ (n:=(B.body.length:Int)) (by unfold Sm;omega) Qz
 have q11:=g11 _ _ q10
 have a11:=ji (d:=bf [W "end",aK B.body.length]) q11 (by simp;omega)
 obtain⟨M12,adL⟩:∃M12,M12=M11.set M1.length (.lst (B.body.map bf++[bf [W "end",aK B.body.length]])):=⟨_,rfl⟩
 have q12:M12[M1.length]? = some (.lst ((B.di.map b8).map D.str)):=by
  rw[adL,get_set q11,List.map_map]
  show _=some (MO.lst (B.di.map bf))
  simp[Bk.di]
 have c12:Ch (· = M1.length) M11 M12:=by rw[adL];exact Ch.set rfl
 have hj:JoinOk "\n" (B.di.map b8)=true:=by
  rw[TX]
  refine Rz (n:=1020) (fun y hy=> ?_) (by simp[Bk.di];omega)
  obtain⟨ws,hs,rfl⟩:=List.mem_map.mp hy
  exact Ce (Kr h ws hs)
 have e12:yG (.str "\n") [.ref M1.length] M12= .ok (.str B.text) M12:=Hh q12 hj
 rw[←Pz]at a3
 rw[←hM6]at a5
 rw[←hM8]at a7
 rw[←PB]at a9
 rw[←adL]at a11
 have aeB:Ch (· = M1.length) M1 M12:=(((((((((g2.trans g3).ch.trans c4).trans g5.ch).trans c6).trans g7.ch).trans c8).trans (gN.trans g9).ch).trans c10).trans g11.ch).trans c12
 refine⟨M12,?_,fun i o hi=>aeB.2 i o (Nat.ne_of_lt (Nat.lt_of_lt_of_le (eE hi) g1.le)) (g1 _ _ hi)⟩
 have hvp:(if isN B.vd=true then Out.ok (D.str "-") M else Out.ok B.vd M)=Out.ok B.vp.d M:=by
  unfold Bk.vd Bk.vp
  cases e:B.vt with
  | none=>simp
  | some v=>simp
 have sb:dj (.tup [.str "base",.int B.b,.int B.bt]) B.roll M2= .ok (.tup [.str "base",.int B.b,.int B.bt,.int B.r1,.int B.r2]) M2:=jF (by simp) (by simp)
 have k4:aR B.kept (.int 0) M4= .ok (.tup (B.vs.map zJ)) M4:=B_
 have k6:aR B.kept (.int 1) M6= .ok (.tup (B.as.map Am)) M6:=Hi
 have tS:∀M,FP "str" (.str "\n") M=true:=fun _=>rfl
 have eI:Pk (.ref M8.length) N8= .ok ⟨some (M8.length,B.ents),B.ents⟩ N8:=qF p8
 have ec:∀e:Sl,o6 [] e=[]:=fun _=>rfl
 have e9':uI (some (M8.length,B.ents)) sE (aZ cO 1 [] (aq (aZ jP 1 [] (aq (aA 0) aF)) aF)) [] B.ents [] N8= .ok (.ref x9) M9:=e9
 have e1':cO [.tup [.str "book",.int B.tm,B.vp.d]] M= .ok (bf [W "book",aK B.tm,B.vw]) M1:=e1
 have e3':cO [.tup [.str "base",.int B.b,.int B.bt,.int B.r1,.int B.r2]] M2= .ok (bf [W "base",aK B.b,aK B.bt,aK B.r1,aK B.r2]) M3:=e3
 have aqi:cO [.tup [.str "end",.int B.body.length]] Qz= .ok (bf [W "end",aK B.body.length]) M11:=e11
 clear e1 e3 e11
 simp only[vW,nW]
 simp[H.fr,H.ft,H.fv,hvp,e1',←yr,H2.row.fb,H2.row.ft,H2.row.fr,sb,t2,e3',a3,H4.fk,k4,ec,e5,t4,a5,H6.fk,k6,e7,t6,a7,H8.row.me (m:= "entries") rfl,n8,eI,e9',t8,a9,ln,t10,aqi,a11,tS,e12]
section
variable{κ:Type}[DecidableEq κ]
def val(l:List (κ×Int))(k:κ):Option Int:=(l.find? fun p=>decide (p.1=k)).map (·.2)
def put(l:List (κ×Int))(k:κ)(i:Int):List (κ×Int):=if(l.any fun p=>decide (p.1=k))=true then l.map (fun p=>if p.1=k then(p.1,i)else p)else l++[(k,i)]
@[simp] theorem akD{k:κ}:val ([]:List (κ×Int)) k=none:=rfl
theorem Nm{p:κ×Int}{l:List (κ×Int)}{k:κ}:val (p::l) k=if p.1=k then some p.2 else val l k:=by
 by_cases h:p.1=k<;>simp[val,h]
theorem Uy{l:List (κ×Int)}{k:κ}:(l.any fun p=>decide (p.1=k))=(val l k).isSome:=by
 induction l with
 | nil=>rfl
 | cons p l ih=>rw[List.any_cons,ih,Nm];by_cases h:p.1=k<;>simp[h]
theorem Tr{l:List (κ×Int)}{k:κ}{i:Int}:(put l k i).length≤l.length+1:=by
 unfold put
 split<;>simp
theorem Z0{l:List (κ×Int)}{k:κ}{i:Int}(h:val l k=none):put l k i=l++[(k,i)]:=by
 unfold put
 rw[Uy,h];rfl
variable{κ':Type}[DecidableEq κ']
def enc(f:κ→κ')(l:List (κ×Int)):List (κ'×D):=l.map fun p=>(f p.1,.int p.2)
theorem Um{f:κ→κ'}(hf:∀a b,f a=f b→a=b){l:List (κ×Int)}{k:κ}{i:Int}:Vm (enc f l) (f k) (.int i)=enc f (put l k i):=by
 have e:((enc f l).any fun kv=>decide (kv.1=f k))=(l.any fun p=>decide (p.1=k)):=by
  unfold enc
  rw[List.any_map]
  congr 1
  funext p
  have:(f p.1=f k)=(p.1=k):=propext ⟨hf _ _,fun z=>by rw[z]⟩
  simp[this]
 unfold Vm put
 rw[e]
 split
 ·unfold enc
  rw[List.map_map,List.map_map]
  congr 1
  funext p
  by_cases h:p.1=k
  ·simp[h]
  ·have:f p.1≠f k:=fun z=>h (hf _ _ z)
   simp[h,this]
 ·unfold enc
  simp
@[simp] theorem Uo{f:κ→κ'}{l:List (κ×Int)}:(enc f l).length=l.length:=by simp[enc]
end
def kS(s:Str):Key:= .inr s
def kA(a:Int×Int):List Key:=[.inl a.1,.inl a.2]
theorem adx(a b:Str)(h:kS a=kS b):a=b:=by cases h;rfl
theorem ady(a b:Int×Int)(h:kA a=kA b):a=b:=by
 obtain⟨a1,a2⟩:=a
 obtain⟨b1,b2⟩:=b
 simp[kA]at h
 simp[h]
theorem adT{M:Mem}{n:Nat}{vs:List (Str×Int)}{s:Str}{i:Int}(h:M[n]? = some (.dk (enc kS vs)))(hl:vs.length≤1000):Fy M (.ref n) (.str s) (.int i)=some (M.set n (.dk (enc kS (put vs s i)))):=by
 have hz:(enc kS vs).length<sizeLine:=by
  rw[Uo]
  have:1000<sizeLine:=by decide
  omega
 simp only[Fy,h,toKey,if_pos hz,←Um adx]
 rfl
section
variable{κ:Type}[DecidableEq κ]
def Nd(l:List (κ×Int)):Prop:=(l.map Prod.fst).Nodup
theorem WQ{l:List (κ×Int)}{k:κ}(h:val l k=none):k∉l.map Prod.fst:=by
 induction l with
 | nil=>simp
 | cons p l ih=>
  rw[Nm]at h
  split at h
  ·cases h
  ·rename_i e
   rw[List.map_cons,List.mem_cons]
   rintro(z | z)
   ·exact e z.symm
   ·exact ih h z
theorem Nd.put{l:List (κ×Int)}(nd:Nd l)(k:κ)(i:Int):Nd (put l k i):=by
 cases z:val l k with
 | none=>
  rw[Z0 z]
  unfold Nd
  rw[List.map_append,List.nodup_append]
  refine⟨nd,by simp,fun a ha b hb=> ?_⟩
  simp at hb
  subst hb
  exact fun e=>WQ z (by rw[←e];exact ha)
 | some j=>
  unfold My.put
  rw[Uy,z]
  simp only[Option.isSome_some,if_true]
  unfold Nd
  rw[List.map_map]
  have:(Prod.fst∘fun(p:κ×Int)=>if p.1=k then(p.1,i)else p)=Prod.fst:=by
   funext p
   simp only[Function.comp]
   split<;>rfl
  rw[this]
  exact nd
end
def vz(p:Str×Int):D:= .tup [.str p.1,.int p.2]
def Bo(p:(Int×Int)×Int):D:= .tup [.tup [.int p.1.1,.int p.1.2],.int p.2]
def nz:D→Bool
 | .tup [_,.int i]=> !decide (i=0)
 | _=>true
def Yw:D→D
 | .tup [.tup [x,y],z]=> .tup [x,y,z]
 | d=>d
def Nq(vs:List (Str×Int)):List D:=(qj (vs.map vz)).filter nz
def Uz(as:List ((Int×Int)×Int)):List D:=(qj (as.map Bo)).map Yw
theorem afE(vs:List (Str×Int)):Y6 (vs.map vz):= .rows 1 [0] fun d hd=>by
 obtain⟨p,_,rfl⟩:=List.mem_map.mp hd
 exact⟨_,rfl⟩
theorem afF(as:List ((Int×Int)×Int)):Y6 (as.map Bo):= .rows 4 [0] fun d hd=>by
 obtain⟨p,_,rfl⟩:=List.mem_map.mp hd
 exact⟨_,rfl⟩
theorem aaI{M:Mem}{n:Nat}{vs:List (Str×Int)}(h:M[n]? = some (.dk (enc kS vs))):tZ M n=some (vs.map fun p=>(.str p.1,.int p.2)):=by
 simp only[tZ,h,enc,List.map_map]
 rfl
theorem aaJ{M:Mem}{n:Nat}{as:List ((Int×Int)×Int)}(h:M[n]? = some (.dt (enc kA as))∨M[n]? = some (.dk [])∧as=[]):tZ M n=some (as.map fun p=>(.tup [.int p.1.1,.int p.1.2],.int p.2)):=by
 rcases h with h | ⟨h,rfl⟩
 ·simp only[tZ,h,enc,List.map_map]
  rfl
 ·simp only[tZ,h]
  rfl
theorem Gp{M:Mem}(ns:List Int)(k:Nat){kk:Int}(hk:kk=k):bU [.cl (ns.map D.int),.int kk] M= .ok (.int (cell ns k)) M:=by
 subst hk
 simp only[bU,cI,xZ]
 by_cases h:k<ns.length
 ·have e:aR (.cl (ns.map D.int)) (.int k) M= .ok (.int ns[k]) M:=acs (by omega) (by simp[h])
  simp[h,e,cell]
 ·simp[h,cell]
def Ja(n:Nat)(xs:List Int):Prop:=xs.length=n∧∀x∈xs,0≤x∧x<2147483647
structure Sd(M:Mem)(c:Int)(n i:Nat)(e:Sl)(M':Mem):Prop where
 h:∃(xs:List Int) (num:Int) (v:Option D),Ja i xs∧0≤num∧num<2147483647∧e=[some (.int c),some (.int n),some (.ref M.length),some (.int num),v]∧M'=M++[.lst (xs.map D.int)]
theorem X8(z:Int):0≤z % 2147483647∧z % 2147483647<2147483647:=⟨Int.emod_nonneg _ (by omega),Int.emod_lt_of_pos _ (by omega)⟩
theorem Xb{M:Mem}{c:Int}{n i:Nat}{d:D}{e:Sl}{M2:Mem}(hn:n≤1000)(hd:(Gb 0 n)[i]? = some d)(h:Sd M c n i e M2):∃e1,gN 4 d e=some e1∧
  (tD e1 M2).to (Sd M c n (i+1)) fun _ _=>False:=by
 obtain⟨xs,num,v,⟨hx,hxb⟩,h0,h1,rfl,rfl⟩:=h
 obtain⟨hi,rfl⟩:=K5 hd
 refine⟨_,rfl,?_⟩
 have a1:Dw (.int num) (.int 1009) (M++[.lst (xs.map D.int)])= .ok (.int (num / 1009)) (M++[.lst (xs.map D.int)]):=Og (by omega) (by omega)
 have a2:Hf (.int num) (.int (num / 1009+69621)) (M++[.lst (xs.map D.int)])= .ok (.int (num*(num / 1009+69621))) (M++[.lst (xs.map D.int)]):=Oa (.inl (by constructor<;>omega))
 have a3:∀z:Int,iQ (.int z) (.int 2147483647) (M++[.lst (xs.map D.int)])= .ok (.int (z % 2147483647)) (M++[.lst (xs.map D.int)]):=fun z=>Hg (by omega)
 have a4:FP "list" (.ref M.length) (M++[.lst (xs.map D.int)])=true:=g_ aN
 have a5:∀z:Int,iC (.ref M.length) [.int z] (M++[.lst (xs.map D.int)])= .ok .non (M++[.lst ((xs++[z]).map D.int)]):=fun z=>by
  rw[ji aN (by rw[List.length_map];omega)]
  simp
 simp[tD,a1,a2,a3,a4,a5]
 refine⟨xs++[(num*(num / 1009+69621)+i+1) % 2147483647],(num*(num / 1009+69621)+i+1) % 2147483647,_,⟨by simp[hx],fun x hm=> ?_⟩,(X8 _).1,(X8 _).2,rfl,by simp⟩
 rcases List.mem_append.mp hm with h | h
 ·exact hxb x h
 ·rw[List.mem_singleton.mp h];exact X8 _
theorem Va{M:Mem}(c:Int)(n:Nat){nn:Int}(hnn:nn=n)(hn:n≤1000):∃xs:List Int,Ja n xs∧fY [.int c,.int nn] M= .ok (.ref M.length) (M++[.lst (xs.map D.int)]):=by
 subst hnn
 have e1:Hf (.int c) (.int 48271) (M++[.lst []])= .ok (.int (c*48271)) (M++[.lst []]):=Oa (.inr (by omega))
 have e2:iQ (.int (c*48271+7919)) (.int 2147483647) (M++[.lst []])= .ok (.int ((c*48271+7919) % 2147483647)) (M++[.lst []]):=Hg (by omega)
 have e3:K6 [.int n] (M++[.lst []])= .ok ⟨none,Gb 0 n⟩ (M++[.lst []]):=by
  have:=Hl (M:=M++[.lst []]) (j:=n) (by omega) (by omega)
  simpa using this
 obtain⟨e',M',hl,hh⟩:=sY (Sd M c n) (ds:=Gb 0 n) (e:=[some (.int c),some (.int n),some (.ref M.length),some (.int ((c*48271+7919) % 2147483647)),none]) (M:=M++[.lst []]) (src:=none)
  ⟨[],_,none,⟨rfl,by simp⟩,(X8 _).1,(X8 _).2,rfl,rfl⟩ (fun _ _ _ _ _=>trivial) fun i d e M2 hd h=>Xb hn hd h
 obtain⟨xs,num,v,hx,_,_,rfl,rfl⟩:=hh
 rw[K4]at hx
 refine⟨xs,hx,?_⟩
 simp only[fY,fZ,zq]
 simp[e1,e2,e3,hl]
theorem fH{n:Nat}{xs:List Int}(h:Ja n xs){i:Nat}(hi:i<n):∃x,xs[i]? = some x∧0≤x∧x<2147483647:=by
 have hl:i<xs.length:=by rw[h.1];exact hi
 exact⟨xs[i],List.getElem?_eq_getElem hl,h.2 _ (List.getElem_mem hl)⟩
theorem jz{M:Mem}{n i:Nat}{xs:List Int}{x:Int}{k:Int}(hM:M[n]? = some (.lst (xs.map D.int)))(hk:k=i)(h:xs[i]? = some x):aR (.ref n) (.int k) M= .ok (.int x) M:=
 jU hM (by omega) (by subst hk;simp[h])
theorem Ao{M:Mem}(c:Int)(n:Nat){nn:Int}(hnn:nn=n)(hn:n≤1000):∃xs x M1,Ja n xs∧fY [.int c,.int nn] M= .ok (.ref x) M1∧M1[x]? = some (.lst (xs.map D.int))∧Gr M M1:=by
 obtain⟨xs,h,e⟩:=Va (M:=M) c n hnn hn
 exact⟨xs,_,_,h,e,aN,Gr.app⟩
theorem nP(z:Int){j:Int}(h:0<j):0≤z % j∧z % j<j:=⟨Int.emod_nonneg _ (by omega),Int.emod_lt_of_pos _ h⟩
theorem JS{M:Mem}{n:Nat}{ds:List D}{z j:Int}(h:M[n]? = some (.lst ds))(hj:j=ds.length)(h0:0<j):∃d∈ds,aR (.ref n) (.int (z % j)) M= .ok d M:=by
 have:=nP z h0
 have hl:(z % j).toNat<ds.length:=by omega
 exact⟨ds[(z % j).toNat],List.getElem_mem hl,jU h this.1 (List.getElem?_eq_getElem hl)⟩
theorem md(z j:Int)(M:Mem)(h:0<j):iQ (.int z) (.int j) M= .ok (.int (z % j)) M:=Hg h
theorem dv(z j:Int)(M:Mem)(h:0<j)(h':j<1073741824):Dw (.int z) (.int j) M= .ok (.int (z / j)) M:=Og h h'
theorem HH(c:Nat)(n:Int)(h:0≤n):(PySem.Txt.mul ⟨#[c]⟩ n).cps.toList=List.replicate n.toNat c:=by
 have fold:∀(k:Nat) (acc:Array Nat),((List.replicate k #[c]).foldl (· ++ ·) acc).toList=acc.toList++List.replicate k c:=by
  intro k
  induction k with
  | zero=>intro acc;simp
  | succ k ih=>intro acc;rw[List.replicate_succ,List.foldl_cons,ih];simp[List.replicate_succ]
 unfold PySem.Txt.mul
 split
 ·rename_i h1
  have:n.toNat=0:=by omega
  rw[this];rfl
 ·split
  ·rename_i h1 h2
   rcases Bool.or_eq_true_iff.mp h2 with q | q
   ·have:n=1:=by simpa using q
    subst this;rfl
   ·have:(1:Nat)=0:=by simpa[Str.length]using q
    omega
  ·show((List.replicate n.toNat #[c]).foldl (· ++ ·) #[]).toList=_
   rw[fold];simp
theorem am4:("t" : Str)=⟨#[116]⟩:=by decide
theorem O5(n:Int)(h:0≤n):∃s:List Nat,ni s=true∧∀M,pL [.int n] M= .ok (.str (gf s)) M:=by
 have hk:=nP (n / 64) (j:=26) (by decide)
 have apZ:=O8
 have hl:(n / 64 % 26).toNat<(Lw "abcdefghijklmnopqrstuvwxyz").length:=by rw[apZ];simp;omega
 have hc:∃c,(Lw "abcdefghijklmnopqrstuvwxyz")[(n / 64 % 26).toNat]? = some c∧97≤c∧c≤122:=by
  refine⟨_,List.getElem?_eq_getElem hl,?_⟩
  have hm:=List.getElem_mem hl
  have:=T8 ((Lw "abcdefghijklmnopqrstuvwxyz")[(n / 64 % 26).toNat])
  rw[decide_eq_true hm]at this
  exact of_decide_eq_true this.symm
 obtain⟨c,hc,hc1,hc2⟩:=hc
 have ix:∀M,aR (.str "abcdefghijklmnopqrstuvwxyz") (.int (n / 64 % 26)) M= .ok (.str ⟨#[c]⟩) M:=fun M=>ZL hk.1 hc (by decide +kernel)
 have h8:=nP n (j:=8) (by decide)
 obtain⟨sz,hsz⟩:∃sz:Int,sz=1+n % 8:=⟨_,rfl⟩
 have hs0:0<sz:=by omega
 have hat:=nP (n / 8) hs0
 obtain⟨at',ha⟩:∃a:Int,a=n / 8 % sz:=⟨_,rfl⟩
 have el:(Str.ofString "t").length=1:=by decide +kernel
 have m1:∀M,Hf (.str "t") (.int at') M= .ok (.str (PySem.Txt.mul "t" at')) M:=fun M=>N_ (by omega) (by omega) (by omega)
 have m2:∀M,Hf (.str "t") (.int (sz - at' - 1)) M= .ok (.str (PySem.Txt.mul "t" (sz - at' - 1))) M:=fun M=>N_ (by omega) (by omega) (by omega)
 have l1:(PySem.Txt.mul "t" at').length=at'.toNat:=by rw[T4,el];omega
 have l2:(PySem.Txt.mul "t" (sz - at' - 1)).length=(sz - at' - 1).toNat:=by rw[T4,el];omega
 have lc:(⟨#[c]⟩:Str).length=1:=rfl
 have a1:∀M,dj (.str (PySem.Txt.mul "t" at')) (.str ⟨#[c]⟩) M= .ok (.str (PySem.Txt.mul "t" at'++⟨#[c]⟩)) M:=fun M=>Oh (by omega)
 have a2:∀M,dj (.str (PySem.Txt.mul "t" at'++⟨#[c]⟩)) (.str (PySem.Txt.mul "t" (sz - at' - 1))) M= .ok (.str (PySem.Txt.mul "t" at'++⟨#[c]⟩++PySem.Txt.mul "t" (sz - at' - 1))) M:=fun M=>Oh (by rw[Qo];omega)
 have et:PySem.Txt.mul "t" at'++⟨#[c]⟩++PySem.Txt.mul "t" (sz - at' - 1)=gf (List.replicate at'.toNat 116++[c]++List.replicate (sz - at' - 1).toNat 116):=by
  apply sO
  rw[Str.cps_append,Str.cps_append,Array.toList_append,Array.toList_append,am4,HH _ _ (by omega),HH _ _ (by omega),cQ]
 refine⟨List.replicate at'.toNat 116++[c]++List.replicate (sz - at' - 1).toNat 116,?_,fun M=> ?_⟩
 ·have hlen:(List.replicate at'.toNat 116++[c]++List.replicate (sz - at' - 1).toNat 116).length=sz.toNat:=by
   simp;omega
  unfold ni
  rw[hlen,decide_eq_true (show 1≤sz.toNat by omega),decide_eq_true (show sz.toNat≤8 by omega)]
  simp only[Bool.true_and,List.all_eq_true,decide_eq_true_eq]
  intro x hx
  simp at hx
  omega
 ·simp only[pL,jD]
  rw[←et]
  simp[md,dv,←hsz,hs0,←ha,ix,m1,m2,a1,a2]
theorem wY{M:Mem}(n c:Int)(h:0≤n):∃m M',cY [.int n,.int c] M= .ok (.int m) M'∧Sm m∧Gr M M':=by
 obtain⟨T,hT⟩:∃T:Int,T=10 ^ 40:=⟨_,rfl⟩
 have hT0:0<T:=by rw[hT];decide
 have hT1:T<10 ^ 41:=by rw[hT];decide
 have pw:∀M:Mem,BZ (.int 10) (.int 40) M= .ok (.int T) M:=fun M=>by rw[hT];exact N7 (by decide)
 clear hT
 obtain⟨M1,v_⟩:∃M1,M1=M++[MO.lst [.int (n % 12),.int (c % T),.int (0 - c % T),.int (0 - n % 3)]]:=⟨_,rfl⟩
 have h1:M1[M.length]? = some (.lst [.int (n % 12),.int (c % T),.int (0 - c % T),.int (0 - n % 3)]):=by rw[v_];exact aN
 obtain⟨d,hd,e⟩:=JS (z:=n / 12) (j:=4) h1 rfl (by decide)
 have b1:=nP n (j:=12) (by decide)
 have b2:=nP c hT0
 have b3:=nP n (j:=3) (by decide)
 have:∃m,d= .int m∧Sm m:=by
  simp at hd
  unfold Sm
  rcases hd with rfl | rfl | rfl | rfl
  ·exact⟨_,rfl,by omega⟩
  ·exact⟨_,rfl,by omega⟩
  ·exact⟨_,rfl,by omega⟩
  ·exact⟨_,rfl,by omega⟩
 obtain⟨m,rfl,hm⟩:=this
 refine⟨m,M1,?_,hm,by rw[v_];exact Gr.app⟩
 simp only[cY,bM]
 have aif:M++[MO.lst [.int (n % 12),.int (c % T),.int (0 - c % T),.int (0 - n % 3)]]=M1:=v_.symm
 simp at aif
 simp[md,dv,pw,hT0,aif,e]
theorem Tn{M:Mem}(n c:Int)(h:0≤n):∃a b M',pK [.int n,.int c] M= .ok (.tup [.int a,.int b]) M'∧Ro a b∧Gr M M':=by
 obtain⟨M1,v_⟩:∃M1,M1=M++[MO.lst [.int (n % 31),.int (c % 1152921504606846975)]]:=⟨_,rfl⟩
 have h1:M1[M.length]? = some (.lst [.int (n % 31),.int (c % 1152921504606846975)]):=by rw[v_];exact aN
 obtain⟨d,hd,e⟩:=JS (z:=n / 31) (j:=2) h1 rfl (by decide)
 have b1:=nP n (j:=31) (by decide)
 have b2:=nP c (j:=1152921504606846975) (by decide)
 have:∃m,d= .int m∧0≤m∧m<1152921504606846975:=by
  simp at hd
  rcases hd with rfl | rfl
  ·exact⟨_,rfl,by omega,by omega⟩
  ·exact⟨_,rfl,by omega,by omega⟩
 obtain⟨m,rfl,hm⟩:=this
 obtain⟨M2,yr⟩:∃M2,M2=M1++[MO.lst [.int 0,.int (n / 62 % 64),.int ((c+n) % 1152921504606846976)]]:=⟨_,rfl⟩
 have h2:M2[M1.length]? = some (.lst [.int 0,.int (n / 62 % 64),.int ((c+n) % 1152921504606846976)]):=by rw[yr];exact aN
 obtain⟨d,hd,e2⟩:=JS (z:=n / 3968) (j:=3) h2 rfl (by decide)
 have b3:=nP (n / 62) (j:=64) (by decide)
 have b4:=nP (c+n) (j:=1152921504606846976) (by decide)
 have:∃m,d= .int m∧0≤m∧m<1152921504606846976:=by
  simp at hd
  rcases hd with rfl | rfl | rfl
  ·exact⟨_,rfl,by omega,by omega⟩
  ·exact⟨_,rfl,by omega,by omega⟩
  ·exact⟨_,rfl,by omega,by omega⟩
 obtain⟨b,rfl,hb⟩:=this
 refine⟨1+m,b,M2,?_,⟨by omega,by omega,by omega,by omega⟩,by rw[yr,v_];exact Gr.app.trans Gr.app⟩
 simp only[pK,lu]
 simp[md,dv,←v_,e,←yr,e2]
theorem Zg{M:Mem}(c:Int):∃(x:Wt) (M':Mem),j6 [.int c] M= .ok x.d M'∧x.Ok∧Gr M M':=by
 obtain⟨xs,x,M1,hxs,e1,hx1,g1⟩:=Ao (M:=M) c 6 (nn:=6) rfl (by decide)
 obtain⟨x0,p0,z0,_⟩:=fH hxs (i:=0) (by decide)
 obtain⟨x1,p1,z1,_⟩:=fH hxs (i:=1) (by decide)
 obtain⟨x2,p2,z2,_⟩:=fH hxs (i:=2) (by decide)
 obtain⟨x3,p3,z3,_⟩:=fH hxs (i:=3) (by decide)
 obtain⟨x4,p4,z4,_⟩:=fH hxs (i:=4) (by decide)
 obtain⟨x5,p5,z5,_⟩:=fH hxs (i:=5) (by decide)
 have i0:∀M2,Gr M1 M2→aR (.ref x) (.int 0) M2= .ok (.int x0) M2:=fun M2 g=>jz (g _ _ hx1) rfl p0
 have i1:∀M2,Gr M1 M2→aR (.ref x) (.int 1) M2= .ok (.int x1) M2:=fun M2 g=>jz (g _ _ hx1) rfl p1
 have i2:∀M2,Gr M1 M2→aR (.ref x) (.int 2) M2= .ok (.int x2) M2:=fun M2 g=>jz (g _ _ hx1) rfl p2
 have i3:∀M2,Gr M1 M2→aR (.ref x) (.int 3) M2= .ok (.int x3) M2:=fun M2 g=>jz (g _ _ hx1) rfl p3
 have i4:∀M2,Gr M1 M2→aR (.ref x) (.int 4) M2= .ok (.int x4) M2:=fun M2 g=>jz (g _ _ hx1) rfl p4
 have i5:∀M2,Gr M1 M2→aR (.ref x) (.int 5) M2= .ok (.int x5) M2:=fun M2 g=>jz (g _ _ hx1) rfl p5
 by_cases h0:x0 % 4=0
 ·refine⟨.start,M1,?_,trivial,g1⟩
  simp only[j6,jC,sH]
  simp[e1,i0 M1 Gr.refl,md,h0,Wt.d]
 by_cases h1:x0 % 4=1
 ·obtain⟨a,b,M2,e2,hr,g2⟩:=Tn (M:=M1) x1 c z1
  refine⟨.roll a b,M2,?_,hr,g1.trans g2⟩
  have e3:dj (.tup [.str "roll"]) (.tup [.int a,.int b]) M2= .ok (.tup [.str "roll",.int a,.int b]) M2:=jF (by simp) (by simp)
  simp only[j6,jC,sH,xu]
  simp[e1,i0 M1 Gr.refl,i1 M1 Gr.refl,md,h1,e2,e3,Wt.d]
 obtain⟨s,hs,es⟩:=O5 x3 z3
 obtain⟨M2,yr⟩:∃M2,M2=M1++[MO.lst [.str "put",.str "add"]]:=⟨_,rfl⟩
 have h2:M2[M1.length]? = some (.lst [.str "put",.str "add"]):=by rw[yr];exact aN
 have g2:Gr M1 M2:=by rw[yr];exact Gr.app
 obtain⟨n,M3,e3,hn,g3⟩:=wY (M:=M2) x4 c z4
 have pk:∃(dd:Str) (o:Od),aR (.ref M1.length) (.int (x2 % 2)) M2= .ok (.str dd) M2∧o.Ok∧o.d= .tup [.str dd,.str (gf s),.int n]:=by
  have:x2 % 2=0∨x2 % 2=1:=by omega
  rcases this with e | e
  ·exact⟨_,.put s n,by rw[e];exact jU h2 (by decide) rfl,⟨hs,hn⟩,rfl⟩
  ·exact⟨_,.add s n,by rw[e];exact jU h2 (by decide) rfl,⟨hs,hn⟩,rfl⟩
 obtain⟨dd,o,e2,ho,hod⟩:=pk
 have V5:=g2.trans g3
 have ord:∃(o':Od) (M4:Mem),sG [some (.int c),some (.ref x),some o.d] M3= .next [some (.int c),some (.ref x),some o'.d] M4∧o'.Ok∧Gr M3 M4:=by
  by_cases h3:x2 % 3=0
  ·obtain⟨a,M4,e4,ha,g4⟩:=wY (M:=M3) x5 (c+1) z5
   obtain⟨n2,M5,e5,hn2,g5⟩:=wY (M:=M4) x4 c z4
   refine⟨.swap s a n2,M5,?_,⟨hs,ha,hn2⟩,g4.trans g5⟩
   simp only[sG]
   simp[i2 M3 V5,md,h3,i3 M3 V5,es,i5 M3 V5,e4,i4 M4 (V5.trans g4),e5,Od.d]
  ·refine⟨o,M3,?_,ho,Gr.refl⟩
   simp only[sG]
   simp[i2 M3 V5,md,h3]
 obtain⟨o',M4,e4,ho',g4⟩:=ord
 obtain⟨w,M5,e5,hw,g5⟩:=wY (M:=M4) x1 c z1
 obtain⟨v,M6,e6,hv,g6⟩:=wY (M:=M5) x5 c z5
 have g14:=V5.trans g4
 refine⟨.ask w v o',M6,?_,⟨hw,hv,ho'⟩,((g1.trans g14).trans g5).trans g6⟩
 rw[hod]at e4
 simp only[j6,jC,sH,xu]
 simp[e1,i0 M1 Gr.refl,md,h0,h1,←yr,i2 M2 g2,e2,i3 M2 g2,es,i4 M2 g2,e3,e4,i1 M4 g14,e5,i5 M5 (g14.trans g5),e6,Wt.d]
def FAt(M:Mem)(b:Nat)(as:List ((Int×Int)×Int)):Prop:=M[b]? = some (.dt (enc kA as))∨M[b]? = some (.dk [])∧as=[]
theorem FAt.gr{M M':Mem}{b:Nat}{as:List ((Int×Int)×Int)}(h:FAt M b as)(g:Gr M M'):FAt M' b as:=h.imp (g _ _) fun z=>⟨g _ _ z.1,z.2⟩
theorem Nt{w n:Int}:toKeys [.int w,.int n]=some (kA (w,n)):=rfl
theorem adU{M:Mem}{b:Nat}{as:List ((Int×Int)×Int)}{w n x:Int}(hb:FAt M b as)(hl:as.length<1000):Fy M (.ref b) (.tup [.int w,.int n]) (.int x)=some (M.set b (.dt (enc kA (put as (w,n) x)))):=by
 rcases hb with q | ⟨q,rfl⟩
 ·have hz:(enc kA as).length<sizeLine:=by
   rw[Uo]
   have:1000<sizeLine:=by decide
   omega
  simp only[Fy,q,Nt,if_pos hz,←Um ady]
 ·simp only[Fy,q,Nt,toKey]
  rfl
theorem adS{M:Mem}{vd ad:Nat}{vs:List (Str×Int)}{as:List ((Int×Int)×Int)}(hv:M[vd]? = some (.dk (enc kS vs)))(F:FAt M ad as)(l1:vs.length<64)(l2:as.length<64):∃M1 M2 M3 M4,uT (.ref vd) M= .ok (.ref M.length) M1∧M1=M++[.lst (qj (vs.map vz))]∧
  vh (some (M.length,qj (vs.map vz))) (gT 2 (iR (gN 0) (iR (gN 1) yX))) 2 (bW (aD sNe (aA 1) (mC (.int 0)))) (gQ (aq (aA 0) (aq (aA 1) aF))) [] (qj (vs.map vz)) [] M1= .ok (.ref M1.length) M2∧M2=M1++[.lst (Nq vs)]∧
  uT (.ref ad) M2= .ok (.ref M2.length) M3∧M3=M2++[.lst (qj (as.map Bo))]∧
  vh (some (M2.length,qj (as.map Bo))) (gT 2 (iR (gN 0) (iR (gN 1) yX))) 2 sE (gQ (aq (aD aR (aA 0) (mC (.int 0))) (aq (aD aR (aA 0) (mC (.int 1))) (aq (aA 1) aF)))) [] (qj (as.map Bo)) [] M3= .ok (.ref M3.length) M4∧M4=M3++[.lst (Uz as)]:=by
 have e1:(vs.map fun p=>((.str p.1,.int p.2):D×D)).map pairD=vs.map vz:=by rw[List.map_map];rfl
 have e2:(as.map fun p=>((.tup [.int p.1.1,.int p.1.2],.int p.2):D×D)).map pairD=as.map Bo:=by rw[List.map_map];rfl
 have s1:=G3 (aaI hv) (by rw[e1];exact afE vs) (by simpa using l1)
 rw[e1]at s1
 have l1':(M++[MO.lst (qj (vs.map vz))])[M.length]? = some (.lst (qj (vs.map vz))):=aN
 have g2:Gr M (M++[MO.lst (qj (vs.map vz))]++[.lst (Nq vs)]):=Gr.app.trans Gr.app
 have s2:=G3 (aaJ (F.gr g2)) (by rw[e2];exact afF as) (by simpa using l2)
 rw[e2]at s2
 refine⟨_,_,_,_,s1,rfl,?_,rfl,s2,rfl,?_,rfl⟩
 ·rw[Eg nz id (show jX (some (M.length,qj (vs.map vz))) _ from cN l1') fun d hd=> ?_]
  ·rw[List.nil_append,List.map_id];rfl
  ·obtain⟨p,_,rfl⟩:=List.mem_map.mp ((pC _).mem_iff.mp hd)
   refine⟨_,rfl,?_,fun _=> ?_⟩
   ·simp[Cm,nz,vz]
   ·simp[Cm,vz]
 ·rw[Eg (fun _=>true) Yw (show jX (some (_,qj (as.map Bo))) _ from cN aN) fun d hd=> ?_]
  ·rw[List.nil_append,List.filter_eq_self.mpr (fun _ _=>rfl)];rfl
  ·obtain⟨p,_,rfl⟩:=List.mem_map.mp ((pC _).mem_iff.mp hd)
   refine⟨_,rfl,rfl,fun _=> ?_⟩
   simp[Cm,Bo,Yw]
def amZ:D→Str×Int
 | .tup [.str s,.int i]=>(s,i)
 | _=>("",0)
def am0:D→(Int×Int)×Int
 | .tup [.tup [.int a,.int b],.int c]=>((a,b),c)
 | _=>((0,0),0)
theorem JQ{α:Type}(f:α→D)(g:D→α)(hg:∀x,g (f x)=x)(xs:List α):∃ys:List α,ys.Perm xs∧qj (xs.map f)=ys.map f:=by
 have p:=pC (xs.map f)
 refine⟨(qj (xs.map f)).map g,?_,?_⟩
 ·have:=p.map g
  rw[List.map_map]at this
  have e:(g∘f)=id:=funext hg
  rw[e,List.map_id]at this
  exact this
 ·rw[List.map_map]
  conv=>lhs;rw[←List.map_id (qj (xs.map f))]
  refine List.map_congr_left fun d hd=> ?_
  obtain⟨x,_,rfl⟩:=List.mem_map.mp (p.mem_iff.mp hd)
  simp[hg]
theorem aby(p:Str×Int):lO (vz p)=Kv p.1++[p.2]:=by
 refine zQ (ks:=[1,0]) ?_
 simp[Jo,vz,j4,gB]
theorem abz(p:(Int×Int)×Int):lO (Bo p)=[p.1.1,p.1.2,p.2]:=by
 refine zQ (ks:=[4,0]) ?_
 simp[Jo,Bo,j4,gB,m9]
theorem amY{p q:Str×Int}(h:HT.lexLt (lO (vz q)) (lO (vz p))=false)(hn:p.1≠q.1):p.1.cps.toList<q.1.cps.toList:=by
 rw[aby,aby]at h
 have kt:=zP q.1.cps.toList p.1.cps.toList
 have kt':=zP p.1.cps.toList q.1.cps.toList
 have hk:=kt.1 [q.2] [p.2]
 have ne:¬(q.1.cps.toList.map Int.ofNat++[-1]=p.1.cps.toList.map Int.ofNat++[-1]):=fun z=>hn (sO (kt.2.2 z).symm)
 rw[if_neg ne,kt.2.1]at hk
 have h':decide (q.1.cps.toList<p.1.cps.toList)=false:=by rw[←hk];exact h
 by_cases hlt:p.1.cps.toList<q.1.cps.toList
 ·exact hlt
 ·exfalso
  have e1:HT.lexLt (p.1.cps.toList.map Int.ofNat++[-1]) (q.1.cps.toList.map Int.ofNat++[-1])=false:=by rw[kt'.2.1];exact decide_eq_false hlt
  have e2:HT.lexLt (q.1.cps.toList.map Int.ofNat++[-1]) (p.1.cps.toList.map Int.ofNat++[-1])=false:=by rw[kt.2.1];exact h'
  exact ne (u5 _ _ e2 e1)
theorem aqx{p q:(Int×Int)×Int}(h:HT.lexLt (lO (Bo q)) (lO (Bo p))=false)(hn:p.1≠q.1):IW p q:=by
 rw[abz,abz]at h
 obtain⟨⟨pa,pb⟩,pc⟩:=p
 obtain⟨⟨qa,qb⟩,qc⟩:=q
 unfold IW
 simp only[HT.bw]at h
 by_cases e1:qa=pa
 ·subst e1
  rw[if_pos rfl]at h
  by_cases e2:qb=pb
  ·subst e2;exact absurd rfl hn
  ·rw[if_neg e2]at h
   have:=of_decide_eq_false h
   refine .inr ⟨rfl,?_⟩
   show pb<qb
   omega
 ·rw[if_neg e1]at h
  have:=of_decide_eq_false h
  refine .inl ?_
  show pa<qa
  omega
def abV(p:Str×Int):List Nat×Int:=(p.1.cps.toList,p.2)
theorem abU(p:Str×Int):zJ (abV p)=vz p:=by simp[zJ,abV,vz,X_]
theorem abZ{vs:List (Str×Int)}(nd:Nd vs)(ho:∀p∈vs,ni p.1.cps.toList=true∧Sm p.2):∃ws:List (List Nat×Int),Nq vs=ws.map zJ∧(∀p∈ws,M_ p)∧ws.Pairwise (fun p q=>p.1<q.1)∧ws.length≤vs.length:=by
 obtain⟨ys,pm,e⟩:=JQ vz amZ (fun _=>rfl) vs
 have up:=FT (vs.map vz)
 rw[e]at up
 have up':=List.pairwise_map.mp up
 have nd':(ys.map Prod.fst).Nodup:=(pm.map Prod.fst).nodup_iff.mpr nd
 have nd2:=List.pairwise_map.mp nd'
 refine⟨(ys.filter fun p=> !decide (p.2=0)).map abV,?_,?_,?_,?_⟩
 ·unfold Nq
  rw[e,List.filter_map,List.map_map]
  refine List.map_congr_left fun p _=>(abU p).symm
 ·intro p hp
  obtain⟨q,hq,rfl⟩:=List.mem_map.mp hp
  obtain⟨hq1,hq2⟩:=List.mem_filter.mp hq
  have:=ho q (pm.mem_iff.mp hq1)
  exact⟨this.1,this.2,show q.2≠0 by simpa using hq2⟩
 ·rw[List.pairwise_map]
  refine List.Pairwise.filter _ ?_
  exact(up'.and nd2).imp fun⟨h1,h2⟩=>amY h1 h2
 ·rw[List.length_map]
  exact Nat.le_trans (List.length_filter_le _ _) (Nat.le_of_eq pm.length_eq)
theorem ab0{as:List ((Int×Int)×Int)}(nd:Nd as)(ho:∀p∈as,Jg p):∃ws:List ((Int×Int)×Int),Uz as=ws.map Am∧(∀p∈ws,Jg p)∧ws.Pairwise IW∧ws.length=as.length:=by
 obtain⟨ys,pm,e⟩:=JQ Bo am0 (fun _=>rfl) as
 have up:=FT (as.map Bo)
 rw[e]at up
 have up':=List.pairwise_map.mp up
 have nd':(ys.map Prod.fst).Nodup:=(pm.map Prod.fst).nodup_iff.mpr nd
 have nd2:=List.pairwise_map.mp nd'
 refine⟨ys,?_,fun p hp=>ho p (pm.mem_iff.mp hp),(up'.and nd2).imp fun⟨h1,h2⟩=>aqx h1 h2,pm.length_eq⟩
 unfold Uz
 rw[e,List.map_map]
 rfl
structure Y8(M0:Mem)(x:Nat)(c:Int)(vd ad:Nat)(i:Nat)(e:Sl)(M:Mem):Prop where
 h:∃(vs:List (Str×Int)) (y:Option D),e=[some (.ref x),some (.int c),some (.ref vd),some (.ref ad),y]∧M[vd]? = some (.dk (enc kS vs))∧Nd vs∧(∀p∈vs,ni p.1.cps.toList=true∧Sm p.2)∧vs.length≤i∧Ch (· = vd) M0 M
theorem Tq{κ:Type}[DecidableEq κ]{l:List (κ×Int)}{k:κ}{i:Int}{p:κ×Int}(h:p∈put l k i):p∈l∨p=(k,i):=by
 unfold put at h
 split at h
 ·obtain⟨q,hq,e⟩:=List.mem_map.mp h
  split at e
  ·rename_i z
   right
   rw[←e,z]
  ·left;rw[←e];exact hq
 ·rcases List.mem_append.mp h with q | q
  ·exact .inl q
  ·right;simpa using q
theorem aaz{M0:Mem}{x:Nat}{c:Int}{vd ad n i:Nat}{xs:List Int}{d:D}{e:Sl}{M:Mem}(hxs:Ja 17 xs)(hx:M0[x]? = some (.lst (xs.map D.int)))(hn:n≤7)(hd:(Gb 0 n)[i]? = some d)(hxv:x≠vd)(h:Y8 M0 x c vd ad i e M):
  ∃e1,gN 4 d e=some e1∧(rR e1 M).to (Y8 M0 x c vd ad (i+1)) fun _ _=>False:=by
 obtain⟨vs,y,rfl,hv,nd,ho,hl,c0⟩:=h
 obtain⟨hi,rfl⟩:=K5 hd
 refine⟨_,rfl,?_⟩
 obtain⟨x1,p1,z1,_⟩:=fH hxs (i:=1+i) (by omega)
 obtain⟨x2,p2,z2,_⟩:=fH hxs (i:=2+i) (by omega)
 have hxM:=c0.2 _ _ hxv hx
 have i2:aR (.ref x) (.int (2+i)) M= .ok (.int x2) M:=jz hxM (by omega) p2
 obtain⟨m,M1,e1,hm,g1⟩:=wY (M:=M) x2 (c+i) z2
 have i1:aR (.ref x) (.int (1+i)) M1= .ok (.int x1) M1:=jz (g1 _ _ hxM) (by omega) p1
 obtain⟨s,hs,es⟩:=O5 x1 z1
 have hv1:=g1 _ _ hv
 have dp:=adT (s:=gf s) (i:=m) hv1 (by omega)
 simp only[rR]
 simp[i2,e1,i1,es,dp]
 refine⟨put vs (gf s) m,_,rfl,get_set hv1,nd.put _ _,fun p hp=> ?_,?_,?_⟩
 ·rcases Tq hp with q | rfl
  ·exact ho p q
  ·exact⟨by rw[cQ];exact hs,hm⟩
 ·have:=Tr (l:=vs) (k:=gf s) (i:=m)
  omega
 ·exact(c0.trans g1.ch).trans (Ch.set rfl)
structure Y9(M0:Mem)(x:Nat)(c:Int)(vd ad:Nat)(i:Nat)(e:Sl)(M:Mem):Prop where
 h:∃(as:List ((Int×Int)×Int)) (y:Option D),e=[some (.ref x),some (.int c),some (.ref vd),some (.ref ad),y]∧FAt M ad as∧Nd as∧(∀p∈as,Jg p)∧as.length≤i∧Ch (· = ad) M0 M
theorem aaD{M0:Mem}{x:Nat}{c:Int}{vd ad n i:Nat}{xs:List Int}{d:D}{e:Sl}{M:Mem}(hxs:Ja 17 xs)(hx:M0[x]? = some (.lst (xs.map D.int)))(hn:n≤7)(hd:(Gb 0 n)[i]? = some d)(hxa:x≠ad)(h:Y9 M0 x c vd ad i e M):
  ∃e1,gN 4 d e=some e1∧(rQ e1 M).to (Y9 M0 x c vd ad (i+1)) fun _ _=>False:=by
 obtain⟨as,y,rfl,F,nd,ho,hl,c0⟩:=h
 obtain⟨hi,rfl⟩:=K5 hd
 refine⟨_,rfl,?_⟩
 obtain⟨x8,p8,z8,_⟩:=fH hxs (i:=8+i) (by omega)
 obtain⟨x9,p9,z9,_⟩:=fH hxs (i:=9+i) (by omega)
 obtain⟨x10,p10,z10,_⟩:=fH hxs (i:=10+i) (by omega)
 have hxM:=c0.2 _ _ hxa hx
 have i10:aR (.ref x) (.int (10+i)) M= .ok (.int x10) M:=jz hxM (by omega) p10
 obtain⟨m,M1,e1,hm,g1⟩:=wY (M:=M) x10 (c+i) z10
 have i8:aR (.ref x) (.int (8+i)) M1= .ok (.int x8) M1:=jz (g1 _ _ hxM) (by omega) p8
 obtain⟨w,M2,e2,hw,g2⟩:=wY (M:=M1) x8 (c - i) z8
 have i9:aR (.ref x) (.int (9+i)) M2= .ok (.int x9) M2:=jz (g2 _ _ (g1 _ _ hxM)) (by omega) p9
 obtain⟨n',M3,e3,hn',g3⟩:=wY (M:=M2) x9 c z9
 have V5:=(g1.trans g2).trans g3
 have F3:=F.gr V5
 have hF:∃o,M3[ad]? = some o:=by
  rcases F3 with q | ⟨q,_⟩
  ·exact⟨_,q⟩
  ·exact⟨_,q⟩
 obtain⟨o3,ho3⟩:=hF
 have dp:=adU (w:=w) (n:=n') (x:=m) F3 (by omega)
 simp only[rQ]
 simp[i10,e1,i8,e2,i9,e3,dp]
 refine⟨put as (w,n') m,_,rfl,.inl (get_set ho3),nd.put _ _,fun p hp=> ?_,?_,?_⟩
 ·rcases Tq hp with q | rfl
  ·exact ho p q
  ·exact⟨hw,hn',hm⟩
 ·have:=Tr (l:=as) (k:=(w,n')) (i:=m)
  omega
 ·exact(c0.trans V5.ch).trans (Ch.set rfl)
theorem aaC{M:Mem}{x:Nat}{xs:List Int}{c:Int}(hxs:Ja 17 xs)(hx:M[x]? = some (.lst (xs.map D.int))):∃(vs:List (List Nat×Int)) (as:List ((Int×Int)×Int)) (M':Mem),tW [.ref x,.int c] M= .ok (.tup [.tup (vs.map zJ),.tup (as.map Am)]) M'∧Gr M M'∧
  (∀p∈vs,M_ p)∧vs.Pairwise (fun p q=>p.1<q.1)∧vs.length<64∧(∀p∈as,Jg p)∧as.Pairwise IW∧as.length<64:=by
 obtain⟨x0,p0,z0,_⟩:=fH hxs (i:=0) (by decide)
 obtain⟨x7,p7,z7,_⟩:=fH hxs (i:=7) (by decide)
 obtain⟨M1,v_⟩:∃M1,M1=M++[MO.dk []]:=⟨_,rfl⟩
 obtain⟨M2,yr⟩:∃M2,M2=M1++[MO.dk []]:=⟨_,rfl⟩
 have g1:Gr M M1:=by rw[v_];exact Gr.app
 have g2:Gr M1 M2:=by rw[yr];exact Gr.app
 have l1:M1.length=M.length+1:=by rw[v_];simp
 have v1:M1[M.length]? = some (.dk []):=by rw[v_];exact aN
 have v2:M2[M.length]? = some (.dk (enc kS [])):=g2 _ _ v1
 have a2:M2[M1.length]? = some (.dk []):=by rw[yr];exact aN
 have hx2:=g2 _ _ (g1 _ _ hx)
 have hxl:=eE hx
 have b0:=nP x0 (j:=7) (by decide)
 have b7:=nP x7 (j:=7) (by decide)
 have i0:aR (.ref x) (.int 0) M2= .ok (.int x0) M2:=jz hx2 rfl p0
 have r0:K6 [.int (x0 % 7)] M2= .ok ⟨none,Gb 0 (x0 % 7).toNat⟩ M2:=Hl (by omega) (by omega)
 obtain⟨e3,M3,h3,q3⟩:=sY (Y8 M2 x c M.length M1.length) (ds:=Gb 0 (x0 % 7).toNat) (e:=[some (.ref x),some (.int c),some (.ref M.length),some (.ref M1.length),none]) (M:=M2) (src:=none) (g:=gN 4) (b:=rR)
  ⟨[],none,rfl,v2,by simp[Nd],by simp,by simp,Ch.refl⟩ (fun _ _ _ _ _=>trivial) fun i d e M' hd h=>aaz hxs hx2 (by omega) hd (by omega) h
 obtain⟨vs,y3,rfl,hv3,nd3,ho3,hl3,c3⟩:=q3
 rw[K4]at hl3
 have hx3:=c3.2 x _ (by omega) hx2
 have a3:FAt M3 M1.length []:= .inr ⟨c3.2 _ _ (by omega) a2,rfl⟩
 have i7:aR (.ref x) (.int 7) M3= .ok (.int x7) M3:=jz hx3 rfl p7
 have r7:K6 [.int (x7 % 7)] M3= .ok ⟨none,Gb 0 (x7 % 7).toNat⟩ M3:=Hl (by omega) (by omega)
 obtain⟨e4,M4,h4,q4⟩:=sY (Y9 M3 x c M.length M1.length) (ds:=Gb 0 (x7 % 7).toNat) (e:=[some (.ref x),some (.int c),some (.ref M.length),some (.ref M1.length),y3]) (M:=M3) (src:=none) (g:=gN 4) (b:=rQ)
  ⟨[],y3,rfl,a3,by simp[Nd],by simp,by simp,Ch.refl⟩ (fun _ _ _ _ _=>trivial) fun i d e M' hd h=>aaD hxs hx3 (by omega) hd (by omega) h
 obtain⟨as,y4,rfl,F4,nd4,ho4,hl4,c4⟩:=q4
 rw[K4]at hl4
 have hv4:=c4.2 M.length _ (by omega) hv3
 obtain⟨N1,N2,N3,N4,s1,hN1,s2,hN2,s3,hN3,s4,hN4⟩:=adS hv4 F4 (by omega) (by omega)
 obtain⟨ws,ew,hw1,hw2,hw3⟩:=abZ nd3 ho3
 obtain⟨us,eu,hu1,hu2,hu3⟩:=ab0 nd4 ho4
 have u1:N1[M4.length]? = some (.lst (qj (vs.map vz))):=by rw[hN1];exact aN
 have u2:N2[N1.length]? = some (.lst (Nq vs)):=by rw[hN2];exact aN
 have u3:N3[N2.length]? = some (.lst (qj (as.map Bo))):=by rw[hN3];exact aN
 have u4:N4[N3.length]? = some (.lst (Uz as)):=by rw[hN4];exact aN
 have gN:Gr M4 N4:=by rw[hN4,hN3,hN2,hN1];exact((Gr.app.trans Gr.app).trans Gr.app).trans Gr.app
 refine⟨ws,us,N4,?_,fun i o h=>gN _ _ (c4.2 _ _ (by have:=eE h;omega) (c3.2 _ _ (by have:=eE h;omega) (g2 _ _ (g1 _ _ h)))),hw1,hw2,by omega,hu1,hu2,by omega⟩
 rw[←ew,←eu]
 simp only[tW,nG,CV,CT]
 have ec:∀e:Sl,o6 [] e=[]:=fun _=>rfl
 simp[←v_,←yr,i0,md,r0,h3,i7,r7,h4,s1,qF u1,ec,s2,pG u2,s3,qF u3,s4,pG u4]
theorem Rt{M:Mem}(ps:List Pt)(h:∀p∈ps,p.Ok)(h0:ps≠[])(hl:ps.length≤20):∃M',fJ [.tup (ps.map Pt.d)] M= .ok (bf (ps.map Pt.w)) M'∧Gr M M':=by
 obtain⟨M',e,g⟩:=pB (M:=M) ps h h0 hl
 exact⟨M',e,g⟩
theorem Ia{M:Mem}{n:Nat}(ps:List Pt)(h:∀p∈ps,p.Ok)(h0:ps≠[])(hl:ps.length≤20)(hn:M[n]? = some (.lst (ps.map Pt.d))):∃M',fJ [.ref n] M= .ok (bf (ps.map Pt.w)) M'∧Gr M M':=by
 have e1:=Qg (src:=some (n,ps.map Pt.d)) (M:=M) ps h (cN hn)
 obtain⟨M1,v_⟩:∃M1,M1=M++[MO.lst (ts (ps.map Pt.w))]:=⟨_,rfl⟩
 have h1:M1[M.length]? = some (.lst (ts (ps.map Pt.w))):=by rw[v_];exact aN
 rw[←v_]at e1
 have hw:Br (ps.map Pt.w):=yw (by simpa using h0) (by simpa using hl) fun w hw=>by
  obtain⟨p,hp,rfl⟩:=List.mem_map.mp hw
  exact abr (h p hp)
 refine⟨M1,?_,by rw[v_];exact Gr.app⟩
 simp only[fJ,fK]
 have ec:o6 [] [some (D.ref n)]=[]:=rfl
 simp[qF hn,ec,e1,FP,Pg h1 hw,bf]
structure vm(M0:Mem)(q:Nat)(e0:Sl)(j:List Nat)(rows:Nat→List D)(i:Nat)(e:Sl)(M:Mem):Prop where
 len:e.length=e0.length
 e:∀k,k∉j→e[k]? = e0[k]?
 r:M[q]? = some (.lst (rows i))
 c:Ch (· = q) M0 M
theorem take_snoc{α β:Type}(f:α→β){l:List α}{i:Nat}{x:α}(h:l[i]? = some x)(base:List β):base++(l.take (i+1)).map f=(base++(l.take i).map f)++[f x]:=by
 rw[List.take_add_one,h];simp
theorem Gs{M:Mem}{q:Nat}{ds:List D}{d:D}(h:M[q]? = some (.lst ds))(hl:ds.length<1000):∃M',iC (.ref q) [d] M= .ok .non M'∧M'[q]? = some (.lst (ds++[d]))∧Ch (· = q) M M':=
 ⟨_,ji h (by omega),get_set h,Ch.set rfl⟩
theorem Zm{M0 M:Mem}{q:Nat}{e0 e:Sl}{base:List D}{vs:List (List Nat×Int)}{i:Nat}{d:D}(he:e0.length=9)(h4:e0[4]? = some (some (.ref q)))(hv:∀p∈vs,M_ p)(hl:base.length+vs.length<900)(hd:(vs.map zJ)[i]? = some d)
  (h:vm M0 q e0 [5] (fun i=>base++(vs.take i).map fun p=>bf (zZ p)) i e M):∃e1,gN 5 d e=some e1∧(rP e1 M).to (vm M0 q e0 [5] (fun i=>base++(vs.take i).map fun p=>bf (zZ p)) (i+1)) fun _ _=>False:=by
 obtain⟨hlen,hee,hr,hc⟩:=h
 rw[List.getElem?_map]at hd
 obtain⟨p,hp,rfl⟩:=Option.map_eq_some_iff.mp hd
 have hpo:=hv p (List.mem_of_getElem? hp)
 refine⟨_,rfl,?_⟩
 have s4:(e.set 5 (some (zJ p)))[4]? = some (some (.ref q)):=by rw[List.getElem?_set_ne (by decide),hee 4 (by simp)];exact h4
 have s5:(e.set 5 (some (zJ p)))[5]? = some (some (zJ p)):=List.getElem?_set_self (by omega)
 obtain⟨M1,e1,g1⟩:=Rt (M:=M) (U7 p) (by
  intro q hq
  simp[U7]at hq
  rcases hq with rfl | rfl | rfl
  ·exact lC (by decide)
  ·exact yx hpo.1
  ·exact hpo.2.1) (by simp[U7]) (by simp[U7])
 have ew:bf ((U7 p).map Pt.w)=bf (zZ p):=by simp[U7,zZ]
 have ed:D.tup ((U7 p).map Pt.d)= .tup [.str "value",.str (gf p.1),.int p.2]:=by simp[U7]
 rw[ew,ed]at e1
 have es:dj (.tup [.str "value"]) (zJ p) M= .ok (.tup [.str "value",.str (gf p.1),.int p.2]) M:=jF (by simp) (by simp)
 obtain⟨M2,e2,q2,c2⟩:=Gs (d:=bf (zZ p)) (g1 _ _ hr) (by
  have:(vs.take i).length≤vs.length:=by simp;omega
  simp only[List.length_append,List.length_map];omega)
 generalize hP:vm M0 q e0 [5] (fun i=>base++(vs.take i).map fun p=>bf (zZ p)) (i+1)=P
 simp only[rP]
 simp[jW s4,jW s5,g_ hr,es,e1,e2]
 rw[←hP]
 exact⟨by simp[hlen],fun k hk=>by rw[List.getElem?_set_ne (by simp at hk;omega)];exact hee k hk,by rw[take_snoc _ hp];exact q2,(hc.trans g1.ch).trans c2⟩
theorem abY{M0 M:Mem}{q:Nat}{e0 e:Sl}{base:List D}{vs:List ((Int×Int)×Int)}{i:Nat}{d:D}(he:e0.length=9)(h4:e0[4]? = some (some (.ref q)))(hv:∀p∈vs,Jg p)(hl:base.length+vs.length<900)(hd:(vs.map Am)[i]? = some d)
  (h:vm M0 q e0 [6] (fun i=>base++(vs.take i).map fun p=>bf (Aa p)) i e M):∃e1,gN 6 d e=some e1∧(rO e1 M).to (vm M0 q e0 [6] (fun i=>base++(vs.take i).map fun p=>bf (Aa p)) (i+1)) fun _ _=>False:=by
 obtain⟨hlen,hee,hr,hc⟩:=h
 rw[List.getElem?_map]at hd
 obtain⟨p,hp,rfl⟩:=Option.map_eq_some_iff.mp hd
 have hpo:=hv p (List.mem_of_getElem? hp)
 refine⟨_,rfl,?_⟩
 have s4:(e.set 6 (some (Am p)))[4]? = some (some (.ref q)):=by rw[List.getElem?_set_ne (by decide),hee 4 (by simp)];exact h4
 have s5:(e.set 6 (some (Am p)))[6]? = some (some (Am p)):=List.getElem?_set_self (by omega)
 obtain⟨M1,e1,g1⟩:=Rt (M:=M) (Wk p) (by
  intro q hq
  simp[Wk]at hq
  rcases hq with rfl | rfl | rfl | rfl
  ·exact lC (by decide)
  ·exact hpo.1
  ·exact hpo.2.1
  ·exact hpo.2.2) (by simp[Wk]) (by simp[Wk])
 have ew:bf ((Wk p).map Pt.w)=bf (Aa p):=by simp[Wk,Aa]
 have ed:D.tup ((Wk p).map Pt.d)= .tup [.str "answer",.int p.1.1,.int p.1.2,.int p.2]:=by simp[Wk]
 rw[ew,ed]at e1
 have es:dj (.tup [.str "answer"]) (Am p) M= .ok (.tup [.str "answer",.int p.1.1,.int p.1.2,.int p.2]) M:=jF (by simp) (by simp)
 obtain⟨M2,e2,q2,c2⟩:=Gs (d:=bf (Aa p)) (g1 _ _ hr) (by
  have:(vs.take i).length≤vs.length:=by simp;omega
  simp only[List.length_append,List.length_map];omega)
 generalize hP:vm M0 q e0 [6] (fun i=>base++(vs.take i).map fun p=>bf (Aa p)) (i+1)=P
 simp only[rO]
 simp[jW s4,jW s5,g_ hr,es,e1,e2]
 rw[←hP]
 exact⟨by simp[hlen],fun k hk=>by rw[List.getElem?_set_ne (by simp at hk;omega)];exact hee k hk,by rw[take_snoc _ hp];exact q2,(hc.trans g1.ch).trans c2⟩
theorem Zn{M0 M:Mem}{q:Nat}{e0 e:Sl}{base:List D}{vs:List (Int×Wt)}{i:Nat}{d:D}(he:e0.length=9)(h4:e0[4]? = some (some (.ref q)))(hv:∀p∈vs,JD p)(hl:base.length+vs.length<900)(hd:(vs.map Jh)[i]? = some d)
  (h:vm M0 q e0 [7,8] (fun i=>base++(vs.take i).map fun p=>bf (yj p)) i e M):∃e1,gT 2 (iR (gN 7) (iR (gN 8) yX)) d e=some e1∧(oh e1 M).to (vm M0 q e0 [7,8] (fun i=>base++(vs.take i).map fun p=>bf (yj p)) (i+1)) fun _ _=>False:=by
 obtain⟨hlen,hee,hr,hc⟩:=h
 rw[List.getElem?_map]at hd
 obtain⟨p,hp,rfl⟩:=Option.map_eq_some_iff.mp hd
 have hpo:=hv p (List.mem_of_getElem? hp)
 have hg:gT 2 (iR (gN 7) (iR (gN 8) yX)) (Jh p) e=some ((e.set 7 (some (.int p.1))).set 8 (some p.2.d)):=by simp[Jh]
 refine⟨_,hg,?_⟩
 obtain⟨E,hE⟩:∃E,E=(e.set 7 (some (D.int p.1))).set 8 (some p.2.d):=⟨_,rfl⟩
 rw[←hE]
 have s4:E[4]? = some (some (.ref q)):=by rw[hE,List.getElem?_set_ne (by decide),List.getElem?_set_ne (by decide),hee 4 (by simp)];exact h4
 have s7:E[7]? = some (some (.int p.1)):=by rw[hE,List.getElem?_set_ne (by decide)];exact List.getElem?_set_self (by omega)
 have s8:E[8]? = some (some p.2.d):=by rw[hE];exact List.getElem?_set_self (by simp;omega)
 have fin:∀{M1 M2:Mem},Gr M M1→M2[q]? = some (.lst ((base++(vs.take i).map fun p=>bf (yj p))++[bf (yj p)]))→Ch (· = q) M1 M2→vm M0 q e0 [7,8] (fun i=>base++(vs.take i).map fun p=>bf (yj p)) (i+1) E M2:=fun{M1 M2} g1 q2 c2=>
  ⟨by rw[hE];simp[hlen],fun k hk=>by rw[hE,List.getElem?_set_ne (by simp at hk;omega),List.getElem?_set_ne (by simp at hk;omega)];exact hee k hk,by rw[take_snoc _ hp];exact q2,(hc.trans g1.ch).trans c2⟩
 have hlen':(base++(vs.take i).map fun p=>bf (yj p)).length<1000:=by
  have:(vs.take i).length≤vs.length:=by simp;omega
  simp only[List.length_append,List.length_map];omega
 have ew:bf ((Iv p).map Pt.w)=bf (yj p):=by simp[Iv,yj,Wt.p_w]
 have hPl:(Iv p).length≤20:=by have:=Gv p.2;simp[Iv];omega
 obtain⟨t,x⟩:=p
 by_cases hx:∃w n o,x= .ask w n o
 ·obtain⟨w,n,o,rfl⟩:=hx
  obtain⟨M1,v_⟩:∃M1,M1=M++[MO.lst [.str "at",.int t,.str "ask",.int w,.int n]]:=⟨_,rfl⟩
  have u1:M1[M.length]? = some (.lst [.str "at",.int t,.str "ask",.int w,.int n]):=by rw[v_];exact aN
  have g1:Gr M M1:=by rw[v_];exact Gr.app
  have od:o.d= .tup (o.p.map Pt.d):=(Od.p_d o).symm
  obtain⟨M2,yr⟩:∃M2,M2=M1++[MO.lst (o.p.map Pt.d)]:=⟨_,rfl⟩
  have u2:M2[M1.length]? = some (.lst (o.p.map Pt.d)):=by rw[yr];exact aN
  have g2:Gr M1 M2:=by rw[yr];exact Gr.app
  have sl:Ac [o.d] M1= .ok (.ref M1.length) M2:=by rw[od,yr];rfl
  have hol:o.p.length≤4:=by have:=Rj o;rw[←Od.p_w]at this;simpa using this
  have ct:dj (.ref M.length) (.ref M1.length) M2= .ok (.ref M2.length) (M2++[.lst ([.str "at",.int t,.str "ask",.int w,.int n]++o.p.map Pt.d)]):=Hj (g2 _ _ u1) u2 (by simp;omega)
  obtain⟨M3,RL⟩:∃M3,M3=M2++[MO.lst ([.str "at",.int t,.str "ask",.int w,.int n]++o.p.map Pt.d)]:=⟨_,rfl⟩
  rw[←RL]at ct
  have u3:M3[M2.length]? = some (.lst ((Iv (t,.ask w n o)).map Pt.d)):=by rw[RL];simp[Iv,Wt.p]
  have g3:Gr M2 M3:=by rw[RL];exact Gr.app
  obtain⟨M4,e4,g4⟩:=Ia (M:=M3) (Iv (t,.ask w n o)) (Mp hpo) (by simp[Iv]) hPl u3
  rw[ew]at e4
  have gs:=((g1.trans g2).trans g3).trans g4
  obtain⟨M5,e5,q5,c5⟩:=Gs (d:=bf (yj (t,.ask w n o))) (gs _ _ hr) hlen'
  have F:=fin gs q5 c5
  revert F
  generalize vm M0 q e0 [7,8] (fun i=>base++(vs.take i).map fun p=>bf (yj p)) (i+1)=P
  intro F
  simp only[oh,xx]
  simp only at s7 s8
  simp[jW s8,Wt.d,jW s4,jW s7,g_ hr,←v_,sl,ct,e4,e5]
  exact F
 ·have hd:x.d= .tup (x.p.map Pt.d)∧∃k r,x.d= .tup (.str k::r)∧¬(k= "ask"):=by
   cases x with
   | start=>exact⟨by simp[Wt.d,Wt.p],_,_,rfl,by decide⟩
   | roll a b=>exact⟨by simp[Wt.d,Wt.p],_,_,rfl,by decide⟩
   | ask w n o=>exact absurd ⟨w,n,o,rfl⟩ hx
  obtain⟨hd1,k,r,hd2,hk⟩:=hd
  have es:dj (.tup [.str "at",.int t]) x.d M= .ok (.tup ((Iv (t,x)).map Pt.d)) M:=by
   rw[hd1,jF (by simp) (by have:=Gv x;simp;omega)]
   simp[Iv]
  obtain⟨M1,e1,g1⟩:=Rt (M:=M) (Iv (t,x)) (Mp hpo) (by simp[Iv]) hPl
  rw[ew]at e1
  obtain⟨M2,e2,q2,c2⟩:=Gs (d:=bf (yj (t,x))) (g1 _ _ hr) hlen'
  have i0:aR x.d (.int 0) M= .ok (.str k) M:=by rw[hd2];exact B_
  have F:=fin g1 q2 c2
  revert F
  generalize vm M0 q e0 [7,8] (fun i=>base++(vs.take i).map fun p=>bf (yj p)) (i+1)=P
  intro F
  simp only[oh,xx]
  simp only at s7 s8
  simp[jW s8,i0,hk,jW s4,jW s7,g_ hr,es,e1,e2]
  exact F
def Bk.vq(B:Bk):Pt:=match B.vt with
 | none=> .no
 | some v=> .n v
theorem afr{B:Bk}(h:B.Ok):B.vq.Ok∧B.vq.d=B.vd:=by
 unfold Bk.vq Bk.vd
 cases e:B.vt with
 | none=>exact⟨trivial,rfl⟩
 | some v=>
  have:=h.vt v e
  exact⟨show Sm v by unfold Sm;omega,rfl⟩
theorem take_all{α β:Type}(f:α→β)(l:List α):(l.take l.length).map f=l.map f:=by rw[List.take_length]
theorem O9{M:Mem}{bl el:Nat}{B:Bk}(h:B.Ok)(hb:M[bl]? = some (.lst [.int B.b,.int B.bt,.int B.r1,.int B.r2]))(he:M[el]? = some (.lst B.ents)):
  ∃M',xj [.tup [.int B.tm,B.vd],.ref bl,B.kept,.ref el] M= .ok (.str B.text) M'∧Gr M M':=by
 have hv:=h.lv
 have ha:=h.la
 have hes:=h.le
 have hbl:=zA h
 have vq:=afr h
 obtain⟨N1,hN1⟩:∃N1,N1=M++[MO.lst [.str "book",.int B.tm,B.vd]]:=⟨_,rfl⟩
 have u1:N1[M.length]? = some (.lst ([Pt.s (W "book"),.n B.tm,B.vq].map Pt.d)):=by rw[hN1,aN];simp[vq.2]
 have gN1:Gr M N1:=by rw[hN1];exact Gr.app
 obtain⟨M1,e1,g1⟩:=Ia (M:=N1) [Pt.s (W "book"),.n B.tm,B.vq] (by
  intro q hq
  simp at hq
  rcases hq with rfl | rfl | rfl
  ·exact lC (by decide)
  ·exact h.tm.2
  ·exact vq.1) (by simp) (by simp) u1
 obtain⟨r0,hr0⟩:∃r0,r0=bf ([Pt.s (W "book"),.n B.tm,B.vq].map Pt.w):=⟨_,rfl⟩
 rw[←hr0]at e1
 obtain⟨N2,hN2⟩:∃N2,N2=M1++[MO.lst [D.str "base"]]:=⟨_,rfl⟩
 have u2:N2[M1.length]? = some (.lst [D.str "base"]):=by rw[hN2];exact aN
 have gN2:Gr M1 N2:=by rw[hN2];exact Gr.app
 have b2:=gN2 _ _ (g1 _ _ (gN1 _ _ hb))
 have ct:=Hj u2 b2 (by simp)
 obtain⟨N3,hN3⟩:∃N3,N3=N2++[MO.lst ([D.str "base"]++[.int B.b,.int B.bt,.int B.r1,.int B.r2])]:=⟨_,rfl⟩
 rw[←hN3]at ct
 have gN3:Gr N2 N3:=by rw[hN3];exact Gr.app
 have rs:=Oi h.ro
 obtain⟨M2,e2,g2⟩:=Ia (M:=N3) (n:=N2.length) [Pt.s (W "base"),.n B.b,.n B.bt,.n B.r1,.n B.r2] (by
  intro q hq
  simp at hq
  rcases hq with rfl | rfl | rfl | rfl | rfl
  ·exact lC (by decide)
  ·exact h.b.2
  ·exact h.bt.2
  ·exact rs.1
  ·exact rs.2) (by simp) (by simp) (by rw[hN3,aN];simp)
 have e2':fJ [.ref N2.length] N3= .ok (bf [W "base",aK B.b,aK B.bt,aK B.r1,aK B.r2]) M2:=by simpa using e2
 obtain⟨M3,RL⟩:∃M3,M3=M2++[MO.lst [r0,bf [W "base",aK B.b,aK B.bt,aK B.r1,aK B.r2]]]:=⟨_,rfl⟩
 have q3:M3[M2.length]? = some (.lst [r0,bf [W "base",aK B.b,aK B.bt,aK B.r1,aK B.r2]]):=by rw[RL];exact aN
 have gM3:Gr M2 M3:=by rw[RL];exact Gr.app
 have gs:Gr M M2:=(((gN1.trans g1).trans gN2).trans gN3).trans g2
 have hel:el≠M2.length:=by have:=eE (gs _ _ he);omega
 have first:∃M4,sI [some (.tup [.int B.tm,B.vd]),some (.ref bl),some B.kept,some (.ref el),some (.ref M2.length),none,none,none,none] M3= .next [some (.tup [.int B.tm,B.vd]),some (.ref bl),some B.kept,some (.ref el),some (.ref M2.length),none,none,none,none] M4∧
   M4[M2.length]? = some (.lst [bf [W "book",aK B.tm,B.vw],bf [W "base",aK B.b,aK B.bt,aK B.r1,aK B.r2]])∧Ch (· = M2.length) M3 M4:=by
  unfold Bk.vd Bk.vw
  unfold Bk.vq at hr0
  cases ev:B.vt with
  | some v=>
   rw[ev]at hr0
   simp only[List.map_cons,List.map_nil,Pt.w_s,Pt.w_n]at hr0
   refine⟨M3,?_,by rw[q3,hr0],Ch.refl⟩
   simp only[sI]
   simp
  | none=>
   obtain⟨N4,hN4⟩:∃N4,N4=M3++[MO.lst [.str "book",.int B.tm,.str "-"]]:=⟨_,rfl⟩
   have gN4:Gr M3 N4:=by rw[hN4];exact Gr.app
   obtain⟨M4,e4,g4⟩:=Ia (M:=N4) (n:=M3.length) [Pt.s (W "book"),.n B.tm,.s (W "-")] (by
    intro q hq
    simp at hq
    rcases hq with rfl | rfl | rfl
    ·exact lC (by decide)
    ·exact h.tm.2
    ·exact lC (by decide)) (by simp) (by simp) (by rw[hN4,aN];simp)
   simp only[List.map_cons,List.map_nil,Pt.w_s,Pt.w_n]at e4
   have q4:=g4 _ _ (gN4 _ _ q3)
   have lp:Rx M4 (.ref M2.length) (.int 0) (bf [W "book",aK B.tm,W "-"])=some (M4.set M2.length (.lst [bf [W "book",aK B.tm,W "-"],bf [W "base",aK B.b,aK B.bt,aK B.r1,aK B.r2]])):=by
    simp only[Rx,q4]
    rfl
   refine⟨_,?_,get_set q4,(gN4.trans g4).ch.trans (Ch.set rfl)⟩
   simp only[sI]
   simp[←hN4,e4,lp]
 obtain⟨M4,e4,q4,c4⟩:=first
 obtain⟨E,hE⟩:∃E:Sl,E=[some (.tup [.int B.tm,B.vd]),some (.ref bl),some B.kept,some (.ref el),some (.ref M2.length),none,none,none,none]:=⟨_,rfl⟩
 obtain⟨e5,M5,l5,i5⟩:=sY (src:=none) (g:=gN 5) (b:=rP) (vm M4 M2.length E [5] (fun i=>[bf [W "book",aK B.tm,B.vw],bf [W "base",aK B.b,aK B.bt,aK B.r1,aK B.r2]]++(B.vs.take i).map fun p=>bf (zZ p))) (ds:=B.vs.map zJ) (e:=E) (M:=M4)
  ⟨rfl,fun _ _=>rfl,by simpa using q4,Ch.refl⟩ (fun _ _ _ _ _=>trivial) fun i d e M' hd hi=>Zm (by rw[hE];rfl) (by rw[hE];rfl) h.vs (by simp;omega) hd hi
 rw[List.length_map]at i5
 have r5:=i5.r
 simp only[take_all]at r5
 have E5:e5.length=9:=by rw[i5.len,hE];rfl
 have g5:∀k,k≠5→e5[k]? = E[k]? := fun k hk=>i5.e k (by simpa using hk)
 obtain⟨e6,M6,l6,i6⟩:=sY (src:=none) (g:=gN 6) (b:=rO) (vm M5 M2.length e5 [6] (fun i=>([bf [W "book",aK B.tm,B.vw],bf [W "base",aK B.b,aK B.bt,aK B.r1,aK B.r2]]++B.vs.map fun p=>bf (zZ p))++(B.as.take i).map fun p=>bf (Aa p))) (ds:=B.as.map Am) (e:=e5) (M:=M5)
  ⟨rfl,fun _ _=>rfl,by simpa using r5,Ch.refl⟩ (fun _ _ _ _ _=>trivial) fun i d e M' hd hi=>abY E5 (by rw[g5 4 (by decide),hE];rfl) h.as (by simp;omega) hd hi
 rw[List.length_map]at i6
 have r6:=i6.r
 simp only[take_all]at r6
 have E6:e6.length=9:=by rw[i6.len,E5]
 have g6:∀k,k≠5→k≠6→e6[k]? = E[k]? := fun k hk hk'=>(i6.e k (by simpa using hk')).trans (g5 k hk)
 have he6:M6[el]? = some (.lst B.ents):=i6.c.2 _ _ hel (i5.c.2 _ _ hel (c4.2 _ _ hel (gM3 _ _ (gs _ _ he))))
 obtain⟨e7,M7,l7,i7⟩:=sY (src:=some (el,B.ents)) (g:=gT 2 (iR (gN 7) (iR (gN 8) yX))) (b:=oh) (vm M6 M2.length e6 [7,8] (fun i=>(([bf [W "book",aK B.tm,B.vw],bf [W "base",aK B.b,aK B.bt,aK B.r1,aK B.r2]]++B.vs.map fun p=>bf (zZ p))++B.as.map fun p=>bf (Aa p))++(B.es.take i).map fun p=>bf (yj p))) (ds:=B.ents) (e:=e6) (M:=M6)
  ⟨rfl,fun _ _=>rfl,by simpa using r6,Ch.refl⟩ (fun i e M' _ hi=>cN (hi.c.2 _ _ hel he6)) fun i d e M' hd hi=>Zn E6 (by rw[g6 4 (by decide) (by decide),hE];rfl) h.es (by simp;omega) hd hi
 have hle:B.ents.length=B.es.length:=by simp[Bk.ents]
 rw[hle]at i7
 have r7:=i7.r
 simp only[take_all]at r7
 have r7':M7[M2.length]? = some (.lst (B.body.map bf)):=by
  rw[r7];simp[Bk.body,List.map_map]
  rfl
 have g7:∀k,k≠5→k≠6→k≠7→k≠8→e7[k]? = E[k]? := fun k h5 h6 h7 h8=>(i7.e k (by simp;omega)).trans (g6 k h5 h6)
 have s4:e7[4]? = some (some (.ref M2.length)):=by rw[g7 4 (by decide) (by decide) (by decide) (by decide),hE];rfl
 have ln:o9 [.ref M2.length] M7= .ok (.int B.body.length) M7:=by rw[je r7',List.length_map]
 obtain⟨N8,hN8⟩:∃N8,N8=M7++[MO.lst [.str "end",.int B.body.length]]:=⟨_,rfl⟩
 have gN8:Gr M7 N8:=by rw[hN8];exact Gr.app
 obtain⟨M8,e8,g8⟩:=Ia (M:=N8) (n:=M7.length) [Pt.s (W "end"),.n B.body.length] (by
  intro q hq
  simp at hq
  rcases hq with rfl | rfl
  ·exact lC (by decide)
  ·show Sm _
   unfold Sm;omega) (by simp) (by simp) (by rw[hN8,aN];simp)
 have e8':fJ [.ref M7.length] N8= .ok (bf [W "end",aK B.body.length]) M8:=by simpa using e8
 obtain⟨N9,hN9⟩:∃N9,N9=M8++[MO.lst [bf [W "end",aK B.body.length]]]:=⟨_,rfl⟩
 have u9:N9[M8.length]? = some (.lst [bf [W "end",aK B.body.length]]):=by rw[hN9];exact aN
 have gN9:Gr M8 N9:=by rw[hN9];exact Gr.app
 have ct9:=Hj (gN9 _ _ (g8 _ _ (gN8 _ _ r7'))) u9 (by simp;omega)
 obtain⟨N10,adJ⟩:∃N10,N10=N9++[MO.lst (B.body.map bf++[bf [W "end",aK B.body.length]])]:=⟨_,rfl⟩
 rw[←adJ]at ct9
 have u10:N10[N9.length]? = some (.lst ((B.di.map b8).map D.str)):=by
  rw[adJ,aN,List.map_map]
  show _=some (MO.lst (B.di.map bf))
  simp[Bk.di]
 have aqc:Gr N9 N10:=by rw[adJ];exact Gr.app
 have hj:JoinOk "\n" (B.di.map b8)=true:=by
  rw[TX]
  refine Rz (n:=1020) (fun y hy=> ?_) (by simp[Bk.di];omega)
  obtain⟨ws,hs,rfl⟩:=List.mem_map.mp hy
  exact Ce (Kr h ws hs)
 have e10:yG (.str "\n") [.ref N9.length] N10= .ok (.str B.text) N10:=Hh u10 hj
 have aeB:Ch (· = M2.length) M2 N10:=((((gM3.ch.trans c4).trans i5.c).trans i6.c).trans i7.c).trans ((((gN8.trans g8).trans gN9).trans aqc).ch)
 refine⟨N10,?_,fun i o hi=>aeB.2 _ _ (by have:=eE (gs _ _ hi);omega) (gs _ _ hi)⟩
 have k0:∀M,aR B.kept (.int 0) M= .ok (.tup (B.vs.map zJ)) M:=fun _=>B_
 have k1:∀M,aR B.kept (.int 1) M= .ok (.tup (B.as.map Am)) M:=fun _=>Hi
 have s2:E[2]? = some (some B.kept):=by rw[hE];rfl
 have s25:e5[2]? = some (some B.kept):=(g5 2 (by decide)).trans s2
 have s36:e6[3]? = some (some (.ref el)):=by rw[g6 3 (by decide) (by decide),hE];rfl
 rw[←hE]at e4
 simp only[xj,nF,CQ,CP,CN]
 have ap8:M++[MO.lst [.str "book",.int B.tm,B.vd]]=N1:=hN1.symm
 simp[ap8,e1,←hN2,ct,e2',←RL,←hE,e4,jW s2,k0,l5,jW s25,k1,l6,jW s36,qF he6,l7,jW s4,ln,←hN8,e8',←hN9,ct9,FP,e10]
theorem wF{k:Nat}{ds:List D}(h:∀d∈ds,(∃i,d= .int i)∨(∃s,d= .str s)):Dat (k+2) (.tup ds):=zW fun d hd=>by
 rcases h d hd with⟨i,rfl⟩ | ⟨s,rfl⟩
 ·exact xN
 ·exact zX
theorem adZ{k:Nat}{o:Od}:Dat (k+2) o.d:=by
 cases o<;>exact wF fun d hd=>by
  simp at hd
  rcases hd with rfl | rfl | rfl | rfl<;>first | exact .inl ⟨_,rfl⟩ | exact .inr ⟨_,rfl⟩
theorem adX{k:Nat}{x:Wt}:Dat (k+3) x.d:=by
 cases x with
 | start=>exact wF (k:=k+1) fun d hd=>by simp at hd;subst hd;exact .inr ⟨_,rfl⟩
 | roll a b=>
  exact wF (k:=k+1) fun d hd=>by
   simp at hd
   rcases hd with rfl | rfl | rfl<;>first | exact .inl ⟨_,rfl⟩ | exact .inr ⟨_,rfl⟩
 | ask w n o=>
  exact zW fun d hd=>by
   simp at hd
   rcases hd with rfl | rfl | rfl | rfl
   ·exact zX
   ·exact xN
   ·exact xN
   ·exact adZ
theorem ad0{p:Int×Wt}:Dat 11 (Jh p):=zW fun d hd=>by
 simp at hd
 rcases hd with rfl | rfl
 ·exact xN
 ·exact adX (k:=7)
theorem YJ(B:Bk):Dat 12 B.kept:=zW fun d hd=>by
 simp at hd
 rcases hd with rfl | rfl
 ·refine zW fun d hd=> ?_
  obtain⟨p,_,rfl⟩:=List.mem_map.mp hd
  exact wF (k:=8) fun d hd=>by
   simp at hd
   rcases hd with rfl | rfl<;>first | exact .inl ⟨_,rfl⟩ | exact .inr ⟨_,rfl⟩
 ·refine zW fun d hd=> ?_
  obtain⟨p,_,rfl⟩:=List.mem_map.mp hd
  exact wF (k:=8) fun d hd=>by
   simp at hd
   rcases hd with rfl | rfl | rfl<;>exact .inl ⟨_,rfl⟩
theorem adY(B:Bk):Dat 12 B.vd:=by
 unfold Bk.vd
 cases B.vt with
 | none=>exact aaW
 | some v=>exact xN
theorem adB(B:Bk)(M:Mem):Ca [B.vd,.ty "bool"] M= .ok (.bl false) M:=by
 unfold Bk.vd
 cases B.vt with
 | none=>unfold Ca;rfl
 | some v=>exact Jm
theorem Ho{M:Mem}{k r l bl el:Nat}{B:Bk}(H:yp M k r l B.tm B.vd B.b B.bt B.roll B.kept B.ents)(hb:M[bl]? = some (.lst [.int B.b,.int B.bt,.int B.r1,.int B.r2]))(he:M[el]? = some (.lst B.ents)):
  ∃M',nR [.ref k,.tup [.int B.tm,B.vd],.ref bl,B.kept,.ref el] M= .ok (.bl true) M'∧Gr M M':=by
 obtain⟨M1,v_⟩:∃M1,M1=M++[MO.lst [.int B.b,.int B.bt,B.roll]]:=⟨_,rfl⟩
 have u1:M1[M.length]? = some (.lst [.int B.b,.int B.bt,B.roll]):=by rw[v_];exact aN
 have g1:Gr M M1:=by rw[v_];exact Gr.app
 have b1:=g1 _ _ hb
 obtain⟨M2,yr⟩:∃M2,M2=M1++[MO.lst [.int B.b,.int B.bt,B.roll]]:=⟨_,rfl⟩
 have u2:M2[M1.length]? = some (.lst [.int B.b,.int B.bt,B.roll]):=by rw[yr];exact aN
 have g2:Gr M1 M2:=by rw[yr];exact Gr.app
 have H2:=(H.gr g1).gr g2
 have i0:aR (.ref bl) (.int 0) M1= .ok (.int B.b) M1:=jU b1 (by omega) rfl
 have i1:aR (.ref bl) (.int 1) M1= .ok (.int B.bt) M1:=jU b1 (by omega) rfl
 have i2:aR (.ref bl) (.int 2) M1= .ok (.int B.r1) M1:=jU b1 (by omega) rfl
 have i3:aR (.ref bl) (.int 3) M1= .ok (.int B.r2) M1:=jU b1 (by omega) rfl
 have n0:sNe B.vd B.vd M= .ok (.bl false) M:=KY (YK (adY B) M)
 have n1:sNe (.ref M.length) (.ref M1.length) M2= .ok (.bl false) M2:=KY (Ed (fun d hd=>by
  simp at hd
  rcases hd with rfl | rfl | rfl
  ·exact xN
  ·exact xN
  ·exact wF (k:=9) fun d hd=>by
    simp at hd
    rcases hd with rfl | rfl<;>exact .inl ⟨_,rfl⟩) (g2 _ _ u1) u2)
 have en:=Ir H2.row
 obtain⟨M3,RL⟩:∃M3,M3=M2++[MO.lst B.ents]:=⟨_,rfl⟩
 rw[←RL]at en
 have u3:M3[M2.length]? = some (.lst B.ents):=by rw[RL];exact aN
 have g3:Gr M2 M3:=by rw[RL];exact Gr.app
 have H3:=H2.gr g3
 have q1:sEq (.ref M2.length) (.ref el) M3= .ok (.bl true) M3:=A_ (Ed (fun d hd=>by
  obtain⟨p,_,rfl⟩:=List.mem_map.mp hd
  exact ad0) u3 (g3 _ _ (g2 _ _ (g1 _ _ he))))
 have q2:sEq B.kept B.kept M3= .ok (.bl true) M3:=A_ (YK (YJ B) M3)
 have ik:Ca [B.kept,.ty "tuple"] M3= .ok (.bl true) M3:=KZ
 refine⟨M3,?_,(g1.trans g2).trans g3⟩
 simp only[nR,iK,Ak,Aj]
 have hr:B.roll= .tup [.int B.r1,.int B.r2]:=rfl
 simp[H.fr,H.ft,H.fv,n0,adB B M,H.row.fb,H.row.ft,H.row.fr,←v_,i0,i1,i2,i3,←hr,←yr,n1,H2.row.me (m:= "entries") rfl,en,q1,H3.fk,ik,q2]
theorem acF{M:Mem}{r l:Nat}{b bt:Int}{br:D}{es:List D}(R:gR M r b bt br l es)(d:D):gR (M.set l (.lst (es++[d]))) r b bt br l (es++[d]):=⟨by rw[nu R.ne];exact R.o,get_set R.k⟩
theorem aay{M:Mem}{r l:Nat}{b bt:Int}{br:D}{es:List D}(R:gR M r b bt br l es):xr [.ref r] M= .ok (.int (b+es.length)) M:=by
 simp[xr,nJ,R.fb,R.fk,je R.k]
theorem Xq{M:Mem}{r l:Nat}{b bt:Int}{br:D}{es:List D}(R:gR M r b bt br l es)(d:D)(hlen:es.length<16777216):∃M',vX [.ref r,d] M= .ok (.int (b+((es.length:Int)+1))) M'∧Ch (· = l) M M':=by
 have R':=acF R d
 refine⟨M.set l (.lst (es++[d])),?_,Ch.set rfl⟩
 simp only[vX,nY]
 simp[R.fk,g_ R.k,ji R.k hlen,R'.me (m:= "last") rfl,aay R']
theorem aaZ{α β:Type}(f:α→β)(xs:List α)(lo hi:Option Int):cut (xs.map f) lo hi=(cut xs lo hi).map f:=by
 unfold cut
 rw[List.length_map,List.map_take,List.map_drop]
theorem aa0{α:Type}(xs:List α)(lo hi:Option Int):(cut xs lo hi).length≤xs.length:=by
 unfold cut
 rw[List.length_take,List.length_drop]
 omega
theorem aaU{M:Mem}{y:Nat}{cs:List Int}{T:Int}(hT:0<T)(hT1:T≤10 ^ 40)(hcs:cs.length≤64)(hy:M[y]? = some (.lst (cs.map D.int)))
  (pw:∀M:Mem,BZ (.int 10) (.int 40) M= .ok (.int T) M):
  ∃(es:List (Int×Wt)) (x:Nat) (M':Mem),uI (some (y,cs.map D.int)) sE (gQ (aq (aD dj (aD iQ (aD aR (aZ fY 2 [] (aq (aD dj (aA 0) (mC (.int 1))) (aq (mC (.int 1)) aF))) (mC (.int 0))) (mC (.int 5))) (aD iQ (aA 0) (aD BZ (mC (.int 10)) (mC (.int 40))))) (aq (aZ j6 1 [] (aq (aA 0) aF)) aF))) [] (cs.map D.int) [] M= .ok (.ref x) M'∧
   M'[x]? = some (.lst (es.map Jh))∧(∀p∈es,JD p)∧es.length≤64∧Gr M M':=by
 obtain⟨ys,M',e,es,hy',ho,hl,g⟩:=Dd (src:=some (y,cs.map D.int)) (tt:=sE) (te:=gQ (aq (aD dj (aD iQ (aD aR (aZ fY 2 [] (aq (aD dj (aA 0) (mC (.int 1))) (aq (mC (.int 1)) aF))) (mC (.int 0))) (mC (.int 5))) (aD iQ (aA 0) (aD BZ (mC (.int 10)) (mC (.int 40))))) (aq (aZ j6 1 [] (aq (aA 0) aF)) aF))) (ce:=[])
  (fun i ys M'=>∃es:List (Int×Wt),ys=es.map Jh∧(∀p∈es,JD p)∧es.length=i∧Gr M M') (cs.map D.int) 0 (ys:=[]) (M:=M) ⟨[],rfl,by simp,rfl,Gr.refl⟩
  (fun i ys M' _ _ h=>by obtain⟨_,_,_,_,g⟩:=h;exact cN (g _ _ hy)) (fun i d ys M2 hd h=>by
   obtain⟨es,h1,h2,h3,h4⟩:=h
   rw[Nat.zero_add]at h3 ⊢
   rw[List.getElem?_map]at hd
   obtain⟨c,_,rfl⟩:=Option.map_eq_some_iff.mp hd
   obtain⟨xs,x,M3,hxs,e3,hx3,g3⟩:=Ao (M:=M2) (c+1) 1 (nn:=1) rfl (by decide)
   obtain⟨x0,p0,z0,_⟩:=fH hxs (i:=0) (by decide)
   have i0:aR (.ref x) (.int 0) M3= .ok (.int x0) M3:=jz hx3 rfl p0
   obtain⟨w,M4,e4,hw,g4⟩:=Zg (M:=M3) c
   have b5:=nP x0 (j:=5) (by decide)
   have bT:=nP c hT
   refine⟨true,M2,rfl,.inr ⟨rfl,Jh (x0 % 5+c % T,w),M4,?_,es++[(x0 % 5+c % T,w)],by rw[h1];simp,fun p hp=> ?_,by simp[h3],(h4.trans g3).trans g4⟩⟩
   ·simp[e3,i0,md,pw,hT,e4,Jh]
   ·rcases List.mem_append.mp hp with q | q
    ·exact h2 p q
    ·rw[List.mem_singleton.mp q]
     exact⟨by show 0≤_;omega,by show Sm _;unfold Sm;omega,hw⟩)
 refine⟨es,_,_,e,by rw[aN,hy'],ho,?_,g.trans Gr.app⟩
 rw[hl];simp;omega
theorem aa1{ns:List Int}(h:ns.length≤63):(cut ns (some 3) (some 40)).length≤64:=by
 have:=aa0 ns (some 3) (some 40)
 omega
theorem adp:∀ns:List Int,ns.length≤63→∃M,Yd [.cl (ns.map D.int)] []= .ok (.bl true) M:=by
 intro ns hns
 obtain⟨T,hT⟩:∃T:Int,T=10 ^ 40:=⟨_,rfl⟩
 have hT0:0<T:=by rw[hT];decide
 have hT1:T≤10 ^ 40:=by rw[hT];exact Int.le_refl _
 have pw:∀M:Mem,BZ (.int 10) (.int 40) M= .ok (.int T) M:=fun M=>by rw[hT];exact N7 (by decide)
 clear hT
 have c0:∀M,bU [.cl (ns.map D.int),.int 0] M= .ok (.int (cell ns 0)) M:=fun M=>Gp ns 0 rfl
 have c1:∀M,bU [.cl (ns.map D.int),.int 1] M= .ok (.int (cell ns 1)) M:=fun M=>Gp ns 1 rfl
 have c2:∀M,bU [.cl (ns.map D.int),.int 2] M= .ok (.int (cell ns 2)) M:=fun M=>Gp ns 2 rfl
 have c3:∀M,bU [.cl (ns.map D.int),.int 3] M= .ok (.int (cell ns 3)) M:=fun M=>Gp ns 3 rfl
 obtain⟨xs,x,M1,hxs,e1,hx1,g1⟩:=Ao (M:=[]) (cell ns 0) 17 (nn:=17) rfl (by decide)
 obtain⟨x0,p0,z0,_⟩:=fH hxs (i:=0) (by decide)
 obtain⟨x1,p1,z1,_⟩:=fH hxs (i:=1) (by decide)
 obtain⟨x2,p2,z2,_⟩:=fH hxs (i:=2) (by decide)
 obtain⟨x3,p3,z3,_⟩:=fH hxs (i:=3) (by decide)
 obtain⟨x4,p4,z4,_⟩:=fH hxs (i:=4) (by decide)
 obtain⟨x5,p5,z5,_⟩:=fH hxs (i:=5) (by decide)
 have ix:∀{k:Int} {i:Nat} {v:Int} {M2:Mem},k=i→xs[i]? = some v→Gr M1 M2→aR (.ref x) (.int k) M2= .ok (.int v) M2:=fun hk hv g=>jz (g _ _ hx1) hk hv
 have bT1:=nP (cell ns 1) hT0
 have bT2:=nP (cell ns 2) hT0
 obtain⟨M2,yr⟩:∃M2,M2=M1++[MO.lst [.int (x0 % 9),.int (cell ns 1 % T)]]:=⟨_,rfl⟩
 have g2:Gr M1 M2:=by rw[yr];exact Gr.app
 have hd1:∃tm,aR (.ref M1.length) (.int (x1 % 2)) M2= .ok (.int tm) M2∧0≤tm∧Sm tm:=by
  obtain⟨d,hd,e⟩:=JS (M:=M2) (n:=M1.length) (z:=x1) (j:=2) (by rw[yr];exact aN) rfl (by decide)
  have:=nP x0 (j:=9) (by decide)
  simp at hd
  rcases hd with rfl | rfl
  ·exact⟨_,e,by omega,by unfold Sm;omega⟩
  ·exact⟨_,e,by omega,by unfold Sm;omega⟩
 obtain⟨tm,et,ht0,ht1⟩:=hd1
 obtain⟨M3,RL⟩:∃M3,M3=M2++[MO.lst [.non,.int (x2 % 60),.int 0]]:=⟨_,rfl⟩
 have g3:Gr M2 M3:=by rw[RL];exact Gr.app
 have hd2:∃vt:Option Int,aR (.ref M2.length) (.int (x1 / 2 % 3)) M3= .ok (match vt with | none=> .non | some v=> .int v) M3∧∀v,vt=some v→0≤v∧v<60:=by
  obtain⟨d,hd,e⟩:=JS (M:=M3) (n:=M2.length) (z:=x1 / 2) (j:=3) (by rw[RL];exact aN) rfl (by decide)
  have:=nP x2 (j:=60) (by decide)
  simp at hd
  rcases hd with rfl | rfl | rfl
  ·exact⟨none,e,fun v h=>nomatch h⟩
  ·exact⟨some (x2 % 60),e,fun v h=>by cases h;omega⟩
  ·exact⟨some 0,e,fun v h=>by cases h;omega⟩
 obtain⟨vt,ev,hvt⟩:=hd2
 have V5:=g2.trans g3
 obtain⟨r1,r2,M4,e4,hro,g4⟩:=Tn (M:=M3) x3 (cell ns 2) z3
 have g14:=V5.trans g4
 obtain⟨M5,hM5⟩:∃M5,M5=M4++[MO.lst [.int 0,.int (x4 % 300),.int (cell ns 2 % T)]]:=⟨_,rfl⟩
 have g5:Gr M4 M5:=by rw[hM5];exact Gr.app
 have hpl:∃b,aR (.ref M4.length) (.int (x5 % 3)) M5= .ok (.int b) M5∧0≤b∧Sm b:=by
  obtain⟨d,hd,e⟩:=JS (M:=M5) (n:=M4.length) (z:=x5) (j:=3) (by rw[hM5];exact aN) rfl (by decide)
  have:=nP x4 (j:=300) (by decide)
  simp at hd
  rcases hd with rfl | rfl | rfl
  ·exact⟨_,e,by omega,by unfold Sm;omega⟩
  ·exact⟨_,e,by omega,by unfold Sm;omega⟩
  ·exact⟨_,e,by omega,by unfold Sm;omega⟩
 obtain⟨b,eb,hb0,hb1⟩:=hpl
 obtain⟨bt,hbt⟩:∃bt,bt=cell ns 1 % T:=⟨_,rfl⟩
 have abA:0≤bt∧Sm bt:=by rw[hbt];exact⟨by omega,by unfold Sm;omega⟩
 obtain⟨M6,hM6⟩:∃M6,M6=M5++[MO.lst [.int b,.int bt,.int r1,.int r2]]:=⟨_,rfl⟩
 have u6:M6[M5.length]? = some (.lst [.int b,.int bt,.int r1,.int r2]):=by rw[hM6];exact aN
 have g6:Gr M5 M6:=by rw[hM6];exact Gr.app
 have g16:=(g14.trans g5).trans g6
 obtain⟨vs,as,M7,e7,g7,hv1,hv2,hv3,ha1,ha2,ha3⟩:=aaC (c:=cell ns 3) hxs (g16 _ _ hx1)
 obtain⟨cs,hcs⟩:∃cs,cs=cut ns (some 3) (some 40):=⟨_,rfl⟩
 have hcl:cs.length≤64:=by rw[hcs];exact aa1 hns
 obtain⟨M8,hM8⟩:∃M8,M8=M7++[MO.lst (cs.map D.int)]:=⟨_,rfl⟩
 have u8:M8[M7.length]? = some (.lst (cs.map D.int)):=by rw[hM8];exact aN
 have g8:Gr M7 M8:=by rw[hM8];exact Gr.app
 have sl:cut (ns.map D.int) (some 3) (some 40)=cs.map D.int:=by rw[hcs];exact aaZ D.int ns _ _
 obtain⟨es,el,M9,e9,u9,ap6,ap5,g9⟩:=aaU hT0 hT1 hcl u8 pw
 obtain⟨B,hB⟩:∃B:Bk,B=⟨tm,vt,b,bt,r1,r2,vs,as,es⟩:=⟨_,rfl⟩
 have hOk:B.Ok:=by
  rw[hB]
  exact⟨⟨ht0,ht1⟩,hvt,⟨hb0,hb1⟩,abA,hro,hv1,hv2,ha1,ha2,ap6,hv3,ha3,ap5⟩
 have evd:aR (.ref M2.length) (.int (x1 / 2 % 3)) M3= .ok B.vd M3:=by rw[ev,hB];rfl
 have etm:aR (.ref M1.length) (.int (x1 % 2)) M2= .ok (.int B.tm) M2:=by rw[et,hB]
 have e4':pK [.int x3,.int (cell ns 2)] M3= .ok B.roll M4:=by rw[e4,hB];rfl
 have eb':aR (.ref M4.length) (.int (x5 % 3)) M5= .ok (.int B.b) M5:=by rw[eb,hB]
 have u6':M6[M5.length]? = some (.lst [.int B.b,.int B.bt,.int B.r1,.int B.r2]):=by rw[u6,hB]
 have ap9:M6=M5++[MO.lst [.int B.b,.int B.bt,.int B.r1,.int B.r2]]:=by rw[hM6,hB]
 have aie:cell ns 1 % T=B.bt:=by rw[hB,←hbt]
 have e7':tW [.ref x,.int (cell ns 3)] M6= .ok B.kept M7:=by rw[e7,hB];rfl
 have u9':M9[el]? = some (.lst B.ents):=by rw[u9,hB];rfl
 have g69:=(g7.trans g8).trans g9
 have b9:=g69 _ _ u6'
 have e10:=Dv u9'
 obtain⟨Qz,PB⟩:∃Qz,Qz=M9++[MO.lst B.ents]:=⟨_,rfl⟩
 rw[←PB]at e10
 have u10:Qz[M9.length]? = some (.lst B.ents):=by rw[PB];exact aN
 have g10:Gr M9 Qz:=by rw[PB];exact Gr.app
 obtain⟨M11,e11,R11,g11⟩:=Ly (M:=Qz) (b:=B.b) (bt:=B.bt) (br:=B.roll) u10
 obtain⟨M12,e12,K12,g12⟩:=Uw (tm:=B.tm) (vt:=B.vd) (kept:=B.kept) R11
 have R12:=R11.gr g12
 obtain⟨M13,e13,c13⟩:=Xq R12 (.tup [.int 1,.tup [.str "start"]]) (by have:=hOk.le;simp[Bk.ents];omega)
 have l10:=eE u10
 have l11:=eE R11.k
 have l9:=eE u9'
 have lb:=eE b9
 have arj:Qz.length=M9.length+1:=by rw[PB];simp
 have K13:=K12.ch c13 (by omega) (by omega) (by omega)
 have aik:=(g10.trans g11).trans g12
 have b13:=c13.2 _ _ (by omega) (aik _ _ b9)
 have aiE:=c13.2 _ _ (by omega) (aik _ _ u9')
 obtain⟨M14,e14,adM⟩:=O9 hOk b13 aiE
 have K14:=K13.gr adM
 obtain⟨M15,e15,g15⟩:=Gw hOk K14
 have K15:=K14.gr g15
 have b15:=g15 _ _ (adM _ _ b13)
 have adQ:=g15 _ _ (adM _ _ aiE)
 obtain⟨M16,e16,aaR⟩:=Ho K15 b15 adQ
 obtain⟨k,r,l,M17,e17,K17,g17,_,_,_⟩:=Ci (M:=M16) hOk
 obtain⟨k',r',l',M18,e18,K18,g18,atx,atw,atv⟩:=Ci (M:=M17) hOk
 have aeR:=K17.gr g18
 have b18:=g18 _ _ (g17 _ _ (aaR _ _ b15))
 have aiD:=g18 _ _ (g17 _ _ (aaR _ _ adQ))
 obtain⟨M19,e19,g19⟩:=Ho aeR b18 aiD
 obtain⟨M20,e20,g20⟩:=Gw hOk (aeR.gr g19)
 have K20:=(K18.gr g19).gr g20
 obtain⟨M21,e21,c21⟩:=Xq K20.row (.tup [.int 2,.tup [.str "start"]]) (by have:=hOk.le;simp[Bk.ents];omega)
 have ati:=eE K17.o
 have ath:=eE K17.row.o
 have atg:=eE K17.row.k
 have atf:=eE (g17 _ _ (aaR _ _ b15))
 have ate:=eE (g17 _ _ (aaR _ _ adQ))
 have K21:=((aeR.gr g19).gr g20).ch c21 (by omega) (by omega) (by omega)
 have b21:=c21.2 _ _ (by omega) (g20 _ _ (g19 _ _ b18))
 have aqg:=c21.2 _ _ (by omega) (g20 _ _ (g19 _ _ aiD))
 obtain⟨M22,e22,g22⟩:=Ho K21 b21 aqg
 refine⟨M22,?_⟩
 have iT:∀(t:Str) (M:Mem),Ca [.str t,.ty "str"] M= .ok (.bl true) M:=fun t M=>by unfold Ca;rfl
 have ib0:aR (.ref M5.length) (.int 0) M9= .ok (.int B.b) M9:=jU b9 (by omega) rfl
 have ib1:aR (.ref M5.length) (.int 1) M9= .ok (.int B.bt) M9:=jU b9 (by omega) rfl
 have r0:∀M,aR B.roll (.int 0) M= .ok (.int B.r1) M:=fun _=>B_
 have r1':∀M,aR B.roll (.int 1) M= .ok (.int B.r2) M:=fun _=>Hi
 have ec:∀e:Sl,o6 [] e=[]:=fun _=>rfl
 have f12:=K12.fr
 have f18:=K20.fr
 have m12:=R12.me (m:= "put") rfl
 have m20:=K20.row.me (m:= "put") rfl
 have sl':∀M,N6 (.cl (ns.map D.int)) (some 3) (some 40) M= .ok (.ref M.length) (M++[.lst (cs.map D.int)]):=fun M=>by rw[ack,sl]
 have a0:=ix (k:=0) (i:=0) rfl p0 Gr.refl
 have a1:=ix (k:=1) (i:=1) rfl p1 g2
 have a2:=ix (k:=2) (i:=2) rfl p2 g2
 have a1':=ix (k:=1) (i:=1) rfl p1 V5
 have a3:=ix (k:=3) (i:=3) rfl p3 V5
 have a4:=ix (k:=4) (i:=4) rfl p4 g14
 have a5:=ix (k:=5) (i:=5) rfl p5 (g14.trans g5)
 simp only[aie]at yr
 clear hB ev et e4 eb u6 hM6 e7 u9 hbt abA
 simp only[Yd,Kf,Ue,Ud]
 simp[c0,e1,c1,md,hT0,pw,a0,aie,←yr,a1,etm,a2,←RL,a1',dv,evd,a3,c2,e4',a4,←hM5,a5,eb',r0,r1',←ap9,c3,e7',sl',←hM8,qF u8,ec,e9,ib0,ib1,e10]
 simp[e11,e12,m12,e13,e14,e15,iT,e16,e17,e18,e19,e20,f18,m20,e21,e22]
end My
namespace My
open PySem L2 S
def top(i:Nat):Stmt:=PySem.Challenge.pw_chairvote_k21_a_book_written_and_read.main.body.getD i (.Pass ⟨0,0,0,0⟩)
abbrev fV:Stmt:=top 33
abbrev eG:Stmt:=top 32
abbrev jo:Stmt:=top 36
abbrev jq:Stmt:=top 34
abbrev fW:Stmt:=top 35
abbrev jr:Stmt:=top 38
abbrev jm:Stmt:=top 37
abbrev jw:Stmt:=inClass (top 16) 0
abbrev jt:Stmt:=inClass (top 16) 17
abbrev iB:Stmt:=inClass (top 19) 0
abbrev ju:Stmt:=inClass (top 16) 2
abbrev lJ:Stmt:=inClass (top 16) 11
abbrev lG:Stmt:=top 39
abbrev jn:Stmt:=top 40
abbrev oF:Stmt:=top 20
abbrev eN:Stmt:=top 21
abbrev eO:Stmt:=inClass (top 16) 1
abbrev lF:Stmt:=top 22
abbrev iw:Stmt:=top 41
abbrev eV:Stmt:=inClass (top 14) 0
abbrev dG:Stmt:=inClass (top 14) 1
abbrev cg:Stmt:=inClass (top 14) 3
abbrev rY:Stmt:=top 11
abbrev iz:Stmt:=top 12
abbrev dH:Stmt:=inClass (top 14) 5
abbrev bB:Stmt:=inClass (top 14) 6
abbrev dJ:Stmt:=inClass (top 14) 7
abbrev eX:Stmt:=inClass (top 14) 8
abbrev dI:Stmt:=inClass (top 14) 4
abbrev ig:Stmt:=top 23
abbrev bK:Stmt:=inClass (top 14) 9
abbrev iu:Stmt:=top 24
abbrev cX:Stmt:=inClass (top 14) 2
abbrev lH:Stmt:=top 13
abbrev eU:Stmt:=inClass (top 14) 10
abbrev eF:Stmt:=top 25
abbrev dD:Stmt:=top 26
abbrev fU:Stmt:=top 27
abbrev ie:Stmt:=top 28
abbrev dB:Stmt:=top 29
abbrev cW:Stmt:=inClass (top 14) 11
abbrev ir:Stmt:=top 30
abbrev BW:Stmt:=top 42
structure Adr where
 oV:Addr
 oZ:FuncData
 l_:Addr
 mH:FuncData
 ug:Addr
 uB:FuncData
 uh:Addr
 uC:FuncData
 oW:Addr
 o4:FuncData
 um:Addr
 uD:FuncData
 ue:Addr
 uz:FuncData
 ur:Addr
 uG:FuncData
 uo:Addr
 uE:FuncData
 qO:Addr
 qY:FuncData
 uq:Addr
 uF:FuncData
 wB:Addr
 wJ:FuncData
 wz:Addr
 wH:FuncData
 uf:Addr
 uA:FuncData
 zp:Addr
 zx:FuncData
 mj:Addr
 mJ:FuncData
 mq:Addr
 mK:FuncData
 wu:Addr
 wG:FuncData
 qM:Addr
 qW:FuncData
 mD:Addr
 mO:FuncData
 j_:Addr
 kO:FuncData
 iH:Addr
 iI:FuncData
 CW:Addr
 Dc:FuncData
 qN:Addr
 qX:FuncData
 kh:Addr
 kW:FuncData
 fB:Addr
 fC:FuncData
 kE:Addr
 kZ:FuncData
 mF:Addr
 mQ:FuncData
 kj:Addr
 kY:FuncData
 qJ:Addr
 qR:FuncData
 gJ:Addr
 gK:FuncData
 qL:Addr
 qU:FuncData
 jJ:Addr
 jL:FuncData
 wA:Addr
 wI:FuncData
 mz:Addr
 mL:FuncData
 lZ:Addr
 mG:FuncData
 j9:Addr
 kJ:FuncData
 oU:Addr
 oY:FuncData
 qI:Addr
 qQ:FuncData
 j8:Addr
 kI:FuncData
 jH:Addr
 jK:FuncData
 qK:Addr
 qT:FuncData
 J7:Addr
 Ff:FuncData
 wL:Addr
 xO:Addr
 d9:Addr
 J5:Tok
 Ui:Tok
 J4:Tok
 yW:Tok
 yV:Tok
 vG:Addr
structure Txt(K:PySem.W.Frag)(mg:Str→Option Value)(t:Adr):Prop where
 lY:bx K "_law_stream" "_law_stream" fV .none t.oV t.oZ
 fZ:Binds K t.oZ ["_law_cell","_law_size"] []
 pW:mg "_law_stream" = some (.ref t.oV)
 fu:bx K "_law_cell_at" "_law_cell_at" eG .none t.l_ t.mH
 cI:Binds K t.mH ["_law_script","_law_k"] []
 gF:mg "_law_cell_at" = some (.ref t.l_)
 vg:bx K "_law_roll" "_law_roll" jo .none t.ug t.uB
 lu:Binds K t.uB ["_law_number_here","_law_cell"] []
 yN:mg "_law_roll" = some (.ref t.ug)
 qH:bx K "_law_name" "_law_name" jq .none t.uh t.uC
 jD:Binds K t.uC ["_law_number_here"] []
 uY:mg "_law_name" = some (.ref t.uh)
 cV:bx K "_law_number" "_law_number" fW .none t.oW t.o4
 bM:Binds K t.o4 ["_law_number_here","_law_cell"] []
 dw:mg "_law_number" = some (.ref t.oW)
 zb:bx K "_law_kept" "_law_kept" jr .none t.um t.uD
 nG:Binds K t.uD ["_law_xs","_law_cell"] []
 Ew:mg "_law_kept" = some (.ref t.um)
 yZ:bx K "_law_what" "_law_what" jm .none t.ue t.uz
 jC:Binds K t.uz ["_law_cell"] []
 Et:mg "_law_what" = some (.ref t.ue)
 Fe:bx K "__init__" "Row.__init__" jw .none t.ur t.uG
 jE:Binds K t.uG ["self","base","base_term","base_roll","entries"] []
 yL:Mk K t.wL t.ur
 Fb:bx K "twin" "Row.twin" jt .none t.uo t.uE
 nH:Binds K t.uE ["self"] []
 Ex:Meth K t.wL "twin" t.uo
 CK:bx K "__init__" "Book.__init__" iB .none t.qO t.qY
 jk:Binds K t.qY ["self","term","vote","row","kept"] []
 w6:Mk K t.xO t.qO
 Fd:bx K "last" "Row.last" ju .none t.uq t.uF
 nJ:Binds K t.uF ["self"] []
 Ey:Meth K t.wL "last" t.uq
 Im:bx K "put" "Row.put" lJ .none t.wB t.wJ
 nY:Binds K t.wJ ["self","entry"] []
 Bb:Meth K t.wL "put" t.wB
 iV:bx K "_law_row" "_law_row" lG .none t.wz t.wH
 fK:Binds K t.wH ["_law_words"] []
 jx:mg "_law_row" = some (.ref t.wz)
 y_:bx K "_law_text" "_law_text" jn .none t.uf t.uA
 nF:Binds K t.uA ["_law_head","_law_base","_law_kept_here","_law_entries"] []
 Eu:mg "_law_text" = some (.ref t.uf)
 nU:bx K "worded" "worded" oF .none t.zp t.zx
 jM:Binds K t.zx ["parts"] []
 pI:mg "worded" = some (.ref t.zp)
 t_:bx K "entry_parts" "entry_parts" eN .none t.mj t.mJ
 iY:Binds K t.mJ ["entry"] []
 yO:mg "entry_parts" = some (.ref t.mj)
 zc:bx K "entries" "Row.entries" eO .none t.mq t.mK
 gk:Binds K t.mK ["self"] []
 tR:Meth K t.wL "entries" t.mq
 xF:bx K "written" "written" lF .none t.wu t.wG
 nW:Binds K t.wG ["book"] []
 Ba:mg "written" = some (.ref t.wu)
 oO:bx K "_law_right" "_law_right" iw .none t.qM t.qW
 iK:Binds K t.qW ["_law_book","_law_head","_law_base","_law_kept_here","_law_entries"] []
 rZ:mg "_law_right" = some (.ref t.qM)
 zj:bx K "__init__" "Reader.__init__" eV .none t.mD t.mO
 iZ:Binds K t.mO ["self","text"] []
 sX:Mk K t.d9 t.mD
 ye:bx K "words" "Reader.words" dG .none t.j_ t.kO
 dR:Binds K t.kO ["self"] []
 m5:Meth K t.d9 "words" t.j_
 uc:bx K "words_of" "Reader.words_of" cg .none t.iH t.iI
 bC:Binds K t.iI ["self","first","count"] []
 d_:Meth K t.d9 "words_of" t.iH
 CJ:bx K "is_of" "is_of" rY .none t.CW t.Dc
 qg:Binds K t.Dc ["word","signs","most"] []
 HQ:mg "is_of" = some (.ref t.CW)
 xK:bx K "is_number" "is_number" iz .none t.qN t.qX
 lz:Binds K t.qX ["word"] []
 Cu:mg "is_number" = some (.ref t.qN)
 yf:bx K "whole" "Reader.whole" dH .none t.kh t.kW
 bF:Binds K t.kW ["self","word"] []
 dX:Meth K t.d9 "whole" t.kh
 pq:bx K "from_nought" "Reader.from_nought" bB .none t.fB t.fC
 a_:Binds K t.fC ["self","word"] []
 cT:Meth K t.d9 "from_nought" t.fB
 yh:bx K "below" "Reader.below" dJ .none t.kE t.kZ
 dU:Binds K t.kZ ["self","word","bound"] []
 m6:Meth K t.d9 "below" t.kE
 zm:bx K "hand" "Reader.hand" eX .none t.mF t.mQ
 i_:Binds K t.mQ ["self","word"] []
 yQ:Meth K t.d9 "hand" t.mF
 yg:bx K "go_on" "Reader.go_on" dI .none t.kj t.kY
 cG:Binds K t.kY ["self"] []
 gY:Meth K t.d9 "go_on" t.kj
 xH:bx K "read_head" "read_head" ig .none t.qJ t.qR
 k_:Binds K t.qR ["reader"] []
 Cq:mg "read_head" = some (.ref t.qJ)
 rN:bx K "both_sets" "Reader.both_sets" bK .none t.gJ t.gK
 cH:Binds K t.gK ["self","one","two"] []
 lN:Meth K t.d9 "both_sets" t.gJ
 xJ:bx K "read_base" "read_base" iu .none t.qL t.qU
 lg:Binds K t.qU ["reader"] []
 Cr:mg "read_base" = some (.ref t.qL)
 wk:bx K "begins" "Reader.begins" cX .none t.jJ t.jL
 cZ:Binds K t.jL ["self","word"] []
 lK:Meth K t.d9 "begins" t.jJ
 Bf:bx K "is_name" "is_name" lH .none t.wA t.wI
 pQ:Binds K t.wI ["word"] []
 HR:mg "is_name" = some (.ref t.wA)
 zf:bx K "name" "Reader.name" eU .none t.mz t.mL
 gm:Binds K t.mL ["self","word"] []
 tU:Meth K t.d9 "name" t.mz
 t7:bx K "read_values" "read_values" eF .none t.lZ t.mG
 iW:Binds K t.mG ["reader"] []
 yM:mg "read_values" = some (.ref t.lZ)
 rD:bx K "read_answers" "read_answers" dD .none t.j9 t.kJ
 gO:Binds K t.kJ ["reader"] []
 xW:mg "read_answers" = some (.ref t.j9)
 vH:bx K "read_order" "read_order" fU .none t.oU t.oY
 jB:Binds K t.oY ["reader","words"] []
 Ag:mg "read_order" = some (.ref t.oU)
 xG:bx K "read_what" "read_what" ie .none t.qI t.qQ
 iJ:Binds K t.qQ ["reader","words"] []
 Cp:mg "read_what" = some (.ref t.qI)
 rC:bx K "read_entries" "read_entries" dB .none t.j8 t.kI
 gM:Binds K t.kI ["reader"] []
 xV:mg "read_entries" = some (.ref t.j8)
 wj:bx K "finish" "Reader.finish" cW .none t.jH t.jK
 fO:Binds K t.jK ["self"] []
 vU:Meth K t.d9 "finish" t.jH
 sJ:bx K "read_book" "read_book" ir .none t.qK t.qT
 jj:Binds K t.qT ["text"] []
 xg:mg "read_book" = some (.ref t.qK)
 RN:bx K "law" "law" BW .none t.J7 t.Ff
 Kf:Binds K t.Ff ["_law_script"] []
 Yb:mg "law" = some (.ref t.J7)
 dm:Qv K t.wL
 Lr:mg "Row" = some (.ref t.wL)
 gb:jT K t.wL "base"
 cL:jT K t.wL "base_term"
 cM:jT K t.wL "base_roll"
 cD:jT K t.wL "kept"
 dN:Qv K t.xO
 Ls:mg "Book" = some (.ref t.xO)
 iD:jT K t.xO "term"
 eY:jT K t.xO "vote"
 iG:jT K t.xO "row"
 bL:jT K t.xO "kept"
 aM:Qv K t.d9
 JW:mg "Reader" = some (.ref t.d9)
 dM:jT K t.d9 "rows"
 bN:jT K t.d9 "here"
 abv:mg "all" = none
 Ye:mg "bool" = none
 abu:mg "int" = none
 su:mg "isinstance" = none
 tV:mg "len" = none
 HY:mg "list" = none
 Gh:mg "range" = none
 HX:mg "sorted" = none
 T5:mg "str" = none
 uZ:mg "tuple" = none
 HW:mg "FIGURES" = some (.str "0123456789" t.J5)
 Cv:mg "HANDS" = some (.int 60 t.Ui)
 HS:mg "LETTERS" = some (.str "abcdefghijklmnopqrstuvwxyz" t.J4)
 xY:mg "MOST_FIGURES" = some (.int 100 t.yW)
 xX:mg "MOST_LETTERS" = some (.int 8 t.yV)
 yP:mg "ORDER_WORDS" = some (.ref t.vG)
 yC:aeO K t.vG [("put",3),("add",3),("swap",4)]
def bD(t:Adr):Nat→Addr:=fun k=>match k with
 | 4=>t.wL
 | 5=>t.xO
 | 3=>t.d9
 | _=>0
section
variable{P:Program}{w:World}{K:PySem.W.Frag}{mg:Str→Option Value}{base:Heap}{t:Adr}
theorem lR:aU ["_law_cell","_law_size","_law_found","_law_number_here","_law_k"] ["_law_cell","_law_size"] (au fV):=vA
theorem G6:aU ["_law_script","_law_k"] ["_law_script","_law_k"] (au eG):=vA
theorem Eo:aU ["_law_number_here","_law_cell","_law_one"] ["_law_number_here","_law_cell"] (au jo):=vA
theorem uV:aU ["_law_number_here","_law_some","_law_size","_law_at"] ["_law_number_here"] (au jq):=vA
theorem Jl:aU ["_law_number_here","_law_cell"] ["_law_number_here","_law_cell"] (au fW):=vA
theorem ql:aU ["_law_xs","_law_cell","_law_values","_law_answers","_law_k"] ["_law_xs","_law_cell"] (au jr):=vA
theorem uU:aU ["_law_cell","_law_xs","_law_order"] ["_law_cell"] (au jm):=vA
theorem N5:aU ["self","base","base_term","base_roll","entries"] ["self","base","base_term","base_roll","entries"] (au jw):=vA
theorem NT:aU ["self"] ["self"] (au jt):=vA
theorem KJ:aU ["self","term","vote","row","kept"] ["self","term","vote","row","kept"] (au iB):=vA
theorem NZ:aU ["self"] ["self"] (au ju):=vA
theorem Q3:aU ["self","entry"] ["self","entry"] (au lJ):=vA
theorem QX:aU ["_law_words"] ["_law_words"] (au lG):=vA
theorem nO:aU ["_law_head","_law_base","_law_kept_here","_law_entries","_law_rows","_law_pair","_law_answer","_law_term","_law_what_here"] ["_law_head","_law_base","_law_kept_here","_law_entries"] (au jn):=vA
theorem Vg:aU ["parts"] ["parts"] (au oF):=vA
theorem yE:aU ["entry","what"] ["entry"] (au eN):=vA
theorem G7:aU ["self"] ["self"] (au eO):=vA
theorem Aw:aU ["book","row","rows"] ["book"] (au lF):=vA
theorem BV:aU ["_law_book","_law_head","_law_base","_law_kept_here","_law_entries","_law_row_here"] ["_law_book","_law_head","_law_base","_law_kept_here","_law_entries"] (au iw):=vA
theorem G9:aU ["self","text"] ["self","text"] (au eV):=vA
theorem Fo:aU ["self"] ["self"] (au dG):=vA
theorem tK:aU ["self","first","count","words"] ["self","first","count"] (au cg):=vA
theorem Xe:aU ["word","signs","most"] ["word","signs","most"] (au rY):=vA
theorem wW:aU ["word","figures"] ["word"] (au iz):=vA
theorem Fp:aU ["self","word"] ["self","word"] (au dH):=vA
theorem o_:aU ["self","word","number"] ["self","word"] (au bB):=vA
theorem xR:aU ["self","word","bound","number"] ["self","word","bound"] (au dJ):=vA
theorem G_:aU ["self","word"] ["self","word"] (au eX):=vA
theorem Fq:aU ["self"] ["self"] (au dI):=vA
theorem oA:aU ["reader","words","vote","head"] ["reader"] (au ig):=vA
theorem rG:aU ["self","one","two","roll"] ["self","one","two"] (au bK):=vA
theorem rW:aU ["reader","words","place","base"] ["reader"] (au iu):=vA
theorem Dr:aU ["self","word"] ["self","word"] (au cX):=vA
theorem QZ:aU ["word"] ["word"] (au lH):=vA
theorem G8:aU ["self","word"] ["self","word"] (au eU):=vA
theorem ou:aU ["reader","values","words","value"] ["reader"] (au eF):=vA
theorem mY:aU ["reader","answers","words","answer"] ["reader"] (au dD):=vA
theorem Ab:aU ["reader","words","numbers"] ["reader","words"] (au fU):=vA
theorem KH:aU ["reader","words"] ["reader","words"] (au ie):=vA
theorem mX:aU ["reader","entries","words","what"] ["reader"] (au dB):=vA
theorem vR:aU ["self","words"] ["self"] (au cW):=vA
theorem jl:aU ["text","reader","head","base","values","answers","row"] ["text"] (au ir):=vA
theorem oE:aU ["_law_script","_law_xs","_law_head","_law_roll_here","_law_place","_law_base","_law_kept_here","_law_entries","_law_row_here","_law_book","_law_due","_law_text_here","_law_found","_law_other"] ["_law_script"] (au BW):=vA
theorem Ae(T:Txt K mg t):aX P w K mg base (fG P w) 1 t.oV t.oZ ["_law_cell","_law_size"] (spS K (bD t) fY 2):=by
 show aX P w K mg base (fG P w) (0+1) t.oV t.oZ ["_law_cell","_law_size"] (spS K (bD t) (bA 5 fZ) 2)
 refine iU (n:=5) (ar:=2) (k:=0) (b:=fZ) T.lY lR rfl rfl ?_
 intro cdv A outer s H E W hr
 exact(aC (aW (i:=2) lR.nd rfl (Or.inl rfl) (gw az))
  (aC (aW (i:=3) lR.nd rfl (Or.inl rfl) (aL cR (aL cF (aL MF (ak 0) aB) aB) aB))
  (aC (Dm (oJ rfl rfl) rfl (Dq rfl T.Gh (aj (ak 1) az)) (wU (i:=4) lR.nd rfl (Or.inl rfl)) (aC (aW (i:=3) lR.nd rfl (Or.inl rfl) (aL cR (aL cF (aL cF (aL MF (ak 3) (aL cF (aL zz (ak 3) aB) aB)) (ak 4)) aB) aB))
  (aO (dZ (lM PySem.F.plainAttrs_list PySem.F.slot_list_append PySem.F.type_list_append jf (ak 2) (aj (ak 3) az))))))
  (aO (bu (ak 2))))))
theorem Hw(T:Txt K mg t):aX P w K mg base (fG P w) 1 t.l_ t.mH ["_law_script","_law_k"] (spS K (bD t) bU 2):=by
 show aX P w K mg base (fG P w) (0+1) t.l_ t.mH ["_law_script","_law_k"] (spS K (bD t) (bA 2 cI) 2)
 refine iU (n:=2) (ar:=2) (k:=0) (b:=cI) T.fu G6 rfl rfl ?_
 intro cdv A outer s H E W hr
 exact(aC (h_ (cJ (RX hr.units) (ak 1) (d7 o5 rfl T.tV o7 (aj (ak 0) az)) (bH _)) (aO (bu (aP hr.units (ak 0) (ak 1)))) dY)
  (aO (bu aB)))
theorem Ep(T:Txt K mg t):aX P w K mg base (fG P w) 1 t.ug t.uB ["_law_number_here","_law_cell"] (spS K (bD t) pK 2):=by
 show aX P w K mg base (fG P w) (0+1) t.ug t.uB ["_law_number_here","_law_cell"] (spS K (bD t) (bA 3 lu) 2)
 refine iU (n:=3) (ar:=2) (k:=0) (b:=lu) T.vg Eo rfl rfl ?_
 intro cdv A outer s H E W hr
 exact(aC (aW (i:=2) Eo.nd rfl (Or.inl rfl) (aL cF aB (aP hr.units (gw (aj (aL cR (ak 0) aB) (aj (aL cR (ak 1) aB) az))) (aL cR (aL zz (ak 0) aB) aB))))
  (aO (bu (bZ (aj (ak 2) (aj (aP hr.units (gw (aj aB (aj (aL cR (aL zz (ak 0) aB) aB) (aj (aL cR (aL cF (ak 1) (ak 0)) aB) az)))) (aL cR (aL zz (ak 0) aB) aB)) az))))))
theorem Er(T:Txt K mg t):aX P w K mg base (fG P w) 1 t.uh t.uC ["_law_number_here"] (spS K (bD t) pL 1):=by
 show aX P w K mg base (fG P w) (0+1) t.uh t.uC ["_law_number_here"] (spS K (bD t) (bA 4 jD) 1)
 refine iU (n:=4) (ar:=1) (k:=0) (b:=jD) T.qH uV rfl rfl ?_
 intro cdv A outer s H E W hr
 exact(aC (aW (i:=1) uV.nd rfl (Or.inl rfl) aY)
  (aC (aW (i:=2) uV.nd rfl (Or.inl rfl) (aL cF aB (aL cR (ak 0) aB)))
  (aC (aW (i:=3) uV.nd rfl (Or.inl rfl) (aL cR (aL zz (ak 0) aB) (ak 2)))
  (aO (bu (aL cF (aL cF (aL MF aY (ak 3)) (aP hr.units (ak 1) (aL cR (aL zz (ak 0) aB) aB))) (aL MF aY (aL Bm (aL Bm (ak 2) (ak 3)) aB))))))))
theorem Af(T:Txt K mg t):aX P w K mg base (fG P w) 1 t.oW t.o4 ["_law_number_here","_law_cell"] (spS K (bD t) cY 2):=by
 show aX P w K mg base (fG P w) (0+1) t.oW t.o4 ["_law_number_here","_law_cell"] (spS K (bD t) (bA 2 bM) 2)
 refine iU (n:=2) (ar:=2) (k:=0) (b:=bM) T.cV Jl rfl rfl ?_
 intro cdv A outer s H E W hr
 exact(aO (bu (aP hr.units (gw (aj (aL cR (ak 0) aB) (aj (aL cR (ak 1) (aL Eh aB aB)) (aj (aL Bm aB (aL cR (ak 1) (aL Eh aB aB))) (aj (aL Bm aB (aL cR (ak 0) aB)) az))))) (aL cR (aL zz (ak 0) aB) aB))))
theorem Ou(T:Txt K mg t):aX P w K mg base (fG P w) 2 t.um t.uD ["_law_xs","_law_cell"] (spS K (bD t) tW 2):=by
 show aX P w K mg base (fG P w) (1+1) t.um t.uD ["_law_xs","_law_cell"] (spS K (bD t) (bA 5 nG) 2)
 have xP:= @Er P w K mg base t T
 have e_:= @Af P w K mg base t T
 refine iU (n:=5) (ar:=2) (k:=1) (b:=nG) T.zb ql rfl rfl ?_
 intro cdv A outer s H E W hr
 exact(aC (aW (i:=2) ql.nd rfl (Or.inl rfl) Tc)
  (aC (aW (i:=3) ql.nd rfl (Or.inl rfl) Tc)
  (aC (Dm (oJ rfl rfl) rfl (Dq rfl T.Gh (aj (aL cR (aP hr.units (ak 0) aB) aB) az)) (wU (i:=4) ql.nd rfl (Or.inl rfl)) (aO (S7 hr.units (ak 2) (aQ xP Tk.wish (hr.mono (by decide)) rfl T.uY T.qH.kp T.jD .nil (aj (aP hr.units (ak 0) (aL cF aB (ak 4))) az)) (aQ e_ Tk.wish (hr.mono (by decide)) rfl T.dw T.cV.kp T.bM .nil (aj (aP hr.units (ak 0) (aL cF aB (ak 4))) (aj (aL cF (ak 1) (ak 4)) az))))))
  (aC (Dm (oJ rfl rfl) rfl (Dq rfl T.Gh (aj (aL cR (aP hr.units (ak 0) aB) aB) az)) (wU (i:=4) ql.nd rfl (Or.inl rfl)) (aO (S7 hr.units (ak 3) (bZ (aj (aQ e_ Tk.wish (hr.mono (by decide)) rfl T.dw T.cV.kp T.bM .nil (aj (aP hr.units (ak 0) (aL cF aB (ak 4))) (aj (aL Bm (ak 1) (ak 4)) az))) (aj (aQ e_ Tk.wish (hr.mono (by decide)) rfl T.dw T.cV.kp T.bM .nil (aj (aP hr.units (ak 0) (aL cF aB (ak 4))) (aj (ak 1) az))) az))) (aQ e_ Tk.wish (hr.mono (by decide)) rfl T.dw T.cV.kp T.bM .nil (aj (aP hr.units (ak 0) (aL cF aB (ak 4))) (aj (aL cF (ak 1) (ak 4)) az))))))
  (aO (bu (bZ (aj (jd wK rfl T.uZ uJ (aj (NP rfl ["_law_name_here","_law_value"] [] [] (pF (G5 rfl hr.units (ak 2) rfl T.HX)) True.intro (fun _ _ _ _ _=>(Xc rfl (BP (FW (i:=0) (show((["_law_name_here","_law_value"]:List Str)++([]:List Str)).Nodup from by decide +kernel) rfl (.inl (lookup_relabel_local rfl)) (by decide) (.inr (lookup_relabel_local rfl))) (BP (FW (i:=1) (show((["_law_name_here","_law_value"]:List Str)++([]:List Str)).Nodup from by decide +kernel) rfl (.inl (lookup_relabel_local rfl)) (by decide) (.inr (lookup_relabel_local rfl))) S9)))) (fun _ _ _ _ _=>(Zv (cJ (zy hr.units) (ak 1) aB (bH _)))) (fun _ _ _ _ _=>(bZ (aj (ak 0) (aj (ak 1) az)))) (by decide +kernel) (by decide +kernel) (by decide +kernel)) az)) (aj (jd wK rfl T.uZ uJ (aj (NP rfl ["_law_ask","_law_answer"] [] [] (pF (G5 rfl hr.units (ak 3) rfl T.HX)) True.intro (fun _ _ _ _ _=>(Xc rfl (BP (FW (i:=0) (show((["_law_ask","_law_answer"]:List Str)++([]:List Str)).Nodup from by decide +kernel) rfl (.inl (lookup_relabel_local rfl)) (by decide) (.inr (lookup_relabel_local rfl))) (BP (FW (i:=1) (show((["_law_ask","_law_answer"]:List Str)++([]:List Str)).Nodup from by decide +kernel) rfl (.inl (lookup_relabel_local rfl)) (by decide) (.inr (lookup_relabel_local rfl))) S9)))) (fun _ _ _ _ _=>pU) (fun _ _ _ _ _=>(bZ (aj (aP hr.units (ak 0) aB) (aj (aP hr.units (ak 0) aB) (aj (ak 1) az))))) (by decide +kernel) (by decide +kernel) (by decide +kernel)) az)) az)))))))))
theorem Oq(T:Txt K mg t):aX P w K mg base (fG P w) 2 t.ue t.uz ["_law_cell"] (spS K (bD t) j6 1):=by
 show aX P w K mg base (fG P w) (1+1) t.ue t.uz ["_law_cell"] (spS K (bD t) (bA 3 jC) 1)
 have sU:= @Ae P w K mg base t T
 have Bs:= @Ep P w K mg base t T
 have xP:= @Er P w K mg base t T
 have e_:= @Af P w K mg base t T
 refine iU (n:=3) (ar:=1) (k:=1) (b:=jC) T.yZ uU rfl rfl ?_
 intro cdv A outer s H E W hr
 exact(aC (aW (i:=1) uU.nd rfl (Or.inl rfl) (aQ sU Tk.wish (hr.mono (by decide)) rfl T.pW T.lY.kp T.fZ .nil (aj (ak 0) (aj aB az))))
  (aC (h_ (cJ (uK hr.units) (aL cR (aP hr.units (ak 1) aB) aB) aB (bH _)) (aO (bu (bZ (aj aY az)))) dY)
  (aC (h_ (cJ (uK hr.units) (aL cR (aP hr.units (ak 1) aB) aB) aB (bH _)) (aO (bu (aL cF (bZ (aj aY az)) (aQ Bs Tk.wish (hr.mono (by decide)) rfl T.yN T.vg.kp T.lu .nil (aj (aP hr.units (ak 1) aB) (aj (ak 0) az)))))) dY)
  (aC (aW (i:=2) uU.nd rfl (Or.inl rfl) (bZ (aj (aP hr.units (gw (aj aY (aj aY az))) (aL cR (aP hr.units (ak 1) aB) aB)) (aj (aQ xP Tk.wish (hr.mono (by decide)) rfl T.uY T.qH.kp T.jD .nil (aj (aP hr.units (ak 1) aB) az)) (aj (aQ e_ Tk.wish (hr.mono (by decide)) rfl T.dw T.cV.kp T.bM .nil (aj (aP hr.units (ak 1) aB) (aj (ak 0) az))) az)))))
  (aC (h_ (cJ (uK hr.units) (aL cR (aP hr.units (ak 1) aB) aB) aB (bH _)) (aO (aW (i:=2) uU.nd rfl (Or.inl rfl) (bZ (aj aY (aj (aQ xP Tk.wish (hr.mono (by decide)) rfl T.uY T.qH.kp T.jD .nil (aj (aP hr.units (ak 1) aB) az)) (aj (aQ e_ Tk.wish (hr.mono (by decide)) rfl T.dw T.cV.kp T.bM .nil (aj (aP hr.units (ak 1) aB) (aj (aL cF (ak 0) aB) az))) (aj (aQ e_ Tk.wish (hr.mono (by decide)) rfl T.dw T.cV.kp T.bM .nil (aj (aP hr.units (ak 1) aB) (aj (ak 0) az))) az))))))) dY)
  (aO (bu (bZ (aj aY (aj (aQ e_ Tk.wish (hr.mono (by decide)) rfl T.dw T.cV.kp T.bM .nil (aj (aP hr.units (ak 1) aB) (aj (ak 0) az))) (aj (aQ e_ Tk.wish (hr.mono (by decide)) rfl T.dw T.cV.kp T.bM .nil (aj (aP hr.units (ak 1) aB) (aj (ak 0) az))) (aj (ak 2) az))))))))))))
theorem yH(T:Txt K mg t):aX P w K mg base (fG P w) 1 t.ur t.uG ["self","base","base_term","base_roll","entries"] (spS K (bD t) m_ 5):=by
 show aX P w K mg base (fG P w) (0+1) t.ur t.uG ["self","base","base_term","base_roll","entries"] (spS K (bD t) (bA 5 jE) 5)
 refine iU (n:=5) (ar:=5) (k:=0) (b:=jE) T.Fe N5 rfl rfl ?_
 intro cdv A outer s H E W hr
 exact(aC (tH (cs:=[4]) ⟨⟨T.dm,T.gb⟩,True.intro⟩ (ak 0) (ak 1))
  (aC (tH (cs:=[4]) ⟨⟨T.dm,T.cL⟩,True.intro⟩ (ak 0) (ak 2))
  (aC (tH (cs:=[4]) ⟨⟨T.dm,T.cM⟩,True.intro⟩ (ak 0) (ak 3))
  (aO (tH (cs:=[4,5]) ⟨⟨T.dm,T.cD⟩,⟨⟨T.dN,T.bL⟩,True.intro⟩⟩ (ak 0) (jd Gn rfl T.HY Gq (aj (ak 4) az)))))))
theorem Ow(T:Txt K mg t):aX P w K mg base (fG P w) 3 t.uo t.uE ["self"] (spS K (bD t) xq 1):=by
 show aX P w K mg base (fG P w) (2+1) t.uo t.uE ["self"] (spS K (bD t) (bA 1 nH) 1)
 have uO:= @yH P w K mg base t T
 refine iU (n:=1) (ar:=1) (k:=2) (b:=nH) T.Fb NT rfl rfl ?_
 intro cdv A outer s H E W hr
 exact(aO (bu (zK (kc:=4) T.yL uO Tk.wish (hr.mono (by decide)) rfl T.Lr T.jE .nil (aj (cB (cs:=[4]) ⟨⟨T.dm,T.gb⟩,True.intro⟩ (ak 0)) (aj (cB (cs:=[4]) ⟨⟨T.dm,T.cL⟩,True.intro⟩ (ak 0)) (aj (cB (cs:=[4]) ⟨⟨T.dm,T.cM⟩,True.intro⟩ (ak 0)) (aj (cB (cs:=[4,5]) ⟨⟨T.dm,T.cD⟩,⟨⟨T.dN,T.bL⟩,True.intro⟩⟩ (ak 0)) az)))))))
theorem Ck(T:Txt K mg t):aX P w K mg base (fG P w) 4 t.qO t.qY ["self","term","vote","row","kept"] (spS K (bD t) qz 5):=by
 show aX P w K mg base (fG P w) (3+1) t.qO t.qY ["self","term","vote","row","kept"] (spS K (bD t) (bA 5 jk) 5)
 have Sw:= @Ow P w K mg base t T
 refine iU (n:=5) (ar:=5) (k:=3) (b:=jk) T.CK KJ rfl rfl ?_
 intro cdv A outer s H E W hr
 exact(aC (tH (cs:=[5]) ⟨⟨T.dN,T.iD⟩,True.intro⟩ (ak 0) (ak 1))
  (aC (tH (cs:=[5]) ⟨⟨T.dN,T.eY⟩,True.intro⟩ (ak 0) (ak 2))
  (aC (tH (cs:=[5]) ⟨⟨T.dN,T.iG⟩,True.intro⟩ (ak 0) (jc (kc:=4) (ak 3) T.dm T.Ex Sw Tk.wish (hr.mono (by decide)) T.nH .nil))
  (aO (tH (cs:=[4,5]) ⟨⟨T.dm,T.cD⟩,⟨⟨T.dN,T.bL⟩,True.intro⟩⟩ (ak 0) (ak 4))))))
theorem Ox(T:Txt K mg t):aX P w K mg base (fG P w) 1 t.uq t.uF ["self"] (spS K (bD t) xr 1):=by
 show aX P w K mg base (fG P w) (0+1) t.uq t.uF ["self"] (spS K (bD t) (bA 1 nJ) 1)
 refine iU (n:=1) (ar:=1) (k:=0) (b:=nJ) T.Fd NZ rfl rfl ?_
 intro cdv A outer s H E W hr
 exact(aO (bu (aL cF (cB (cs:=[4]) ⟨⟨T.dm,T.gb⟩,True.intro⟩ (ak 0)) (d7 o5 rfl T.tV o7 (aj (cB (cs:=[4,5]) ⟨⟨T.dm,T.cD⟩,⟨⟨T.dN,T.bL⟩,True.intro⟩⟩ (ak 0)) az)))))
theorem Ri(T:Txt K mg t):aX P w K mg base (fG P w) 2 t.wB t.wJ ["self","entry"] (spS K (bD t) vX 2):=by
 show aX P w K mg base (fG P w) (1+1) t.wB t.wJ ["self","entry"] (spS K (bD t) (bA 2 nY) 2)
 have Sx:= @Ox P w K mg base t T
 refine iU (n:=2) (ar:=2) (k:=1) (b:=nY) T.Im Q3 rfl rfl ?_
 intro cdv A outer s H E W hr
 exact(aC (dZ (lM PySem.F.plainAttrs_list PySem.F.slot_list_append PySem.F.type_list_append jf (cB (cs:=[4,5]) ⟨⟨T.dm,T.cD⟩,⟨⟨T.dN,T.bL⟩,True.intro⟩⟩ (ak 0)) (aj (ak 1) az)))
  (aO (bu (jc (kc:=4) (ak 0) T.dm T.Ey Sx Tk.wish (hr.mono (by decide)) T.nJ .nil))))
theorem Rg(T:Txt K mg t):aX P w K mg base (fG P w) 1 t.wz t.wH ["_law_words"] (spS K (bD t) fJ 1):=by
 show aX P w K mg base (fG P w) (0+1) t.wz t.wH ["_law_words"] (spS K (bD t) (bA 1 fK) 1)
 refine iU (n:=1) (ar:=1) (k:=0) (b:=fK) T.iV QX rfl rfl ?_
 intro cdv A outer s H E W hr
 exact(aO (bu (lM PySem.F.plainAttrs_str PySem.F.slot_str_join PySem.F.type_str_join Gf aY (aj (wV rfl [] [] (pF (ak 0)) True.intro (fun _ _ _ _ _=>pU) (fun _ _ _ _ _=>(jd YL rfl T.T5 RW (aj (ak 0) az))) (by decide +kernel) (by decide +kernel) (by decide +kernel) (by decide +kernel)) az))))
theorem Ot(T:Txt K mg t):aX P w K mg base (fG P w) 2 t.uf t.uA ["_law_head","_law_base","_law_kept_here","_law_entries"] (spS K (bD t) xj 4):=by
 show aX P w K mg base (fG P w) (1+1) t.uf t.uA ["_law_head","_law_base","_law_kept_here","_law_entries"] (spS K (bD t) (bA 9 nF) 4)
 have nZ:= @Rg P w K mg base t T
 refine iU (n:=9) (ar:=4) (k:=1) (b:=nF) T.y_ nO rfl rfl ?_
 intro cdv A outer s H E W hr
 exact(aC (aW (i:=4) nO.nd rfl (Or.inl rfl) (gw (aj (aQ nZ Tk.wish (hr.mono (by decide)) rfl T.jx T.iV.kp T.fK .nil (aj (gw (aj aY (aj (aP hr.units (ak 0) aB) (aj (aP hr.units (ak 0) aB) az)))) az)) (aj (aQ nZ Tk.wish (hr.mono (by decide)) rfl T.jx T.iV.kp T.fK .nil (aj (aL cF (gw (aj aY az)) (ak 1)) az)) az))))
  (aC (h_ (cJ abL (aP hr.units (ak 0) aB) KC (bH _)) (aO (Zx (ak 4) aB (aQ nZ Tk.wish (hr.mono (by decide)) rfl T.jx T.iV.kp T.fK .nil (aj (gw (aj aY (aj (aP hr.units (ak 0) aB) (aj aY az)))) az)))) dY)
  (aC (Dm (oJ rfl rfl) rfl (pF (aP hr.units (ak 2) aB)) (wU (i:=5) nO.nd rfl (Or.inl rfl)) (aO (dZ (lM PySem.F.plainAttrs_list PySem.F.slot_list_append PySem.F.type_list_append jf (ak 4) (aj (aQ nZ Tk.wish (hr.mono (by decide)) rfl T.jx T.iV.kp T.fK .nil (aj (aL cF (bZ (aj aY az)) (ak 5)) az)) az)))))
  (aC (Dm (oJ rfl rfl) rfl (pF (aP hr.units (ak 2) aB)) (wU (i:=6) nO.nd rfl (Or.inl rfl)) (aO (dZ (lM PySem.F.plainAttrs_list PySem.F.slot_list_append PySem.F.type_list_append jf (ak 4) (aj (aQ nZ Tk.wish (hr.mono (by decide)) rfl T.jx T.iV.kp T.fK .nil (aj (aL cF (bZ (aj aY az)) (ak 6)) az)) az)))))
  (aC (Dm (oJ rfl rfl) rfl (pF (ak 3)) (acg rfl (NK (wU (i:=7) nO.nd rfl (Or.inl rfl)) (NK (wU (i:=8) nO.nd rfl (Or.inl rfl)) ZC))) (aO (h_ (cJ (uK hr.units) (aP hr.units (ak 8) aB) aY (bH _)) (aO (dZ (lM PySem.F.plainAttrs_list PySem.F.slot_list_append PySem.F.type_list_append jf (ak 4) (aj (aQ nZ Tk.wish (hr.mono (by decide)) rfl T.jx T.iV.kp T.fK .nil (aj (aL cF (gw (aj aY (aj (ak 7) (aj aY (aj (aP hr.units (ak 8) aB) (aj (aP hr.units (ak 8) aB) az)))))) (jd Gn rfl T.HY Gq (aj (aP hr.units (ak 8) aB) az))) az)) az)))) (aO (dZ (lM PySem.F.plainAttrs_list PySem.F.slot_list_append PySem.F.type_list_append jf (ak 4) (aj (aQ nZ Tk.wish (hr.mono (by decide)) rfl T.jx T.iV.kp T.fK .nil (aj (aL cF (bZ (aj aY (aj (ak 7) az))) (ak 8)) az)) az)))))))
  (aO (bu (lM PySem.F.plainAttrs_str PySem.F.slot_str_join PySem.F.type_str_join Gf aY (aj (aL cF (ak 4) (gw (aj (aQ nZ Tk.wish (hr.mono (by decide)) rfl T.jx T.iV.kp T.fK .nil (aj (gw (aj aY (aj (d7 o5 rfl T.tV o7 (aj (ak 4) az)) az))) az)) az))) az)))))))))
theorem Vv(T:Txt K mg t):aX P w K mg base (fG P w) 1 t.zp t.zx ["parts"] (spS K (bD t) cO 1):=by
 show aX P w K mg base (fG P w) (0+1) t.zp t.zx ["parts"] (spS K (bD t) (bA 1 jM) 1)
 refine iU (n:=1) (ar:=1) (k:=0) (b:=jM) T.nU Vg rfl rfl ?_
 intro cdv A outer s H E W hr
 exact(aO (bu (lM PySem.F.plainAttrs_str PySem.F.slot_str_join PySem.F.type_str_join Gf aY (aj (wV rfl [] [] (pF (ak 0)) True.intro (fun _ _ _ _ _=>pU) (fun _ _ _ _ _=>(jd YL rfl T.T5 RW (aj (ak 0) az))) (by decide +kernel) (by decide +kernel) (by decide +kernel) (by decide +kernel)) az))))
theorem Hx(T:Txt K mg t):aX P w K mg base (fG P w) 1 t.mj t.mJ ["entry"] (spS K (bD t) jP 1):=by
 show aX P w K mg base (fG P w) (0+1) t.mj t.mJ ["entry"] (spS K (bD t) (bA 2 iY) 1)
 refine iU (n:=2) (ar:=1) (k:=0) (b:=iY) T.t_ yE rfl rfl ?_
 intro cdv A outer s H E W hr
 exact(aC (aW (i:=1) yE.nd rfl (Or.inl rfl) (aP hr.units (ak 0) aB))
  (aC (h_ (cJ (uK hr.units) (aP hr.units (ak 1) aB) aY (bH _)) (aO (bu (aL cF (bZ (aj aY (aj (aP hr.units (ak 0) aB) (aj aY (aj (aP hr.units (ak 1) aB) (aj (aP hr.units (ak 1) aB) az)))))) (aP hr.units (ak 1) aB)))) dY)
  (aO (bu (aL cF (bZ (aj aY (aj (aP hr.units (ak 0) aB) az))) (ak 1))))))
theorem yI(T:Txt K mg t):aX P w K mg base (fG P w) 1 t.mq t.mK ["self"] (spS K (bD t) lV 1):=by
 show aX P w K mg base (fG P w) (0+1) t.mq t.mK ["self"] (spS K (bD t) (bA 1 gk) 1)
 refine iU (n:=1) (ar:=1) (k:=0) (b:=gk) T.zc G7 rfl rfl ?_
 intro cdv A outer s H E W hr
 exact(aO (bu (jd Gn rfl T.HY Gq (aj (cB (cs:=[4,5]) ⟨⟨T.dm,T.cD⟩,⟨⟨T.dN,T.bL⟩,True.intro⟩⟩ (ak 0)) az))))
theorem Rf(T:Txt K mg t):aX P w K mg base (fG P w) 2 t.wu t.wG ["book"] (spS K (bD t) vW 1):=by
 show aX P w K mg base (fG P w) (1+1) t.wu t.wG ["book"] (spS K (bD t) (bA 3 nW) 1)
 have wN:= @Vv P w K mg base t T
 have Jy:= @Hx P w K mg base t T
 have vL:= @yI P w K mg base t T
 refine iU (n:=3) (ar:=1) (k:=1) (b:=nW) T.xF Aw rfl rfl ?_
 intro cdv A outer s H E W hr
 exact(aC (aW (i:=1) Aw.nd rfl (Or.inl rfl) (cB (cs:=[5]) ⟨⟨T.dN,T.iG⟩,True.intro⟩ (ak 0)))
  (aC (aW (i:=2) Aw.nd rfl (Or.inl rfl) (gw (aj (aQ wN Tk.wish (hr.mono (by decide)) rfl T.pI T.nU.kp T.jM .nil (aj (bZ (aj aY (aj (cB (cs:=[5]) ⟨⟨T.dN,T.iD⟩,True.intro⟩ (ak 0)) (aj (afK (cJ abL (cB (cs:=[5]) ⟨⟨T.dN,T.eY⟩,True.intro⟩ (ak 0)) KC (bH _)) aY (cB (cs:=[5]) ⟨⟨T.dN,T.eY⟩,True.intro⟩ (ak 0))) az)))) az)) az)))
  (aC (dZ (lM PySem.F.plainAttrs_list PySem.F.slot_list_append PySem.F.type_list_append jf (ak 2) (aj (aQ wN Tk.wish (hr.mono (by decide)) rfl T.pI T.nU.kp T.jM .nil (aj (aL cF (bZ (aj aY (aj (cB (cs:=[4]) ⟨⟨T.dm,T.gb⟩,True.intro⟩ (ak 1)) (aj (cB (cs:=[4]) ⟨⟨T.dm,T.cL⟩,True.intro⟩ (ak 1)) az)))) (cB (cs:=[4]) ⟨⟨T.dm,T.cM⟩,True.intro⟩ (ak 1))) az)) az)))
  (aC (dZ (lM PySem.F.plainAttrs_list PySem.F.slot_list_extend PySem.F.type_list_extend DQ (ak 2) (aj (wV rfl [] [] (pF (aP hr.units (cB (cs:=[4,5]) ⟨⟨T.dm,T.cD⟩,⟨⟨T.dN,T.bL⟩,True.intro⟩⟩ (ak 0)) aB)) True.intro (fun _ _ _ _ _=>pU) (fun _ _ _ _ _=>(aQ wN Tk.none (hr.mono (by decide)) rfl T.pI T.nU.kp T.jM .nil (aj (aL cF (bZ (aj aY az)) (ak 0)) az))) (by decide +kernel) (by decide +kernel) (by decide +kernel) (by decide +kernel)) az)))
  (aC (dZ (lM PySem.F.plainAttrs_list PySem.F.slot_list_extend PySem.F.type_list_extend DQ (ak 2) (aj (wV rfl [] [] (pF (aP hr.units (cB (cs:=[4,5]) ⟨⟨T.dm,T.cD⟩,⟨⟨T.dN,T.bL⟩,True.intro⟩⟩ (ak 0)) aB)) True.intro (fun _ _ _ _ _=>pU) (fun _ _ _ _ _=>(aQ wN Tk.none (hr.mono (by decide)) rfl T.pI T.nU.kp T.jM .nil (aj (aL cF (bZ (aj aY az)) (ak 0)) az))) (by decide +kernel) (by decide +kernel) (by decide +kernel) (by decide +kernel)) az)))
  (aC (dZ (lM PySem.F.plainAttrs_list PySem.F.slot_list_extend PySem.F.type_list_extend DQ (ak 2) (aj (wV rfl [] [] (pF (jc (kc:=4) (ak 1) T.dm T.tR vL Tk.wish (hr.mono (by decide)) T.gk .nil)) True.intro (fun _ _ _ _ _=>pU) (fun _ _ _ _ _=>(aQ wN Tk.none (hr.mono (by decide)) rfl T.pI T.nU.kp T.jM .nil (aj (aQ Jy Tk.none (hr.mono (by decide)) rfl T.yO T.t_.kp T.iY .nil (aj (ak 0) az)) az))) (by decide +kernel) (by decide +kernel) (by decide +kernel) (by decide +kernel)) az)))
  (aC (dZ (lM PySem.F.plainAttrs_list PySem.F.slot_list_append PySem.F.type_list_append jf (ak 2) (aj (aQ wN Tk.wish (hr.mono (by decide)) rfl T.pI T.nU.kp T.jM .nil (aj (bZ (aj aY (aj (d7 o5 rfl T.tV o7 (aj (ak 2) az)) az))) az)) az)))
  (aO (bu (lM PySem.F.plainAttrs_str PySem.F.slot_str_join PySem.F.type_str_join Gf aY (aj (ak 2) az)))))))))))
theorem Lj(T:Txt K mg t):aX P w K mg base (fG P w) 2 t.qM t.qW ["_law_book","_law_head","_law_base","_law_kept_here","_law_entries"] (spS K (bD t) nR 5):=by
 show aX P w K mg base (fG P w) (1+1) t.qM t.qW ["_law_book","_law_head","_law_base","_law_kept_here","_law_entries"] (spS K (bD t) (bA 6 iK) 5)
 have vL:= @yI P w K mg base t T
 refine iU (n:=6) (ar:=5) (k:=1) (b:=iK) T.oO BV rfl rfl ?_
 intro cdv A outer s H E W hr
 exact(aC (aW (i:=5) BV.nd rfl (Or.inl rfl) (cB (cs:=[5]) ⟨⟨T.dN,T.iG⟩,True.intro⟩ (ak 0)))
  (aC (h_ (SW.pt (GK (cJ (zy hr.units) (cB (cs:=[5]) ⟨⟨T.dN,T.iD⟩,True.intro⟩ (ak 0)) (aP hr.units (ak 1) aB) (bH _)) (GK (cJ (zy hr.units) (cB (cs:=[5]) ⟨⟨T.dN,T.eY⟩,True.intro⟩ (ak 0)) (aP hr.units (ak 1) aB) (bH _)) (GJ (tE (d7 RV rfl T.su vJ (aj (cB (cs:=[5]) ⟨⟨T.dN,T.eY⟩,True.intro⟩ (ak 0)) (aj (Xd rfl T.Ye aa6) az)))))))) (aO (bu NQ)) dY)
  (aC (h_ (cJ (zy hr.units) (gw (aj (cB (cs:=[4]) ⟨⟨T.dm,T.gb⟩,True.intro⟩ (ak 5)) (aj (cB (cs:=[4]) ⟨⟨T.dm,T.cL⟩,True.intro⟩ (ak 5)) (aj (cB (cs:=[4]) ⟨⟨T.dm,T.cM⟩,True.intro⟩ (ak 5)) az)))) (gw (aj (aP hr.units (ak 2) aB) (aj (aP hr.units (ak 2) aB) (aj (bZ (aj (aP hr.units (ak 2) aB) (aj (aP hr.units (ak 2) aB) az))) az)))) (bH _)) (aO (bu NQ)) dY)
  (aO (bu (KD (Av (uK hr.units) (jc (kc:=4) (ak 5) T.dm T.tR vL Tk.wish (hr.mono (by decide)) T.gk .nil) (ak 4) (bH _)) (KD (d7 RV rfl T.su vJ (aj (cB (cs:=[4,5]) ⟨⟨T.dm,T.cD⟩,⟨⟨T.dN,T.bL⟩,True.intro⟩⟩ (ak 0)) (aj (Xd rfl T.uZ uJ) az))) (QW (Av (uK hr.units) (cB (cs:=[4,5]) ⟨⟨T.dm,T.cD⟩,⟨⟨T.dN,T.bL⟩,True.intro⟩⟩ (ak 0)) (ak 3) (bH _))))))))))
theorem Hy(T:Txt K mg t):aX P w K mg base (fG P w) 1 t.mD t.mO ["self","text"] (spS K (bD t) pX 2):=by
 show aX P w K mg base (fG P w) (0+1) t.mD t.mO ["self","text"] (spS K (bD t) (bA 2 iZ) 2)
 refine iU (n:=2) (ar:=2) (k:=0) (b:=iZ) T.zj G9 rfl rfl ?_
 intro cdv A outer s H E W hr
 exact(aC (tH (cs:=[3]) ⟨⟨T.aM,T.dM⟩,True.intro⟩ (ak 0) (lM PySem.F.plainAttrs_str PySem.F.slot_str_split PySem.F.type_str_split OJ (ak 1) (aj aY az)))
  (aO (tH (cs:=[3]) ⟨⟨T.aM,T.bN⟩,True.intro⟩ (ak 0) aB)))
theorem rA(T:Txt K mg t):aX P w K mg base (fG P w) 1 t.j_ t.kO ["self"] (spS K (bD t) gG 1):=by
 show aX P w K mg base (fG P w) (0+1) t.j_ t.kO ["self"] (spS K (bD t) (bA 1 dR) 1)
 refine iU (n:=1) (ar:=1) (k:=0) (b:=dR) T.ye Fo rfl rfl ?_
 intro cdv A outer s H E W hr
 exact(aC (h_ (cJ Uu (cB (cs:=[3]) ⟨⟨T.aM,T.bN⟩,True.intro⟩ (ak 0)) (d7 o5 rfl T.tV o7 (aj (cB (cs:=[3]) ⟨⟨T.aM,T.dM⟩,True.intro⟩ (ak 0)) az)) (bH _)) (aO jb) dY)
  (aO (bu (lM PySem.F.plainAttrs_str PySem.F.slot_str_split PySem.F.type_str_split OJ (aP hr.units (cB (cs:=[3]) ⟨⟨T.aM,T.dM⟩,True.intro⟩ (ak 0)) (aL Bm (cB (cs:=[3]) ⟨⟨T.aM,T.bN⟩,True.intro⟩ (ak 0)) aB)) (aj aY az)))))
theorem gC(T:Txt K mg t):aX P w K mg base (fG P w) 2 t.iH t.iI ["self","first","count"] (spS K (bD t) cj 3):=by
 show aX P w K mg base (fG P w) (1+1) t.iH t.iI ["self","first","count"] (spS K (bD t) (bA 4 bC) 3)
 have lA:= @rA P w K mg base t T
 refine iU (n:=4) (ar:=3) (k:=1) (b:=bC) T.uc tK rfl rfl ?_
 intro cdv A outer s H E W hr
 exact(aC (aW (i:=3) tK.nd rfl (Or.inl rfl) (jc (kc:=3) (ak 0) T.aM T.m5 lA Tk.wish (hr.mono (by decide)) T.dR .nil))
  (aC (h_ (SW.pt (GK (cJ (zy hr.units) (aP hr.units (ak 3) aB) (ak 1) (bH _)) (GJ (cJ (zy hr.units) (d7 o5 rfl T.tV o7 (aj (ak 3) az)) (ak 2) (bH _))))) (aO jb) dY)
  (aO (bu (ak 3)))))
theorem Ov(T:Txt K mg t):aX P w K mg base (fG P w) 1 t.CW t.Dc ["word","signs","most"] (spS K (bD t) xm 3):=by
 show aX P w K mg base (fG P w) (0+1) t.CW t.Dc ["word","signs","most"] (spS K (bD t) (bA 3 qg) 3)
 refine iU (n:=3) (ar:=3) (k:=0) (b:=qg) T.CJ Xe rfl rfl ?_
 intro cdv A outer s H E W hr
 exact(aO (bu (KD (Av YT aB (d7 o5 rfl T.tV o7 (aj (ak 0) az)) (bH _)) (KD (Av YT (d7 o5 rfl T.tV o7 (aj (ak 0) az)) (ak 2) (bH _)) (QW (d7 (ad3 rfl) rfl T.abv aeD (aj (wV rfl ["signs"] [1] (acf (ak 0)) ⟨⟨rfl,rfl,by first | exact .inl rfl | exact .inr rfl⟩,True.intro⟩ (fun _ _ _ _ _=>pU) (fun _ _ _ _ _=>(Av aeI (ak 0) (ak 1) (by with_unfolding_all rfl))) (by decide +kernel) (by decide +kernel) (by decide +kernel) (by decide +kernel)) az)))))))
theorem Lk(T:Txt K mg t):aX P w K mg base (fG P w) 2 t.qN t.qX ["word"] (spS K (bD t) u0 1):=by
 show aX P w K mg base (fG P w) (1+1) t.qN t.qX ["word"] (spS K (bD t) (bA 2 lz) 1)
 have Nf:= @Ov P w K mg base t T
 refine iU (n:=2) (ar:=1) (k:=1) (b:=lz) T.xK wW rfl rfl ?_
 intro cdv A outer s H E W hr
 exact(aC (aW (i:=1) wW.nd rfl (Or.inl rfl) (ak 0))
  (aC (h_ (tE (lM PySem.F.plainAttrs_str PySem.F.slot_str_startswith PySem.F.type_str_startswith JV (ak 0) (aj aY az))) (aO (aW (i:=1) wW.nd rfl (Or.inl rfl) (En (ak 0) (rT aB) wR))) dY)
  (aC (h_ (Dl (tE (aQ Nf Tk.wish (hr.mono (by decide)) rfl T.HQ T.CJ.kp T.qg .nil (aj (ak 1) (aj (S_ rfl T.HW) (aj (BR rfl T.xY) az)))))) (aO (bu NQ)) dY)
  (aO (bu (afJ (Av (uK hr.units) (ak 0) aY (bH _)) (QW (ach (lM PySem.F.plainAttrs_str PySem.F.slot_str_startswith PySem.F.type_str_startswith JV (ak 1) (aj aY az))))))))))
theorem gW(T:Txt K mg t):aX P w K mg base (fG P w) 3 t.kh t.kW ["self","word"] (spS K (bD t) bO 2):=by
 show aX P w K mg base (fG P w) (2+1) t.kh t.kW ["self","word"] (spS K (bD t) (bA 2 bF) 2)
 have Qu:= @Lk P w K mg base t T
 refine iU (n:=2) (ar:=2) (k:=2) (b:=bF) T.yf Fp rfl rfl ?_
 intro cdv A outer s H E W hr
 exact(aC (h_ (Dl (tE (aQ Qu Tk.wish (hr.mono (by decide)) rfl T.Cu T.xK.kp T.lz .nil (aj (ak 1) az)))) (aO jb) dY)
  (aO (bu (jd ad2 rfl T.abu aeC (aj (ak 1) az)))))
theorem gP(T:Txt K mg t):aX P w K mg base (fG P w) 4 t.fB t.fC ["self","word"] (spS K (bD t) bI 2):=by
 show aX P w K mg base (fG P w) (3+1) t.fB t.fC ["self","word"] (spS K (bD t) (bA 3 a_) 2)
 have bQ:= @gW P w K mg base t T
 refine iU (n:=3) (ar:=2) (k:=3) (b:=a_) T.pq o_ rfl rfl ?_
 intro cdv A outer s H E W hr
 exact(aC (aW (i:=2) o_.nd rfl (Or.inl rfl) (bR (kc:=3) (ak 0) T.aM T.dX bQ Tk.wish (hr.mono (by decide)) T.bF .nil (aj (ak 1) az)))
  (aC (h_ (cJ (RX hr.units) (ak 2) aB (bH _)) (aO jb) dY)
  (aO (bu (ak 2)))))
theorem xU(T:Txt K mg t):aX P w K mg base (fG P w) 5 t.kE t.kZ ["self","word","bound"] (spS K (bD t) jg 3):=by
 show aX P w K mg base (fG P w) (4+1) t.kE t.kZ ["self","word","bound"] (spS K (bD t) (bA 4 dU) 3)
 have bJ:= @gP P w K mg base t T
 refine iU (n:=4) (ar:=3) (k:=4) (b:=dU) T.yh xR rfl rfl ?_
 intro cdv A outer s H E W hr
 exact(aC (aW (i:=3) xR.nd rfl (Or.inl rfl) (bR (kc:=3) (ak 0) T.aM T.cT bJ Tk.wish (hr.mono (by decide)) T.a_ .nil (aj (ak 1) az)))
  (aC (h_ (cJ ajS (ak 3) (ak 2) (bH _)) (aO jb) dY)
  (aO (bu (ak 3)))))
theorem Hz(T:Txt K mg t):aX P w K mg base (fG P w) 6 t.mF t.mQ ["self","word"] (spS K (bD t) pY 2):=by
 show aX P w K mg base (fG P w) (5+1) t.mF t.mQ ["self","word"] (spS K (bD t) (bA 2 i_) 2)
 have o8:= @xU P w K mg base t T
 refine iU (n:=2) (ar:=2) (k:=5) (b:=i_) T.zm G_ rfl rfl ?_
 intro cdv A outer s H E W hr
 exact(aO (bu (bR (kc:=3) (ak 0) T.aM T.m6 o8 Tk.wish (hr.mono (by decide)) T.dU .nil (aj (ak 1) (aj (BR rfl T.Cv) az)))))
theorem jG(T:Txt K mg t):aX P w K mg base (fG P w) 1 t.kj t.kY ["self"] (spS K (bD t) fj 1):=by
 show aX P w K mg base (fG P w) (0+1) t.kj t.kY ["self"] (spS K (bD t) (bA 1 cG) 1)
 refine iU (n:=1) (ar:=1) (k:=0) (b:=cG) T.yg Fq rfl rfl ?_
 intro cdv A outer s H E W hr
 exact(aO (tH (cs:=[3]) ⟨⟨T.aM,T.bN⟩,True.intro⟩ (ak 0) (aL cF (cB (cs:=[3]) ⟨⟨T.aM,T.bN⟩,True.intro⟩ (ak 0)) aB)))
theorem Lg(T:Txt K mg t):aX P w K mg base (fG P w) 7 t.qJ t.qR ["reader"] (spS K (bD t) qp 1):=by
 show aX P w K mg base (fG P w) (6+1) t.qJ t.qR ["reader"] (spS K (bD t) (bA 4 k_) 1)
 have cA:= @gC P w K mg base t T
 have JB:= @Hz P w K mg base t T
 have bJ:= @gP P w K mg base t T
 have dW:= @jG P w K mg base t T
 refine iU (n:=4) (ar:=1) (k:=6) (b:=k_) T.xH oA rfl rfl ?_
 intro cdv A outer s H E W hr
 exact(aC (aW (i:=1) oA.nd rfl (Or.inl rfl) (bR (kc:=3) (ak 0) T.aM T.d_ cA Tk.wish (hr.mono (by decide)) T.bC .nil (aj aY (aj aB az))))
  (aC (aW (i:=2) oA.nd rfl (Or.inl rfl) KC)
  (aC (h_ (cJ (zy hr.units) (aP hr.units (ak 1) aB) aY (bH _)) (aO (aW (i:=2) oA.nd rfl (Or.inl rfl) (bR (kc:=3) (ak 0) T.aM T.yQ JB Tk.wish (hr.mono (by decide)) T.i_ .nil (aj (aP hr.units (ak 1) aB) az)))) dY)
  (aC (aW (i:=3) oA.nd rfl (Or.inl rfl) (bZ (aj (bR (kc:=3) (ak 0) T.aM T.cT bJ Tk.wish (hr.mono (by decide)) T.a_ .nil (aj (aP hr.units (ak 1) aB) az)) (aj (ak 2) az))))
  (aC (dZ (jc (kc:=3) (ak 0) T.aM T.gY dW Tk.wish (hr.mono (by decide)) T.cG .nil))
  (aO (bu (ak 3))))))))
theorem rH(T:Txt K mg t):aX P w K mg base (fG P w) 6 t.gJ t.gK ["self","one","two"] (spS K (bD t) gH 3):=by
 show aX P w K mg base (fG P w) (5+1) t.gJ t.gK ["self","one","two"] (spS K (bD t) (bA 4 cH) 3)
 have o8:= @xU P w K mg base t T
 refine iU (n:=4) (ar:=3) (k:=5) (b:=cH) T.rN rG rfl rfl ?_
 intro cdv A outer s H E W hr
 exact(aC (aW (i:=3) rG.nd rfl (Or.inl rfl) (bZ (aj (bR (kc:=3) (ak 0) T.aM T.m6 o8 Tk.wish (hr.mono (by decide)) T.dU .nil (aj (ak 1) (aj (aL YQ aB (BR rfl T.Cv)) az))) (aj (bR (kc:=3) (ak 0) T.aM T.m6 o8 Tk.wish (hr.mono (by decide)) T.dU .nil (aj (ak 2) (aj (aL YQ aB (BR rfl T.Cv)) az))) az))))
  (aC (h_ (cJ (uK hr.units) (aP hr.units (ak 3) aB) aB (bH _)) (aO jb) dY)
  (aO (bu (ak 3)))))
theorem Li(T:Txt K mg t):aX P w K mg base (fG P w) 7 t.qL t.qU ["reader"] (spS K (bD t) qw 1):=by
 show aX P w K mg base (fG P w) (6+1) t.qL t.qU ["reader"] (spS K (bD t) (bA 4 lg) 1)
 have cA:= @gC P w K mg base t T
 have bJ:= @gP P w K mg base t T
 have nM:= @rH P w K mg base t T
 have dW:= @jG P w K mg base t T
 refine iU (n:=4) (ar:=1) (k:=6) (b:=lg) T.xJ rW rfl rfl ?_
 intro cdv A outer s H E W hr
 exact(aC (aW (i:=1) rW.nd rfl (Or.inl rfl) (bR (kc:=3) (ak 0) T.aM T.d_ cA Tk.wish (hr.mono (by decide)) T.bC .nil (aj aY (aj aB az))))
  (aC (aW (i:=2) rW.nd rfl (Or.inl rfl) (bR (kc:=3) (ak 0) T.aM T.cT bJ Tk.wish (hr.mono (by decide)) T.a_ .nil (aj (aP hr.units (ak 1) aB) az)))
  (aC (aW (i:=3) rW.nd rfl (Or.inl rfl) (bZ (aj (ak 2) (aj (bR (kc:=3) (ak 0) T.aM T.cT bJ Tk.wish (hr.mono (by decide)) T.a_ .nil (aj (aP hr.units (ak 1) aB) az)) (aj (bR (kc:=3) (ak 0) T.aM T.lN nM Tk.wish (hr.mono (by decide)) T.cH .nil (aj (aP hr.units (ak 1) aB) (aj (aP hr.units (ak 1) aB) az))) az)))))
  (aC (dZ (jc (kc:=3) (ak 0) T.aM T.gY dW Tk.wish (hr.mono (by decide)) T.cG .nil))
  (aO (bu (ak 3)))))))
theorem pH(T:Txt K mg t):aX P w K mg base (fG P w) 2 t.jJ t.jL ["self","word"] (spS K (bD t) fM 2):=by
 show aX P w K mg base (fG P w) (1+1) t.jJ t.jL ["self","word"] (spS K (bD t) (bA 2 cZ) 2)
 have lA:= @rA P w K mg base t T
 refine iU (n:=2) (ar:=2) (k:=1) (b:=cZ) T.wk Dr rfl rfl ?_
 intro cdv A outer s H E W hr
 exact(aO (bu (Av (uK hr.units) (aP hr.units (jc (kc:=3) (ak 0) T.aM T.m5 lA Tk.wish (hr.mono (by decide)) T.dR .nil) aB) (ak 1) (bH _))))
theorem Rh(T:Txt K mg t):aX P w K mg base (fG P w) 2 t.wA t.wI ["word"] (spS K (bD t) zN 1):=by
 show aX P w K mg base (fG P w) (1+1) t.wA t.wI ["word"] (spS K (bD t) (bA 1 pQ) 1)
 have Nf:= @Ov P w K mg base t T
 refine iU (n:=1) (ar:=1) (k:=1) (b:=pQ) T.Bf QZ rfl rfl ?_
 intro cdv A outer s H E W hr
 exact(aO (bu (aQ Nf Tk.wish (hr.mono (by decide)) rfl T.HQ T.CJ.kp T.qg .nil (aj (ak 0) (aj (S_ rfl T.HS) (aj (BR rfl T.xX) az))))))
theorem yJ(T:Txt K mg t):aX P w K mg base (fG P w) 3 t.mz t.mL ["self","word"] (spS K (bD t) lW 2):=by
 show aX P w K mg base (fG P w) (2+1) t.mz t.mL ["self","word"] (spS K (bD t) (bA 2 gm) 2)
 have Wo:= @Rh P w K mg base t T
 refine iU (n:=2) (ar:=2) (k:=2) (b:=gm) T.zf G8 rfl rfl ?_
 intro cdv A outer s H E W hr
 exact(aC (h_ (Dl (tE (aQ Wo Tk.wish (hr.mono (by decide)) rfl T.HR T.Bf.kp T.pQ .nil (aj (ak 1) az)))) (aO jb) dY)
  (aO (bu (ak 1))))
theorem Hv(T:Txt K mg t):aX P w K mg base (fG P w) 4 t.lZ t.mG ["reader"] (spS K (bD t) lU 1):=by
 show aX P w K mg base (fG P w) (3+1) t.lZ t.mG ["reader"] (spS K (bD t) (bA 4 iW) 1)
 have jN:= @pH P w K mg base t T
 have cA:= @gC P w K mg base t T
 have vM:= @yJ P w K mg base t T
 have bQ:= @gW P w K mg base t T
 have dW:= @jG P w K mg base t T
 refine iU (n:=4) (ar:=1) (k:=3) (b:=iW) T.t7 ou rfl rfl ?_
 intro cdv A outer s H E W hr
 exact(aC (aW (i:=1) ou.nd rfl (Or.inl rfl) (gw az))
  (aC (GX (oJ rfl rfl) (tE (bR (kc:=3) (ak 0) T.aM T.lK jN Tk.wish (hr.mono (by decide)) T.cZ .nil (aj aY az))) (aC (aW (i:=2) ou.nd rfl (Or.inl rfl) (bR (kc:=3) (ak 0) T.aM T.d_ cA Tk.wish (hr.mono (by decide)) T.bC .nil (aj aY (aj aB az))))
  (aC (aW (i:=3) ou.nd rfl (Or.inl rfl) (bZ (aj (bR (kc:=3) (ak 0) T.aM T.tU vM Tk.wish (hr.mono (by decide)) T.gm .nil (aj (aP hr.units (ak 2) aB) az)) (aj (bR (kc:=3) (ak 0) T.aM T.dX bQ Tk.wish (hr.mono (by decide)) T.bF .nil (aj (aP hr.units (ak 2) aB) az)) az))))
  (aC (h_ (SW.pt (GK (cJ (uK hr.units) (aP hr.units (ak 3) aB) aB (bH _)) (GJ (SW.pt (Ky (cJ Uu (d7 o5 rfl T.tV o7 (aj (ak 1) az)) aB (bH _)) (FQ (cJ (YS hr.units) (aP hr.units (ak 3) aB) (aP hr.units (aP hr.units (ak 1) (abn WR aB)) aB) (bH _)))))))) (aO jb) dY)
  (aC (dZ (lM PySem.F.plainAttrs_list PySem.F.slot_list_append PySem.F.type_list_append jf (ak 1) (aj (ak 3) az)))
  (aO (dZ (jc (kc:=3) (ak 0) T.aM T.gY dW Tk.wish (hr.mono (by decide)) T.cG .nil))))))))
  (aO (bu (jd wK rfl T.uZ uJ (aj (ak 1) az))))))
theorem Fw(T:Txt K mg t):aX P w K mg base (fG P w) 4 t.j9 t.kJ ["reader"] (spS K (bD t) j5 1):=by
 show aX P w K mg base (fG P w) (3+1) t.j9 t.kJ ["reader"] (spS K (bD t) (bA 4 gO) 1)
 have jN:= @pH P w K mg base t T
 have cA:= @gC P w K mg base t T
 have bQ:= @gW P w K mg base t T
 have dW:= @jG P w K mg base t T
 refine iU (n:=4) (ar:=1) (k:=3) (b:=gO) T.rD mY rfl rfl ?_
 intro cdv A outer s H E W hr
 exact(aC (aW (i:=1) mY.nd rfl (Or.inl rfl) (gw az))
  (aC (GX (oJ rfl rfl) (tE (bR (kc:=3) (ak 0) T.aM T.lK jN Tk.wish (hr.mono (by decide)) T.cZ .nil (aj aY az))) (aC (aW (i:=2) mY.nd rfl (Or.inl rfl) (bR (kc:=3) (ak 0) T.aM T.d_ cA Tk.wish (hr.mono (by decide)) T.bC .nil (aj aY (aj aB az))))
  (aC (aW (i:=3) mY.nd rfl (Or.inl rfl) (jd wK rfl T.uZ uJ (aj (wV rfl ["reader"] [0] (pF (En (ak 2) (rT aB) wR)) ⟨⟨rfl,rfl,by first | exact .inl rfl | exact .inr rfl⟩,True.intro⟩ (fun _ _ _ _ _=>pU) (fun _ _ _ _ _=>(bR (kc:=3) (ak 1) T.aM T.dX bQ Tk.none (hr.mono (by decide)) T.bF .nil (aj (ak 0) az))) (by decide +kernel) (by decide +kernel) (by decide +kernel) (by decide +kernel)) az)))
  (aC (h_ (SW.pt (Ky (cJ Uu (d7 o5 rfl T.tV o7 (aj (ak 1) az)) aB (bH _)) (FQ (cJ (YS hr.units) (En (ak 3) wR (rT aB)) (En (aP hr.units (ak 1) (abn WR aB)) wR (rT aB)) (bH _))))) (aO jb) dY)
  (aC (dZ (lM PySem.F.plainAttrs_list PySem.F.slot_list_append PySem.F.type_list_append jf (ak 1) (aj (ak 3) az)))
  (aO (dZ (jc (kc:=3) (ak 0) T.aM T.gY dW Tk.wish (hr.mono (by decide)) T.cG .nil))))))))
  (aO (bu (jd wK rfl T.uZ uJ (aj (ak 1) az))))))
theorem Js(T:Txt K mg t):aX P w K mg base (fG P w) 4 t.oU t.oY ["reader","words"] (spS K (bD t) sr 2):=by
 show aX P w K mg base (fG P w) (3+1) t.oU t.oY ["reader","words"] (spS K (bD t) (bA 3 jB) 2)
 have bQ:= @gW P w K mg base t T
 have vM:= @yJ P w K mg base t T
 refine iU (n:=3) (ar:=2) (k:=3) (b:=jB) T.vH Ab rfl rfl ?_
 intro cdv A outer s H E W hr
 exact(aC (h_ (cJ (zy hr.units) (ZF [("put",3),("add",3),("swap",4)] rfl T.yP T.yC (aP hr.units (ak 1) aB)) (d7 o5 rfl T.tV o7 (aj (ak 1) az)) (bH _)) (aO jb) dY)
  (aC (S8 (k:=2) rfl ["reader"] [0] Ab.nd rfl rfl (pF (En (ak 1) (rT aB) wR)) ⟨⟨rfl,rfl,by first | exact .inl rfl | exact .inr rfl⟩,True.intro⟩ (fun _ _ _ _ _=>pU) (fun _ _ _ _ _=>(bR (kc:=3) (ak 1) T.aM T.dX bQ Tk.none (hr.mono (by decide)) T.bF .nil (aj (ak 0) az))) (by decide +kernel) (by decide +kernel) (by decide +kernel) (by decide +kernel))
  (aO (bu (aL cF (bZ (aj (aP hr.units (ak 1) aB) (aj (bR (kc:=3) (ak 0) T.aM T.tU vM Tk.wish (hr.mono (by decide)) T.gm .nil (aj (aP hr.units (ak 1) aB) az)) az))) (jd wK rfl T.uZ uJ (aj (ak 2) az)))))))
theorem Lf(T:Txt K mg t):aX P w K mg base (fG P w) 7 t.qI t.qQ ["reader","words"] (spS K (bD t) nQ 2):=by
 show aX P w K mg base (fG P w) (6+1) t.qI t.qQ ["reader","words"] (spS K (bD t) (bA 2 iJ) 2)
 have nM:= @rH P w K mg base t T
 have bQ:= @gW P w K mg base t T
 have Nb:= @Js P w K mg base t T
 refine iU (n:=2) (ar:=2) (k:=6) (b:=iJ) T.xG KH rfl rfl ?_
 intro cdv A outer s H E W hr
 exact(aC (h_ (cJ (uK hr.units) (ak 1) (gw (aj aY az)) (bH _)) (aO (bu (bZ (aj aY az)))) dY)
  (aC (h_ (SW.pt (Ky (cJ (uK hr.units) (d7 o5 rfl T.tV o7 (aj (ak 1) az)) aB (bH _)) (FQ (cJ (uK hr.units) (aP hr.units (ak 1) aB) aY (bH _))))) (aO (bu (aL cF (bZ (aj aY az)) (bR (kc:=3) (ak 0) T.aM T.lN nM Tk.wish (hr.mono (by decide)) T.cH .nil (aj (aP hr.units (ak 1) aB) (aj (aP hr.units (ak 1) aB) az)))))) dY)
  (aC (h_ (SW.pt (Ky (cJ Uu (d7 o5 rfl T.tV o7 (aj (ak 1) az)) aB (bH _)) (FQ (cJ (uK hr.units) (aP hr.units (ak 1) aB) aY (bH _))))) (aO (bu (bZ (aj aY (aj (bR (kc:=3) (ak 0) T.aM T.dX bQ Tk.wish (hr.mono (by decide)) T.bF .nil (aj (aP hr.units (ak 1) aB) az)) (aj (bR (kc:=3) (ak 0) T.aM T.dX bQ Tk.wish (hr.mono (by decide)) T.bF .nil (aj (aP hr.units (ak 1) aB) az)) (aj (aQ Nb Tk.wish (hr.mono (by decide)) rfl T.Ag T.vH.kp T.jB .nil (aj (ak 0) (aj (En (ak 1) (rT aB) wR) az))) az))))))) dY)
  (aO jb))))
theorem Fv(T:Txt K mg t):aX P w K mg base (fG P w) 8 t.j8 t.kI ["reader"] (spS K (bD t) oM 1):=by
 show aX P w K mg base (fG P w) (7+1) t.j8 t.kI ["reader"] (spS K (bD t) (bA 4 gM) 1)
 have jN:= @pH P w K mg base t T
 have lA:= @rA P w K mg base t T
 have Qq:= @Lf P w K mg base t T
 have bJ:= @gP P w K mg base t T
 have dW:= @jG P w K mg base t T
 refine iU (n:=4) (ar:=1) (k:=7) (b:=gM) T.rC mX rfl rfl ?_
 intro cdv A outer s H E W hr
 exact(aC (aW (i:=1) mX.nd rfl (Or.inl rfl) (gw az))
  (aC (GX (oJ rfl rfl) (tE (bR (kc:=3) (ak 0) T.aM T.lK jN Tk.wish (hr.mono (by decide)) T.cZ .nil (aj aY az))) (aC (aW (i:=2) mX.nd rfl (Or.inl rfl) (jc (kc:=3) (ak 0) T.aM T.m5 lA Tk.wish (hr.mono (by decide)) T.dR .nil))
  (aC (aW (i:=3) mX.nd rfl (Or.inl rfl) (aQ Qq Tk.wish (hr.mono (by decide)) rfl T.Cp T.xG.kp T.iJ .nil (aj (ak 0) (aj (En (ak 2) (rT aB) wR) az))))
  (aC (dZ (lM PySem.F.plainAttrs_list PySem.F.slot_list_append PySem.F.type_list_append jf (ak 1) (aj (bZ (aj (bR (kc:=3) (ak 0) T.aM T.cT bJ Tk.wish (hr.mono (by decide)) T.a_ .nil (aj (aP hr.units (ak 2) aB) az)) (aj (ak 3) az))) az)))
  (aO (dZ (jc (kc:=3) (ak 0) T.aM T.gY dW Tk.wish (hr.mono (by decide)) T.cG .nil)))))))
  (aO (bu (ak 1)))))
theorem DN(T:Txt K mg t):aX P w K mg base (fG P w) 4 t.jH t.jK ["self"] (spS K (bD t) m7 1):=by
 show aX P w K mg base (fG P w) (3+1) t.jH t.jK ["self"] (spS K (bD t) (bA 2 fO) 1)
 have cA:= @gC P w K mg base t T
 have bQ:= @gW P w K mg base t T
 refine iU (n:=2) (ar:=1) (k:=3) (b:=fO) T.wj vR rfl rfl ?_
 intro cdv A outer s H E W hr
 exact(aC (aW (i:=1) vR.nd rfl (Or.inl rfl) (bR (kc:=3) (ak 0) T.aM T.d_ cA Tk.wish (hr.mono (by decide)) T.bC .nil (aj aY (aj aB az))))
  (aC (h_ (cJ (zy hr.units) (bR (kc:=3) (ak 0) T.aM T.dX bQ Tk.wish (hr.mono (by decide)) T.bF .nil (aj (aP hr.units (ak 1) aB) az)) (aL Bm (cB (cs:=[3]) ⟨⟨T.aM,T.bN⟩,True.intro⟩ (ak 0)) aB) (bH _)) (aO jb) dY)
  (aO (h_ (cJ (RX hr.units) (cB (cs:=[3]) ⟨⟨T.aM,T.bN⟩,True.intro⟩ (ak 0)) (d7 o5 rfl T.tV o7 (aj (cB (cs:=[3]) ⟨⟨T.aM,T.dM⟩,True.intro⟩ (ak 0)) az)) (bH _)) (aO jb) dY))))
theorem Lh(T:Txt K mg t):aX P w K mg base (fG P w) 9 t.qK t.qT ["text"] (spS K (bD t) qt 1):=by
 show aX P w K mg base (fG P w) (8+1) t.qK t.qT ["text"] (spS K (bD t) (bA 7 jj) 1)
 have Jz:= @Hy P w K mg base t T
 have Qs:= @Lg P w K mg base t T
 have Qt:= @Li P w K mg base t T
 have Jx:= @Hv P w K mg base t T
 have Je:= @Fw P w K mg base t T
 have uO:= @yH P w K mg base t T
 have Jd:= @Fv P w K mg base t T
 have Fz:= @DN P w K mg base t T
 have zH:= @Ck P w K mg base t T
 refine iU (n:=7) (ar:=1) (k:=8) (b:=jj) T.sJ jl rfl rfl ?_
 intro cdv A outer s H E W hr
 exact(aC (aW (i:=1) jl.nd rfl (Or.inl rfl) (zK (kc:=3) T.sX Jz Tk.wish (hr.mono (by decide)) rfl T.JW T.iZ .nil (aj (ak 0) az)))
  (aC (aW (i:=2) jl.nd rfl (Or.inl rfl) (aQ Qs Tk.wish (hr.mono (by decide)) rfl T.Cq T.xH.kp T.k_ .nil (aj (ak 1) az)))
  (aC (aW (i:=3) jl.nd rfl (Or.inl rfl) (aQ Qt Tk.wish (hr.mono (by decide)) rfl T.Cr T.xJ.kp T.lg .nil (aj (ak 1) az)))
  (aC (aW (i:=4) jl.nd rfl (Or.inl rfl) (aQ Jx Tk.wish (hr.mono (by decide)) rfl T.yM T.t7.kp T.iW .nil (aj (ak 1) az)))
  (aC (aW (i:=5) jl.nd rfl (Or.inl rfl) (aQ Je Tk.wish (hr.mono (by decide)) rfl T.xW T.rD.kp T.gO .nil (aj (ak 1) az)))
  (aC (aW (i:=6) jl.nd rfl (Or.inl rfl) (zK (kc:=4) T.yL uO Tk.wish (hr.mono (by decide)) rfl T.Lr T.jE .nil (aj (aP hr.units (ak 3) aB) (aj (aP hr.units (ak 3) aB) (aj (aP hr.units (ak 3) aB) (aj (aQ Jd Tk.wish (hr.mono (by decide)) rfl T.xV T.rC.kp T.gM .nil (aj (ak 1) az)) az))))))
  (aC (dZ (jc (kc:=3) (ak 1) T.aM T.vU Fz Tk.wish (hr.mono (by decide)) T.fO .nil))
  (aO (bu (zK (kc:=5) T.w6 zH Tk.wish (hr.mono (by decide)) rfl T.Ls T.jk .nil (aj (aP hr.units (ak 2) aB) (aj (aP hr.units (ak 2) aB) (aj (ak 6) (aj (bZ (aj (ak 4) (aj (ak 5) az))) az))))))))))))))
theorem adf(T:Txt K mg t):aX P w K mg base (fG P w) 10 t.J7 t.Ff ["_law_script"] (spS K (bD t) Yd 1):=by
 show aX P w K mg base (fG P w) (9+1) t.J7 t.Ff ["_law_script"] (spS K (bD t) (bA 14 Kf) 1)
 have sU:= @Ae P w K mg base t T
 have jQ:= @Hw P w K mg base t T
 have Bs:= @Ep P w K mg base t T
 have Sv:= @Ou P w K mg base t T
 have Ss:= @Oq P w K mg base t T
 have uO:= @yH P w K mg base t T
 have zH:= @Ck P w K mg base t T
 have Kl:= @Ri P w K mg base t T
 have Su:= @Ot P w K mg base t T
 have Kh:= @Rf P w K mg base t T
 have zE:= @Lj P w K mg base t T
 have Fj:= @Lh P w K mg base t T
 refine iU (n:=14) (ar:=1) (k:=9) (b:=Kf) T.RN oE rfl rfl ?_
 intro cdv A outer s H E W hr
 exact(aC (aW (i:=1) oE.nd rfl (Or.inl rfl) (aQ sU Tk.wish (hr.mono (by decide)) rfl T.pW T.lY.kp T.fZ .nil (aj (aQ jQ Tk.wish (hr.mono (by decide)) rfl T.gF T.fu.kp T.cI .nil (aj (ak 0) (aj aB az))) (aj aB az))))
  (aC (aW (i:=2) oE.nd rfl (Or.inl rfl) (bZ (aj (aP hr.units (gw (aj (aL cR (aP hr.units (ak 1) aB) aB) (aj (aL cR (aQ jQ Tk.wish (hr.mono (by decide)) rfl T.gF T.fu.kp T.cI .nil (aj (ak 0) (aj aB az))) (aL Eh aB aB)) az))) (aL cR (aP hr.units (ak 1) aB) aB)) (aj (aP hr.units (gw (aj KC (aj (aL cR (aP hr.units (ak 1) aB) aB) (aj aB az)))) (aL cR (aL zz (aP hr.units (ak 1) aB) aB) aB)) az))))
  (aC (aW (i:=3) oE.nd rfl (Or.inl rfl) (aQ Bs Tk.wish (hr.mono (by decide)) rfl T.yN T.vg.kp T.lu .nil (aj (aP hr.units (ak 1) aB) (aj (aQ jQ Tk.wish (hr.mono (by decide)) rfl T.gF T.fu.kp T.cI .nil (aj (ak 0) (aj aB az))) az))))
  (aC (aW (i:=4) oE.nd rfl (Or.inl rfl) (aP hr.units (gw (aj aB (aj (aL cR (aP hr.units (ak 1) aB) aB) (aj (aL cR (aQ jQ Tk.wish (hr.mono (by decide)) rfl T.gF T.fu.kp T.cI .nil (aj (ak 0) (aj aB az))) (aL Eh aB aB)) az)))) (aL cR (aP hr.units (ak 1) aB) aB)))
  (aC (aW (i:=5) oE.nd rfl (Or.inl rfl) (gw (aj (ak 4) (aj (aL cR (aQ jQ Tk.wish (hr.mono (by decide)) rfl T.gF T.fu.kp T.cI .nil (aj (ak 0) (aj aB az))) (aL Eh aB aB)) (aj (aP hr.units (ak 3) aB) (aj (aP hr.units (ak 3) aB) az))))))
  (aC (aW (i:=6) oE.nd rfl (Or.inl rfl) (aQ Sv Tk.wish (hr.mono (by decide)) rfl T.Ew T.zb.kp T.nG .nil (aj (ak 1) (aj (aQ jQ Tk.wish (hr.mono (by decide)) rfl T.gF T.fu.kp T.cI .nil (aj (ak 0) (aj aB az))) az))))
  (aC (S8 (k:=7) rfl [] [] oE.nd rfl rfl (pF (En (ak 0) (rT aB) (rT aB))) True.intro (fun _ _ _ _ _=>pU) (fun _ _ _ _ _=>(bZ (aj (aL cF (aL cR (aP hr.units (aQ sU Tk.none (hr.mono (by decide)) rfl T.pW T.lY.kp T.fZ .nil (aj (aL cF (ak 0) aB) (aj aB az))) aB) aB) (aL cR (ak 0) (aL Eh aB aB))) (aj (aQ Ss Tk.none (hr.mono (by decide)) rfl T.Et T.yZ.kp T.jC .nil (aj (ak 0) az)) az)))) (by decide +kernel) (by decide +kernel) (by decide +kernel) (by decide +kernel))
  (aC (aW (i:=8) oE.nd rfl (Or.inl rfl) (zK (kc:=4) T.yL uO Tk.wish (hr.mono (by decide)) rfl T.Lr T.jE .nil (aj (aP hr.units (ak 5) aB) (aj (aP hr.units (ak 5) aB) (aj (ak 3) (aj (jd Gn rfl T.HY Gq (aj (ak 7) az)) az))))))
  (aC (aW (i:=9) oE.nd rfl (Or.inl rfl) (zK (kc:=5) T.w6 zH Tk.wish (hr.mono (by decide)) rfl T.Ls T.jk .nil (aj (aP hr.units (ak 2) aB) (aj (aP hr.units (ak 2) aB) (aj (ak 8) (aj (ak 6) az))))))
  (aC (dZ (bR (kc:=4) (ak 8) T.dm T.Bb Kl Tk.wish (hr.mono (by decide)) T.nY .nil (aj (bZ (aj aB (aj (bZ (aj aY az)) az))) az)))
  (aC (aW (i:=10) oE.nd rfl (Or.inl rfl) (aQ Su Tk.wish (hr.mono (by decide)) rfl T.Eu T.y_.kp T.nF .nil (aj (ak 2) (aj (ak 5) (aj (ak 6) (aj (ak 7) az))))))
  (aC (aW (i:=11) oE.nd rfl (Or.inl rfl) (aQ Kh Tk.wish (hr.mono (by decide)) rfl T.Ba T.xF.kp T.nW .nil (aj (ak 9) az)))
  (aC (h_ (SW.pt (GK (Dl (tE (d7 RV rfl T.su vJ (aj (ak 11) (aj (Xd rfl T.T5 RW) az))))) (GK (cJ (zy hr.units) (ak 11) (ak 10) (bH _)) (GJ (Dl (tE (aQ zE Tk.wish (hr.mono (by decide)) rfl T.rZ T.oO.kp T.iK .nil (aj (ak 9) (aj (ak 2) (aj (ak 5) (aj (ak 6) (aj (ak 7) az)))))))))))) (aO (bu NQ)) dY)
  (aC (aW (i:=12) oE.nd rfl (Or.inl rfl) (aQ Fj Tk.wish (hr.mono (by decide)) rfl T.xg T.sJ.kp T.jj .nil (aj (ak 10) az)))
  (aC (aW (i:=13) oE.nd rfl (Or.inl rfl) (aQ Fj Tk.wish (hr.mono (by decide)) rfl T.xg T.sJ.kp T.jj .nil (aj (ak 10) az)))
  (aC (h_ (SW.pt (GK (Dl (tE (aQ zE Tk.wish (hr.mono (by decide)) rfl T.rZ T.oO.kp T.iK .nil (aj (ak 12) (aj (ak 2) (aj (ak 5) (aj (ak 6) (aj (ak 7) az)))))))) (GJ (cJ (zy hr.units) (aQ Kh Tk.wish (hr.mono (by decide)) rfl T.Ba T.xF.kp T.nW .nil (aj (ak 12) az)) (ak 10) (bH _))))) (aO (bu NQ)) dY)
  (aC (dZ (bR (kc:=4) (cB (cs:=[5]) ⟨⟨T.dN,T.iG⟩,True.intro⟩ (ak 13)) T.dm T.Bb Kl Tk.wish (hr.mono (by decide)) T.nY .nil (aj (bZ (aj aB (aj (bZ (aj aY az)) az))) az)))
  (aO (bu (aQ zE Tk.wish (hr.mono (by decide)) rfl T.rZ T.oO.kp T.iK .nil (aj (ak 12) (aj (ak 2) (aj (ak 5) (aj (ak 6) (aj (ak 7) az)))))))))))))))))))))))))
theorem VJ(T:Txt K mg t)(s:Shared)(u:Value):BindsTo s t.Ff ⟨[u],[]⟩ [("_law_script",u)]:=by
 obtain⟨oc,od,kV,doc,pm,an,cdv,ct,osl,e,_⟩:=T.RN.ex
 rw[e]
 exact .of_eq rfl
theorem aal(T:Txt K mg t):aX P w K mg base CX0 10 t.J7 t.Ff ["_law_script"] (spL K):=ahi (adf T) adp
end
theorem all_mk{K:PySem.W.Frag}{h:Heap}{mg:Str→Option Value}(X:K.In h)(G:h.Ns mainGlobals mg)
  {q_ pR cP f0 f1 f2 f3 f4 f5 f6 f7 f8 f9 f10 f11 f12 f13 f14 f15 f16 f17 f18 f19 f20 f21 f22 f23 f24 f25 f26 f27 f28 f29 f30 f31 f32 f33 f34 f35 f36 f37 f38 f39 f40 f41 f42 qi:Addr}
  {oc0 kV0 dc0 pm0 cd0 ct0 oc1 kV1 dc1 pm1 cd1 ct1 oc2 kV2 dc2 pm2 cd2 ct2 oc3 kV3 dc3 pm3 cd3 ct3 oc4 kV4 dc4 pm4 cd4 ct4 oc5 kV5 dc5 pm5 cd5 ct5 oc6 kV6 dc6 pm6 cd6 ct6 oc7 kV7 dc7 pm7 cd7 ct7 oc8 kV8 dc8 pm8 cd8 ct8 oc9 kV9 dc9 pm9 cd9 ct9 apn ahT ajd agH aeA ajP apm ahS ajc agG aez ajO apl ahR ajb agF aey ajN apk ahQ aja agE aex ajM apj ahP ai_ agD aew ajL api ahO ai9 agC aev ajK aph ahN ai8 agB aeu ajJ apg ahM ai7 agA aet ajI apf ahL ai6 agz aes ajH ape ahK ai5 agy aer ajG apd ahJ ai4 agx aeq ajF apc ahI ai3 agw aep ajE apb ahH ai2 agv aeo ajD apa ahG ai1 agu aen ajC ao_ ahF ai0 agt aem ajB ao9 ahE aiZ ags ael ajA ao8 ahD aiY agr aek ajz ao7 ahC aiX agq aej ajy ao6 ahB aiW agp aei ajx ao5 ahA aiV ago aeh ajw ao4 ahz aiU agn aeg ajv ao3 ahy aiT agm aef aju ao2 ahx aiS agl aee ajt ao1 ahw aiR agk aed ajs ao0 ahv aiQ agj aec ajr aoZ ahu aiP agi aeb ajq aoY aht aiO agh aea ajp aoX ahs aiN agg ad_ ajo aoW ahr aiM agf ad9 ajn aoV ahq aiL age ad8 ajm aoU ahp aiK agd ad7 ajl aoT aho aiJ agc ad6 ajk aoS ahn aiI agb ad5 ajj:Value}
  {od0 an0 od1 an1 od2 an2 od3 an3 od4 an4 od5 an5 od6 an6 od7 an7 od8 an8 od9 an9 aoR akp aoQ ako aoP akn aoO akm aoN akl aoM akk aoL akj aoK aki aoJ akh aoI akg aoH akf aoG ake aoF akd aoE akc aoD akb aoC aka aoB aj_ aoA aj9 aoz aj8 aoy aj7 aox aj6 aow aj5 aov aj4 aou aj3 aot aj2 aos aj1 aor aj0 aoq ajZ aop ajY aoo ajX aon ajW aom ajV aol ajU:Option Addr}
  {sl0 sl1 sl2 sl3 sl4 sl5 sl6 sl7 sl8 sl9 anV anU anT anS anR anQ anO anN anM anL anK anJ anI anH anG anF anE anC anB anA anz anx anw anv anu ant anr anq anp ano anm anl ank:Array (Option Value)}
  {tQ:Obj}
  {Ip:Nat}
  {Ko UT Km zG zF:Tok}
  {zu:Array DictEntry}
  (R_:PySem.W.nsIn K mainGlobals "Row" = some (some (.ref q_)))
  (MP:PySem.W.nsIn K mainGlobals "Book" = some (some (.ref pR)))
  (Ei:PySem.W.nsIn K mainGlobals "Reader" = some (some (.ref cP)))
  (a0:PySem.W.nsIn K mainGlobals "_law_stream" = some (some (.ref f0)))
  (l0:K.lookup f0=some ⟨oc0,od0,.func (PySem.W.fnOf "_law_stream" "_law_stream" (aH fV) (aG fV) (au fV) .none kV0 dc0 pm0 an0 cd0 ct0),sl0⟩)
  (c0:PySem.W.codeIn K cd0 "_law_stream" = true)
  (k0:PySem.W.keepIn K (.ref f0)=true)
  (a1:PySem.W.nsIn K mainGlobals "_law_cell_at" = some (some (.ref f1)))
  (l1:K.lookup f1=some ⟨oc1,od1,.func (PySem.W.fnOf "_law_cell_at" "_law_cell_at" (aH eG) (aG eG) (au eG) .none kV1 dc1 pm1 an1 cd1 ct1),sl1⟩)
  (c1:PySem.W.codeIn K cd1 "_law_cell_at" = true)
  (k1:PySem.W.keepIn K (.ref f1)=true)
  (a2:PySem.W.nsIn K mainGlobals "_law_roll" = some (some (.ref f2)))
  (l2:K.lookup f2=some ⟨oc2,od2,.func (PySem.W.fnOf "_law_roll" "_law_roll" (aH jo) (aG jo) (au jo) .none kV2 dc2 pm2 an2 cd2 ct2),sl2⟩)
  (c2:PySem.W.codeIn K cd2 "_law_roll" = true)
  (k2:PySem.W.keepIn K (.ref f2)=true)
  (a3:PySem.W.nsIn K mainGlobals "_law_name" = some (some (.ref f3)))
  (l3:K.lookup f3=some ⟨oc3,od3,.func (PySem.W.fnOf "_law_name" "_law_name" (aH jq) (aG jq) (au jq) .none kV3 dc3 pm3 an3 cd3 ct3),sl3⟩)
  (c3:PySem.W.codeIn K cd3 "_law_name" = true)
  (k3:PySem.W.keepIn K (.ref f3)=true)
  (a4:PySem.W.nsIn K mainGlobals "_law_number" = some (some (.ref f4)))
  (l4:K.lookup f4=some ⟨oc4,od4,.func (PySem.W.fnOf "_law_number" "_law_number" (aH fW) (aG fW) (au fW) .none kV4 dc4 pm4 an4 cd4 ct4),sl4⟩)
  (c4:PySem.W.codeIn K cd4 "_law_number" = true)
  (k4:PySem.W.keepIn K (.ref f4)=true)
  (a5:PySem.W.nsIn K mainGlobals "_law_kept" = some (some (.ref f5)))
  (l5:K.lookup f5=some ⟨oc5,od5,.func (PySem.W.fnOf "_law_kept" "_law_kept" (aH jr) (aG jr) (au jr) .none kV5 dc5 pm5 an5 cd5 ct5),sl5⟩)
  (c5:PySem.W.codeIn K cd5 "_law_kept" = true)
  (k5:PySem.W.keepIn K (.ref f5)=true)
  (a6:PySem.W.nsIn K mainGlobals "_law_what" = some (some (.ref f6)))
  (l6:K.lookup f6=some ⟨oc6,od6,.func (PySem.W.fnOf "_law_what" "_law_what" (aH jm) (aG jm) (au jm) .none kV6 dc6 pm6 an6 cd6 ct6),sl6⟩)
  (c6:PySem.W.codeIn K cd6 "_law_what" = true)
  (k6:PySem.W.keepIn K (.ref f6)=true)
  (a7:PySem.W.findIn K (.ref q_) "__init__" = some (some (.ref f7)))
  (i7:PySem.W.isFn K (.ref f7)=true)
  (l7:K.lookup f7=some ⟨oc7,od7,.func (PySem.W.fnOf "__init__" "Row.__init__" (aH jw) (aG jw) (au jw) .none kV7 dc7 pm7 an7 cd7 ct7),sl7⟩)
  (c7:PySem.W.codeIn K cd7 "Row.__init__" = true)
  (k7:PySem.W.keepIn K (.ref f7)=true)
  (a8:PySem.W.findIn K (.ref q_) "twin" = some (some (.ref f8)))
  (i8:PySem.W.isFn K (.ref f8)=true)
  (l8:K.lookup f8=some ⟨oc8,od8,.func (PySem.W.fnOf "twin" "Row.twin" (aH jt) (aG jt) (au jt) .none kV8 dc8 pm8 an8 cd8 ct8),sl8⟩)
  (c8:PySem.W.codeIn K cd8 "Row.twin" = true)
  (k8:PySem.W.keepIn K (.ref f8)=true)
  (a9:PySem.W.findIn K (.ref pR) "__init__" = some (some (.ref f9)))
  (i9:PySem.W.isFn K (.ref f9)=true)
  (l9:K.lookup f9=some ⟨oc9,od9,.func (PySem.W.fnOf "__init__" "Book.__init__" (aH iB) (aG iB) (au iB) .none kV9 dc9 pm9 an9 cd9 ct9),sl9⟩)
  (c9:PySem.W.codeIn K cd9 "Book.__init__" = true)
  (k9:PySem.W.keepIn K (.ref f9)=true)
  (a10:PySem.W.findIn K (.ref q_) "last" = some (some (.ref f10)))
  (i10:PySem.W.isFn K (.ref f10)=true)
  (l10:K.lookup f10=some ⟨apn,aoR,.func (PySem.W.fnOf "last" "Row.last" (aH ju) (aG ju) (au ju) .none ahT ajd agH akp aeA ajP),anV⟩)
  (c10:PySem.W.codeIn K aeA "Row.last" = true)
  (k10:PySem.W.keepIn K (.ref f10)=true)
  (a11:PySem.W.findIn K (.ref q_) "put" = some (some (.ref f11)))
  (i11:PySem.W.isFn K (.ref f11)=true)
  (l11:K.lookup f11=some ⟨apm,aoQ,.func (PySem.W.fnOf "put" "Row.put" (aH lJ) (aG lJ) (au lJ) .none ahS ajc agG ako aez ajO),anU⟩)
  (c11:PySem.W.codeIn K aez "Row.put" = true)
  (k11:PySem.W.keepIn K (.ref f11)=true)
  (a12:PySem.W.nsIn K mainGlobals "_law_row" = some (some (.ref f12)))
  (l12:K.lookup f12=some ⟨apl,aoP,.func (PySem.W.fnOf "_law_row" "_law_row" (aH lG) (aG lG) (au lG) .none ahR ajb agF akn aey ajN),anT⟩)
  (c12:PySem.W.codeIn K aey "_law_row" = true)
  (k12:PySem.W.keepIn K (.ref f12)=true)
  (a13:PySem.W.nsIn K mainGlobals "_law_text" = some (some (.ref f13)))
  (l13:K.lookup f13=some ⟨apk,aoO,.func (PySem.W.fnOf "_law_text" "_law_text" (aH jn) (aG jn) (au jn) .none ahQ aja agE akm aex ajM),anS⟩)
  (c13:PySem.W.codeIn K aex "_law_text" = true)
  (k13:PySem.W.keepIn K (.ref f13)=true)
  (a14:PySem.W.nsIn K mainGlobals "worded" = some (some (.ref f14)))
  (l14:K.lookup f14=some ⟨apj,aoN,.func (PySem.W.fnOf "worded" "worded" (aH oF) (aG oF) (au oF) .none ahP ai_ agD akl aew ajL),anR⟩)
  (c14:PySem.W.codeIn K aew "worded" = true)
  (k14:PySem.W.keepIn K (.ref f14)=true)
  (a15:PySem.W.nsIn K mainGlobals "entry_parts" = some (some (.ref f15)))
  (l15:K.lookup f15=some ⟨api,aoM,.func (PySem.W.fnOf "entry_parts" "entry_parts" (aH eN) (aG eN) (au eN) .none ahO ai9 agC akk aev ajK),anQ⟩)
  (c15:PySem.W.codeIn K aev "entry_parts" = true)
  (k15:PySem.W.keepIn K (.ref f15)=true)
  (a16:PySem.W.findIn K (.ref q_) "entries" = some (some (.ref f16)))
  (i16:PySem.W.isFn K (.ref f16)=true)
  (l16:K.lookup f16=some ⟨aph,aoL,.func (PySem.W.fnOf "entries" "Row.entries" (aH eO) (aG eO) (au eO) .none ahN ai8 agB akj aeu ajJ),anO⟩)
  (c16:PySem.W.codeIn K aeu "Row.entries" = true)
  (k16:PySem.W.keepIn K (.ref f16)=true)
  (a17:PySem.W.nsIn K mainGlobals "written" = some (some (.ref f17)))
  (l17:K.lookup f17=some ⟨apg,aoK,.func (PySem.W.fnOf "written" "written" (aH lF) (aG lF) (au lF) .none ahM ai7 agA aki aet ajI),anN⟩)
  (c17:PySem.W.codeIn K aet "written" = true)
  (k17:PySem.W.keepIn K (.ref f17)=true)
  (a18:PySem.W.nsIn K mainGlobals "_law_right" = some (some (.ref f18)))
  (l18:K.lookup f18=some ⟨apf,aoJ,.func (PySem.W.fnOf "_law_right" "_law_right" (aH iw) (aG iw) (au iw) .none ahL ai6 agz akh aes ajH),anM⟩)
  (c18:PySem.W.codeIn K aes "_law_right" = true)
  (k18:PySem.W.keepIn K (.ref f18)=true)
  (a19:PySem.W.findIn K (.ref cP) "__init__" = some (some (.ref f19)))
  (i19:PySem.W.isFn K (.ref f19)=true)
  (l19:K.lookup f19=some ⟨ape,aoI,.func (PySem.W.fnOf "__init__" "Reader.__init__" (aH eV) (aG eV) (au eV) .none ahK ai5 agy akg aer ajG),anL⟩)
  (c19:PySem.W.codeIn K aer "Reader.__init__" = true)
  (k19:PySem.W.keepIn K (.ref f19)=true)
  (a20:PySem.W.findIn K (.ref cP) "words" = some (some (.ref f20)))
  (i20:PySem.W.isFn K (.ref f20)=true)
  (l20:K.lookup f20=some ⟨apd,aoH,.func (PySem.W.fnOf "words" "Reader.words" (aH dG) (aG dG) (au dG) .none ahJ ai4 agx akf aeq ajF),anK⟩)
  (c20:PySem.W.codeIn K aeq "Reader.words" = true)
  (k20:PySem.W.keepIn K (.ref f20)=true)
  (a21:PySem.W.findIn K (.ref cP) "words_of" = some (some (.ref f21)))
  (i21:PySem.W.isFn K (.ref f21)=true)
  (l21:K.lookup f21=some ⟨apc,aoG,.func (PySem.W.fnOf "words_of" "Reader.words_of" (aH cg) (aG cg) (au cg) .none ahI ai3 agw ake aep ajE),anJ⟩)
  (c21:PySem.W.codeIn K aep "Reader.words_of" = true)
  (k21:PySem.W.keepIn K (.ref f21)=true)
  (a22:PySem.W.nsIn K mainGlobals "is_of" = some (some (.ref f22)))
  (l22:K.lookup f22=some ⟨apb,aoF,.func (PySem.W.fnOf "is_of" "is_of" (aH rY) (aG rY) (au rY) .none ahH ai2 agv akd aeo ajD),anI⟩)
  (c22:PySem.W.codeIn K aeo "is_of" = true)
  (k22:PySem.W.keepIn K (.ref f22)=true)
  (a23:PySem.W.nsIn K mainGlobals "is_number" = some (some (.ref f23)))
  (l23:K.lookup f23=some ⟨apa,aoE,.func (PySem.W.fnOf "is_number" "is_number" (aH iz) (aG iz) (au iz) .none ahG ai1 agu akc aen ajC),anH⟩)
  (c23:PySem.W.codeIn K aen "is_number" = true)
  (k23:PySem.W.keepIn K (.ref f23)=true)
  (a24:PySem.W.findIn K (.ref cP) "whole" = some (some (.ref f24)))
  (i24:PySem.W.isFn K (.ref f24)=true)
  (l24:K.lookup f24=some ⟨ao_,aoD,.func (PySem.W.fnOf "whole" "Reader.whole" (aH dH) (aG dH) (au dH) .none ahF ai0 agt akb aem ajB),anG⟩)
  (c24:PySem.W.codeIn K aem "Reader.whole" = true)
  (k24:PySem.W.keepIn K (.ref f24)=true)
  (a25:PySem.W.findIn K (.ref cP) "from_nought" = some (some (.ref f25)))
  (i25:PySem.W.isFn K (.ref f25)=true)
  (l25:K.lookup f25=some ⟨ao9,aoC,.func (PySem.W.fnOf "from_nought" "Reader.from_nought" (aH bB) (aG bB) (au bB) .none ahE aiZ ags aka ael ajA),anF⟩)
  (c25:PySem.W.codeIn K ael "Reader.from_nought" = true)
  (k25:PySem.W.keepIn K (.ref f25)=true)
  (a26:PySem.W.findIn K (.ref cP) "below" = some (some (.ref f26)))
  (i26:PySem.W.isFn K (.ref f26)=true)
  (l26:K.lookup f26=some ⟨ao8,aoB,.func (PySem.W.fnOf "below" "Reader.below" (aH dJ) (aG dJ) (au dJ) .none ahD aiY agr aj_ aek ajz),anE⟩)
  (c26:PySem.W.codeIn K aek "Reader.below" = true)
  (k26:PySem.W.keepIn K (.ref f26)=true)
  (a27:PySem.W.findIn K (.ref cP) "hand" = some (some (.ref f27)))
  (i27:PySem.W.isFn K (.ref f27)=true)
  (l27:K.lookup f27=some ⟨ao7,aoA,.func (PySem.W.fnOf "hand" "Reader.hand" (aH eX) (aG eX) (au eX) .none ahC aiX agq aj9 aej ajy),anC⟩)
  (c27:PySem.W.codeIn K aej "Reader.hand" = true)
  (k27:PySem.W.keepIn K (.ref f27)=true)
  (a28:PySem.W.findIn K (.ref cP) "go_on" = some (some (.ref f28)))
  (i28:PySem.W.isFn K (.ref f28)=true)
  (l28:K.lookup f28=some ⟨ao6,aoz,.func (PySem.W.fnOf "go_on" "Reader.go_on" (aH dI) (aG dI) (au dI) .none ahB aiW agp aj8 aei ajx),anB⟩)
  (c28:PySem.W.codeIn K aei "Reader.go_on" = true)
  (k28:PySem.W.keepIn K (.ref f28)=true)
  (a29:PySem.W.nsIn K mainGlobals "read_head" = some (some (.ref f29)))
  (l29:K.lookup f29=some ⟨ao5,aoy,.func (PySem.W.fnOf "read_head" "read_head" (aH ig) (aG ig) (au ig) .none ahA aiV ago aj7 aeh ajw),anA⟩)
  (c29:PySem.W.codeIn K aeh "read_head" = true)
  (k29:PySem.W.keepIn K (.ref f29)=true)
  (a30:PySem.W.findIn K (.ref cP) "both_sets" = some (some (.ref f30)))
  (i30:PySem.W.isFn K (.ref f30)=true)
  (l30:K.lookup f30=some ⟨ao4,aox,.func (PySem.W.fnOf "both_sets" "Reader.both_sets" (aH bK) (aG bK) (au bK) .none ahz aiU agn aj6 aeg ajv),anz⟩)
  (c30:PySem.W.codeIn K aeg "Reader.both_sets" = true)
  (k30:PySem.W.keepIn K (.ref f30)=true)
  (a31:PySem.W.nsIn K mainGlobals "read_base" = some (some (.ref f31)))
  (l31:K.lookup f31=some ⟨ao3,aow,.func (PySem.W.fnOf "read_base" "read_base" (aH iu) (aG iu) (au iu) .none ahy aiT agm aj5 aef aju),anx⟩)
  (c31:PySem.W.codeIn K aef "read_base" = true)
  (k31:PySem.W.keepIn K (.ref f31)=true)
  (a32:PySem.W.findIn K (.ref cP) "begins" = some (some (.ref f32)))
  (i32:PySem.W.isFn K (.ref f32)=true)
  (l32:K.lookup f32=some ⟨ao2,aov,.func (PySem.W.fnOf "begins" "Reader.begins" (aH cX) (aG cX) (au cX) .none ahx aiS agl aj4 aee ajt),anw⟩)
  (c32:PySem.W.codeIn K aee "Reader.begins" = true)
  (k32:PySem.W.keepIn K (.ref f32)=true)
  (a33:PySem.W.nsIn K mainGlobals "is_name" = some (some (.ref f33)))
  (l33:K.lookup f33=some ⟨ao1,aou,.func (PySem.W.fnOf "is_name" "is_name" (aH lH) (aG lH) (au lH) .none ahw aiR agk aj3 aed ajs),anv⟩)
  (c33:PySem.W.codeIn K aed "is_name" = true)
  (k33:PySem.W.keepIn K (.ref f33)=true)
  (a34:PySem.W.findIn K (.ref cP) "name" = some (some (.ref f34)))
  (i34:PySem.W.isFn K (.ref f34)=true)
  (l34:K.lookup f34=some ⟨ao0,aot,.func (PySem.W.fnOf "name" "Reader.name" (aH eU) (aG eU) (au eU) .none ahv aiQ agj aj2 aec ajr),anu⟩)
  (c34:PySem.W.codeIn K aec "Reader.name" = true)
  (k34:PySem.W.keepIn K (.ref f34)=true)
  (a35:PySem.W.nsIn K mainGlobals "read_values" = some (some (.ref f35)))
  (l35:K.lookup f35=some ⟨aoZ,aos,.func (PySem.W.fnOf "read_values" "read_values" (aH eF) (aG eF) (au eF) .none ahu aiP agi aj1 aeb ajq),ant⟩)
  (c35:PySem.W.codeIn K aeb "read_values" = true)
  (k35:PySem.W.keepIn K (.ref f35)=true)
  (a36:PySem.W.nsIn K mainGlobals "read_answers" = some (some (.ref f36)))
  (l36:K.lookup f36=some ⟨aoY,aor,.func (PySem.W.fnOf "read_answers" "read_answers" (aH dD) (aG dD) (au dD) .none aht aiO agh aj0 aea ajp),anr⟩)
  (c36:PySem.W.codeIn K aea "read_answers" = true)
  (k36:PySem.W.keepIn K (.ref f36)=true)
  (a37:PySem.W.nsIn K mainGlobals "read_order" = some (some (.ref f37)))
  (l37:K.lookup f37=some ⟨aoX,aoq,.func (PySem.W.fnOf "read_order" "read_order" (aH fU) (aG fU) (au fU) .none ahs aiN agg ajZ ad_ ajo),anq⟩)
  (c37:PySem.W.codeIn K ad_ "read_order" = true)
  (k37:PySem.W.keepIn K (.ref f37)=true)
  (a38:PySem.W.nsIn K mainGlobals "read_what" = some (some (.ref f38)))
  (l38:K.lookup f38=some ⟨aoW,aop,.func (PySem.W.fnOf "read_what" "read_what" (aH ie) (aG ie) (au ie) .none ahr aiM agf ajY ad9 ajn),anp⟩)
  (c38:PySem.W.codeIn K ad9 "read_what" = true)
  (k38:PySem.W.keepIn K (.ref f38)=true)
  (a39:PySem.W.nsIn K mainGlobals "read_entries" = some (some (.ref f39)))
  (l39:K.lookup f39=some ⟨aoV,aoo,.func (PySem.W.fnOf "read_entries" "read_entries" (aH dB) (aG dB) (au dB) .none ahq aiL age ajX ad8 ajm),ano⟩)
  (c39:PySem.W.codeIn K ad8 "read_entries" = true)
  (k39:PySem.W.keepIn K (.ref f39)=true)
  (a40:PySem.W.findIn K (.ref cP) "finish" = some (some (.ref f40)))
  (i40:PySem.W.isFn K (.ref f40)=true)
  (l40:K.lookup f40=some ⟨aoU,aon,.func (PySem.W.fnOf "finish" "Reader.finish" (aH cW) (aG cW) (au cW) .none ahp aiK agd ajW ad7 ajl),anm⟩)
  (c40:PySem.W.codeIn K ad7 "Reader.finish" = true)
  (k40:PySem.W.keepIn K (.ref f40)=true)
  (a41:PySem.W.nsIn K mainGlobals "read_book" = some (some (.ref f41)))
  (l41:K.lookup f41=some ⟨aoT,aom,.func (PySem.W.fnOf "read_book" "read_book" (aH ir) (aG ir) (au ir) .none aho aiJ agc ajV ad6 ajk),anl⟩)
  (c41:PySem.W.codeIn K ad6 "read_book" = true)
  (k41:PySem.W.keepIn K (.ref f41)=true)
  (a42:PySem.W.nsIn K mainGlobals "law" = some (some (.ref f42)))
  (l42:K.lookup f42=some ⟨aoS,aol,.func (PySem.W.fnOf "law" "law" (aH BW) (aG BW) (au BW) .none ahn aiI agb ajU ad5 ajj),ank⟩)
  (c42:PySem.W.codeIn K ad5 "law" = true)
  (k42:PySem.W.keepIn K (.ref f42)=true)
  (Q_:PySem.W.plainGet K q_ Str.empty=true)
  (RK:PySem.W.hasDictIn K q_=true)
  (Q8:PySem.W.plainOver K q_=true)
  (Q4:PySem.W.findIn K (.ref q_) "__setattr__" = some (some (.builtin "object.__setattr__")))
  (yL:PySem.W.makesIn K q_=true)
  (Ry:PySem.W.keepIn K (.ref q_)=true)
  (gb:PySem.W.findIn K (.ref q_) "base" = some none)
  (cL:PySem.W.findIn K (.ref q_) "base_term" = some none)
  (cM:PySem.W.findIn K (.ref q_) "base_roll" = some none)
  (cD:PySem.W.findIn K (.ref q_) "kept" = some none)
  (Ld:PySem.W.plainGet K pR Str.empty=true)
  (Mi:PySem.W.hasDictIn K pR=true)
  (Lb:PySem.W.plainOver K pR=true)
  (KN:PySem.W.findIn K (.ref pR) "__setattr__" = some (some (.builtin "object.__setattr__")))
  (w6:PySem.W.makesIn K pR=true)
  (LQ:PySem.W.keepIn K (.ref pR)=true)
  (iD:PySem.W.findIn K (.ref pR) "term" = some none)
  (eY:PySem.W.findIn K (.ref pR) "vote" = some none)
  (iG:PySem.W.findIn K (.ref pR) "row" = some none)
  (bL:PySem.W.findIn K (.ref pR) "kept" = some none)
  (DK:PySem.W.plainGet K cP Str.empty=true)
  (D_:PySem.W.hasDictIn K cP=true)
  (Dz:PySem.W.plainOver K cP=true)
  (Ds:PySem.W.findIn K (.ref cP) "__setattr__" = some (some (.builtin "object.__setattr__")))
  (sX:PySem.W.makesIn K cP=true)
  (DX:PySem.W.keepIn K (.ref cP)=true)
  (dM:PySem.W.findIn K (.ref cP) "rows" = some none)
  (bN:PySem.W.findIn K (.ref cP) "here" = some none)
  (Bq:PySem.W.nsIn K mainGlobals "FIGURES" = some (some (.str "0123456789" Ko)))
  (I_:PySem.W.nsIn K mainGlobals "HANDS" = some (some (.int 60 UT)))
  (Bp:PySem.W.nsIn K mainGlobals "LETTERS" = some (some (.str "abcdefghijklmnopqrstuvwxyz" Km)))
  (rF:PySem.W.nsIn K mainGlobals "MOST_FIGURES" = some (some (.int 100 zG)))
  (rE:PySem.W.nsIn K mainGlobals "MOST_LETTERS" = some (some (.int 8 zF)))
  (uL:PySem.W.nsIn K mainGlobals "ORDER_WORDS" = some (some (.ref qi)))
  (tL:(qi==sysModules)=false)
  (tY:K.lookup qi=some tQ)
  (sZ:tQ.ExactDict)
  (uH:tQ.data= .dict zu Ip)
  (tO:PyProof.Rows.KTD.Rows (fun i v=>∃t,v=Value.int i t) zu.toList [("put",3),("add",3),("swap",4)])
  (Wz:PySem.W.nsIn K mainGlobals "all" = some none)
  (QF:PySem.W.nsIn K mainGlobals "bool" = some none)
  (Wy:PySem.W.nsIn K mainGlobals "int" = some none)
  (wO:PySem.W.nsIn K mainGlobals "isinstance" = some none)
  (Wx:PySem.W.nsIn K mainGlobals "len" = some none)
  (QD:PySem.W.nsIn K mainGlobals "list" = some none)
  (Kq:PySem.W.nsIn K mainGlobals "range" = some none)
  (Gu:PySem.W.nsIn K mainGlobals "sorted" = some none)
  (Ww:PySem.W.nsIn K mainGlobals "str" = some none)
  (Kp:PySem.W.nsIn K mainGlobals "tuple" = some none):
  ∃t,Txt K mg t:=
 ⟨{wL:=q_,
   xO:=pR,
   d9:=cP,
   oV:=f0,oZ:=PySem.W.fnOf "_law_stream" "_law_stream" (aH fV) (aG fV) (au fV) .none kV0 dc0 pm0 an0 cd0 ct0,
   l_:=f1,mH:=PySem.W.fnOf "_law_cell_at" "_law_cell_at" (aH eG) (aG eG) (au eG) .none kV1 dc1 pm1 an1 cd1 ct1,
   ug:=f2,uB:=PySem.W.fnOf "_law_roll" "_law_roll" (aH jo) (aG jo) (au jo) .none kV2 dc2 pm2 an2 cd2 ct2,
   uh:=f3,uC:=PySem.W.fnOf "_law_name" "_law_name" (aH jq) (aG jq) (au jq) .none kV3 dc3 pm3 an3 cd3 ct3,
   oW:=f4,o4:=PySem.W.fnOf "_law_number" "_law_number" (aH fW) (aG fW) (au fW) .none kV4 dc4 pm4 an4 cd4 ct4,
   um:=f5,uD:=PySem.W.fnOf "_law_kept" "_law_kept" (aH jr) (aG jr) (au jr) .none kV5 dc5 pm5 an5 cd5 ct5,
   ue:=f6,uz:=PySem.W.fnOf "_law_what" "_law_what" (aH jm) (aG jm) (au jm) .none kV6 dc6 pm6 an6 cd6 ct6,
   ur:=f7,uG:=PySem.W.fnOf "__init__" "Row.__init__" (aH jw) (aG jw) (au jw) .none kV7 dc7 pm7 an7 cd7 ct7,
   uo:=f8,uE:=PySem.W.fnOf "twin" "Row.twin" (aH jt) (aG jt) (au jt) .none kV8 dc8 pm8 an8 cd8 ct8,
   qO:=f9,qY:=PySem.W.fnOf "__init__" "Book.__init__" (aH iB) (aG iB) (au iB) .none kV9 dc9 pm9 an9 cd9 ct9,
   uq:=f10,uF:=PySem.W.fnOf "last" "Row.last" (aH ju) (aG ju) (au ju) .none ahT ajd agH akp aeA ajP,
   wB:=f11,wJ:=PySem.W.fnOf "put" "Row.put" (aH lJ) (aG lJ) (au lJ) .none ahS ajc agG ako aez ajO,
   wz:=f12,wH:=PySem.W.fnOf "_law_row" "_law_row" (aH lG) (aG lG) (au lG) .none ahR ajb agF akn aey ajN,
   uf:=f13,uA:=PySem.W.fnOf "_law_text" "_law_text" (aH jn) (aG jn) (au jn) .none ahQ aja agE akm aex ajM,
   zp:=f14,zx:=PySem.W.fnOf "worded" "worded" (aH oF) (aG oF) (au oF) .none ahP ai_ agD akl aew ajL,
   mj:=f15,mJ:=PySem.W.fnOf "entry_parts" "entry_parts" (aH eN) (aG eN) (au eN) .none ahO ai9 agC akk aev ajK,
   mq:=f16,mK:=PySem.W.fnOf "entries" "Row.entries" (aH eO) (aG eO) (au eO) .none ahN ai8 agB akj aeu ajJ,
   wu:=f17,wG:=PySem.W.fnOf "written" "written" (aH lF) (aG lF) (au lF) .none ahM ai7 agA aki aet ajI,
   qM:=f18,qW:=PySem.W.fnOf "_law_right" "_law_right" (aH iw) (aG iw) (au iw) .none ahL ai6 agz akh aes ajH,
   mD:=f19,mO:=PySem.W.fnOf "__init__" "Reader.__init__" (aH eV) (aG eV) (au eV) .none ahK ai5 agy akg aer ajG,
   j_:=f20,kO:=PySem.W.fnOf "words" "Reader.words" (aH dG) (aG dG) (au dG) .none ahJ ai4 agx akf aeq ajF,
   iH:=f21,iI:=PySem.W.fnOf "words_of" "Reader.words_of" (aH cg) (aG cg) (au cg) .none ahI ai3 agw ake aep ajE,
   CW:=f22,Dc:=PySem.W.fnOf "is_of" "is_of" (aH rY) (aG rY) (au rY) .none ahH ai2 agv akd aeo ajD,
   qN:=f23,qX:=PySem.W.fnOf "is_number" "is_number" (aH iz) (aG iz) (au iz) .none ahG ai1 agu akc aen ajC,
   kh:=f24,kW:=PySem.W.fnOf "whole" "Reader.whole" (aH dH) (aG dH) (au dH) .none ahF ai0 agt akb aem ajB,
   fB:=f25,fC:=PySem.W.fnOf "from_nought" "Reader.from_nought" (aH bB) (aG bB) (au bB) .none ahE aiZ ags aka ael ajA,
   kE:=f26,kZ:=PySem.W.fnOf "below" "Reader.below" (aH dJ) (aG dJ) (au dJ) .none ahD aiY agr aj_ aek ajz,
   mF:=f27,mQ:=PySem.W.fnOf "hand" "Reader.hand" (aH eX) (aG eX) (au eX) .none ahC aiX agq aj9 aej ajy,
   kj:=f28,kY:=PySem.W.fnOf "go_on" "Reader.go_on" (aH dI) (aG dI) (au dI) .none ahB aiW agp aj8 aei ajx,
   qJ:=f29,qR:=PySem.W.fnOf "read_head" "read_head" (aH ig) (aG ig) (au ig) .none ahA aiV ago aj7 aeh ajw,
   gJ:=f30,gK:=PySem.W.fnOf "both_sets" "Reader.both_sets" (aH bK) (aG bK) (au bK) .none ahz aiU agn aj6 aeg ajv,
   qL:=f31,qU:=PySem.W.fnOf "read_base" "read_base" (aH iu) (aG iu) (au iu) .none ahy aiT agm aj5 aef aju,
   jJ:=f32,jL:=PySem.W.fnOf "begins" "Reader.begins" (aH cX) (aG cX) (au cX) .none ahx aiS agl aj4 aee ajt,
   wA:=f33,wI:=PySem.W.fnOf "is_name" "is_name" (aH lH) (aG lH) (au lH) .none ahw aiR agk aj3 aed ajs,
   mz:=f34,mL:=PySem.W.fnOf "name" "Reader.name" (aH eU) (aG eU) (au eU) .none ahv aiQ agj aj2 aec ajr,
   lZ:=f35,mG:=PySem.W.fnOf "read_values" "read_values" (aH eF) (aG eF) (au eF) .none ahu aiP agi aj1 aeb ajq,
   j9:=f36,kJ:=PySem.W.fnOf "read_answers" "read_answers" (aH dD) (aG dD) (au dD) .none aht aiO agh aj0 aea ajp,
   oU:=f37,oY:=PySem.W.fnOf "read_order" "read_order" (aH fU) (aG fU) (au fU) .none ahs aiN agg ajZ ad_ ajo,
   qI:=f38,qQ:=PySem.W.fnOf "read_what" "read_what" (aH ie) (aG ie) (au ie) .none ahr aiM agf ajY ad9 ajn,
   j8:=f39,kI:=PySem.W.fnOf "read_entries" "read_entries" (aH dB) (aG dB) (au dB) .none ahq aiL age ajX ad8 ajm,
   jH:=f40,jK:=PySem.W.fnOf "finish" "Reader.finish" (aH cW) (aG cW) (au cW) .none ahp aiK agd ajW ad7 ajl,
   qK:=f41,qT:=PySem.W.fnOf "read_book" "read_book" (aH ir) (aG ir) (au ir) .none aho aiJ agc ajV ad6 ajk,
   J7:=f42,Ff:=PySem.W.fnOf "law" "law" (aH BW) (aG BW) (au BW) .none ahn aiI agb ajU ad5 ajj,
   J5:=Ko,
   Ui:=UT,
   J4:=Km,
   yW:=zG,
   yV:=zF,
   vG:=qi},
  {lY:=aJ l0 c0 k0,
   fZ:=(aJ l0 c0 k0:bx K _ _ fV .none _ _).binds (ps:=["_law_cell","_law_size"]) fun _ _ _ _ _ _ us hl=>match us,hl with | [_,_],_=>rfl,
   pW:=PySem.W.mg_of X G a0,
   fu:=aJ l1 c1 k1,
   cI:=(aJ l1 c1 k1:bx K _ _ eG .none _ _).binds (ps:=["_law_script","_law_k"]) fun _ _ _ _ _ _ us hl=>match us,hl with | [_,_],_=>rfl,
   gF:=PySem.W.mg_of X G a1,
   vg:=aJ l2 c2 k2,
   lu:=(aJ l2 c2 k2:bx K _ _ jo .none _ _).binds (ps:=["_law_number_here","_law_cell"]) fun _ _ _ _ _ _ us hl=>match us,hl with | [_,_],_=>rfl,
   yN:=PySem.W.mg_of X G a2,
   qH:=aJ l3 c3 k3,
   jD:=(aJ l3 c3 k3:bx K _ _ jq .none _ _).binds (ps:=["_law_number_here"]) fun _ _ _ _ _ _ us hl=>match us,hl with | [_],_=>rfl,
   uY:=PySem.W.mg_of X G a3,
   cV:=aJ l4 c4 k4,
   bM:=(aJ l4 c4 k4:bx K _ _ fW .none _ _).binds (ps:=["_law_number_here","_law_cell"]) fun _ _ _ _ _ _ us hl=>match us,hl with | [_,_],_=>rfl,
   dw:=PySem.W.mg_of X G a4,
   zb:=aJ l5 c5 k5,
   nG:=(aJ l5 c5 k5:bx K _ _ jr .none _ _).binds (ps:=["_law_xs","_law_cell"]) fun _ _ _ _ _ _ us hl=>match us,hl with | [_,_],_=>rfl,
   Ew:=PySem.W.mg_of X G a5,
   yZ:=aJ l6 c6 k6,
   jC:=(aJ l6 c6 k6:bx K _ _ jm .none _ _).binds (ps:=["_law_cell"]) fun _ _ _ _ _ _ us hl=>match us,hl with | [_],_=>rfl,
   Et:=PySem.W.mg_of X G a6,
   Fe:=aJ l7 c7 k7,
   jE:=(aJ l7 c7 k7:bx K _ _ jw .none _ _).binds (ps:=["self","base","base_term","base_roll","entries"]) fun _ _ _ _ _ _ us hl=>match us,hl with | [_,_,_,_,_],_=>rfl,
   yL:=⟨yL,a7,i7,Ry⟩,
   Fb:=aJ l8 c8 k8,
   nH:=(aJ l8 c8 k8:bx K _ _ jt .none _ _).binds (ps:=["self"]) fun _ _ _ _ _ _ us hl=>match us,hl with | [_],_=>rfl,
   Ex:=⟨a8,i8,k8⟩,
   CK:=aJ l9 c9 k9,
   jk:=(aJ l9 c9 k9:bx K _ _ iB .none _ _).binds (ps:=["self","term","vote","row","kept"]) fun _ _ _ _ _ _ us hl=>match us,hl with | [_,_,_,_,_],_=>rfl,
   w6:=⟨w6,a9,i9,LQ⟩,
   Fd:=aJ l10 c10 k10,
   nJ:=(aJ l10 c10 k10:bx K _ _ ju .none _ _).binds (ps:=["self"]) fun _ _ _ _ _ _ us hl=>match us,hl with | [_],_=>rfl,
   Ey:=⟨a10,i10,k10⟩,
   Im:=aJ l11 c11 k11,
   nY:=(aJ l11 c11 k11:bx K _ _ lJ .none _ _).binds (ps:=["self","entry"]) fun _ _ _ _ _ _ us hl=>match us,hl with | [_,_],_=>rfl,
   Bb:=⟨a11,i11,k11⟩,
   iV:=aJ l12 c12 k12,
   fK:=(aJ l12 c12 k12:bx K _ _ lG .none _ _).binds (ps:=["_law_words"]) fun _ _ _ _ _ _ us hl=>match us,hl with | [_],_=>rfl,
   jx:=PySem.W.mg_of X G a12,
   y_:=aJ l13 c13 k13,
   nF:=(aJ l13 c13 k13:bx K _ _ jn .none _ _).binds (ps:=["_law_head","_law_base","_law_kept_here","_law_entries"]) fun _ _ _ _ _ _ us hl=>match us,hl with | [_,_,_,_],_=>rfl,
   Eu:=PySem.W.mg_of X G a13,
   nU:=aJ l14 c14 k14,
   jM:=(aJ l14 c14 k14:bx K _ _ oF .none _ _).binds (ps:=["parts"]) fun _ _ _ _ _ _ us hl=>match us,hl with | [_],_=>rfl,
   pI:=PySem.W.mg_of X G a14,
   t_:=aJ l15 c15 k15,
   iY:=(aJ l15 c15 k15:bx K _ _ eN .none _ _).binds (ps:=["entry"]) fun _ _ _ _ _ _ us hl=>match us,hl with | [_],_=>rfl,
   yO:=PySem.W.mg_of X G a15,
   zc:=aJ l16 c16 k16,
   gk:=(aJ l16 c16 k16:bx K _ _ eO .none _ _).binds (ps:=["self"]) fun _ _ _ _ _ _ us hl=>match us,hl with | [_],_=>rfl,
   tR:=⟨a16,i16,k16⟩,
   xF:=aJ l17 c17 k17,
   nW:=(aJ l17 c17 k17:bx K _ _ lF .none _ _).binds (ps:=["book"]) fun _ _ _ _ _ _ us hl=>match us,hl with | [_],_=>rfl,
   Ba:=PySem.W.mg_of X G a17,
   oO:=aJ l18 c18 k18,
   iK:=(aJ l18 c18 k18:bx K _ _ iw .none _ _).binds (ps:=["_law_book","_law_head","_law_base","_law_kept_here","_law_entries"]) fun _ _ _ _ _ _ us hl=>match us,hl with | [_,_,_,_,_],_=>rfl,
   rZ:=PySem.W.mg_of X G a18,
   zj:=aJ l19 c19 k19,
   iZ:=(aJ l19 c19 k19:bx K _ _ eV .none _ _).binds (ps:=["self","text"]) fun _ _ _ _ _ _ us hl=>match us,hl with | [_,_],_=>rfl,
   sX:=⟨sX,a19,i19,DX⟩,
   ye:=aJ l20 c20 k20,
   dR:=(aJ l20 c20 k20:bx K _ _ dG .none _ _).binds (ps:=["self"]) fun _ _ _ _ _ _ us hl=>match us,hl with | [_],_=>rfl,
   m5:=⟨a20,i20,k20⟩,
   uc:=aJ l21 c21 k21,
   bC:=(aJ l21 c21 k21:bx K _ _ cg .none _ _).binds (ps:=["self","first","count"]) fun _ _ _ _ _ _ us hl=>match us,hl with | [_,_,_],_=>rfl,
   d_:=⟨a21,i21,k21⟩,
   CJ:=aJ l22 c22 k22,
   qg:=(aJ l22 c22 k22:bx K _ _ rY .none _ _).binds (ps:=["word","signs","most"]) fun _ _ _ _ _ _ us hl=>match us,hl with | [_,_,_],_=>rfl,
   HQ:=PySem.W.mg_of X G a22,
   xK:=aJ l23 c23 k23,
   lz:=(aJ l23 c23 k23:bx K _ _ iz .none _ _).binds (ps:=["word"]) fun _ _ _ _ _ _ us hl=>match us,hl with | [_],_=>rfl,
   Cu:=PySem.W.mg_of X G a23,
   yf:=aJ l24 c24 k24,
   bF:=(aJ l24 c24 k24:bx K _ _ dH .none _ _).binds (ps:=["self","word"]) fun _ _ _ _ _ _ us hl=>match us,hl with | [_,_],_=>rfl,
   dX:=⟨a24,i24,k24⟩,
   pq:=aJ l25 c25 k25,
   a_:=(aJ l25 c25 k25:bx K _ _ bB .none _ _).binds (ps:=["self","word"]) fun _ _ _ _ _ _ us hl=>match us,hl with | [_,_],_=>rfl,
   cT:=⟨a25,i25,k25⟩,
   yh:=aJ l26 c26 k26,
   dU:=(aJ l26 c26 k26:bx K _ _ dJ .none _ _).binds (ps:=["self","word","bound"]) fun _ _ _ _ _ _ us hl=>match us,hl with | [_,_,_],_=>rfl,
   m6:=⟨a26,i26,k26⟩,
   zm:=aJ l27 c27 k27,
   i_:=(aJ l27 c27 k27:bx K _ _ eX .none _ _).binds (ps:=["self","word"]) fun _ _ _ _ _ _ us hl=>match us,hl with | [_,_],_=>rfl,
   yQ:=⟨a27,i27,k27⟩,
   yg:=aJ l28 c28 k28,
   cG:=(aJ l28 c28 k28:bx K _ _ dI .none _ _).binds (ps:=["self"]) fun _ _ _ _ _ _ us hl=>match us,hl with | [_],_=>rfl,
   gY:=⟨a28,i28,k28⟩,
   xH:=aJ l29 c29 k29,
   k_:=(aJ l29 c29 k29:bx K _ _ ig .none _ _).binds (ps:=["reader"]) fun _ _ _ _ _ _ us hl=>match us,hl with | [_],_=>rfl,
   Cq:=PySem.W.mg_of X G a29,
   rN:=aJ l30 c30 k30,
   cH:=(aJ l30 c30 k30:bx K _ _ bK .none _ _).binds (ps:=["self","one","two"]) fun _ _ _ _ _ _ us hl=>match us,hl with | [_,_,_],_=>rfl,
   lN:=⟨a30,i30,k30⟩,
   xJ:=aJ l31 c31 k31,
   lg:=(aJ l31 c31 k31:bx K _ _ iu .none _ _).binds (ps:=["reader"]) fun _ _ _ _ _ _ us hl=>match us,hl with | [_],_=>rfl,
   Cr:=PySem.W.mg_of X G a31,
   wk:=aJ l32 c32 k32,
   cZ:=(aJ l32 c32 k32:bx K _ _ cX .none _ _).binds (ps:=["self","word"]) fun _ _ _ _ _ _ us hl=>match us,hl with | [_,_],_=>rfl,
   lK:=⟨a32,i32,k32⟩,
   Bf:=aJ l33 c33 k33,
   pQ:=(aJ l33 c33 k33:bx K _ _ lH .none _ _).binds (ps:=["word"]) fun _ _ _ _ _ _ us hl=>match us,hl with | [_],_=>rfl,
   HR:=PySem.W.mg_of X G a33,
   zf:=aJ l34 c34 k34,
   gm:=(aJ l34 c34 k34:bx K _ _ eU .none _ _).binds (ps:=["self","word"]) fun _ _ _ _ _ _ us hl=>match us,hl with | [_,_],_=>rfl,
   tU:=⟨a34,i34,k34⟩,
   t7:=aJ l35 c35 k35,
   iW:=(aJ l35 c35 k35:bx K _ _ eF .none _ _).binds (ps:=["reader"]) fun _ _ _ _ _ _ us hl=>match us,hl with | [_],_=>rfl,
   yM:=PySem.W.mg_of X G a35,
   rD:=aJ l36 c36 k36,
   gO:=(aJ l36 c36 k36:bx K _ _ dD .none _ _).binds (ps:=["reader"]) fun _ _ _ _ _ _ us hl=>match us,hl with | [_],_=>rfl,
   xW:=PySem.W.mg_of X G a36,
   vH:=aJ l37 c37 k37,
   jB:=(aJ l37 c37 k37:bx K _ _ fU .none _ _).binds (ps:=["reader","words"]) fun _ _ _ _ _ _ us hl=>match us,hl with | [_,_],_=>rfl,
   Ag:=PySem.W.mg_of X G a37,
   xG:=aJ l38 c38 k38,
   iJ:=(aJ l38 c38 k38:bx K _ _ ie .none _ _).binds (ps:=["reader","words"]) fun _ _ _ _ _ _ us hl=>match us,hl with | [_,_],_=>rfl,
   Cp:=PySem.W.mg_of X G a38,
   rC:=aJ l39 c39 k39,
   gM:=(aJ l39 c39 k39:bx K _ _ dB .none _ _).binds (ps:=["reader"]) fun _ _ _ _ _ _ us hl=>match us,hl with | [_],_=>rfl,
   xV:=PySem.W.mg_of X G a39,
   wj:=aJ l40 c40 k40,
   fO:=(aJ l40 c40 k40:bx K _ _ cW .none _ _).binds (ps:=["self"]) fun _ _ _ _ _ _ us hl=>match us,hl with | [_],_=>rfl,
   vU:=⟨a40,i40,k40⟩,
   sJ:=aJ l41 c41 k41,
   jj:=(aJ l41 c41 k41:bx K _ _ ir .none _ _).binds (ps:=["text"]) fun _ _ _ _ _ _ us hl=>match us,hl with | [_],_=>rfl,
   xg:=PySem.W.mg_of X G a41,
   RN:=aJ l42 c42 k42,
   Kf:=(aJ l42 c42 k42:bx K _ _ BW .none _ _).binds (ps:=["_law_script"]) fun _ _ _ _ _ _ us hl=>match us,hl with | [_],_=>rfl,
   Yb:=PySem.W.mg_of X G a42,
   dm:=⟨Q_,RK,Q8,Q4⟩,
   Lr:=PySem.W.mg_of X G R_,
   gb:=gb,
   cL:=cL,
   cM:=cM,
   cD:=cD,
   dN:=⟨Ld,Mi,Lb,KN⟩,
   Ls:=PySem.W.mg_of X G MP,
   iD:=iD,
   eY:=eY,
   iG:=iG,
   bL:=bL,
   aM:=⟨DK,D_,Dz,Ds⟩,
   JW:=PySem.W.mg_of X G Ei,
   dM:=dM,
   bN:=bN,
   HW:=PySem.W.mg_of X G Bq,
   Cv:=PySem.W.mg_of X G I_,
   HS:=PySem.W.mg_of X G Bp,
   xY:=PySem.W.mg_of X G rF,
   xX:=PySem.W.mg_of X G rE,
   yP:=PySem.W.mg_of X G uL,
   yC:=⟨tL,_,_,_,tY,sZ,uH,tO⟩,
   abv:=PySem.W.mg_none_of X G Wz,
   Ye:=PySem.W.mg_none_of X G QF,
   abu:=PySem.W.mg_none_of X G Wy,
   su:=PySem.W.mg_none_of X G wO,
   tV:=PySem.W.mg_none_of X G Wx,
   HY:=PySem.W.mg_none_of X G QD,
   Gh:=PySem.W.mg_none_of X G Kq,
   HX:=PySem.W.mg_none_of X G Gu,
   T5:=PySem.W.mg_none_of X G Ww,
   uZ:=PySem.W.mg_none_of X G Kp}⟩
end My
open PySem PySem.W PyProof.Rows
def PySem.W.Fast.tw13278728785247800768 : Nat := 0
def PySem.W.Fast.tw8680880579657512544 : Nat := 0
def PySem.W.Fast.tw7623831405044323041 : Nat := 0
def PySem.W.Fast.tw15821970669987339144 : Nat := 0
def PySem.W.Fast.tw11713478434496019305 : Nat := 0
def PySem.W.Fast.tw12536460526674313898 : Nat := 0
def PySem.W.Fast.tw9109497754360985036 : Nat := 0
def PySem.W.Fast.tw3890168720154176364 : Nat := 0
def PySem.W.Fast.tw9484347300887421293 : Nat := 0
def PySem.W.Fast.tw7226961087840816142 : Nat := 0
def PySem.W.Fast.tw14727270558682070447 : Nat := 0
def PySem.W.Fast.tw14930024764779675279 : Nat := 0
def PySem.W.Fast.tw15033301524485309040 : Nat := 0
def PySem.W.Fast.tw11466000398181369170 : Nat := 0
def PySem.W.Fast.tw1476024204804259252 : Nat := 0
def PySem.W.Fast.tw14942988149628387157 : Nat := 0
def PySem.W.Fast.tw6183122900418758615 : Nat := 0
def PySem.W.Fast.tw8696881654726729017 : Nat := 0
def PySem.W.Fast.tw10183655263617536314 : Nat := 0
def PySem.W.Fast.tw8794300540908136282 : Nat := 0
def PySem.W.Fast.tw10246439635153863739 : Nat := 0
def PySem.W.Fast.tw13133569195684566141 : Nat := 0
def PySem.W.Fast.tw6068886139359290525 : Nat := 0
def PySem.W.Fast.tw11376267610130058910 : Nat := 0
def PySem.W.Fast.tw16962343763474308260 : Nat := 0
def PySem.W.Fast.tw4966581445572973560 : Nat := 0
def PySem.W.Fast.tw2716412947496301690 : Nat := 0
def PySem.W.Fast.tw144433797220001866 : Nat := 0
def PySem.W.Fast.tw1408015815861471030 : Nat := 0
def PySem.W.Fast.tw2449910039369266654 : Nat := 0
def PySem.W.Fast.tw5272128290782790114 : Nat := 0
def PySem.W.Fast.tw14482411557553347807 : Nat := 0
def PySem.W.Fast.tw6185206968372495665 : Nat := 0
def PySem.W.Fast.tw13522369474121796670 : Nat := 0
def PySem.W.Fast.tw12191654933754165291 : Nat := 0
def PySem.W.Fast.tw11795352834413754014 : Nat := 0
def PySem.W.Fast.tw11766733686434244661 : Nat := 0
def PySem.W.Fast.tw12232516930100195999 : Nat := 0
def PySem.W.Fast.tw5073121633162582221 : Nat := 0
def PySem.W.Fast.tw2471341216127843810 : Nat := 0
def PySem.W.Fast.tw6690227819086590064 : Nat := 0
def PySem.W.Fast.tw5517443718619520900 : Nat := 0
def PySem.W.Fast.tw17109173279556028324 : Nat := 0
def PySem.W.Fast.tw12961850069865564611 : Nat := 0
def PySem.W.Fast.tw4469478295500509476 : Nat := 0
def PySem.W.Fast.tw42398771323089286 : Nat := 0
def PySem.W.Fast.tw4387688026452966041 : Nat := 0
def PySem.W.Fast.tw14441647398484162073 : Nat := 0
def PySem.W.Fast.tw13849194107309176925 : Nat := 0
def PySem.W.Fast.tw9476535763101036616 : Nat := 0
def PySem.W.Fast.tw13219942623357882061 : Nat := 0
def PySem.W.Fast.tw8928144427499676570 : Nat := 0
def PySem.W.Fast.tw16010026668376014529 : Nat := 0
def PySem.W.Fast.tw4339252315580906385 : Nat := 0
def PySem.W.Fast.tw6518857066501967196 : Nat := 0
def PySem.W.Fast.tw14667120116075439473 : Nat := 0
def PySem.W.Fast.tw5392998790919266456 : Nat := 0
def PySem.W.Fast.tw14103952592960136588 : Nat := 0
def PySem.W.Fast.tw6301550113355605631 : Nat := 0
def PySem.W.Fast.tw4797771401440997521 : Nat := 0
def PySem.W.Fast.tw7619451744499710308 : Nat := 0
def PySem.W.Fast.tw12283129309709389993 : Nat := 0
def PySem.W.Fast.tw8702031632127584031 : Nat := 0
def PySem.W.Fast.tw16971509435913135622 : Nat := 0
def PySem.W.Fast.tw1852031071461234043 : Nat := 0
def PySem.W.Fast.tw17447499528398094725 : Nat := 0
def PySem.W.Fast.tw10815817745233957737 : Nat := 0
def PySem.W.Fast.tw1645432770065977326 : Nat := 0
def PySem.W.Fast.tw8236989925015105525 : Nat := 0
def PySem.W.Fast.tw2911825034197404266 : Nat := 0
def PySem.W.Fast.tw11451138970379356457 : Nat := 0
def PySem.W.Fast.tw16598568682608551866 : Nat := 0
def PySem.W.Fast.tw13298396847298012374 : Nat := 0
def PySem.W.Fast.tw15342318185152797748 : Nat := 0
def PySem.W.Fast.tw17880792504613674172 : Nat := 0
def PySem.W.Fast.tw4593123005260051101 : Nat := 0
def PySem.W.Fast.tw17553758809691136991 : Nat := 0
def PySem.W.Fast.tw1780701702241423131 : Nat := 0
def PySem.W.Fast.tw10291217970509399255 : Nat := 0
def PySem.W.Fast.tw16128084922035285976 : Nat := 0
def PySem.W.Fast.tw17917211210809621134 : Nat := 0
def PySem.W.Fast.tw9938508242275500893 : Nat := 0
def PySem.W.Fast.tw16099948945096211750 : Nat := 0
def PySem.W.Fast.tw5461772774253044086 : Nat := 0
def PySem.W.Fast.tw4120969895675795710 : Nat := 0
def PySem.W.Fast.tw10364752895800922403 : Nat := 0
def PySem.W.Fast.tw8670465026600922215 : Nat := 0
def PySem.W.Fast.tw2568844261694605502 : Nat := 0
def PySem.W.Fast.tw6091578119500062930 : Nat := 0
def PySem.W.Fast.tw4039373501303980058 : Nat := 0
def PySem.W.Fast.tw3762466606401159652 : Nat := 0
def PySem.W.Fast.tw18119322282106030267 : Nat := 0
def PySem.W.Fast.tw16100749733621636657 : Nat := 0
def PySem.W.Fast.tw2820727374243023210 : Nat := 0
def PySem.W.Fast.tw2235158092595344578 : Nat := 0
def PySem.W.Fast.tw6989730331845740762 : Nat := 0
def PySem.W.Fast.tw3155981258459960981 : Nat := 0
def PySem.W.Fast.tw8476304850667616903 : Nat := 0
def PySem.W.Fast.tw17738425410929066252 : Nat := 0
def PySem.W.Fast.tw11441010324005807110 : Nat := 0
def PySem.W.Fast.tw6889949820561966779 : Nat := 0
def PySem.W.Fast.tw13776166433302667713 : Nat := 0
def PySem.W.Fast.tw1160332066800456327 : Nat := 0
def PySem.W.Fast.tw7917481015893501456 : Nat := 0
def PySem.W.Fast.tw18227726630522616234 : Nat := 0
def PySem.W.Fast.tw11065347810605400111 : Nat := 0
def PySem.W.Fast.tw14854302996760090915 : Nat := 0
def PySem.W.Fast.tw3756309280614849379 : Nat := 0
def PySem.W.Fast.tw9526436318480805344 : Nat := 0
def PySem.W.Fast.tw14631628003073289749 : Nat := 0
def PySem.W.Fast.tw4972855410926914152 : Nat := 0
def PySem.W.Fast.tw7898869863865669643 : Nat := 0
def PySem.W.Fast.tw11435530012465109794 : Nat := 0
def PySem.W.Fast.tw4034647406680390103 : Nat := 0
def PySem.W.Fast.tw1457453975700326694 : Nat := 0
def PySem.W.Fast.tw7222061313564139039 : Nat := 0
def PySem.W.Fast.tw808742601704194745 : Nat := 0
def PySem.W.Fast.tw5100381193548950631 : Nat := 0
def PySem.W.Fast.tw11849809144895839647 : Nat := 0
def PySem.W.Fast.tw2119361533603517936 : Nat := 0
def PySem.W.Fast.tw5361981371020810838 : Nat := 0
def PySem.W.Fast.tw6051369472312968503 : Nat := 0
def PySem.W.Fast.tw7118515861143477479 : Nat := 0
def PySem.W.Fast.tw13815550655125168614 : Nat := 0
def PySem.W.Fast.tw5432720724069100014 : Nat := 0
theorem PySem.Challenge.cw_chairvote_k21_a_book_written_and_read_holds : PySem.Challenge.rw_chairvote_k21_a_book_written_and_read.Holds := by
 w_on;o_law;k_head;(case hw=>w_witness2)
 k_fill
 refine S.afq (l:=PySem.Challenge.rw_chairvote_k21_a_book_written_and_read) (x:= "_law_script") (k:=10) rfl rfl ⟨rfl,by decide,by decide⟩ (fun w h Y=>PySem.W.kIn_of Y) ?F
 case F=>
  intro w mg fa h KX G hmg
  have T:∃t,My.Txt (L2.KOf KX) mg t:=by
   dsimp only[L2.KOf]
   refine' My.all_mk KX G ?R_ ?MP ?Ei ?a0 ?l0 ?c0 ?k0 ?a1 ?l1 ?c1 ?k1 ?a2 ?l2 ?c2 ?k2 ?a3 ?l3 ?c3 ?k3 ?a4 ?l4 ?c4 ?k4 ?a5 ?l5 ?c5 ?k5 ?a6 ?l6 ?c6 ?k6 ?a7 ?i7 ?l7 ?c7 ?k7 ?a8 ?i8 ?l8 ?c8 ?k8 ?a9 ?i9 ?l9 ?c9 ?k9 ?a10 ?i10 ?l10 ?c10 ?k10 ?a11 ?i11 ?l11 ?c11 ?k11 ?a12 ?l12 ?c12 ?k12 ?a13 ?l13 ?c13 ?k13 ?a14 ?l14 ?c14 ?k14 ?a15 ?l15 ?c15 ?k15 ?a16 ?i16 ?l16 ?c16 ?k16 ?a17 ?l17 ?c17 ?k17 ?a18 ?l18 ?c18 ?k18 ?a19 ?i19 ?l19 ?c19 ?k19 ?a20 ?i20 ?l20 ?c20 ?k20 ?a21 ?i21 ?l21 ?c21 ?k21 ?a22 ?l22 ?c22 ?k22 ?a23 ?l23 ?c23 ?k23 ?a24 ?i24 ?l24 ?c24 ?k24 ?a25 ?i25 ?l25 ?c25 ?k25 ?a26 ?i26 ?l26 ?c26 ?k26 ?a27 ?i27 ?l27 ?c27 ?k27 ?a28 ?i28 ?l28 ?c28 ?k28 ?a29 ?l29 ?c29 ?k29 ?a30 ?i30 ?l30 ?c30 ?k30 ?a31 ?l31 ?c31 ?k31 ?a32 ?i32 ?l32 ?c32 ?k32 ?a33 ?l33 ?c33 ?k33 ?a34 ?i34 ?l34 ?c34 ?k34 ?a35 ?l35 ?c35 ?k35 ?a36 ?l36 ?c36 ?k36 ?a37 ?l37 ?c37 ?k37 ?a38 ?l38 ?c38 ?k38 ?a39 ?l39 ?c39 ?k39 ?a40 ?i40 ?l40 ?c40 ?k40 ?a41 ?l41 ?c41 ?k41 ?a42 ?l42 ?c42 ?k42 ?Q_ ?RK ?Q8 ?Q4 ?yL ?Ry ?gb ?cL ?cM ?cD ?Ld ?Mi ?Lb ?KN ?w6 ?LQ ?iD ?eY ?iG ?bL ?DK ?D_ ?Dz ?Ds ?sX ?DX ?dM ?bN ?Bq ?I_ ?Bp ?rF ?rE ?uL ?tL ?tY ?sZ ?uH ?tO ?Wz ?QF ?Wy ?wO ?Wx ?QD ?Kq ?Gu ?Ww ?Kp
   case R_ | MP | Ei | a0 | l0 | c0 | k0 | a1 | l1 | c1 | k1 | a2 | l2 | c2 | k2 | a3 | l3 | c3 | k3 | a4 | l4 | c4 | k4 | a5 | l5 | c5 | k5 | a6 | l6 | c6 | k6 | a7 | i7 | l7 | c7 | k7 | a8 | i8 | l8 | c8 | k8 | a9 | i9 | l9 | c9 | k9 | a10 | i10 | l10 | c10 | k10 | a11 | i11 | l11 | c11 | k11 | a12 | l12 | c12 | k12 | a13 | l13 | c13 | k13 | a14 | l14 | c14 | k14 | a15 | l15 | c15 | k15 | a16 | i16 | l16 | c16 | k16 | a17 | l17 | c17 | k17 | a18 | l18 | c18 | k18 | a19 | i19 | l19 | c19 | k19 | a20 | i20 | l20 | c20 | k20 | a21 | i21 | l21 | c21 | k21 | a22 | l22 | c22 | k22 | a23 | l23 | c23 | k23 | a24 | i24 | l24 | c24 | k24 | a25 | i25 | l25 | c25 | k25 | a26 | i26 | l26 | c26 | k26 | a27 | i27 | l27 | c27 | k27 | a28 | i28 | l28 | c28 | k28 | a29 | l29 | c29 | k29 | a30 | i30 | l30 | c30 | k30 | a31 | l31 | c31 | k31 | a32 | i32 | l32 | c32 | k32 | a33 | l33 | c33 | k33 | a34 | i34 | l34 | c34 | k34 | a35 | l35 | c35 | k35 | a36 | l36 | c36 | k36 | a37 | l37 | c37 | k37 | a38 | l38 | c38 | k38 | a39 | l39 | c39 | k39 | a40 | i40 | l40 | c40 | k40 | a41 | l41 | c41 | k41 | a42 | l42 | c42 | k42 | Q_ | RK | Q8 | Q4 | yL | Ry | gb | cL | cM | cD | Ld | Mi | Lb | KN | w6 | LQ | iD | eY | iG | bL | DK | D_ | Dz | Ds | sX | DX | dM | bN | Bq | I_ | Bp | rF | rE | uL=>k_is
   case tL=>decide
   case tY=>k_is
   case sZ=>exact⟨rfl,rfl,rfl⟩
   case uH=>rfl
   case tO=>exact .cons rfl ⟨_,rfl⟩ (.cons rfl ⟨_,rfl⟩ (.cons rfl ⟨_,rfl⟩ (.nil)))
   case Wz | QF | Wy | wO | Wx | QD | Kq | Gu | Ww | Kp=>k_is
  obtain⟨t,T⟩:=T
  have e0:=hmg.symm.trans T.Yb
  cases e0
  exact⟨t.Ff,fun s u=>My.VJ T s u,fun base _ _=>My.aal T⟩

